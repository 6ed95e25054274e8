import PyProof.Rows.All
import PyProof.DictRoadsH
import Wide.All
import OpenK.AllK
import Wide.FinOn
import Lean
import PyProof.EqAt
import PyProof.EqKinds
import PyProof.TupleCall
import KE.KTryMore
import PyProof.StationsW
import PyProof.ExcBaseAll.ValueError
import PyProof.Rows.CatchOwn
import PyProof.ZipIter
import PyProof.ListNew
import PyProof.Rows.TupAdd
import PyProof.NeKinds
import KE.KUnpack
import KE.KRevSl
import PyProof.FitsBits
import PyProof.RulesAs
import PyProof.NsDelKeeps
import PyProof.ExcArgsOwn
import OpenK.KDescr
import KE.KIsNot
import PyProof.ExcAttrAll.ValueError
import PyProof.StrOps2
import PyProof.EnumFor
import PyProof.EnumMake
import PyProof.DictCompW
import PyProof.ListRange
import PyProof.DictIter
import KE.KSortKey
import PyProof.Rows.SortStr
import KE.KDictLaws
import KE.KIntText
import PyProof.Rows.StrNews
import PySem.Challenge.RW_slashwise_k50_readings_gone_through
open PySem.W (Frag)
set_option Elab.async false
set_option linter.all false
set_option maxRecDepth 100000
set_option maxHeartbeats 4000000
noncomputable section
namespace L2
open PySem PySem.Spec PyProof.Rows
abbrev Key:=Sum Int Str
def z3i:Key->Value->Bool
 |.inl k,v=>Value.isInt k v
 |.inr x,v=>Value.isStrOf x v
def keyH(w:World):Key->Int
 |.inl k=>hashInt k
 |.inr x=>hashStr w x
theorem q1u:∀{k:Key}{v:Value},z3i k v=true->(∃i t,k=Sum.inl i/\v=Value.int i t)\/(∃x t,k=Sum.inr x/\v=Value.str x t)
 |.inl i,v,h=>by
  obtain⟨t,e⟩:=Value.isInt_shape (k:=i) (v:=v) h
  exact .inl ⟨i,t,rfl,e⟩
 |.inr x,v,h=>by
  obtain⟨t,e⟩:=Value.isStrOf_shape (x:=x) (v:=v) h
  exact .inr ⟨x,t,rfl,e⟩
theorem z9c(i:Int)(t:Tok):z3i (.inl i) (.int i t)=true:=by simp[z3i,Value.isInt]
theorem z9b(x:Str)(t:Tok):z3i (.inr x) (.str x t)=true:=by simp[z3i,Value.isStrOf]
theorem x1m(a b:Int):decide ((Sum.inl a:Key)=Sum.inl b)=(a==b):=by
 by_cases e:a=b
 ·subst e;simp
 ·have h:¬(Sum.inl a:Key)=Sum.inl b:=fun q=>e (Sum.inl.inj q)
  rw[decide_eq_false h]
  exact(beq_eq_false_iff_ne.mpr e).symm
theorem x1j(a b:Str):decide ((Sum.inr a:Key)=Sum.inr b)=decide (a=b):=by
 by_cases e:a=b
 ·subst e;simp
 ·have h:¬(Sum.inr a:Key)=Sum.inr b:=fun q=>e (Sum.inr.inj q)
  rw[decide_eq_false h,decide_eq_false e]
theorem x1l(a:Int)(b:Str):decide ((Sum.inl a:Key)=Sum.inr b)=false:=decide_eq_false (fun q=>nomatch q)
theorem x1k(a:Str)(b:Int):decide ((Sum.inr a:Key)=Sum.inl b)=false:=decide_eq_false (fun q=>nomatch q)
def q1s(prog:Program)(w:World):PySem.KeyKind prog w Key where
 is:=z3i
 hash:=keyH w
 inj:=fun v a b ha hb=>by
  rcases q1u ha with⟨i,t,rfl,rfl⟩|⟨x,t,rfl,rfl⟩
  ·rcases q1u hb with⟨j,u,rfl,e⟩|⟨y,u,rfl,e⟩
   ·injection e with e1 _;rw[e1]
   ·exact nomatch e
  ·rcases q1u hb with⟨j,u,rfl,e⟩|⟨y,u,rfl,e⟩
   ·exact nomatch e
   ·injection e with e1 _;rw[e1]
 byValue:=fun k v h=>by
  rcases q1u h with⟨i,t,rfl,rfl⟩|⟨x,t,rfl,rfl⟩<;>rfl
 pyHash:=fun hv h=>by
  rcases q1u hv with⟨i,t,rfl,rfl⟩|⟨x,t,rfl,rfl⟩
  ·exact wpAny_pyHash_int h
  ·exact wpAny_pyHash_str h
 eqBool:=fun hu hv h=>by
  rcases q1u hu with⟨i,t,rfl,rfl⟩|⟨x,t,rfl,rfl⟩
  ·rcases q1u hv with⟨j,u,rfl,rfl⟩|⟨y,u,rfl,rfl⟩
   ·rw[x1m]at h;exact wpAny_eqBool_int h
   ·rw[x1l]at h;exact SeqAt.EqAt.int_str i t y u _ _ _ _ h
  ·rcases q1u hv with⟨j,u,rfl,rfl⟩|⟨y,u,rfl,rfl⟩
   ·rw[x1k]at h;exact SeqAt.EqAt.str_int x t j u _ _ _ _ h
   ·rw[x1j]at h;exact wpAny_eqBool_str h
 «strs»:=fun k x t v h=>by
  rcases q1u h with⟨i,u,rfl,e⟩|⟨y,u,rfl,e⟩
  ·exact nomatch e
  ·injection e with e1 _
   subst e1
   cases v<;>rfl
theorem q7v(prog:Program)(w:World)(i:Int)(t:Tok):(q1s prog w).is (.inl i) (.int i t)=true:=z9c i t
theorem q7u(prog:Program)(w:World)(x:Str)(t:Tok):(q1s prog w).is (.inr x) (.str x t)=true:=z9b x t
inductive V where
 |non|bl (b:Bool)|int (i:Int)|str (x:Str)|byt (b:Array UInt8)|flt (b:UInt64)|ref (a:Addr)|ty (n:String)
 deriving DecidableEq
def RelV:V->Value->Prop
 |.non,u=>u=Value.none
 |.bl b,u=>u=Value.bool b
 |.int i,u=>∃t,u=Value.int i t
 |.str x,u=>∃t,u=Value.str x t
 |.byt b,u=>∃t,u=Value.bytes b t
 |.flt b,u=>∃t,u=Value.float b t
 |.ref a,u=>u=Value.ref a
 |.ty n,u=>u=Value.type n
abbrev Vals:List V->List Value->Prop:=Paired RelV
theorem Vals.length{xs:List V}{us:List Value}(r:Vals xs us):xs.length=us.length:=Paired.length r
theorem Vals.get:∀{xs:List V}{us:List Value}{i:Nat}{x:V},Vals xs us->xs[i]?=some x->∃u,us[i]?=some u/\RelV x u
 |_,_,_,_,.nil,e=>by simp at e
 |_,_,0,_,.cons r _,e=>by simp at e;subst e;exact⟨_,rfl,r⟩
 |_,_,i+1,x,.cons _ t,e=>by
  obtain⟨u,h1,h2⟩:=Vals.get (i:=i) (x:=x) t (by simpa using e)
  exact⟨u,by simpa using h1,h2⟩
theorem Vals.set{x:V}{u:Value}(r:RelV x u):∀{xs:List V}{us:List Value}(i:Nat),Vals xs us->Vals (xs.set i x) (us.set i u)
 |_,_,_,.nil=>.nil
 |_,_,0,.cons _ t=>.cons r t
 |_,_,i+1,.cons q t=>.cons q (Vals.set r i t)
theorem Vals.append:∀{xs ys:List V}{us ws:List Value},Vals xs us->Vals ys ws->Vals (xs++ys) (us++ws)
 |_,_,_,_,.nil,s=>s
 |_,_,_,_,.cons r t,s=>.cons r (Vals.append t s)
theorem Vals.take:∀{xs:List V}{us:List Value}(n:Nat),Vals xs us->Vals (xs.take n) (us.take n)
 |_,_,0,_=>.nil
 |_,_,_+1,.nil=>.nil
 |_,_,n+1,.cons r t=>.cons r (Vals.take n t)
theorem Vals.drop:∀{xs:List V}{us:List Value}(n:Nat),Vals xs us->Vals (xs.drop n) (us.drop n)
 |_,_,0,r=>r
 |_,_,_+1,.nil=>.nil
 |_,_,n+1,.cons _ t=>Vals.drop n t
def RelO:Option V->Option Value->Prop
 |some v,some u=>RelV v u
 |none,none=>True
 |_,_=>False
def KV{κ:Type}:List (κ×V)->List (κ×Value)->Prop:=Paired fun(p:κ×V) (q:κ×Value)=>p.1=q.1/\RelV p.2 q.2
def kV:Key->V
 |.inl i=>.int i
 |.inr x=>.str x
inductive KTr where
 |int (i:Int)|str (x:Str)|tup (xs:List KTr)
instance x5h:DecidableEq KTr:=fun _ _=>Classical.propDecidable _
mutual
def kdep:KTr->Nat
 |.tup xs=>1+z9d xs
 |_=>0
def z9d:List KTr->Nat
 |[]=>0
 |x::xs=>max (kdep x) (z9d xs)
end
theorem q5z:∀{xs:List KTr}{j:Nat}{x:KTr},xs[j]?=some x->kdep x<=z9d xs
 |[],_,_,e=>by simp at e
 |x::xs,0,y,e=>by simp at e;subst e;simp only[z9d];omega
 |x::xs,j+1,y,e=>by simp at e;have:=q5z e;simp only[z9d];omega
theorem q8v(A:Around):A.in1.units=A.units+1:=rfl
theorem q8w{xs:List KTr}{j:Nat}{x:KTr}(e:xs[j]?=some x):xs.getD j (.int 0)=x:=by rw[List.getD_eq_getElem?_getD,e];rfl
mutual
def TrA(h:Heap):KTr->Value->Prop
 |.int i,v=>∃t,v=.int i t
 |.str x,v=>∃t,v=.str x t
 |.tup xs,v=>∃(a:Addr)(its:List Value),v=.ref a/\IsTup h a its.toArray/\TrAs h xs its
def TrAs(h:Heap):List KTr->List Value->Prop
 |[],vs=>vs=[]
 |x::xs,vs=>∃y ys,vs=y::ys/\TrA h x y/\TrAs h xs ys
end
theorem IsTup.same{h:Heap}{a:Addr}{xs ys:List Value}(p:IsTup h a xs.toArray)(q:IsTup h a ys.toArray):xs=ys:=by
 obtain⟨o,e,_,n,d⟩:=p
 obtain⟨o',e',_,n',d'⟩:=q
 obtain rfl:o=o':=Option.some.inj (e.symm.trans e')
 rw[d]at d'
 injection d' with h1 _
 simpa using h1
mutual
theorem TrA.inj{h:Heap}:∀{x y:KTr}{v:Value},TrA h x v->TrA h y v->x=y
 |.int i,y,v,⟨t,e⟩,q=>by
  subst e
  cases y with
  |int j=>obtain⟨t',e⟩:=q;cases e;rfl
  |str z=>obtain⟨t',e⟩:=q;cases e
  |tup ys=>obtain⟨a,its,e,_⟩:=q;cases e
 |.str x,y,v,⟨t,e⟩,q=>by
  subst e
  cases y with
  |int j=>obtain⟨t',e⟩:=q;cases e
  |str z=>obtain⟨t',e⟩:=q;cases e;rfl
  |tup ys=>obtain⟨a,its,e,_⟩:=q;cases e
 |.tup xs,y,v,⟨a,its,e,p,r⟩,q=>by
  subst e
  cases y with
  |int j=>obtain⟨t',e⟩:=q;cases e
  |str z=>obtain⟨t',e⟩:=q;cases e
  |tup ys=>
   obtain⟨b,its2,e,p2,r2⟩:=q
   cases e
   have:=IsTup.same p p2
   subst this
   rw[TrAs.inj r r2]
theorem TrAs.inj{h:Heap}:∀{xs ys:List KTr}{vs:List Value},TrAs h xs vs->TrAs h ys vs->xs=ys
 |[],[],_,_,_=>rfl
 |[],_::_,_,h,⟨_,_,e,_⟩=>by rw[show _=[]from h]at e;cases e
 |_::_,[],_,⟨_,_,e,_⟩,h=>by rw[show _=[]from h]at e;cases e
 |x::xs,y::ys,_,⟨a,b,e,r,t⟩,⟨a',b',e',r',t'⟩=>by
  subst e
  cases e'
  rw[TrA.inj r r',TrAs.inj t t']
end
mutual
theorem TrA.at{h h':Heap}(k:∀a its,IsTup h a its->IsTup h' a its):∀{x:KTr}{v:Value},TrA h x v->TrA h' x v
 |.int i,_,h=>h
 |.str x,_,h=>h
 |.tup xs,_,⟨a,its,e,p,r⟩=>⟨a,its,e,k _ _ p,TrAs.at k r⟩
theorem TrAs.at{h h':Heap}(k:∀a its,IsTup h a its->IsTup h' a its):∀{xs:List KTr}{vs:List Value},TrAs h xs vs->TrAs h' xs vs
 |[],_,h=>h
 |x::xs,_,⟨y,ys,e,r,t⟩=>⟨y,ys,e,TrA.at k r,TrAs.at k t⟩
end
theorem TrAs.length{h:Heap}:∀{xs:List KTr}{vs:List Value},TrAs h xs vs->xs.length=vs.length
 |[],_,h=>by rw[show _=[]from h];rfl
 |_::xs,_,⟨y,ys,e,_,t⟩=>by rw[e,List.length_cons,List.length_cons,TrAs.length t]
theorem TrAs.get{h:Heap}:∀{xs:List KTr}{vs:List Value}{i:Nat}{x:KTr},TrAs h xs vs->xs[i]?=some x->∃y,vs[i]?=some y/\TrA h x y
 |[],_,_,_,_,e=>by simp at e
 |x::xs,_,0,x',⟨y,ys,e,r,t⟩,q=>by
  simp at q;subst q;subst e
  exact⟨y,by simp,r⟩
 |x::xs,_,i+1,x',⟨y,ys,e,r,t⟩,q=>by
  subst e
  obtain⟨z,h1,h2⟩:=TrAs.get (i:=i) t (by simpa using q)
  exact⟨z,by simpa using h1,h2⟩
theorem y8f(xs ys:List KTr):((List.range (min xs.length ys.length)).all (fun j=>decide (xs.getD j (.int 0)=ys.getD j (.int 0)))&&xs.length==ys.length)=decide (KTr.tup xs=KTr.tup ys):=by
 rw[Bool.eq_iff_iff]
 simp only[Bool.and_eq_true,List.all_eq_true,List.mem_range,decide_eq_true_eq,beq_iff_eq,KTr.tup.injEq]
 constructor
 ·rintro⟨h,hl⟩
  apply List.ext_getElem hl
  intro n h1 h2
  have:=h n (by omega)
  rw[List.getD_eq_getElem?_getD,List.getD_eq_getElem?_getD,List.getElem?_eq_getElem h1,List.getElem?_eq_getElem h2]at this
  exact this
 ·rintro rfl
  exact⟨fun _ _=>rfl,rfl⟩
theorem x2z{s:Shared}:∀(d:Nat)(A:Around)(x y:KTr)(v u:Value),kdep x<=d->A.units+d<cLine->TrA s.heap x v->TrA s.heap y u->SeqAt.EqAt A s v u (decide (x=y)):=by
 intro d
 induction d with
 |zero=>
  intro A x y v u hd hu rx ry
  cases x with
  |tup xs=>simp[kdep]at hd
  |int a=>
   obtain⟨t,rfl⟩:=rx
   cases y with
   |int b=>obtain⟨t',rfl⟩:=ry;rw[show decide (KTr.int a=KTr.int b)=(a==b) by rw[Bool.eq_iff_iff];simp];exact .int_int a t b t'
   |str b=>obtain⟨t',rfl⟩:=ry;simpa using SeqAt.EqAt.int_str (A:=A) (s:=s) a t b t'
   |tup ys=>obtain⟨b,its,rfl,p,_⟩:=ry;simpa using SeqAt.EqAt.int_tuple (A:=A) (s:=s) a t p (by omega)
  |str a=>
   obtain⟨t,rfl⟩:=rx
   cases y with
   |int b=>obtain⟨t',rfl⟩:=ry;simpa using SeqAt.EqAt.str_int (A:=A) (s:=s) a t b t'
   |str b=>obtain⟨t',rfl⟩:=ry;rw[show decide (KTr.str a=KTr.str b)=(a==b) by rw[Bool.eq_iff_iff];simp];exact .str_str a t b t'
   |tup ys=>obtain⟨b,its,rfl,p,_⟩:=ry;simpa using SeqAt.EqAt.str_tuple (A:=A) (s:=s) a t p (by omega)
 |succ d ih=>
  intro A x y v u hd hu rx ry
  cases x with
  |tup xs=>
   obtain⟨a,its,rfl,p1,r1⟩:=id rx
   cases y with
   |int b=>obtain⟨t',rfl⟩:=ry;simpa using SeqAt.EqAt.tuple_int (A:=A) (s:=s) b t' p1 (by omega)
   |str b=>obtain⟨t',rfl⟩:=ry;simpa using SeqAt.EqAt.tuple_str (A:=A) (s:=s) b t' p1 (by omega)
   |tup ys=>
    obtain⟨b,its2,rfl,p2,r2⟩:=id ry
    by_cases hab:a=b
    ·subst hab
     rw[decide_eq_true (TrA.inj rx ry)]
     exact .same _
    ·refine .of_refs hab ?_
     have e:decide (KTr.tup xs=KTr.tup ys)=((List.range (min its.toArray.size its2.toArray.size)).all (fun j=>decide (xs.getD j (.int 0)=ys.getD j (.int 0)))&&its.toArray.size==its2.toArray.size):=by
      rw[List.size_toArray,List.size_toArray,<-r1.length,<-r2.length,y8f]
     rw[e]
     refine .tuples p1 p2 (by omega) fun j h1 h2=>?_
     have hj1:j<xs.length:=by rw[r1.length];simpa using h1
     have hj2:j<ys.length:=by rw[r2.length];simpa using h2
     have e1:xs[j]?=some xs[j]:=List.getElem?_eq_getElem hj1
     have e2:ys[j]?=some ys[j]:=List.getElem?_eq_getElem hj2
     obtain⟨v1,g1,q1⟩:=r1.get e1
     obtain⟨v2,g2,q2⟩:=r2.get e2
     have l1:j<its.length:=by simpa using h1
     have l2:j<its2.length:=by simpa using h2
     rw[q8w e1,q8w e2]
     rw[List.getElem?_eq_getElem l1]at g1
     rw[List.getElem?_eq_getElem l2]at g2
     cases g1
     cases g2
     have hdd:=q5z e1
     simp only[kdep]at hd
     exact ih A.in1 _ _ _ _ (by omega) (by rw[q8v];omega) (by simpa using q1) (by simpa using q2)
  |int a=>exact ih A _ _ v u (Nat.zero_le _) (by omega) rx ry
  |str a=>exact ih A _ _ v u (Nat.zero_le _) (by omega) rx ry
mutual
def trH(P:Program)(w:World):KTr->Int
 |.int i=>(q1s P w).hash (.inl i)
 |.str x=>(q1s P w).hash (.inr x)
 |.tup xs=>reduceHash (Builtin.Tuple.tupleHashOf (trHs P w xs))
def trHs(P:Program)(w:World):List KTr->List Int
 |[]=>[]
 |x::xs=>trH P w x::trHs P w xs
end
mutual
def trD:KTr->Nat
 |.tup xs=>trDs xs+1
 |_=>1
def trDs:List KTr->Nat
 |[]=>0
 |x::xs=>trD x+trDs xs
end
def HsAt(P:Program)(w:World)(A:Around)(h:Heap)(v:Value)(x:Int)(d:Nat):Prop:=∀(E:Value->Shared->Prop)(s:Shared)(Q:Int->Shared->Prop),s.heap=h->Q x {s with toks:=s.toks+d}->wpAny (model P w) A (pyHash v) Q E s
theorem x1u{P:Program}{w:World}{A:Around}{h:Heap}{a:Addr}{its:List Value}{xs:List KTr}(hu:A.units<cLine)(p:IsTup h a its.toArray)(hl:xs.length=its.length)(hi:∀(j:Nat)(x:KTr)(v:Value),xs[j]?=some x->its[j]?=some v->HsAt P w A.in1 h v (trH P w x) (trD x)) :
  HsAt P w A h (.ref a) (trH P w (.tup xs)) (trD (.tup xs)):=by
 intro E s Q eh hQ
 subst eh
 obtain⟨o,ho,hc,n,hd⟩:=p
 have hT:s.TypeIs (.ref a) "tuple" :=⟨o,ho,hc⟩
 unfold pyHash
 first|unfold pyHashByItsType|skip
 first|refine wpAny_bind (wpAny_cRoomFor_or (.inr hu) ?_)|skip
 refine wpAny_bind (wpAny_specialOf hT F.slot_tuple_hash.lookup ?_)
 show wpAny _ _ (if(some (Value.builtin "tuple.__hash__")==some Value.none)=true then _ else _) Q E s
 rw[if_neg (by rw[beq_builtin_none];exact Bool.false_ne_true)]
 refine wpAny_bind (wpAny_specialOf hT F.slot_tuple_hash.lookup ?_)
 show wpAny _ _ (callSpecialIfBoundUnlessNone? (.ref a) "__hash__" _ >>= _) Q E s
 refine wpAny_bind (wpAny_callSpecialIfBoundUnlessNone?_slot hT F.slot_tuple_hash (wpAny_call_entry F.slot_tuple_hash hT F.entry_tuple_hash ?_ (F.args_tuple_hash_1 _)))
 show wpAny _ _ (Builtin.Tuple.tupleItemsOf (.ref a) >>= _) _ _ s
 refine wpAny_bind (wpAny_tupleItemsOf ho hd ?_)
 refine wpAny_bind ?_
 rw[<-Array.forIn_toList]
 refine wpAny_forIn_list _
  (fun rest (b:Array Int) s'=>∃(done left:List KTr),xs=done++left/\its.drop done.length=rest/\b.toList=trHs P w done/\s'={s with toks:=s.toks+trDs done})
  _ ?_ ?_ _ _ ⟨[],xs,rfl,rfl,rfl,rfl⟩
 ·rintro v rest b s' ⟨done,left,e1,e2,hb,rfl⟩
  have hlt:done.length<its.length:=by
   rcases Nat.lt_or_ge done.length its.length with z|z
   ·exact z
   ·rw[List.drop_eq_nil_of_le z]at e2;cases e2
  rw[List.drop_eq_getElem_cons hlt]at e2
  obtain⟨ev,er⟩:=List.cons.inj e2
  obtain⟨x,left',rfl⟩:∃x l,left=x::l:=by
   cases left with
   |nil=>rw[List.append_nil]at e1;subst e1;omega
   |cons x l=>exact⟨x,l,rfl⟩
  have hx:xs[done.length]?=some x:=by rw[e1,List.getElem?_append_right (Nat.le_refl _),Nat.sub_self];rfl
  have hv:its[done.length]?=some v:=by rw[List.getElem?_eq_getElem hlt,ev]
  have sn:∀(l:List KTr),trHs P w (l++[x])=trHs P w l++[trH P w x]:=fun l=>by
   induction l with
   |nil=>rfl
   |cons a r ih=>simp only[List.cons_append,trHs,ih]
  have sd:∀(l:List KTr),trDs (l++[x])=trDs l+trD x:=fun l=>by
   induction l with
   |nil=>simp[trDs]
   |cons a r ih=>simp only[List.cons_append,trDs,ih];omega
  refine wpAny_bind (hi done.length x v hx hv _ _ _ rfl ?_)
  have fin:∃(done' left'':List KTr),xs=done'++left''/\its.drop done'.length=rest/\(b.push (trH P w x)).toList=trHs P w done'/\({s with toks:=s.toks+trDs done+trD x}:Shared)={s with toks:=s.toks+trDs done' }:=
   ⟨done++[x],left',by rw[e1];simp,by rw[List.length_append,List.length_singleton];exact er,by rw[sn,Array.toList_push,hb],by rw[sd,Nat.add_assoc]⟩
  first
   |exact wpAny_pure fin
   |exact wpAny_bind (wpAny_pure (wpAny_pure fin))
 ·rintro b s' ⟨done,left,e1,e2,hb,rfl⟩
  have hz:left=[]:=by
   have h1:its.length<=done.length:=List.drop_eq_nil_iff.mp e2
   have h2:=congrArg List.length e1
   rw[List.length_append]at h2
   cases left with
   |nil=>rfl
   |cons _ _=>simp at h2;omega
  subst hz
  rw[List.append_nil]at e1
  subst e1
  show wpAny _ _ (retInt (Builtin.Tuple.tupleHashOf b.toList)) _ _ _
  rw[hb]
  refine wpAny_ret_mkInt ?_
  show wpAny _ _ (if(decide (-(2:Int) ^ 63<=Builtin.Tuple.tupleHashOf (trHs P w xs))&&decide (Builtin.Tuple.tupleHashOf (trHs P w xs)<2 ^ 63))=true then _ else _) Q E _
  simp only[trH,trD]at hQ
  unfold reduceHash at hQ
  by_cases hr:(decide (-(2:Int) ^ 63<=Builtin.Tuple.tupleHashOf (trHs P w xs))&&decide (Builtin.Tuple.tupleHashOf (trHs P w xs)<2 ^ 63))=true
  ·rw[if_pos hr]
   rw[if_pos hr]at hQ
   exact wpAny_pure (by simpa[Nat.add_assoc]using hQ)
  ·rw[if_neg hr]
   rw[if_neg hr]at hQ
   exact wpAny_bind (wpAny_rule (wpAny_pure (by simpa[Nat.add_assoc]using hQ)))
theorem y5h{P:Program}{w:World}{h:Heap}:∀(d:Nat)(A:Around)(x:KTr)(v:Value),kdep x<=d->A.units+d<cLine->TrA h x v->HsAt P w A h v (trH P w x) (trD x):=by
 intro d
 have atom:∀(A:Around)(k:Key)(v:Value),(q1s P w).is k v=true->HsAt P w A h v ((q1s P w).hash k) 1:=fun A k v hk E s Q eh hQ=>(q1s P w).pyHash hk hQ
 induction d with
 |zero=>
  intro A x v hd hu r
  cases x with
  |tup xs=>simp[kdep]at hd
  |int a=>obtain⟨t,rfl⟩:=r;exact atom A (.inl a) _ (q7v P w a t)
  |str a=>obtain⟨t,rfl⟩:=r;exact atom A (.inr a) _ (q7u P w a t)
 |succ d ih=>
  intro A x v hd hu r
  cases x with
  |tup xs=>
   obtain⟨a,its,rfl,p,q⟩:=r
   refine x1u (by omega) p q.length fun j x v e1 e2=>?_
   obtain⟨v',g,q'⟩:=q.get e1
   rw[e2]at g
   cases g
   have:=q5z e1
   simp only[kdep]at hd
   exact ih A.in1 x v (by omega) (by rw[q8v];omega) q'
  |int a=>exact ih A _ v (Nat.zero_le _) (by omega) r
  |str a=>exact ih A _ v (Nat.zero_le _) (by omega) r
theorem y1b{P:Program}{w:World}{A:Around}{E:Value->Shared->Prop}{s:Shared}:∀(n:Nat)(x:KTr)(v:Value)(Q:Bool->Shared->Prop),kdep x<=n->TrA s.heap x v->Q true s->wpAny (model P w) A (eqIsQuiet n v) Q E s:=by
 intro n
 induction n with
 |zero=>
  intro x v Q hd r hQ
  cases x with
  |tup xs=>simp[kdep]at hd
  |int a=>obtain⟨t,rfl⟩:=r;rw[eqIsQuiet_byValue 0 rfl];exact wpAny_pure hQ
  |str a=>obtain⟨t,rfl⟩:=r;rw[eqIsQuiet_byValue 0 rfl];exact wpAny_pure hQ
 |succ n ih=>
  intro x v Q hd r hQ
  cases x with
  |int a=>obtain⟨t,rfl⟩:=r;rw[eqIsQuiet_byValue _ rfl];exact wpAny_pure hQ
  |str a=>obtain⟨t,rfl⟩:=r;rw[eqIsQuiet_byValue _ rfl];exact wpAny_pure hQ
  |tup xs=>
   obtain⟨a,its,rfl,⟨o,ho,hc,n',hd'⟩,q⟩:=r
   have hT:s.TypeIs (.ref a) "tuple" :=⟨o,ho,hc⟩
   simp only[kdep]at hd
   unfold eqIsQuiet
   refine wpAny_bind (wpAny_specialOf hT F.slot_tuple_eq.lookup ?_)
   show wpAny _ _ (isInstance (.ref a) (.type "tuple") >>= _) _ _ s
   refine wpAny_bind (wpAny_isInstance hT isSubtype_tuple_tuple ?_)
   simp only[Bool.not_true,Bool.false_eq_true,if_false]
   refine wpAny_bind (wpAny_seqItems ho hd' ?_)
   refine wpAny_bind ?_
   show wpAny _ _ (forIn its.toArray _ _) _ _ s
   rw[<-Array.forIn_toList]
   refine wpAny_forIn_list _ (fun rest r s'=>r.1=none/\s'=s/\∀v∈rest,∃y,kdep y<=n/\TrA s.heap y v) _ ?_ ?_ _ _ ⟨rfl,rfl,fun v hv=>?_⟩
   ·rintro v rest r s' ⟨hr,rfl,hall⟩
    obtain⟨y,h1,h2⟩:=hall v List.mem_cons_self
    refine wpAny_bind (ih y v _ h1 h2 ?_)
    simp only[Bool.not_true,Bool.false_eq_true,if_false]
    exact wpAny_pure ⟨rfl,rfl,fun u hu'=>hall u (List.mem_cons_of_mem _ hu')⟩
   ·rintro⟨r1,r2⟩ s' ⟨hr,rfl,_⟩
    simp only at hr
    subst hr
    exact wpAny_pure hQ
   ·obtain⟨j,hj⟩:=List.mem_iff_getElem?.mp hv
    have hjl:j<its.length:=by
     have:=(List.getElem?_eq_some_iff.mp hj).1
     simpa using this
    have hjx:j<xs.length:=by rw[q.length];exact hjl
    obtain⟨v',g,q'⟩:=q.get (List.getElem?_eq_getElem hjx)
    have:v'=v:=by
     have hj':its[j]?=some v:=by simpa using hj
     rw[hj']at g
     exact(Option.some.inj g).symm
    subst this
    have:=q5z (List.getElem?_eq_getElem hjx)
    exact⟨_,by omega,q'⟩
def y1a(P:Program)(w:World):HeapKind P w KTr where
 is:=fun h x a=>(∃xs,x=.tup xs)/\kdep x<=8/\TrA h x (.ref a)
 hash:=trH P w
 draws:=trD
 room:=fun A=>A.units+8<cLine
 inj:=fun hx hy=>TrA.inj hx.2.2 hy.2.2
 keeps:=fun {h h' k a d o es ep} hk ho hd hs=>⟨hk.1,hk.2.1,TrA.at (fun b its ⟨o',e,c,n,q⟩=>⟨o',(hs.2 b (by
  rintro rfl
  obtain rfl:o'=o:=Option.some.inj (e.symm.trans ho)
  rw [hd]at q;exact nomatch q)).trans e,c,n,q⟩) hk.2.2⟩
 pyHash:=fun hu hk h=>y5h 8 _ _ _ hk.2.1 hu hk.2.2 _ _ _ rfl h
 eqBool:=fun {A E s x y a b Q} hu hx hy h=>x2z 8 A x y _ _ hx.2.1 hu hx.2.2 hy.2.2 _ _ _ _ h
 quiet:=fun hk h=>y1b 8 _ _ _ hk.2.1 hk.2.2 h
inductive HO where
 |lst (xs:List V)
 |tup (xs:List V)
 |dK (kvs:List (Key×V))|dT (kvs:List (List Key×V))|dH (c:Nat) (kvs:List (KTr×Addr×V))
 |set (S:Int->Bool) (n:Nat)
 |ins (C dx:Addr) (fs:List (Str×V))
 |own (x:Addr)
 |xd (fs:List (Str×V))
 |met (f x:Addr)
 |rng (lo hi:Int)
 |frz (o:Obj) (u:HO)
 |tbl (ps:Array Value)
 |ext (φ:Heap->Prop)
abbrev Hp:=Addr->Option HO
def upd(H:Hp)(a:Addr)(o:HO):Hp:=fun b=>if b=a then some o else H b
theorem q2d{H:Hp}{a:Addr}{o:HO}:upd H a o a=some o:=by unfold upd;rw[if_pos rfl]
theorem q0w{H:Hp}{a b:Addr}{o:HO}(h:b≠a):upd H a o b=H b:=by unfold upd;rw[if_neg h]
theorem z1j{H:Hp}{a b:Addr}{o u:HO}(h:H a=some o)(h':H b=some u)(d:o≠u):a≠b:=by
 intro e;subst e;rw[h]at h';exact d (Option.some.inj h')
theorem q1y{H:Hp}{a b:Addr}{o:HO}(h:H a=some o)(h':H b=none):a≠b:=by
 intro e;subst e;rw[h]at h';cases h'
section
variable(P:Program)(w:World)
def q2a(H:Hp)(h:Heap)(a:Addr):HO->Prop
 |.lst xs=>xs.length<=sizeLine/\∃(its:List Value)(n:Nat),Vals xs its/\h.get? a=some {cls:=.type "list",data:=.seq its.toArray n}
 |.tup xs=>xs.length<=sizeLine/\∃its:List Value,Vals xs its/\IsTup h a its.toArray
 |.dK kvs=>kvs.length<=sizeLine/\(a==sysModules)=false/\∃vs,KV kvs vs/\h.DictOf (q1s P w) a vs
 |.dT kvs=>kvs.length<=sizeLine/\(a==sysModules)=false/\∃xs:List (List Key×Addr×Value),
   Paired (fun(p:List Key×V) (q:List Key×Addr×Value)=>p.1=q.1/\H q.2.1=some (.tup (p.1.map kV))/\RelV p.2 q.2.2) kvs xs/\
   ∃o es ep,h.get? a=some o/\o.ExactDict/\o.data=.dict es ep/\es.toList=xs.map (entryOfKey (tupleKind (q1s P w)))/\(xs.map (·.1)).Nodup
 |.dH c kvs=>kvs.length<=sizeLine/\(a==sysModules)=false/\∃xs:List (KTr×Addr×Value),
   Paired (fun(p:KTr×Addr×V) (q:KTr×Addr×Value)=>p.1=q.1/\p.2.1=q.2.1/\RelV p.2.2 q.2.2) kvs xs/\
   ∃o es,h.get? a=some o/\o.ExactDict/\o.data=.dict es (c+kvs.length)/\es.toList=xs.map (entryOfKey (y1a P w))/\(xs.map (·.1)).Nodup
 |.set S n=>h.SetOf (intKind P w) a S n
 |.ins C dx fs=>H dx=some (.own a)/\fs.length<=1000/\dx≠a/\h.get? a=some (PySem.W.instObj C dx)/\
   ∃mA,h.Ns1 dx mA/\(∀f,RelO (fs.lookup f) (mA f))/\PySem.Within mA (fs.map (·.1))
 |.own _=>∃o,h.get? a=some o
 |.xd fs=>∃mA,h.Ns1 a mA/\∀f,RelO (fs.lookup f) (mA f)
 |.rng lo hi=>∃t u v,h.get? a=some {cls:=.type "range",data:=.fields #[.int lo t,.int hi u,.int 1 v]}
 |.frz o u=>h.get? a=some o/\q2a H h a u
 |.tbl ps=>h.get? a=some {cls:=.none,data:=.fields ps}
 |.met f x=>h.get? a=some (PySem.W.methodObj (.ref f) (.ref x))
 |.ext φ=>φ h/\(∃o,h.get? a=some o)/\∀h1 h2:Heap,φ h1->(∀o,h1.get? a=some o->h2.get? a=some o)->φ h2
def HOk(H:Hp)(h:Heap):Prop:=∀a o,H a=some o->q2a P w H h a o
end
section
variable{P:Program}{w:World}{H H':Hp}{h h':Heap}{a:Addr}{o:HO}
theorem q2a.lt(x:q2a P w H h a o):a<h.objs.size:=by
 cases o with
 |lst xs=>obtain⟨_,_,_,_,e⟩:=x;exact Heap.lt_size e
 |tup xs=>obtain⟨_,_,_,p⟩:=x;exact p.lt
 |dK kvs=>obtain⟨_,_,_,_,o,_,_,e,_⟩:=x;exact Heap.lt_size e
 |dT kvs=>obtain⟨_,_,_,_,o,_,_,e,_⟩:=x;exact Heap.lt_size e
 |dH c kvs=>obtain⟨_,_,_,_,o,_,e,_⟩:=x;exact Heap.lt_size e
 |set S n=>obtain⟨o,_,_,_,e,_⟩:=x;exact Heap.lt_size e
 |ins C dx fs=>obtain⟨_,_,_,e,_⟩:=x;exact Heap.lt_size e
 |own y=>obtain⟨_,e⟩:=x;exact Heap.lt_size e
 |xd fs=>obtain⟨_,⟨_,_,_,e,_⟩,_⟩:=x;exact Heap.lt_size e
 |rng lo hi=>obtain⟨_,_,_,e⟩:=x;exact Heap.lt_size e
 |frz ob u=>obtain⟨e,_⟩:=x;exact Heap.lt_size e
 |tbl ps=>exact Heap.lt_size (show h.get? a=some _ from x)
 |met f y=>exact Heap.lt_size (show h.get? a=some _ from x)
 |ext φ=>obtain⟨_,⟨_,e⟩,_⟩:=x;exact Heap.lt_size e
theorem Paired.mapP{α β:Type}{F G:α->β->Prop}:∀{l₁:List α}{l₂:List β},Paired F l₁ l₂->(∀a b,F a b->G a b)->Paired G l₁ l₂
 |_,_,.nil,_=>.nil
 |_,_,.cons r t,f=>.cons (f _ _ r) (Paired.mapP t f)
theorem q2a.stay(x:q2a P w H h a o)(k:∀b u,(b=a\/H b=some (.own a))->h.get? b=some u->h'.get? b=some u)
  (ho:∀b,H b=some (.own a)->H' b=some (.own a)) (ht:∀b xs,H b=some (.tup xs)->H' b=some (.tup xs)):q2a P w H' h' a o:=by
 induction o with
 |lst xs=>obtain⟨z,its,n,r,e⟩:=x;exact⟨z,its,n,r,k _ _ (.inl rfl) e⟩
 |tup xs=>obtain⟨z,its,r,ob,e,c⟩:=x;exact⟨z,its,r,ob,k _ _ (.inl rfl) e,c⟩
 |dK kvs=>obtain⟨z,y,vs,r,ob,es,ep,e,c⟩:=x;exact⟨z,y,vs,r,ob,es,ep,k _ _ (.inl rfl) e,c⟩
 |dT kvs=>
  obtain⟨z,y,xs,r,ob,es,ep,e,c⟩:=x
  exact⟨z,y,xs,Paired.mapP r fun p q z=>⟨z.1,ht _ _ z.2.1,z.2.2⟩,ob,es,ep,k _ _ (.inl rfl) e,c⟩
 |dH n kvs=>obtain⟨z,y,xs,r,ob,es,e,c⟩:=x;exact⟨z,y,xs,r,ob,es,k _ _ (.inl rfl) e,c⟩
 |set S n=>obtain⟨ob,es,ep,t,e,c⟩:=x;exact⟨ob,es,ep,t,k _ _ (.inl rfl) e,c⟩
 |ins C dx fs=>
  obtain⟨d,z,ne,e,mA,⟨od,es,ep,e2,c⟩,r⟩:=x
  exact⟨ho _ d,z,ne,k _ _ (.inl rfl) e,mA,⟨od,es,ep,k _ _ (.inr d) e2,c⟩,r⟩
 |own y=>obtain⟨ob,e⟩:=x;exact⟨ob,k _ _ (.inl rfl) e⟩
 |xd fs=>obtain⟨mA,⟨od,es,ep,e,c⟩,r⟩:=x;exact⟨mA,⟨od,es,ep,k _ _ (.inl rfl) e,c⟩,r⟩
 |rng lo hi=>obtain⟨t,u,v,e⟩:=x;exact⟨t,u,v,k _ _ (.inl rfl) e⟩
 |frz ob u ih=>obtain⟨e,q⟩:=x;exact⟨k _ _ (.inl rfl) e,ih q⟩
 |tbl ps=>
  have e:h.get? a=some {cls:=.none,data:=.fields ps}:=x
  show h'.get? a=some {cls:=.none,data:=.fields ps}
  exact k a _ (.inl rfl) e
 |met f y=>
  have e:h.get? a=some (PySem.W.methodObj (.ref f) (.ref y)):=x
  show h'.get? a=some (PySem.W.methodObj (.ref f) (.ref y))
  exact k a _ (.inl rfl) e
 |ext φ=>obtain⟨p,⟨o,e⟩,st⟩:=x;exact⟨st _ _ p fun o q=>k _ _ (.inl rfl) q,⟨o,k _ _ (.inl rfl) e⟩,st⟩
theorem HOk.lt(x:HOk P w H h)(e:H a=some o):a<h.objs.size:=(x a o e).lt
theorem HOk.fresh(x:HOk P w H h)(e:h.objs.size<=a):H a=none:=by
 cases q:H a with
 |none=>rfl
 |some u=>exact absurd (Nat.lt_of_lt_of_le (x.lt q) e) (Nat.lt_irrefl _)
theorem HOk.kept(x:HOk P w H h)(k:∀b u,h.get? b=some u->h'.get? b=some u):HOk P w H h':=fun a o e=>
 (x a o e).stay (fun b u _ q=>k b u q) (fun _ q=>q) fun _ _ q=>q
theorem HOk.laid(x:HOk P w H h)(k:∀b u,h.get? b=some u->h'.get? b=some u)(hp:h.objs.size<=a)(new:q2a P w (upd H a o) h' a o):HOk P w (upd H a o) h':=fun b u e=>by
 have hn:=x.fresh hp
 by_cases hb:b=a
 ·subst hb;rw[q2d]at e;cases e;exact new
 ·rw[q0w hb]at e
  exact(x b u e).stay (fun c v _ q=>k c v q) (fun c q=>by rw[q0w (q1y q hn)];exact q) fun c xs q=>by rw[q0w (q1y q hn)];exact q
end
def Rd(H:Hp)(a:Addr)(u:HO):Prop:=H a=some u\/∃o,H a=some (.frz o u)
theorem Rd.ok{P:Program}{w:World}{H:Hp}{h:Heap}{a:Addr}{u:HO}(r:Rd H a u)(x:HOk P w H h):q2a P w H h a u:=by
 rcases r with r|⟨o,r⟩
 ·exact x a u r
 ·obtain⟨_,q⟩:=x a _ r
  exact q
def Mut:Option HO->Prop
 |some (.lst _)=>True
 |some (.dK _)=>True
 |some (.dT _)=>True
 |some (.dH _ _)=>True
 |some (.set _ _)=>True
 |some (.ins _ _ _)=>True
 |some (.ext _)=>True
 |_=>False
section
variable{P:Program}{w:World}{H:Hp}{h h':Heap}{x e:Addr}{o':HO}
theorem HOk.write(ok:HOk P w H h)(mu:Mut (H x))(he:e=x\/H e=some (.own x))(k:∀b u,b≠e->h.get? b=some u->h'.get? b=some u)(heo:∃u,h'.get? e=some u)
  (new:q2a P w (upd H x o') h' x o'):HOk P w (upd H x o') h':=fun b u q=>by
 have nown:∀c y,H c=some (.own y)->c≠x:=fun c y r z=>by subst z;rw[r]at mu;exact mu
 have ntup:∀c xs,H c=some (.tup xs)->c≠x:=fun c xs r z=>by subst z;rw[r]at mu;exact mu
 by_cases hb:b=x
 ·subst hb;rw[q2d]at q;cases q;exact new
 ·rw[q0w hb]at q
  by_cases hbe:b=e
  ·have q':H b=some (.own x):=by
    rcases he with z|z
    ·exact absurd (hbe.trans z) hb
    ·rw[hbe];exact z
   rw[q]at q';cases q'
   obtain⟨v,hv⟩:=heo
   exact⟨v,by rw[hbe];exact hv⟩
  ·refine(ok b u q).stay (fun c v hc r=>k c v ?_ r) (fun c r=>by rw[q0w (nown c b r)];exact r) fun c xs r=>by rw[q0w (ntup c xs r)];exact r
   rcases hc with rfl|hc
   ·exact hbe
   ·rintro rfl
    rcases he with z|z
    ·exact nown c b hc z
    ·rw[hc]at z;cases z;exact hb rfl
end
structure Un(fs ex:List Addr)(H H':Hp)(h h':Heap):Prop where
 keep:∀b o,h.get? b=some o->H b=none->b∉fs->b∉ex->h'.get? b=some o
 slot:∀b o,h.get? b=some o->H b=none->b∈fs->b∉ex->∃sl,h'.get? b=some {o with slots:=sl}
 free:∀b o,h.get? b=some o->H b=none->b∉ex->H' b=none
 there:∀b o,h.get? b=some o->b∉ex->∃o',h'.get? b=some o'
 tups:∀b xs,H b=some (.tup xs)->H' b=some (.tup xs)
 frzs:∀b o u,H b=some (.frz o u)->H' b=some (.frz o u)
 tbls:∀b ps,H b=some (.tbl ps)->∃more,H' b=some (.tbl (ps++more))
section
variable{fs fs' ex ex':List Addr}{H H1 H2:Hp}{h h1 h2 h':Heap}{a x e:Addr}{o:HO}
theorem Un.any(u:Un fs ex H H1 h h1){b:Addr}{ob:Obj}(q:h.get? b=some ob)(n:H b=none)(hx:b∉ex):∃sl,h1.get? b=some {ob with slots:=sl}:=by
 by_cases hb:b∈fs
 ·exact u.slot b ob q n hb hx
 ·exact⟨ob.slots,u.keep b ob q n hb hx⟩
theorem Un.kept(k:∀b u,h.get? b=some u->h'.get? b=some u):Un fs ex H H h h':=
 ⟨fun b ob q _ _ _=>k b ob q,fun b ob q _ _ _=>⟨ob.slots,k b ob q⟩,fun _ _ _ n _=>n,fun b ob q _=>⟨ob,k b ob q⟩,fun _ _ q=>q,fun _ _ _ q=>q,fun _ ps q=>⟨#[],by rw[q];simp⟩⟩
theorem Un.refl:Un fs ex H H h h:=Un.kept fun _ _ q=>q
theorem Un.laid(k:∀b u,h.get? b=some u->h'.get? b=some u)(hp:h.objs.size<=a)(hn:H a=none):Un fs ex H (upd H a o) h h' where
 keep:=fun b u q _ _ _=>k b u q
 slot:=fun b u q _ _ _=>⟨u.slots,k b u q⟩
 free:=fun b u q n _=>by rw[q0w (Nat.ne_of_lt (Nat.lt_of_lt_of_le (Heap.lt_size q) hp))];exact n
 there:=fun b u q _=>⟨u,k b u q⟩
 tups:=fun b xs q=>by rw[q0w (q1y q hn)];exact q
 frzs:=fun b u xs q=>by rw[q0w (q1y q hn)];exact q
 tbls:=fun b ps q=>⟨#[],by rw[q0w (q1y q hn),q];simp⟩
theorem Un.write(mu:Mut (H x))(he:e=x\/H e=some (.own x))(k:∀b u,b≠e->h.get? b=some u->h'.get? b=some u)(heo:∃u,h'.get? e=some u):Un fs ex H (upd H x o) h h':=by
 have hx:∀b,H b=none->b≠x:=fun b n z=>by subst z;rw[n]at mu;exact mu
 have hb:∀b,H b=none->b≠e:=fun b n z=>by
  subst z
  rcases he with r|r
  ·exact hx b n r
  ·rw[n]at r;cases r
 have hm:∀b u,H b=some u->¬Mut (some u)->b≠x:=fun b u q nm z=>by subst z;rw[q]at mu;exact nm mu
 refine⟨fun b u q n _ _=>k b u (hb b n) q,fun b u q n _ _=>⟨u.slots,k b u (hb b n) q⟩,fun b u q n _=>by rw[q0w (hx b n)];exact n,fun b u q _=>?_,
  fun b xs q=>by rw [q0w (hm b _ q fun z=>z)];exact q,fun b u xs q=>by rw [q0w (hm b _ q fun z=>z)];exact q,fun b ps q=>⟨#[],by rw [q0w (hm b _ q fun z=>z),q];simp⟩⟩
 by_cases hbe:b=e
 ·subst hbe;exact heo
 ·exact⟨u,k b u hbe q⟩
end
def trk(h:Heap)(H:Hp):List Addr:=(List.range h.objs.size).filter fun a=>(H a).isSome
def hidT(h:Heap)(H:Hp):Heap:=PySem.W.hideAll h (trk h H)
theorem z9k(h:Heap)(H:Hp):(hidT h H).objs.size=h.objs.size:=PySem.W.hideAll_size _ _
theorem y2x{h:Heap}{H:Hp}{b:Addr}{o:Obj}(e:h.get? b=some o)(n:H b=none):(hidT h H).get? b=some o:=
 PySem.W.hideAll_get _ e fun hm=>by
  have q:(H b).isSome=true:=(List.mem_filter.mp hm).2
  rw[n]at q;simp at q
theorem y6u{h:Heap}{H:Hp}{b:Addr}{o:Obj}(e:(hidT h H).get? b=some o):h.get? b=some o/\H b=none:=by
 have e':h.get? b=some o:=PySem.W.of_hideAll (trk h H) e
 refine⟨e',?_⟩
 cases q:H b with
 |none=>rfl
 |some x=>
  have hm:b∈trk h H:=List.mem_filter.mpr ⟨List.mem_range.mpr (Heap.lt_size e'),by simp[q]⟩
  have z:(hidT h H).get? b=none:=PySem.W.hideAll_none (trk h H) hm
  rw[z]at e;cases e
structure Mod(K:Frag)(mg:Str->Option Value)(base:Heap):Prop where
 kin:K.In base
 glob:base.Ns mainGlobals mg
 blt:∃mb,base.Ns builtinsNs mb/\∀x:Str,x≠ "__name__" ->mb x=bootBuiltins x
 nolimit:base.NoLimit
/-- the context: a def's body (or a comprehension's block) running. base: fixed through the whole law;s₀,H₀: the entry;outer: the frames whose slots others may change (a def's callers);stack: all frames that run;
   ex: iterators that were made ahead of the entry and are walked here (a comprehension's);fn: the names whose cells were made at the entry (a def: all;a comprehension's block: its own);calm: not within an except suite;pn: pins that every state bears;xe: what is wanted of an exception that leaves the code -/
structure Cx where
 prog:Program
 w:World
 K:Frag
 mg:Str->Option Value
 base:Heap
 A:Around
 N:List Str
 s₀:Shared
 H₀:Hp
 env:Env
 outer:List Env
 stack:List Env
 ex:List Addr
 fn:Str->Bool
 calm:Bool
 pn:List (Addr×Obj)
 xe:Value->Shared->Prop
def frs(l:List Env):List Addr:=l.filterMap (·.frame)
abbrev Cx.fs(X:Cx):List Addr:=frs X.outer
def Vis(sc:Scope)(x:Str):Prop:=sc.names.lookup x=some .local\/sc.names.lookup x=some .cell\/sc.names.lookup x=some .free
def Loc(sc:Scope)(x:Str):Prop:=sc.names.lookup x=some .local\/sc.names.lookup x=some .cell
def Look(env:Env)(h:Heap)(m:Str->Option Value)(x:Str)(u:Value):Prop:=
 (env.kindOf x=some .local/\m x=some u)\/((env.kindOf x=some .cell\/env.kindOf x=some .free)/\∃c,env.cells.lookup x=some c/\h.IsCell c (some u))
structure Cx.Ok(X:Cx):Prop where
 mod:Mod X.K X.mg X.base
 kind:X.env.scope.kind=.function
 glob:X.env.globals=mainGlobals
 blt:X.env.builtins=builtinsNs
 above:X.s₀.heap.objs.size<=X.env.locals
 inj:∀x y c,X.env.cells.lookup x=some c->X.env.cells.lookup y=some c->x=y
 has:∀x,(X.env.kindOf x=some .cell\/X.env.kindOf x=some .free)->∃c,X.env.cells.lookup x=some c
 cab:∀x c,X.fn x=true->X.env.cells.lookup x=some c->X.s₀.heap.objs.size<=c
 hd:X.calm=true->X.A.handled=none
 frames:X.A.frames=some X.stack
 stk:X.stack=X.outer\/(X.stack=X.env::X.outer/\X.env.frame=some X.env.locals)
 exf:∀b∈X.ex,b≠X.env.locals/\∀x c,X.env.cells.lookup x=some c->c≠b
 bs:∀b o,X.base.get? b=some o->X.s₀.heap.get? b=some o/\X.H₀ b=none
 bsz:X.base.objs.size<=X.s₀.heap.objs.size
 noex:∀b o,X.base.get? b=some o->b∉X.ex
 exfs:∀b∈X.ex,b∉X.fs
 funs:X.s₀.heap.FunFrames X.base X.outer
 frf:∀b∈X.fs,X.H₀ b=none
structure Inv(X:Cx)(pins:List (Addr×Obj))(σ:List (Option V))(H:Hp)(s:Shared):Prop where
 ok:X.Ok
 os:s.os=X.s₀.os
 bare:AllBare s.gens
 base:Un X.fs X.ex X.H₀ H X.s₀.heap s.heap
 loc:∃m,s.heap.Ns X.env.locals m/\∀(i:Nat)(x:Str)(v:V),X.N[i]?=some x->σ[i]?=some (some v)->Vis X.env.scope x->∃u,RelV v u/\Look X.env s.heap m x u
 cell:∀x c,X.env.cells.lookup x=some c->∃v,s.heap.IsCell c v
 free:H X.env.locals=none
 freeC:∀x c,X.env.cells.lookup x=some c->H c=none
 pin:∀p∈X.pn++pins,s.heap.get? p.1=some p.2/\H p.1=none/\p.1≠X.env.locals/\p.1∉X.fs/\∀v,p.2.data≠.cell v
 hok:HOk X.prog X.w H s.heap
 len:σ.length=X.N.length
section
variable{X:Cx}{pins:List (Addr×Obj)}{σ:List (Option V)}{H H':Hp}{s:Shared}{h':Heap}
theorem Cx.Ok.nofr(ok:X.Ok){b:Addr}{o:Obj}(e:X.base.get? b=some o):b∉X.fs:=fun hb=>by
 have:=(ok.funs.mem hb).1
 rw[e]at this;cases this
theorem Inv.bs(I:Inv X pins σ H s):∀b o,X.base.get? b=some o->s.heap.get? b=some o/\H b=none:=fun b o e=>
 ⟨I.base.keep b o (I.ok.bs b o e).1 (I.ok.bs b o e).2 (I.ok.nofr e) (I.ok.noex b o e),I.base.free b o (I.ok.bs b o e).1 (I.ok.bs b o e).2 (I.ok.noex b o e)⟩
theorem Inv.bk(I:Inv X pins σ H s):∀b o,X.base.get? b=some o->s.heap.get? b=some o:=fun b o e=>(I.bs b o e).1
theorem Inv.mod(I:Inv X pins σ H s):Mod X.K X.mg X.base:=I.ok.mod
theorem Inv.kIn(I:Inv X pins σ H s):X.K.In s.heap:=I.ok.mod.kin.keeps I.bk
theorem Inv.lt(I:Inv X pins σ H s):X.env.locals<s.heap.objs.size:=let ⟨_,hn,_⟩:=I.loc;hn.lt
theorem Inv.sz(I:Inv X pins σ H s):X.s₀.heap.objs.size<=s.heap.objs.size:=Nat.le_trans I.ok.above (Nat.le_of_lt I.lt)
theorem Inv.nofs(I:Inv X pins σ H s){a:Addr}(h:s.heap.objs.size<=a):a∉X.fs:=fun hb=>by
 obtain⟨_,o,ho,_⟩:=I.ok.funs.mem hb
 exact absurd (Nat.lt_of_lt_of_le (Heap.lt_size ho) (Nat.le_trans I.sz h)) (Nat.lt_irrefl _)
theorem Inv.cne(I:Inv X pins σ H s):∀x c,X.env.cells.lookup x=some c->c≠X.env.locals:=fun x c e z=>by
 obtain⟨v,o,ho,hd⟩:=I.cell x c e
 obtain⟨m,⟨o',es,ep,ho',hd',_⟩,_⟩:=I.loc
 rw[z,ho']at ho;cases ho;rw[hd']at hd;cases hd
theorem Inv.funs(I:Inv X pins σ H s):s.heap.FunFrames X.base X.outer:=by
 have all:∀(l:List Env),(∀b∈frs l,b∈X.fs)->X.s₀.heap.FunFrames X.base l->s.heap.FunFrames X.base l:=by
  intro l
  induction l with
  |nil=>intro _ _;trivial
  |cons env r ih=>
   intro hs hl
   obtain⟨hk,⟨L,o,hf,hn,ho,hd⟩,hr⟩:=hl
   have hL:L∈X.fs:=hs L (by unfold frs;rw[List.filterMap_cons,hf];exact List.mem_cons_self)
   obtain⟨sl,e⟩:=I.base.slot L o ho (I.ok.frf L hL) hL fun z=>I.ok.exfs L z hL
   exact⟨hk,⟨L,_,hf,hn,e,hd⟩,ih (fun b hb=>hs b (by unfold frs;rw[List.filterMap_cons,hf];exact List.mem_cons_of_mem _ hb)) hr⟩
 exact all X.outer (fun _ hb=>hb) I.ok.funs
theorem Inv.stack(I:Inv X pins σ H s):s.heap.FunFrames X.base X.stack:=by
 rcases I.ok.stk with e|⟨e,hf⟩
 ·rw[e];exact I.funs
 ·rw[e]
  obtain⟨m,hn,_⟩:=I.loc
  refine .cons (by rw[I.ok.kind];decide) hf hn ?_ I.funs
  exact Heap.get?_none_of_le (Nat.le_trans I.ok.bsz I.ok.above)
theorem Inv.stkSub(I:Inv X pins σ H s):∀b∈frs X.stack,b∈X.env.locals::X.fs:=fun b hb=>by
 rcases I.ok.stk with e|⟨e,hf⟩
 ·rw[e]at hb;exact List.mem_cons_of_mem _ hb
 ·rw[e]at hb
  unfold frs at hb
  rw[List.filterMap_cons,hf]at hb
  exact hb
theorem Inv.stkFree(I:Inv X pins σ H s):∀b∈frs X.stack,H b=none:=fun b hb=>by
 rcases List.mem_cons.mp (I.stkSub b hb)with e|hb
 ·rw[e];exact I.free
 ·obtain⟨_,o,ho,_⟩:=I.ok.funs.mem hb
  exact I.base.free b o ho (I.ok.frf b hb) fun z=>I.ok.exfs b z hb
theorem Inv.step{g':Array GenState}{t':Nat}{d':Drawn}{ch:List Addr}(I:Inv X pins σ H s)
  (hch:∀b∈ch,(b∈X.ex\/X.s₀.heap.objs.size<=b)/\b≠X.env.locals/\(∀x c,X.env.cells.lookup x=some c->c≠b)/\∀p∈X.pn++pins,p.1≠b)
  (keep:∀b o,b≠X.env.locals->b∉X.fs->b∉ch->s.heap.get? b=some o->H b=none->h'.get? b=some o)
  (slot:∀b o,b≠X.env.locals->b∈X.fs->b∉ch->s.heap.get? b=some o->H b=none->∃sl,h'.get? b=some {o with slots:=sl}) (free:∀b o,b∉ch->s.heap.get? b=some o->H b=none->H' b=none)
  (there:∀b o,b∉ch->s.heap.get? b=some o->∃o',h'.get? b=some o')
  (tups:∀b xs,H b=some (.tup xs)->H' b=some (.tup xs)) (frzs:∀b o u,H b=some (.frz o u)->H' b=some (.frz o u)) (tbls:∀b ps,H b=some (.tbl ps)->∃more,H' b=some (.tbl (ps++more)))
  (ns:∀m,s.heap.Ns X.env.locals m->h'.Ns X.env.locals m) (hok:HOk X.prog X.w H' h') (hg:AllBare g') :
  Inv X pins σ H' {s with heap:=h',gens:=g',drawn:=d',toks:=t' }:=by
 have neL:∀b o,X.s₀.heap.get? b=some o->b≠X.env.locals:=fun b o e=>Nat.ne_of_lt (Nat.lt_of_lt_of_le (Heap.lt_size e) I.ok.above)
 have neC:∀b o,X.s₀.heap.get? b=some o->b∉X.ex->b∉ch:=fun b o e hx hb=>by
  rcases(hch b hb).1 with z|z
  ·exact hx z
  ·exact absurd (Nat.lt_of_lt_of_le (Heap.lt_size e) z) (Nat.lt_irrefl _)
 have cellK:∀x c,X.env.cells.lookup x=some c->∀v,s.heap.IsCell c v->h'.IsCell c v:=fun x c e v hh1=>by
  obtain⟨o,ho,hd⟩:=hh1
  have nch:c∉ch:=fun z=>(hch c z).2.2.1 x c e rfl
  by_cases hc:c∈X.fs
  ·obtain⟨sl,q⟩:=slot c o (I.cne x c e) hc nch ho (I.freeC x c e)
   exact⟨_,q,hd⟩
  ·exact⟨o,keep c o (I.cne x c e) hc nch ho (I.freeC x c e),hd⟩
 refine⟨I.ok,I.os,hg,⟨fun b o e n hb hx=>?_,fun b o e n hb hx=>?_,fun b o e n hx=>?_,fun b o e hx=>?_,fun b xs e=>tups b xs (I.base.tups b xs e),fun b o xs e=>frzs b o xs (I.base.frzs b o xs e),fun b ps e=>?_⟩,?_,fun x c e=>?_,?_,fun x c e=>?_,fun p hp=>?_,hok,I.len⟩
 ·exact keep b o (neL b o e) hb (neC b o e hx) (I.base.keep b o e n hb hx) (I.base.free b o e n hx)
 ·obtain⟨sl,e1⟩:=I.base.slot b o e n hb hx
  obtain⟨sl',e2⟩:=slot b _ (neL b o e) hb (neC b o e hx) e1 (I.base.free b o e n hx)
  exact⟨sl',e2⟩
 ·obtain⟨o',e1⟩:=I.base.there b o e hx
  exact free b o' (neC b o e hx) e1 (I.base.free b o e n hx)
 ·obtain⟨o',e1⟩:=I.base.there b o e hx
  exact there b o' (neC b o e hx) e1
 ·obtain⟨m1,e1⟩:=I.base.tbls b ps e
  obtain⟨m2,e2⟩:=tbls b _ e1
  exact⟨m1++m2,by rw[e2,Array.append_assoc]⟩
 ·obtain⟨m,hn,hl⟩:=I.loc
  refine⟨m,ns m hn,fun i x v e1 e2 e3=>?_⟩
  obtain⟨u,r,l⟩:=hl i x v e1 e2 e3
  refine⟨u,r,?_⟩
  rcases l with l|⟨k,c,e,z⟩
  ·exact .inl l
  ·exact .inr ⟨k,c,e,cellK x c e _ z⟩
 ·obtain⟨v,z⟩:=I.cell x c e
  exact⟨v,cellK x c e v z⟩
 ·obtain⟨m,⟨o,_,_,ho,_⟩,_⟩:=I.loc
  exact free _ o (fun z=>(hch _ z).2.1 rfl) ho I.free
 ·obtain⟨v,o,ho,hd⟩:=I.cell x c e
  exact free c o (fun z=>(hch c z).2.2.1 x c e rfl) ho (I.freeC x c e)
 ·obtain⟨e,n,ne,nf,d⟩:=I.pin p hp
  have nch:p.1∉ch:=fun z=>(hch p.1 z).2.2.2 p hp rfl
  exact⟨keep p.1 p.2 ne nf nch e n,free p.1 p.2 nch e n,ne,nf,d⟩
theorem Inv.un{t':Nat}(I:Inv X pins σ H s)(u:Un X.fs [] H H' s.heap h')(hok:HOk X.prog X.w H' h'):Inv X pins σ H' {s with heap:=h',toks:=t' }:=by
 obtain⟨m,⟨o,es,ep,ho,r⟩,_⟩:=id I.loc
 obtain⟨sl,hL⟩:=u.any ho I.free (by simp)
 exact I.step (g':=s.gens) (d':=s.drawn) (ch:=[]) (fun _ z=>nomatch z) (fun b o _ hb _ e n=>u.keep b o e n hb (by simp)) (fun b o _ hb _ e n=>u.slot b o e n hb (by simp)) (fun b o _ e n=>u.free b o e n (by simp)) (fun b o _ e=>u.there b o e (by simp)) u.tups u.frzs u.tbls (fun m' hm=>by
  obtain ⟨o',es',ep',ho',r'⟩:=hm
  rw [ho]at ho';cases ho'
  exact ⟨_,es',ep',hL,r'⟩) hok I.bare
theorem Inv.call{g':Array GenState}{t':Nat}{d':Drawn}{ch:List Addr}(I:Inv X pins σ H s)(u:Un (frs X.stack) ch H H' s.heap h')(hok:HOk X.prog X.w H' h')(hg:AllBare g')
  (hch:∀b∈ch,(b∈X.ex\/X.s₀.heap.objs.size<=b)/\b≠X.env.locals/\(∀x c,X.env.cells.lookup x=some c->c≠b)/\∀p∈X.pn++pins,p.1≠b) :
  Inv X pins σ H' {s with heap:=h',gens:=g',drawn:=d',toks:=t' }:=by
 obtain⟨m,⟨o,es,ep,ho,r⟩,_⟩:=id I.loc
 obtain⟨sl,hL⟩:=u.any ho I.free fun z=>(hch _ z).2.1 rfl
 exact I.step (ch:=ch) hch (fun b o hL hb hc e n=>u.keep b o e n (fun z=>(List.mem_cons.mp (I.stkSub b z)).elim hL hb) hc) (fun b o _ _ hc e n=>u.any e n hc) (fun b o hc e n=>u.free b o e n hc) (fun b o hc e=>u.there b o e hc) u.tups u.frzs u.tbls (fun m' hm=>by
  obtain ⟨o',es',ep',ho',r'⟩:=hm
  rw [ho]at ho';cases ho'
  exact ⟨_,es',ep',hL,r'⟩) hok hg
theorem Inv.turned{t':Nat}{it:Addr}(I:Inv X pins σ H s)(k:∀b o,b≠it->s.heap.get? b=some o->h'.get? b=some o)(hn:H it=none)(hL:it≠X.env.locals)
  (h1:it∈X.ex\/X.s₀.heap.objs.size<=it) (h2:∀x c,X.env.cells.lookup x=some c->c≠it) (h3:∀p∈X.pn++pins,p.1≠it):Inv X pins σ H {s with heap:=h',toks:=t' }:=by
 have nit:∀b u,H b=some u->b≠it:=fun b u e z=>by rw[z,hn]at e;cases e
 refine I.step (g':=s.gens) (d':=s.drawn) (ch:=[it]) (fun b hb=>?_) (fun b o _ _ hc e _=>k b o (fun z=>hc (by simp[z])) e) (fun b o _ _ hc e _=>⟨o.slots,k b o (fun z=>hc (by simp[z])) e⟩) (fun _ _ _ _ n=>n)
  (fun b o hc e=>⟨o,k b o (fun z=>hc (by simp[z])) e⟩) (fun _ _ e=>e) (fun _ _ _ e=>e) (fun b ps e=>⟨#[],by rw[e];simp⟩) (fun m hm=>?_) (fun b u e=>?_) I.bare
 ·have e:b=it:=by simpa using hb
  subst e
  exact⟨h1,hL,h2,h3⟩
 ·obtain⟨o,es,ep,ho,r⟩:=hm
  exact⟨o,es,ep,k _ o (Ne.symm hL) ho,r⟩
 ·refine(I.hok b u e).stay (fun c v hc q=>k c v ?_ q) (fun _ q=>q) fun _ _ q=>q
  rcases hc with z|z
  ·rw[z];exact nit b u e
  ·exact nit c _ z
theorem Inv.tok(I:Inv X pins σ H s)(t:Nat):Inv X pins σ H {s with toks:=t}:=I.un (h':=s.heap) (t':=t) Un.refl I.hok
theorem Inv.kept{t':Nat}(I:Inv X pins σ H s)(k:∀b u,s.heap.get? b=some u->h'.get? b=some u):Inv X pins σ H {s with heap:=h',toks:=t' }:=I.un (Un.kept k) (I.hok.kept k)
theorem Inv.laid{a:Addr}{o:HO}{t':Nat}(I:Inv X pins σ H s)(k:∀b u,s.heap.get? b=some u->h'.get? b=some u)(hp:s.heap.objs.size<=a)(new:q2a X.prog X.w (upd H a o) h' a o) :
  Inv X pins σ (upd H a o) {s with heap:=h',toks:=t' }:=I.un (Un.laid k hp (I.hok.fresh hp)) (I.hok.laid k hp new)
theorem Inv.write{x e:Addr}{o:HO}{t':Nat}(I:Inv X pins σ H s)(mu:Mut (H x))(he:e=x\/H e=some (.own x))(k:∀b u,b≠e->s.heap.get? b=some u->h'.get? b=some u)(heo:∃u,h'.get? e=some u)
  (new:q2a X.prog X.w (upd H x o) h' x o):Inv X pins σ (upd H x o) {s with heap:=h',toks:=t' }:=I.un (Un.write mu he k heo) (I.hok.write mu he k heo new)
theorem Inv.pins_of{pins':List (Addr×Obj)}(I:Inv X pins σ H s)(h:∀p∈pins',s.heap.get? p.1=some p.2/\H p.1=none/\p.1≠X.env.locals/\p.1∉X.fs/\∀v,p.2.data≠.cell v):Inv X pins' σ H s:=
 ⟨I.ok,I.os,I.bare,I.base,I.loc,I.cell,I.free,I.freeC,fun p hp=>(List.mem_append.mp hp).elim (fun z=>I.pin p (List.mem_append_left _ z)) (h p),I.hok,I.len⟩
theorem q9v{N:List Str}(hN:N.Nodup){i j:Nat}{x:Str}(a:N[i]?=some x)(b:N[j]?=some x):i=j:=by
 obtain⟨h1,e1⟩:=List.getElem?_eq_some_iff.mp a
 obtain⟨h2,e2⟩:=List.getElem?_eq_some_iff.mp b
 exact(List.getElem_inj hN).mp (e1.trans e2.symm)
theorem z0v{M:Model}{A:Around}{E:Value->Shared->Prop}{i:Nat}{x:Str}{v:V}{u:Value}{Q:Unit->Shared->Prop}(I:Inv X pins σ H s)(hN:X.N.Nodup)(hi:X.N[i]?=some x)(hx:Loc X.env.scope x)(r:RelV v u)
  (h:∀s',Inv X pins (σ.set i (some v)) H s'->(∃a,Heap.SameBut a s.heap s'.heap/\(a=X.env.locals\/X.env.cells.lookup x=some a))->Q () s') (hf:X.fn x=true\/X.env.scope.names.lookup x=some .local:=by first|exact .inl rfl|exact .inr rfl|assumption):wpAny M A (storeName X.env x u) Q E s:=by
 obtain⟨m,hn,hl⟩:=id I.loc
 have hcls:(X.env.scope.kind==.class||(X.env.scope.kind==.module&&X.env.locals != X.env.globals))=false:=by rw[I.ok.kind];rfl
 have hiσ:i<σ.length:=by rw[I.len];exact(List.getElem?_eq_some_iff.mp hi).1
 have cne:=I.cne
 have tracked:∀{a:Addr}{h':Heap},(∃o,s.heap.get? a=some o/\H a=none)->Heap.SameBut a s.heap h'->HOk X.prog X.w H h':=fun {a h'} ha hs b ob e=>by
  obtain⟨_,_,hfree⟩:=ha
  refine(I.hok b ob e).stay (fun c w' hc q=>(hs.2 c ?_).trans q) (fun _ q=>q) fun _ _ q=>q
  rintro rfl
  rcases hc with rfl|hc
  ·rw[hfree]at e;cases e
  ·rw[hfree]at hc;cases hc
 rcases hx with hk|hk
 ·refine wpAny_storeName_local hk hn (fun h' hn' hs=>?_) hcls
  obtain⟨oL,_,_,hoL,_⟩:=id hn
  refine h _ ⟨I.ok,I.os,I.bare,⟨fun b o e n hb hx=>?_,fun b o e n hb hx=>?_,I.base.free,fun b o e hx=>?_,I.base.tups,I.base.frzs,I.base.tbls⟩,⟨_,hn',fun j y v' e1 e2 e3=>?_⟩,fun y c e=>?_,I.free,I.freeC,fun p hp=>?_,tracked ⟨oL,hoL,I.free⟩ hs,by simpa using I.len⟩ ⟨_,hs,.inl rfl⟩
  ·exact(hs.2 b (Nat.ne_of_lt (Nat.lt_of_lt_of_le (Heap.lt_size e) I.ok.above))).trans (I.base.keep b o e n hb hx)
  ·obtain⟨sl,e1⟩:=I.base.slot b o e n hb hx
   exact⟨sl,(hs.2 b (Nat.ne_of_lt (Nat.lt_of_lt_of_le (Heap.lt_size e) I.ok.above))).trans e1⟩
  ·obtain⟨o',e1⟩:=I.base.there b o e hx
   exact⟨o',(hs.2 b (Nat.ne_of_lt (Nat.lt_of_lt_of_le (Heap.lt_size e) I.ok.above))).trans e1⟩
  ·by_cases hj:j=i
   ·subst hj
    rw[hi]at e1;cases e1
    rw[List.getElem?_set_self hiσ]at e2
    cases e2
    exact⟨u,r,.inl ⟨hk,by simp⟩⟩
   ·rw[List.getElem?_set_ne (Ne.symm hj)]at e2
    obtain⟨u',r',q⟩:=hl j y v' e1 e2 e3
    refine⟨u',r',?_⟩
    rcases q with⟨k,e⟩|⟨k,c,e,z⟩
    ·refine .inl ⟨k,?_⟩
     have:y≠x:=fun e=>hj (q9v hN e1 (e▸hi))
     simp[this,e]
    ·exact .inr ⟨k,c,e,z.sameBut hs (cne y c e)⟩
  ·obtain⟨w',z⟩:=I.cell y c e
   exact⟨w',z.sameBut hs (cne y c e)⟩
  ·obtain⟨e,n,ne,nf,d⟩:=I.pin p hp
   exact⟨(hs.2 p.1 ne).trans e,n,ne,nf,d⟩
 ·have hfn:X.fn x=true:=by
   rcases hf with z|z
   ·exact z
   ·rw[z]at hk;cases hk
  obtain⟨c,hc⟩:=I.ok.has x (.inl hk)
  obtain⟨w',z⟩:=I.cell x c hc
  refine wpAny_storeName_cell I.ok.kind hk hc z (fun h' hc' hs=>?_)
  obtain⟨oc,hoc,hocd⟩:=id z
  refine h {s with heap:=h' } ⟨I.ok,I.os,I.bare,⟨fun b o e n hb hx=>?_,fun b o e n hb hx=>?_,I.base.free,fun b o e hx=>?_,I.base.tups,I.base.frzs,I.base.tbls⟩,⟨m,hn.sameBut hs (Ne.symm (cne x c hc)),fun j y v' e1 e2 e3=>?_⟩,fun y c' e=>?_,I.free,I.freeC,fun p hp=>?_,tracked ⟨oc,hoc,I.freeC x c hc⟩ hs,by simpa using I.len⟩ ⟨c,hs,.inr hc⟩
  ·exact(hs.2 b (Nat.ne_of_lt (Nat.lt_of_lt_of_le (Heap.lt_size e) (I.ok.cab x c hfn hc)))).trans (I.base.keep b o e n hb hx)
  ·obtain⟨sl,e1⟩:=I.base.slot b o e n hb hx
   exact⟨sl,(hs.2 b (Nat.ne_of_lt (Nat.lt_of_lt_of_le (Heap.lt_size e) (I.ok.cab x c hfn hc)))).trans e1⟩
  ·obtain⟨o',e1⟩:=I.base.there b o e hx
   exact⟨o',(hs.2 b (Nat.ne_of_lt (Nat.lt_of_lt_of_le (Heap.lt_size e) (I.ok.cab x c hfn hc)))).trans e1⟩
  ·by_cases hj:j=i
   ·subst hj
    rw[hi]at e1;cases e1
    rw[List.getElem?_set_self hiσ]at e2
    cases e2
    exact⟨u,r,.inr ⟨.inl hk,c,hc,hc'⟩⟩
   ·rw[List.getElem?_set_ne (Ne.symm hj)]at e2
    obtain⟨u',r',q⟩:=hl j y v' e1 e2 e3
    refine⟨u',r',?_⟩
    rcases q with q|⟨k,c',e,z'⟩
    ·exact .inl q
    ·refine .inr ⟨k,c',e,z'.sameBut hs ?_⟩
     rintro rfl
     exact hj (q9v hN e1 (I.ok.inj _ _ _ e hc▸hi))
  ·by_cases hcc:c'=c
   ·subst hcc;exact⟨_,hc'⟩
   ·obtain⟨w2,z2⟩:=I.cell y c' e
    exact⟨w2,z2.sameBut hs hcc⟩
  ·obtain⟨e,n,ne,nf,d⟩:=I.pin p hp
   refine⟨(hs.2 p.1 ?_).trans e,n,ne,nf,d⟩
   intro q
   rw[q,hoc]at e
   have q':oc=p.2:=Option.some.inj e
   exact d w' (by rw[<-q'];exact hocd)
theorem q6z{M:Model}{A:Around}{E:Value->Shared->Prop}{i:Nat}{x:Str}{v:V}{u:Value}{Q:Unit->Shared->Prop}(I:Inv X pins σ H s)(hN:X.N.Nodup)(hi:X.N[i]?=some x)(hx:Loc X.env.scope x)(r:RelV v u)
  (h:∀s',Inv X pins (σ.set i (some v)) H s'->Q () s') (hf:X.fn x=true\/X.env.scope.names.lookup x=some .local:=by first|exact .inl rfl|exact .inr rfl|assumption):wpAny M A (storeName X.env x u) Q E s:=
 z0v I hN hi hx r (fun s' I' _=>h s' I') hf
theorem Inv.call'{s':Shared}{ch:List Addr}(I:Inv X pins σ H s)(ho:s'.os=s.os)(u:Un (frs X.stack) ch H H' s.heap s'.heap)(hok:HOk X.prog X.w H' s'.heap)(hg:AllBare s'.gens)
  (hch:∀b∈ch,(b∈X.ex\/X.s₀.heap.objs.size<=b)/\b≠X.env.locals/\(∀x c,X.env.cells.lookup x=some c->c≠b)/\∀p∈X.pn++pins,p.1≠b):Inv X pins σ H' s':=by
 obtain⟨h',g',d',t',o'⟩:=s'
 have e:o'=s.os:=ho
 subst e
 exact I.call (g':=g') (t':=t') (d':=d') u hok hg hch
end
abbrev XK:=Value->Option Addr->Hp->Prop
abbrev St:=List (Option V)
abbrev VK:=V->Hp->Prop
abbrev TE:=St->Hp->VK->Prop
abbrev TT:=St->Hp->(Bool->Hp->Prop)->Prop
abbrev TA:=St->Hp->(List V->Hp->Prop)->Prop
structure Ends where
 nx:St->Hp->Prop
 rt:VK
 bk:St->Hp->Prop:=fun _ _=>False
 ct:St->Hp->Prop:=fun _ _=>False
abbrev TS:=Ends->St->Hp->Prop
def EP(X:Cx)(pins:List (Addr×Obj))(σ:St)(Q:VK)(u:Value)(s':Shared):Prop:=∃v H',Inv X pins σ H' s'/\RelV v u/\Q v H'
def TP(X:Cx)(pins:List (Addr×Obj))(σ:St)(Q:Bool->Hp->Prop)(b:Bool)(s':Shared):Prop:=∃H',Inv X pins σ H' s'/\Q b H'
def AP(X:Cx)(pins:List (Addr×Obj))(σ:St)(Q:List V->Hp->Prop)(us:List Value)(s':Shared):Prop:=∃vs H',Inv X pins σ H' s'/\Vals vs us/\Q vs H'
def SP(X:Cx)(pins:List (Addr×Obj))(D:Ends)(f:Flow)(s':Shared):Prop:=
 match f with
 |.next=>∃σ' H',Inv X pins σ' H' s'/\D.nx σ' H'
 |.brk=>∃σ' H',Inv X pins σ' H' s'/\D.bk σ' H'
 |.cont=>∃σ' H',Inv X pins σ' H' s'/\D.ct σ' H'
 |.ret u=>∃v σ' H',Inv X pins σ' H' s'/\RelV v u/\D.rt v H'
def PE(X:Cx)(e:Expr)(t:TE):Prop:=
 ∀(pins:List (Addr×Obj))(s:Shared)(σ:St)(H:Hp)(Q:VK),Inv X pins σ H s->t σ H Q->wpAny (model X.prog X.w) X.A (eval e X.env) (EP X pins σ Q) X.xe s
def PT(X:Cx)(e:Expr)(t:TT):Prop:=
 ∀(pins:List (Addr×Obj))(s:Shared)(σ:St)(H:Hp)(Q:Bool->Hp->Prop),Inv X pins σ H s->t σ H Q->wpAny (model X.prog X.w) X.A (isTrue e X.env (eval e X.env)) (TP X pins σ Q) X.xe s
def PW(X:Cx)(e:Expr)(t:TT):Prop:=
 ∀(whole:Sem Value)(pins:List (Addr×Obj))(s:Shared)(σ:St)(H:Hp)(Q:Bool->Hp->Prop),Inv X pins σ H s->t σ H Q->wpAny (model X.prog X.w) X.A (isTrue e X.env whole) (TP X pins σ Q) X.xe s
def PA(X:Cx)(es:List Expr)(t:TA):Prop:=
 ∀(pos:Pos)(pins:List (Addr×Obj))(s:Shared)(σ:St)(H:Hp)(Q:List V->Hp->Prop),Inv X pins σ H s->t σ H Q->wpAny (model X.prog X.w) X.A (spliced (backTo pos (starEach es X.env))) (AP X pins σ Q) X.xe s
def PS(X:Cx)(st:Stmt)(t:TS):Prop:=
 ∀(pins:List (Addr×Obj))(s:Shared)(σ:St)(H:Hp)(D:Ends),Inv X pins σ H s->t D σ H->wpAny (model X.prog X.w) X.A (exec st X.env) (SP X pins D) X.xe s
def PSs(X:Cx)(st:List Stmt)(t:TS):Prop:=
 ∀(pins:List (Addr×Obj))(s:Shared)(σ:St)(H:Hp)(D:Ends),Inv X pins σ H s->t D σ H->wpAny (model X.prog X.w) X.A (execs st X.env) (SP X pins D) X.xe s
theorem thn{α:Type}{t:Sem α}{Q Q':α->Shared->Prop}{M:Model}{A:Around}{E:Value->Shared->Prop}{s:Shared}(h:wpAny M A t Q E s)(hQ:∀a s,Q a s->Q' a s):wpAny M A t Q' E s:=wpAny_mono h hQ fun _ _ x=>x
section
variable{X:Cx}
def tVar(i:Nat):TE:=fun σ H Q=>∃v,σ[i]?=some (some v)/\Q v H
def tC(v:V):TE:=fun _ H Q=>Q v H
theorem y9t{i:Nat}{x:Str}{pos:Pos}(hN:X.N[i]?=some x)(hv:Vis X.env.scope x)(hd:(x==("__debug__" : Str))=false:=by decide)(hcd:(x==("__classdict__" : Str))=false:=by decide):PE X (.Name x pos) (tVar i):=by
 intro pins s σ H Q I h
 obtain⟨v,e,h⟩:=h
 obtain⟨m,hn,hl⟩:=I.loc
 obtain⟨u,r,l⟩:=hl i x v hN e hv
 have fin:EP X pins σ Q u s:=⟨v,H,I,r,h⟩
 rcases l with⟨hk,hm⟩|⟨hk,c,hc,hcell⟩
 ·exact wpAny_Name (wpAny_loadName_local I.ok.kind hk hn hm fin) hd
 ·rcases hk with hk|hk
  ·exact wpAny_Name (wpAny_loadName_cell I.ok.kind hk hc hcell fin) hd
  ·exact wpAny_Name (wpAny_loadName_free I.ok.kind hk hc hcell fin hcd) hd
theorem y4f {i j pos}:PE X (.Constant (.int i) j pos) (tC (.int i)):=fun _ _ _ H _ I h=>wpAny_Constant_int ⟨.int i,H,I.tok _,⟨_,rfl⟩,h⟩
theorem x3q {b j pos}:PE X (.Constant (.bool b) j pos) (tC (.bl b)):=fun _ _ _ H _ I h=>Constant_bool ⟨.bl b,H,I,rfl,h⟩
theorem y9z {j pos}:PE X (.Constant .none j pos) (tC .non):=fun _ _ _ H _ I h=>Constant_none ⟨.non,H,I,rfl,h⟩
theorem y9w {x j pos}:PE X (.Constant (.str x) j pos) (tC (.str x)):=fun _ _ _ H _ I h=>Calls.Constant_str ⟨.str x,H,I.tok _,⟨_,rfl⟩,h⟩
def Gl(X:Cx)(x:Str):Prop:=X.env.kindOf x=some .globalImplicit
theorem q7y{E:Value->Shared->Prop}{pins:List (Addr×Obj)}{s:Shared}{σ:St}{H:Hp}{x:Str}{u:Value}{pos:Pos}{Q:Value->Shared->Prop}(I:Inv X pins σ H s)(hg:Gl X x)(hm:X.mg x=some u)(h:Q u s)
  (hd:(x==("__debug__" : Str))=false:=by decide):wpAny (model X.prog X.w) X.A (eval (.Name x pos) X.env) Q E s:=
 Calls.Name_function_global I.ok.kind hg (Calls.loadGlobal_global (by rw[I.ok.glob];exact I.mod.glob.keeps I.bk) hm h) hd
theorem q6o{E:Value->Shared->Prop}{pins:List (Addr×Obj)}{s:Shared}{σ:St}{H:Hp}{x:Str}{u:Value}{pos:Pos}{Q:Value->Shared->Prop}(I:Inv X pins σ H s)(hg:Gl X x)(hm:X.mg x=none)(hv:bootBuiltins x=some u)(h:Q u s)
  (hn:x≠ "__name__" :=by decide) (hd:(x==("__debug__" : Str))=false:=by decide):wpAny (model X.prog X.w) X.A (eval (.Name x pos) X.env) Q E s:=by
 obtain⟨mb,h1,h2⟩:=I.mod.blt
 exact Calls.Name_function_global I.ok.kind hg (Calls.loadGlobal_builtin (by rw[I.ok.glob];exact I.mod.glob.keeps I.bk) hm (by rw[I.ok.blt];exact h1.keeps I.bk) ((h2 x hn).trans hv) h) hd
theorem z3b{x:Str}{v:V}{u:Value}{pos:Pos}(hg:Gl X x)(hm:X.mg x=some u)(r:RelV v u)(hd:(x==("__debug__" : Str))=false:=by decide):PE X (.Name x pos) (tC v):=
 fun _ _ _ H _ I h=>q7y I hg hm ⟨v,H,I,r,h⟩ hd
theorem z8a{x:Str}{v:V}{u:Value}{pos:Pos}(hg:Gl X x)(hm:X.mg x=none)(hv:bootBuiltins x=some u)(r:RelV v u)(hn:x≠ "__name__" :=by decide)(hd:(x==("__debug__" : Str))=false:=by decide):PE X (.Name x pos) (tC v):=
 fun _ _ _ H _ I h=>q6o I hg hm hv ⟨v,H,I,r,h⟩ hn hd
variable{a b:Expr}{ta tb:TE}{pos:Pos}
variable{tA tB':TT}{rest:List Expr}
def tAnd(t u:TT):TT:=fun σ H Q=>t σ H fun c H1=>if c=true then u σ H1 Q else Q false H1
def tOr(t u:TT):TT:=fun σ H Q=>t σ H fun c H1=>if c=true then Q true H1 else u σ H1 Q
def tNot(t:TT):TT:=fun σ H Q=>t σ H fun c H1=>Q (!c) H1
theorem y5z(ha:PT X a tA):PW X (.BoolOp .And [a] pos) tA:=by
 intro wh pins s σ H Q I h
 refine isTrue_and (thn (ha pins s σ H Q I h) fun c s1 e=>?_)
 cases c with
 |true=>exact isTrue_and_nil e
 |false=>exact e
theorem y9c(ha:PT X a tA):PW X (.BoolOp .Or [a] pos) tA:=by
 intro wh pins s σ H Q I h
 refine isTrue_or (thn (ha pins s σ H Q I h) fun c s1 e=>?_)
 cases c with
 |false=>exact isTrue_or_nil e
 |true=>exact e
theorem y9d(ha:PT X a tA)(hb:PW X (.BoolOp .And (b::rest) pos) tB'):PW X (.BoolOp .And (a::b::rest) pos) (tAnd tA tB'):=by
 intro wh pins s σ H Q I h
 refine isTrue_and (thn (ha pins s σ H _ I h) fun c s1 hh1=>?_)
 obtain⟨H1,I1,q1⟩:=hh1
 cases c with
 |true=>exact hb wh pins s1 σ H1 Q I1 q1
 |false=>exact⟨H1,I1,q1⟩
theorem x3m(ha:PT X a tA)(hb:PW X (.BoolOp .Or (b::rest) pos) tB'):PW X (.BoolOp .Or (a::b::rest) pos) (tOr tA tB'):=by
 intro wh pins s σ H Q I h
 refine isTrue_or (thn (ha pins s σ H _ I h) fun c s1 hh1=>?_)
 obtain⟨H1,I1,q1⟩:=hh1
 cases c with
 |true=>exact⟨H1,I1,q1⟩
 |false=>exact hb wh pins s1 σ H1 Q I1 q1
theorem y9f(ha:PT X a tA):PT X (.UnaryOp .Not a pos) (tNot tA):=by
 intro pins s σ H Q I h
 exact isTrue_not (ha pins s σ H (fun c H1=>Q (!c) H1) I h)
def x3i(ta tb:TE):TE:=fun σ H Q=>ta σ H fun x H1=>∃c,x=.bl c/\if c=true then tb σ H1 Q else Q (.bl false) H1
def x3c(ta:TE):TE:=fun σ H Q=>ta σ H fun x H1=>∃c,x=.bl c/\Q (.bl (!c)) H1
theorem y9x {op} {t:TE} (h:PE X a t):PE X (.BoolOp op [a] pos) t:=fun pins s σ H Q I hw=>BoolOp_one (h pins s σ H Q I hw)
theorem x0e(ha:PE X a ta)(hb:PE X (.BoolOp .And (b::rest) pos) tb):PE X (.BoolOp .And (a::b::rest) pos) (x3i ta tb):=by
 intro pins s σ H Q I h
 refine BoolOp_and (thn (ha pins s σ H _ I h) fun v s1 hh1=>?_)
 obtain⟨x,H1,I1,r1,q1⟩:=hh1
 obtain⟨c,rfl,q1⟩:=q1
 cases r1
 refine wpAny_truthy_bool ?_
 cases c with
 |true=>exact hb pins s1 σ H1 Q I1 q1
 |false=>exact⟨.bl false,H1,I1,rfl,q1⟩
theorem y9y(ha:PE X a ta):PE X (.UnaryOp .Not a pos) (x3c ta):=by
 intro pins s σ H Q I h
 refine UnaryOp_ (thn (ha pins s σ H _ I h) fun v s1 hh1=>?_)
 obtain⟨x,H1,I1,r1,q1⟩:=hh1
 obtain⟨c,rfl,q1⟩:=q1
 cases r1
 exact not_of (wpAny_truthy_bool ⟨.bl (!c),H1,I1,rfl,q1⟩)
end
def SqL(K:Frag)(H:Hp)(a:Addr)(xs:List V):Prop:=
 Rd H a (.lst xs)\/
  ∃(o:Obj)(its:Array Value)(n:Nat),K.lookup a=some o/\o.cls=.type "list" /\o.dict=none/\o.data=.seq its n/\its.size<=sizeLine/\Vals xs its.toList
def SqT(K:Frag)(H:Hp)(a:Addr)(xs:List V):Prop:=
 Rd H a (.tup xs)\/
  ∃(o:Obj)(its:Array Value)(n:Nat),K.lookup a=some o/\o.cls=.type "tuple" /\o.data=.seq its n/\its.size<=sizeLine/\Vals xs its.toList
def absV:Value->Option V
 |.none=>some .non
 |.bool b=>some (.bl b)
 |.int i _=>some (.int i)
 |.str x _=>some (.str x)
 |.bytes b _=>some (.byt b)
 |.float b _=>some (.flt b)
 |.ref a=>some (.ref a)
 |.type n=>some (.ty n)
 |_=>none
theorem RelV.abs{x:V}{u:Value}(r:RelV x u):absV u=some x:=by
 cases x with
 |non=>cases r;rfl
 |bl _=>cases r;rfl
 |int _=>obtain⟨t,rfl⟩:=r;rfl
 |str _=>obtain⟨t,rfl⟩:=r;rfl
 |byt _=>obtain⟨t,rfl⟩:=r;rfl
 |flt _=>obtain⟨t,rfl⟩:=r;rfl
 |ref _=>cases r;rfl
 |ty _=>cases r;rfl
theorem RelV.inj{x y:V}{u:Value}(r:RelV x u)(q:RelV y u):x=y:=Option.some.inj (r.abs.symm.trans q.abs)
theorem Vals.inj:∀{xs ys:List V}{us:List Value},Vals xs us->Vals ys us->xs=ys
 |_,_,_,.nil,.nil=>rfl
 |_,_,_,.cons r t,.cons r' t'=>by rw[r.inj r',Vals.inj t t']
section
variable{X:Cx}{pins:List (Addr×Obj)}{σ:St}{H:Hp}{s:Shared}{a:Addr}{xs ys:List V}
theorem SqL.of{K:Frag}(h:H a=some (.lst xs)):SqL K H a xs:=.inl (.inl h)
theorem SqT.of{K:Frag}(h:H a=some (.tup xs)):SqT K H a xs:=.inl (.inl h)
theorem Inv.list(I:Inv X pins σ H s)(h:SqL X.K H a xs):∃its:List Value,Vals xs its/\PlainL s.heap a its.toArray/\xs.length<=sizeLine:=by
 rcases h with h|⟨o,its,n,hk,hc,hd,hs,hz,r⟩
 ·obtain⟨z,its,n,r,e⟩:=h.ok I.hok
  exact⟨its,r,⟨_,n,e,rfl,rfl,rfl⟩,z⟩
 ·refine⟨its.toList,r,⟨o,n,I.kIn a o hk,hc,hd,by simpa using hs⟩,?_⟩
  have e:=r.length
  simp only[Array.length_toList]at e
  omega
theorem Inv.tuple(I:Inv X pins σ H s)(h:SqT X.K H a xs):∃its:List Value,Vals xs its/\IsTup s.heap a its.toArray/\xs.length<=sizeLine:=by
 rcases h with h|⟨o,its,n,hk,hc,hs,hz,r⟩
 ·obtain⟨z,its,r,p⟩:=h.ok I.hok
  exact⟨its,r,p,z⟩
 ·refine⟨its.toList,r,⟨o,I.kIn a o hk,hc,n,by simpa using hs⟩,?_⟩
  have e:=r.length
  simp only[Array.length_toList]at e
  omega
theorem Inv.list_inj(I:Inv X pins σ H s)(h:SqL X.K H a xs)(h':SqL X.K H a ys):xs=ys:=by
 obtain⟨its,r,⟨o,n,e,_,_,d⟩,_⟩:=I.list h
 obtain⟨its',r',⟨o',n',e',_,_,d'⟩,_⟩:=I.list h'
 rw[e]at e';cases e'
 rw[d]at d'
 injection d' with d1 _
 have:its=its':=by simpa using congrArg Array.toList d1
 subst this
 exact r.inj r'
theorem Inv.tuple_inj(I:Inv X pins σ H s)(h:SqT X.K H a xs)(h':SqT X.K H a ys):xs=ys:=by
 obtain⟨its,r,⟨o,e,_,n,d⟩,_⟩:=I.tuple h
 obtain⟨its',r',⟨o',e',_,n',d'⟩,_⟩:=I.tuple h'
 rw[e]at e';cases e'
 rw[d]at d'
 injection d' with d1 _
 have:its=its':=by simpa using congrArg Array.toList d1
 subst this
 exact r.inj r'
end
section
variable{X:Cx}{pins:List (Addr×Obj)}{σ:St}{H:Hp}{s:Shared}{E:Value->Shared->Prop}
end
section
variable{X:Cx}{st:Stmt}{rest:List Stmt}{t u:TS}{e:Expr}{te:TE}{pos:Pos}
def x3d:TS:=fun D σ H=>D.nx σ H
def tSeq(t u:TS):TS:=fun D σ H=>t {D with nx:=u D} σ H
theorem y6d:PSs X [] x3d:=fun _ _ σ H _ I h=>wpAny_execs_nil ⟨σ,H,I,h⟩
theorem y1r(h1:PS X st t)(h2:PSs X rest u):PSs X (st::rest) (tSeq t u):=by
 intro pins s σ H D I h
 refine wpAny_execs_cons (thn (h1 pins s σ H {D with nx:=u D} I h) fun f s1 q=>?_)
 cases f with
 |next=>
  obtain⟨σ',H',I',q⟩:=q
  exact h2 pins s1 σ' H' D I' q
 |ret v=>exact q
 |brk=>exact q
 |cont=>exact q
theorem y6c(h1:PS X st t):PSs X [st] t:=by
 intro pins s σ H D I h
 refine wpAny_execs_cons (thn (h1 pins s σ H D I h) fun f s1 q=>?_)
 cases f with
 |next=>exact wpAny_execs_nil q
 |ret v=>exact q
 |brk=>exact q
 |cont=>exact q
theorem Inv.quiet{pins:List (Addr×Obj)}{σ:St}{H:Hp}{s:Shared}(I:Inv X pins σ H s):interactive X.env=false:=by simp[interactive,I.ok.kind]
def x3g(te:TE):TS:=fun D σ H=>te σ H fun _ H1=>D.nx σ H1
theorem y6f(he:PE X e te)(hs:swapsWith e none pos.line X.env=pure false:=by rfl):PS X (.Expr e pos) (x3g te):=by
 intro pins s σ H D I h
 exact wpAny_Expr_any (thn (he pins s σ H _ I h) fun v s1 hh1=>by obtain⟨x,H1,I1,r1,q1⟩:=hh1;exact(⟨σ,H1,I1,q1⟩)) I.quiet hs
def tRet(te:TE):TS:=fun D σ H=>te σ H D.rt
theorem y9h(he:PE X e te):PS X (.Return (some e) pos) (tRet te):=by
 intro pins s σ H D I h
 exact wpAny_Return_some (thn (he pins s σ H _ I h) fun v s1 hh1=>by obtain⟨x,H1,I1,r1,q1⟩:=hh1;exact(⟨x,σ,H1,I1,r1,q1⟩))
def tIfS(c:TT)(t u:TS):TS:=fun D σ H=>c σ H fun b H1=>if b=true then t D σ H1 else u D σ H1
theorem x3n{c:Expr}{a b:List Stmt}{tc:TT}(hc:PT X c tc)(ha:PSs X a t)(hb:PSs X b u):PS X (.If c a b pos) (tIfS tc t u):=by
 intro pins s σ H D I h
 refine wpAny_If (thn (hc pins s σ H _ I h) fun d s1 hh1=>?_)
 obtain⟨H1,I1,q1⟩:=hh1
 cases d with
 |true=>exact ha pins s1 σ H1 D I1 q1
 |false=>exact hb pins s1 σ H1 D I1 q1
def y8p:TS:=fun _ _ _=>False
theorem y1u:PS X st y8p:=fun _ _ _ _ _ _ h=>h.elim
end
abbrev TG:=V->St->Hp->(St->Hp->Prop)->Prop
abbrev TGs:=List V->St->Hp->(St->Hp->Prop)->Prop
def PG(X:Cx)(target:Expr)(t:TG):Prop:=
 ∀(pins:List (Addr×Obj))(s:Shared)(σ:St)(H:Hp)(v:V)(u:Value)(Q:St->Hp->Prop),Inv X pins σ H s->RelV v u->t v σ H Q->
  wpAny (model X.prog X.w) X.A (assign target X.env u) (fun _ s'=>∃σ' H',Inv X pins σ' H' s'/\Q σ' H') X.xe s
def PGs(X:Cx)(ts:List Expr)(t:TGs):Prop:=
 ∀(pins:List (Addr×Obj))(s:Shared)(σ:St)(H:Hp)(vs:List V)(us:List Value)(Q:St->Hp->Prop),Inv X pins σ H s->Vals vs us->t vs σ H Q->
  wpAny (model X.prog X.w) X.A (assignInOrder ((assignEach ts X.env).map (·.2)) us) (fun _ s'=>∃σ' H',Inv X pins σ' H' s'/\Q σ' H') X.xe s
abbrev TIp:=V->V->Hp->VK->Prop
def PIp(X:Cx)(op:Operator)(t:TIp):Prop:=
 ∀(pins:List (Addr×Obj))(s:Shared)(σ:St)(H:Hp)(x y:V)(v u:Value)(Q:VK),Inv X pins σ H s->RelV x v->RelV y u->t x y H Q->
  wpAny (model X.prog X.w) X.A (inplaceOp op v u) (EP X pins σ Q) X.xe s
section
variable{X:Cx}{pos:Pos}
def x1x(i:Nat):TG:=fun v σ H Q=>Q (σ.set i (some v)) H
theorem y6l{i:Nat}{x:Str}(hN:X.N.Nodup)(hi:X.N[i]?=some x)(hx:Loc X.env.scope x)(hf:X.fn x=true\/X.env.scope.names.lookup x=some .local:=by first|exact .inl rfl|exact .inr rfl|assumption):PG X (.Name x pos) (x1x i):=by
 intro pins s σ H v u Q I r h
 exact wpAny_assign_Name (q6z I hN hi hx r (fun s' I'=>⟨_,H,I',h⟩) hf)
def gNil:TGs:=fun vs σ H Q=>vs=[]/\Q σ H
def x4z(t:TG)(u:TGs):TGs:=fun vs σ H Q=>∃v r,vs=v::r/\t v σ H fun σ' H'=>u r σ' H' Q
theorem y6k:PGs X [] gNil:=by
 intro pins s σ H vs us Q I r h
 obtain⟨e,h⟩:=h
 subst e
 cases r
 exact assignInOrder_nil ⟨σ,H,I,h⟩
theorem y1w{e:Expr}{es:List Expr}{t:TG}{u:TGs}(h1:PG X e t)(h2:PGs X es u)
  (hs:(assignEach (e::es) X.env).map (·.2)=assign e X.env::(assignEach es X.env).map (·.2):=by rfl):PGs X (e::es) (x4z t u):=by
 intro pins s σ H vs us Q I r h
 obtain⟨v,vr,e1,h⟩:=h
 subst e1
 cases r with
 |cons r rr=>
  rw[hs]
  refine assignInOrder_cons (thn (h1 pins s σ H _ _ _ I r h) fun _ s1 hh1=>?_)
  obtain⟨σ1,H1,I1,q1⟩:=hh1
  exact h2 pins s1 σ1 H1 _ _ Q I1 rr q1
def gTup(K:Frag)(n:Nat)(t:TGs):TG:=fun v σ H Q=>∃a xs,v=.ref a/\SqT K H a xs/\xs.length=n/\t xs σ H Q
theorem y9s{es:List Expr}{k:Nat}{t:TGs}{n:Nat}(hc:X.calm=true)(h:PGs X es t)
  (hn:(assignEach es X.env).length=n:=by rfl) (hst:(assignEach es X.env).findIdx? (·.1)=none:=by rfl):PG X (.Tuple es k pos) (gTup X.K n t):=by
 intro pins s σ H v u Q I r hw
 obtain⟨a,xs,e1,hq,hl,hw⟩:=hw
 subst e1
 cases r
 obtain⟨its,rv,ht,hz⟩:=I.tuple hq
 refine assign_Tuple_tuple (I.ok.hd hc) ht (by simp[hn,<-hl,rv.length]) hst fun h' hx=>?_
 have I1:Inv X pins σ H {s with heap:=h' }:=I.kept (t':=s.toks) fun b o e=>hx b o (Nat.ne_of_lt (Heap.lt_size e)) e
 exact h pins _ σ H xs _ Q I1 (by simpa using rv) hw
def tAsg(te:TE)(g:TG):TS:=fun D σ H=>te σ H fun x H1=>g x σ H1 D.nx
theorem y9k{tg e:Expr}{te:TE}{g:TG}(he:PE X e te)(hg:PG X tg g)(hs:swapsWithSole [tg] e pos.line X.env=pure false:=by rfl)(hw:swappedStores [tg] e X.env=pure none:=by rfl)
  (h1:(assignEach [tg] X.env).map (·.2)=[assign tg X.env]:=by rfl):PS X (.Assign [tg] e pos) (tAsg te g):=by
 intro pins s σ H D I h
 refine wpAny_Assign_stores (thn (he pins s σ H _ I h) fun v s1 ⟨x,H1,I1,r1,q1⟩=>?_) hs hw
 rw[h1]
 exact thn (hg pins s1 σ H1 x v _ I1 r1 q1) fun _ s2 q=>q
theorem y9g{i:Nat}{x:Str}{e:Expr}{te:TE}{pos':Pos}(hN:X.N.Nodup)(hi:X.N[i]?=some x)(hx:Loc X.env.scope x)(he:PE X e te)(hs:swapsWith e (some (.Name x pos')) pos.line X.env=pure false:=by rfl)(hf:X.fn x=true\/X.env.scope.names.lookup x=some .local:=by first|exact .inl rfl|exact .inr rfl|assumption) :
  PS X (.Assign [.Name x pos'] e pos) (tAsg te (x1x i)):=by
 intro pins s σ H D I h
 refine wpAny_Assign_Name (thn (he pins s σ H _ I h) fun v s1 ⟨y,H1,I1,r1,q1⟩=>?_) hs
 exact q6z I1 hN hi hx r1 (fun s2 I2=>⟨_,H1,I2,q1⟩) hf
def tAug(i:Nat)(te:TE)(ti:TIp):TS:=fun D σ H=>∃x,σ[i]?=some (some x)/\te σ H fun y H1=>ti x y H1 fun z H2=>D.nx (σ.set i (some z)) H2
theorem y9j{i:Nat}{x:Str}{e:Expr}{te:TE}{op:Operator}{ti:TIp}{pos':Pos}(hN:X.N.Nodup)(hi:X.N[i]?=some x)(hx:Loc X.env.scope x)(he:PE X e te)(ho:PIp X op ti)(hf:X.fn x=true\/X.env.scope.names.lookup x=some .local:=by first|exact .inl rfl|exact .inr rfl|assumption) :
  PS X (.AugAssign (.Name x pos') op e pos) (tAug i te ti):=by
 intro pins s σ H D I h
 obtain⟨v,e1,h⟩:=h
 obtain⟨m,hn,hl⟩:=I.loc
 have vis:Vis X.env.scope x:=by rcases hx with k|k;exact .inl k;exact .inr (.inl k)
 obtain⟨u,r,l⟩:=hl i x v hi e1 vis
 refine wpAny_AugAssign_Name ?_
 have go:wpAny (model X.prog X.w) X.A (eval e X.env) (fun w s₂=>wpAny (model X.prog X.w) X.A (inplaceOp op u w) (fun r s₃=>wpAny (model X.prog X.w) X.A (storeName X.env x r) (fun _=>SP X pins D .next) X.xe s₃) X.xe s₂) X.xe s:=by
  refine thn (he pins s σ H _ I h) fun w s1 hh1=>?_
  obtain⟨y,H1,I1,r1,q1⟩:=hh1
  refine thn (ho pins s1 σ H1 v y u w _ I1 r r1 q1) fun z s2 hh2=>?_
  obtain⟨zv,H2,I2,r2,q2⟩:=hh2
  exact q6z I2 hN hi hx r2 (fun s3 I3=>⟨_,H2,I3,q2⟩) hf
 rcases l with⟨hk,hm⟩|⟨hk,c,hc,hcell⟩
 ·exact wpAny_loadName_local I.ok.kind hk hn hm go
 ·rcases hk with hk|hk
  ·exact wpAny_loadName_cell I.ok.kind hk hc hcell go
  ·rcases hx with k|k
   ·have:X.env.scope.names.lookup x=some .free:=hk
    rw[k]at this;cases this
   ·have:X.env.scope.names.lookup x=some .free:=hk
    rw[k]at this;cases this
def ipI(f:Int->Int->Int):TIp:=fun x y H Q=>∃i j,x=.int i/\y=.int j/\Q (.int (f i j)) H
theorem x1s:PIp X .Add (ipI fun i j=>i+j):=by
 intro pins s σ H x y v u Q I r1 r2 h
 obtain⟨i,j,e1,e2,q⟩:=h
 subst e1;subst e2
 obtain⟨t,rfl⟩:=r1
 obtain⟨t',rfl⟩:=r2
 exact iadd_int ⟨.int _,H,I.tok _,⟨_,rfl⟩,q⟩
end
section
variable{X:Cx}{pos:Pos}
def y8o(c:TT)(tb:TS):TS:=fun D σ H=>∃W:Nat->St->Hp->Prop,(∃m,W m σ H)/\∀m σ H,W m σ H->
 c σ H fun b H1=>if b=true then ∃N:St->Hp->Prop,(∀σ' H',N σ' H'->∃m',m'<m/\W m' σ' H')/\tb {D with nx:=N,ct:=N,bk:=D.nx} σ H1 else D.nx σ H1
theorem y1s{c:Expr}{body:List Stmt}{tc:TT}{tb:TS}(hp:PassesOwn (model X.prog X.w) X.A X.env X.xe)(hc:PT X c tc)(hb:PSs X body tb):PS X (.While c body [] pos) (y8o tc tb):=by
 intro pins s σ H D I h
 obtain⟨W,⟨m0,w0⟩,turn⟩:=h
 refine wpAny_While (codeAny_whileLoop (fun n s'=>∃σ' H',Inv X pins σ' H' s'/\W n σ' H') ?_ m0 ⟨σ,H,I,w0⟩)
 rintro n s1 ⟨σ1,H1,I1,w1⟩
 refine wpAny_passesOwn hp (thn (hc pins s1 σ1 H1 _ I1 (turn n σ1 H1 w1)) fun b s2 hh1=>?_)
 obtain⟨H2,I2,q2⟩:=hh1
 cases b with
 |true=>
  obtain⟨N,hN,q2⟩:=q2
  rw[if_pos rfl]
  refine wpAny_passesOwn hp (thn (hb pins s2 σ1 H2 _ I2 q2) fun f s3 q3=>?_)
  cases f with
  |next=>
   obtain⟨σ3,H3,I3,n3⟩:=q3
   obtain⟨m',hm,w3⟩:=hN σ3 H3 n3
   exact⟨m',hm,σ3,H3,I3,w3⟩
  |cont=>
   obtain⟨σ3,H3,I3,n3⟩:=q3
   obtain⟨m',hm,w3⟩:=hN σ3 H3 n3
   exact⟨m',hm,σ3,H3,I3,w3⟩
  |brk=>exact q3
  |ret v=>exact q3
 |false=>
  rw[if_neg Bool.false_ne_true]
  exact wpAny_execs_nil ⟨σ1,H2,I2,q2⟩
end
structure It where
 go:Nat->Hp->Prop
 yld:Nat->Hp->V->Hp->Prop
 stop:Nat->Hp->Prop
def FpOk(X:Cx)(pins:List (Addr×Obj))(H:Hp)(b:Addr):Prop:=
 H b=none/\b≠X.env.locals/\b∉X.fs/\(b∈X.ex\/X.s₀.heap.objs.size<=b)/\(∀x c,X.env.cells.lookup x=some c->c≠b)/\∀p∈X.pn++pins,p.1≠b
theorem Inv.fpOk{X:Cx}{pins:List (Addr×Obj)}{σ:St}{H H':Hp}{s:Shared}{b:Addr}(I:Inv X pins σ H s)(hb:s.heap.objs.size<=b)(hn:H' b=none):FpOk X pins H' b:=by
 refine⟨hn,Nat.ne_of_gt (Nat.lt_of_lt_of_le I.lt hb),I.nofs hb,.inr (Nat.le_trans I.sz hb),fun x c e z=>?_,fun p hp z=>?_⟩
 ·obtain⟨v,q⟩:=I.cell x c e
  exact absurd (Nat.lt_of_lt_of_le q.lt (by rw[z];exact hb)) (Nat.lt_irrefl _)
 ·exact absurd (Nat.lt_of_lt_of_le (Heap.lt_size (I.pin p hp).1) (by rw[z];exact hb)) (Nat.lt_irrefl _)
structure Turn(P:Program)(w:World)(K:Frag)(tg:Expr)(J:It)(fp:List Addr)(it:Addr)(tn:Nat->Heap->Prop):Prop where
 mem:it∈fp
 obj:∀i h,tn i h->∀b∈fp,∃o,h.get? b=some o/\∀v,o.data≠.cell v
 keep:∀i h h',tn i h->(∀b∈fp,∀o,h.get? b=some o->h'.get? b=some o)->tn i h'
 item:∀(X:Cx),X.prog=P->X.w=w->X.K=K->X.calm=true->∀(i:Nat)(pins:List (Addr×Obj))(s:Shared)(σ:St)(H:Hp)(E:Value->Shared->Prop),Inv X pins σ H s->(∀b∈fp,FpOk X pins H b)->tn i s.heap->J.go i H->
  wpAny (model P w) X.A (pyNext (.ref it)) (fun r s1=>∃u,r=some u/\
   wpAny (model P w) X.A (letOwnedTupleGo tg (.ref it) u) (fun _ s2=>∃x H',Inv X pins σ H' s2/\RelV x u/\J.yld i H x H'/\tn (i+1) s2.heap/\∀b∈fp,H' b=none) E s1) E s
 done:∀(X:Cx),X.prog=P->X.w=w->X.K=K->X.calm=true->∀(i:Nat)(pins:List (Addr×Obj))(s:Shared)(σ:St)(H:Hp)(E:Value->Shared->Prop),Inv X pins σ H s->(∀b∈fp,FpOk X pins H b)->tn i s.heap->J.stop i H->
  wpAny (model P w) X.A (pyNext (.ref it)) (fun r s1=>r=none/\Inv X pins σ H s1) E s
 self:∀(A:Around)(i:Nat)(s:Shared)(Q:Value->Shared->Prop)(E:Value->Shared->Prop),tn i s.heap->Q (.ref it) s->wpAny (model P w) A (pyIter (.ref it)) Q E s
abbrev TI:=St->Hp->(It->Hp->Prop)->Prop
def PIE(X:Cx)(pins:List (Addr×Obj))(σ:St)(tg:Expr)(R:It->Hp->Prop)(itv:Value)(s2:Shared):Prop:=
 ∃(it:Addr)(fp:List Addr)(tn:Nat->Heap->Prop)(J:It)(H':Hp),itv=.ref it/\Inv X pins σ H' s2/\Turn X.prog X.w X.K tg J fp it tn/\tn 0 s2.heap/\(∀b∈fp,FpOk X pins H' b)/\R J H'
def PI(X:Cx)(tg iter:Expr)(wi:TI):Prop:=
 ∀(pins:List (Addr×Obj))(s:Shared)(σ:St)(H:Hp)(R:It->Hp->Prop),Inv X pins σ H s->wi σ H R->
  wpAny (model X.prog X.w) X.A (eval iter X.env) (fun v s1=>wpAny (model X.prog X.w) X.A (pyIter v) (PIE X pins σ tg R) X.xe s1) X.xe s
theorem z6g {M : Model} {A : Around} {E : Value -> Shared -> Prop} {s : Shared} {tg : Expr} {it : Addr} {u : Value} {o : Obj} {n : String} {vs : Array Value} {Q : Unit -> Shared -> Prop} (ho : s.heap.get? it = some o) (hc : o.cls = .type n) (hd : o.data = .fields vs)
    (hn : ["enumerate", "zip", "dict_itemiterator", "dict_reverseitemiterator", "odict_iterator", "itertools.zip_longest", "itertools.pairwise"].contains n = false) (hQ : Q () s) : wpAny M A (letOwnedTupleGo tg (.ref it) u) Q E s := by
  unfold letOwnedTupleGo
  cases tg <;> first
    | exact wpAny_pure hQ
    | (cases u <;> first
        | exact wpAny_pure hQ
        | (refine wpAny_bind (wpAny_load ho ?_)
           rw [hc, hd]
           show wpAny M A (if (["enumerate", "zip", "dict_itemiterator", "dict_reverseitemiterator", "odict_iterator", "itertools.zip_longest", "itertools.pairwise"].contains n && vs[0]? == some (rawInt _)) = true then _ else _) Q E s
           rw [if_neg (by intro h; rw [hn, Bool.false_and] at h; cases h)]
           exact wpAny_pure hQ))
def Itl(K:Frag)(a:Addr):It:=
 ⟨fun i H=>∃xs x,SqL K H a xs/\xs[i]?=some x,fun i H x H'=>H'=H/\∀xs,SqL K H a xs->xs[i]?=some x,fun i H=>∃xs,SqL K H a xs/\xs.length<=i⟩
def Itt(K:Frag)(a:Addr):It:=
 ⟨fun i H=>∃xs x,SqT K H a xs/\xs[i]?=some x,fun i H x H'=>H'=H/\∀xs,SqT K H a xs->xs[i]?=some x,fun i H=>∃xs,SqT K H a xs/\xs.length<=i⟩
def Itr(lo:Int)(n:Nat):It:=⟨fun i _=>i<n,fun i H x H'=>H'=H/\x=.int (lo+i),fun i _=>n<=i⟩
theorem z6y{P:Program}{w:World}{K:Frag}{tg:Expr}(a it:Addr):Turn P w K tg (Itl K a) [it] it (fun i h=>h.IsListIter it a i) where
 mem:=by simp
 obj:=fun i h st b hb=>by
  have e:b=it:=by simpa using hb
  subst e
  obtain⟨o,e,c,d⟩:=st
  exact⟨o,e,fun v z=>by rw[d]at z;cases z⟩
 keep:=fun i h h' st k=>st.at fun o e=>k it (by simp) o e
 item:=by
  intro X hP hw hK hc i pins s σ H E I hf st hg
  subst hP hw hK
  obtain⟨xs,x,hq,hx⟩:=hg
  obtain⟨its,rv,p,hz⟩:=I.list hq
  obtain⟨u,hu,ru⟩:=rv.get hx
  obtain⟨f0,f1,f2,f3,f4,f5⟩:=hf it (by simp)
  refine wpAny_pyNext_list_item st p.isList (x:=u) (by simpa using hu) fun h' st' sb=>?_
  have I1:Inv X pins σ H {s with heap:=h' }:=I.turned (t':=s.toks) (fun b o hb e=>(sb.2 b hb).trans e) f0 f1 f3 f4 f5
  obtain⟨o,e,c,d⟩:=id st'
  exact⟨u,rfl,z6g (s:={s with heap:=h' }) e c d (by decide) ⟨x,H,I1,ru,⟨rfl,fun ys hy=>by rw[I.list_inj hy hq];exact hx⟩,st',fun b hb=>(hf b hb).1⟩⟩
 done:=by
  intro X hP hw hK hc i pins s σ H E I hf st hg
  subst hP hw hK
  obtain⟨xs,hq,hx⟩:=hg
  obtain⟨its,rv,p,hz⟩:=I.list hq
  obtain⟨f0,f1,f2,f3,f4,f5⟩:=hf it (by simp)
  have hl:=rv.length
  exact wpAny_pyNext_list_end (I.ok.hd hc) st p.isList (by simp;omega) fun h' eb=>⟨rfl,I.turned (t':=s.toks) (fun b o hb e=>eb b o hb e) f0 f1 f3 f4 f5⟩
 self:=fun _ _ _ _ _ st h=>wpAny_pyIter_listiter st h
theorem z5i{P:Program}{w:World}{K:Frag}{tg:Expr}(a it:Addr):Turn P w K tg (Itt K a) [it] it (fun i h=>h.IsTupleIter it a i) where
 mem:=by simp
 obj:=fun i h st b hb=>by
  have e:b=it:=by simpa using hb
  subst e
  obtain⟨o,e,c,d⟩:=st
  exact⟨o,e,fun v z=>by rw[d]at z;cases z⟩
 keep:=fun i h h' st k=>st.at fun o e=>k it (by simp) o e
 item:=by
  intro X hP hw hK hc i pins s σ H E I hf st hg
  subst hP hw hK
  obtain⟨xs,x,hq,hx⟩:=hg
  obtain⟨its,rv,p,hz⟩:=I.tuple hq
  obtain⟨u,hu,ru⟩:=rv.get hx
  obtain⟨f0,f1,f2,f3,f4,f5⟩:=hf it (by simp)
  refine wpAny_pyNext_tuple_item st (show s.heap.IsTuple a its.toArray from p) (x:=u) (by simpa using hu) fun h' st' sb=>?_
  have I1:Inv X pins σ H {s with heap:=h' }:=I.turned (t':=s.toks) (fun b o hb e=>(sb.2 b hb).trans e) f0 f1 f3 f4 f5
  obtain⟨o,e,c,d⟩:=id st'
  exact⟨u,rfl,z6g (s:={s with heap:=h' }) e c d (by decide) ⟨x,H,I1,ru,⟨rfl,fun ys hy=>by rw[I.tuple_inj hy hq];exact hx⟩,st',fun b hb=>(hf b hb).1⟩⟩
 done:=by
  intro X hP hw hK hc i pins s σ H E I hf st hg
  subst hP hw hK
  obtain⟨xs,hq,hx⟩:=hg
  obtain⟨its,rv,p,hz⟩:=I.tuple hq
  obtain⟨f0,f1,f2,f3,f4,f5⟩:=hf it (by simp)
  have hl:=rv.length
  exact wpAny_pyNext_tuple_end (I.ok.hd hc) st (show s.heap.IsTuple a its.toArray from p) (by simp;omega) fun h' eb=>⟨rfl,I.turned (t':=s.toks) (fun b o hb e=>eb b o hb e) f0 f1 f3 f4 f5⟩
 self:=fun _ _ _ _ _ st h=>wpAny_pyIter_tupleiter st h
theorem z5j{P:Program}{w:World}{K:Frag}{tg:Expr}(it:Addr)(lo:Int)(n:Nat):Turn P w K tg (Itr lo n) [it] it (fun i h=>IsRangeIter h it (lo+(i:Nat)*1) ((n:Int)-(i:Nat)) 1) where
 mem:=by simp
 obj:=fun i h st b hb=>by
  have e:b=it:=by simpa using hb
  subst e
  exact⟨_,st,fun v z=>by
   have z':Data.fields _=Data.cell v:=z
   cases z'⟩
 keep:=fun i h h' st k=>k it (by simp) _ st
 item:=by
  intro X hP hw hK hc i pins s σ H E I hf st hg
  subst hP hw hK
  obtain⟨f0,f1,f2,f3,f4,f5⟩:=hf it (by simp)
  have W:=Walks.range (prog:=X.prog) (w:=X.w) (I.ok.hd hc) it lo 1 n
  refine W.item i s _ _ hg st fun v h' tk hv st' kk=>?_
  obtain⟨t,rfl⟩:=hv
  have I1:Inv X pins σ H {s with heap:=h',toks:=tk}:=I.turned (fun b o hb e=>kk b o (by simpa using hb) e) f0 f1 f3 f4 f5
  refine⟨_,rfl,z6g (s:={s with heap:=h',toks:=tk}) (n:= "range_iterator") st' rfl rfl (by decide) ⟨.int (lo+i),H,I1,⟨t,?_⟩,⟨rfl,rfl⟩,st',fun b hb=>(hf b hb).1⟩⟩
  rw[Int.mul_one]
 done:=by
  intro X hP hw hK hc i pins s σ H E I hf st hg
  subst hP hw hK
  obtain⟨f0,f1,f2,f3,f4,f5⟩:=hf it (by simp)
  exact wpAny_pyNext_range_end (I.ok.hd hc) st (by have:n<=i:=hg;omega) fun h' eb=>⟨rfl,I.turned (t':=s.toks) (fun b o hb e=>eb b o hb e) f0 f1 f3 f4 f5⟩
 self:=fun _ _ _ _ _ st h=>wpAny_pyIter_rangeiter st h
section
variable{X:Cx}{tg:Expr}
theorem y1n{pins:List (Addr×Obj)}{σ:St}{H:Hp}{s:Shared}{R:It->Hp->Prop}{E:Value->Shared->Prop}{lo hi:Int}{t u v:Tok}{tk:Nat}(I:Inv X pins σ H s)(h1:-(2 ^ 62)<=lo)(h2:lo<2 ^ 62)(h3:-(2 ^ 62)<=hi)(h4:hi<2 ^ 62)
  (q:R (Itr lo (hi-lo).toNat) H):wpAny (model X.prog X.w) X.A (pyIter (.ref s.heap.objs.size)) (PIE X pins σ tg R) E {s with heap:=s.heap.push {cls:=.type "range",data:=.fields #[.int lo t,.int hi u,.int 1 v]},toks:=tk}:=by
 refine wpAny_pyIter_range (IsRange.new ..) (small_one h1 h2 h3 h4) ?_
 have I1:Inv X pins σ H {s with heap:=s.heap.push {cls:=.type "range",data:=.fields #[.int lo t,.int hi u,.int 1 v]},toks:=tk}:=I.kept fun b o e=>Heap.get?_push_of_some _ e
 refine⟨(s.heap.push {cls:=.type "range",data:=.fields #[.int lo t,.int hi u,.int 1 v]}).objs.size,[(s.heap.push {cls:=.type "range",data:=.fields #[.int lo t,.int hi u,.int 1 v]}).objs.size],_,_,H,rfl,
  I1.kept (t':=tk) fun b o e=>Heap.get?_push_of_some _ e,z5j _ lo (hi-lo).toNat,?_,fun b hb=>?_,q⟩
 ·have e1:lo+((0:Nat):Int)*1=lo:=by simp
  have e2:(((hi-lo).toNat:Nat):Int)-((0:Nat):Int)=Builtin.Range.rangeSize lo hi 1:=by rw[rangeSize_one];split<;>omega
  show IsRangeIter _ _ (lo+((0:Nat):Int)*1) ((((hi-lo).toNat:Nat):Int)-((0:Nat):Int)) 1
  rw[e1,e2]
  exact Heap.get?_push_size _ rfl
 ·have e:b=(s.heap.push {cls:=.type "range",data:=.fields #[.int lo t,.int hi u,.int 1 v]}).objs.size:=by simpa using hb
  subst e
  exact I1.fpOk (Nat.le_refl _) (I1.hok.fresh (Nat.le_refl _))
def x4w(ta:TA):TI:=fun σ H R=>ta σ H fun vs H1=>∃j:Int,vs=[.int j]/\-(2 ^ 62)<=j/\j<2 ^ 62/\R (Itr 0 j.toNat) H1
theorem z7x{a:Expr}{ta:TA}{p pos:Pos}(hg:Gl X "range")(hm:X.mg "range" = none)(ha:PA X [a] ta)(hs:starEach [a] X.env=[(false,eval a X.env)]:=by rfl):PI X tg (.Call (.Name "range" p) [a] [] pos) (x4w ta):=by
 intro pins s σ H R I h
 refine Call_ (q6o I hg hm boot_range (PyProof.Rows.callWith_type1 (thn (ha pos pins s σ H _ I h) fun us s1 ⟨vs,H1,I1,r1,q1⟩=>?_) hs rfl))
 obtain⟨j,e,q1,q2,q⟩:=q1
 subst e
 cases r1 with
 |cons r rr=>
  cases rr
  obtain⟨t,rfl⟩:=r
  exact call_range_1 (y1n I1 (by omega) (by omega) q1 q2 (by simpa using q))
def tFor(wi:TI)(g:TG)(tb:TS):TS:=fun D σ H=>wi σ H fun J H1=>∃W:Nat->Nat->St->Hp->Prop,(∃m,W 0 m σ H1)/\∀i m σ H,W i m σ H->
 (J.stop i H/\D.nx σ H)\/(J.go i H/\∃N:St->Hp->Prop,(∀σ' H',N σ' H'->∃m',m'<m/\W (i+1) m' σ' H')/\∀x H',J.yld i H x H'->g x σ H' fun σ2 H2=>tb {D with nx:=N,ct:=N,bk:=D.nx} σ2 H2)
def q8p(fp:List Addr)(h:Heap):List (Addr×Obj):=fp.filterMap fun b=>(h.get? b).map fun o=>(b,o)
theorem q3z{fp:List Addr}{h:Heap}{b:Addr}{o:Obj}(hb:b∈fp)(e:h.get? b=some o):(b,o)∈q8p fp h:=List.mem_filterMap.mpr ⟨b,hb,by rw[e];rfl⟩
theorem z1h{fp:List Addr}{h:Heap}{p:Addr×Obj}(hp:p∈q8p fp h):p.1∈fp/\h.get? p.1=some p.2:=by
 obtain⟨b,hb,e⟩:=List.mem_filterMap.mp hp
 cases q:h.get? b with
 |none=>rw[q]at e;cases e
 |some o=>
  rw[q]at e
  have e':(b,o)=p:=Option.some.inj e
  subst e'
  exact⟨hb,q⟩
theorem Inv.pinned{pins:List (Addr×Obj)}{σ:St}{H:Hp}{s:Shared}{fp:List Addr}(I:Inv X pins σ H s)(hf:∀b∈fp,FpOk X pins H b)(ho:∀b∈fp,∃o,s.heap.get? b=some o/\∀v,o.data≠.cell v):Inv X (pins++q8p fp s.heap) σ H s:=
 I.pins_of fun p hp=>(List.mem_append.mp hp).elim (fun z=>I.pin p (List.mem_append_right _ z)) fun z=>by
  obtain⟨hb,e⟩:=z1h z
  obtain⟨f0,f1,f2,_⟩:=hf p.1 hb
  obtain⟨o,e',d⟩:=ho p.1 hb
  rw[e]at e';cases e'
  exact⟨e,f0,f1,f2,d⟩
theorem Inv.unpinned{pins pl:List (Addr×Obj)}{σ:St}{H:Hp}{s:Shared}(I:Inv X (pins++pl) σ H s):Inv X pins σ H s:=I.pins_of fun p hp=>I.pin p (List.mem_append_right _ (List.mem_append_left _ hp))
theorem y9i{iter:Expr}{body:List Stmt}{wi:TI}{g:TG}{tb:TS}{pos:Pos}(hp:PassesOwn (model X.prog X.w) X.A X.env X.xe)(hc:X.calm=true)(hi:PI X tg iter wi)(hg:PG X tg g)(hb:PSs X body tb)
  (hs:∀x,foldedSetIterable iter X.env x=pure x:=by intro _;rfl):PS X (.For tg iter body [] pos) (tFor wi g tb):=by
 intro pins s σ H D I h
 refine wpAny_For (thn (hi pins s σ H _ I h) fun v s1 h1=>thn h1 fun itv s2 h2=>?_) hs
 obtain⟨it,fp,tn,J,H2,e,I2,T,st2,f2,W,⟨m0,w0⟩,turn⟩:=h2
 subst e
 have stat:∀{H':Hp},(∀b∈fp,H' b=none)->∀b∈fp,FpOk X pins H' b:=fun hn b hb=>⟨hn b hb,(f2 b hb).2⟩
 refine codeAny_forLoop_any (fun n s'=>∃i σ' H',Inv X pins σ' H' s'/\tn i s'.heap/\(∀b∈fp,H' b=none)/\W i n σ' H') ?_ m0 ⟨0,σ,H2,I2,st2,fun b hb=>(f2 b hb).1,w0⟩
 rintro n s3 ⟨i,σ3,H3,I3,st3,fr3,w3⟩
 rcases turn i n σ3 H3 w3 with⟨stop,qn⟩|⟨go,N,hN,step⟩
 ·refine wpAny_passesOwn hp (thn (T.done X rfl rfl rfl hc i pins s3 σ3 H3 X.xe I3 (stat fr3) st3 stop) fun r s4 hh1=>?_)
  obtain⟨hr,I4⟩:=hh1
  subst hr
  exact wpAny_execs_nil ⟨σ3,H3,I4,qn⟩
 ·refine wpAny_passesOwn hp (thn (T.item X rfl rfl rfl hc i pins s3 σ3 H3 X.xe I3 (stat fr3) st3 go) fun r s4 hh2=>?_)
  obtain⟨u,hr,h4⟩:=hh2
  subst hr
  refine wpAny_passesOwn hp (thn h4 fun _ s5 hh3=>?_)
  obtain⟨x,H5,I5,r5,y5,st5,fr5⟩:=hh3
  have I5':=I5.pinned (stat fr5) (T.obj _ _ st5)
  refine wpAny_passesOwn hp (thn (hg _ s5 σ3 H5 x u _ I5' r5 (step x H5 y5)) fun _ s6 hh4=>?_)
  obtain⟨σ6,H6,I6,q6⟩:=hh4
  refine wpAny_passesOwn hp (thn (hb _ s6 σ6 H6 _ I6 q6) fun f s7 q7=>?_)
  have again:∀{σ7:St}{H7:Hp},Inv X (pins++q8p fp s5.heap) σ7 H7 s7->N σ7 H7->∃m,m<n/\∃i σ' H',Inv X pins σ' H' s7/\tn i s7.heap/\(∀b∈fp,H' b=none)/\W i m σ' H':=fun {σ7 H7} I7 n7=>by
   obtain⟨m',hm,w7⟩:=hN σ7 H7 n7
   refine⟨m',hm,i+1,σ7,H7,I7.unpinned,T.keep _ _ _ st5 fun b hb o e=>(I7.pin (b,o) (List.mem_append_right _ (List.mem_append_right _ (q3z hb e)))).1,fun b hb=>?_,w7⟩
   obtain⟨o,e,d⟩:=T.obj _ _ st5 b hb
   exact(I7.pin (b,o) (List.mem_append_right _ (List.mem_append_right _ (q3z hb e)))).2.1
  cases f with
  |next=>obtain⟨σ7,H7,I7,n7⟩:=q7;exact again I7 n7
  |cont=>obtain⟨σ7,H7,I7,n7⟩:=q7;exact again I7 n7
  |brk=>obtain⟨σ7,H7,I7,q7⟩:=q7;exact⟨σ7,H7,I7.unpinned,q7⟩
  |ret v=>obtain⟨x7,σ7,H7,I7,r7,q7⟩:=q7;exact⟨x7,σ7,H7,I7.unpinned,r7,q7⟩
end
abbrev R2:=V->V->Hp->VK->Prop
def OpR(X:Cx)(f:Value->Value->Sem Value)(r:R2):Prop:=
 ∀(pins:List (Addr×Obj))(s:Shared)(σ:St)(H:Hp)(x y:V)(v u:Value)(Q:VK),Inv X pins σ H s->RelV x v->RelV y u->r x y H Q->
  wpAny (model X.prog X.w) X.A (f v u) (EP X pins σ Q) X.xe s
def UnR(X:Cx)(f:Value->Sem Value)(r:V->Hp->VK->Prop):Prop:=
 ∀(pins:List (Addr×Obj))(s:Shared)(σ:St)(H:Hp)(x:V)(v:Value)(Q:VK),Inv X pins σ H s->RelV x v->r x H Q->
  wpAny (model X.prog X.w) X.A (f v) (EP X pins σ Q) X.xe s
def q5a(X:Cx)(f:Value)(r:List V->Hp->VK->Prop):Prop:=
 ∀(pins:List (Addr×Obj))(s:Shared)(σ:St)(H:Hp)(xs:List V)(us:List Value)(Q:VK),Inv X pins σ H s->Vals xs us->r xs H Q->
  wpAny (model X.prog X.w) X.A (call f us) (EP X pins σ Q) X.xe s
def TruR(X:Cx)(r:V->Hp->(Bool->Hp->Prop)->Prop):Prop:=
 ∀(pins:List (Addr×Obj))(s:Shared)(σ:St)(H:Hp)(x:V)(v:Value)(Q:Bool->Hp->Prop),Inv X pins σ H s->RelV x v->r x H Q->
  wpAny (model X.prog X.w) X.A (truthy v) (TP X pins σ Q) X.xe s
def tOp(r:R2)(ta tb:TE):TE:=fun σ H Q=>ta σ H fun x H1=>tb σ H1 fun y H2=>r x y H2 Q
def tUn(r:V->Hp->VK->Prop)(ta:TE):TE:=fun σ H Q=>ta σ H fun x H1=>r x H1 Q
def rI(C:Int->Int->Prop)(g:Int->Int->V):R2:=fun x y H Q=>∃i j,x=.int i/\y=.int j/\C i j/\Q (g i j) H
def rI0(g:Int->Int->V):R2:=fun x y H Q=>∃i j,x=.int i/\y=.int j/\Q (g i j) H
def rU(g:Int->V):V->Hp->VK->Prop:=fun x H Q=>∃i,x=.int i/\Q (g i) H
section
variable{X:Cx}{a b c:Expr}{ta tb tc:TE}{pos:Pos}
theorem binT(ha:PE X a ta)(hb:PE X b tb){pins:List (Addr×Obj)}{s:Shared}{σ:St}{H:Hp}{R:V->V->Hp->Prop}(I:Inv X pins σ H s)
  (h:ta σ H fun x H1=>tb σ H1 fun y H2=>R x y H2) {Q:Value->Shared->Prop} {f:Value->Value->Sem Value}
  (hf:∀v u s2 x y H2,Inv X pins σ H2 s2->RelV x v->RelV y u->R x y H2->wpAny (model X.prog X.w) X.A (f v u) Q X.xe s2) :
  wpAny (model X.prog X.w) X.A (eval a X.env) (fun v s₁=>wpAny (model X.prog X.w) X.A (eval b X.env) (fun u s₂=>wpAny (model X.prog X.w) X.A (f v u) Q X.xe s₂) X.xe s₁) X.xe s:=by
 refine thn (ha pins s σ H _ I h) fun v s1 hh1=>?_
 obtain⟨x,H1,I1,r1,q1⟩:=hh1
 refine thn (hb pins s1 σ H1 _ I1 q1) fun u s2 hh2=>?_
 obtain⟨y,H2,I2,r2,q2⟩:=hh2
 exact hf v u s2 x y H2 I2 r1 r2 q2
theorem x3o{op:Operator}{r:R2}(ho:OpR X (binaryOp op) r)(ha:PE X a ta)(hb:PE X b tb):PE X (.BinOp a op b pos) (tOp r ta tb):=by
 intro pins s σ H Q I h
 exact wpAny_BinOp (binT ha hb I h fun v u s2 x y H2 I2 rx ry q=>ho pins s2 σ H2 x y v u Q I2 rx ry q)
theorem y9u{op:UnaryOp}{r:V->Hp->VK->Prop}(ho:UnR X (unaryOp op) r)(ha:PE X a ta):PE X (.UnaryOp op a pos) (tUn r ta):=by
 intro pins s σ H Q I h
 exact UnaryOp_ (thn (ha pins s σ H _ I h) fun v s1 hh1=>by obtain⟨x,H1,I1,r1,q1⟩:=hh1;exact(ho pins s1 σ H1 x v Q I1 r1 q1))
theorem opI{f:Value->Value->Sem Value}{C:Int->Int->Prop}{g:Int->Int->Int}
  (rule:∀(i j:Int)(t u:Tok)(s:Shared)(Q:Value->Shared->Prop)(E:Value->Shared->Prop),C i j->Q (.int (g i j) s.toks) {s with toks:=s.toks+1}->wpAny (model X.prog X.w) X.A (f (.int i t) (.int j u)) Q E s) :
  OpR X f (rI C fun i j=>.int (g i j)):=by
 intro pins s σ H x y v u Q I rx ry h
 obtain⟨i,j,rfl,rfl,hc,q⟩:=h
 obtain⟨t,rfl⟩:=rx
 obtain⟨t',rfl⟩:=ry
 exact rule i j t t' s _ _ hc ⟨.int (g i j),H,I.tok _,⟨_,rfl⟩,q⟩
theorem opI0{f:Value->Value->Sem Value}{g:Int->Int->Int}
  (rule:∀(i j:Int)(t u:Tok)(s:Shared)(Q:Value->Shared->Prop)(E:Value->Shared->Prop),Q (.int (g i j) s.toks) {s with toks:=s.toks+1}->wpAny (model X.prog X.w) X.A (f (.int i t) (.int j u)) Q E s) :
  OpR X f (rI0 fun i j=>.int (g i j)):=by
 intro pins s σ H x y v u Q I rx ry h
 obtain⟨i,j,rfl,rfl,q⟩:=h
 obtain⟨t,rfl⟩:=rx
 obtain⟨t',rfl⟩:=ry
 exact rule i j t t' s _ _ ⟨.int (g i j),H,I.tok _,⟨_,rfl⟩,q⟩
theorem opB0{f:Value->Value->Sem Value}{g:Int->Int->Bool}
  (rule:∀(i j:Int)(t u:Tok)(s:Shared)(Q:Value->Shared->Prop)(E:Value->Shared->Prop),Q (.bool (g i j)) s->wpAny (model X.prog X.w) X.A (f (.int i t) (.int j u)) Q E s) :
  OpR X f (rI0 fun i j=>.bl (g i j)):=by
 intro pins s σ H x y v u Q I rx ry h
 obtain⟨i,j,rfl,rfl,q⟩:=h
 obtain⟨t,rfl⟩:=rx
 obtain⟨t',rfl⟩:=ry
 exact rule i j t t' s _ _ ⟨.bl (g i j),H,I,rfl,q⟩
def CPow(i j:Int):Prop:=0<=j/\j<=1000000/\i.natAbs<2 ^ 64
def CMul(i j:Int):Prop:=(-(2 ^ 64)<i/\i<2 ^ 64)\/(-(2 ^ 64)<j/\j<2 ^ 64)
theorem CMul.ok{i j:Int}(h:CMul i j):IntMulOk i j:=by
 rcases h with⟨h1,h2⟩|⟨h1,h2⟩
 ·exact .of_left (intBits_le_64 h1 h2)
 ·exact .of_right (intBits_le_64 h1 h2)
theorem x0q:OpR X (binaryOp .Add) (rI0 fun i j=>.int (i+j)):=opI0 fun _ _ _ _ _ _ _ q=>add_int q
theorem x0j:OpR X (binaryOp .Sub) (rI0 fun i j=>.int (i-j)):=opI0 fun _ _ _ _ _ _ _ q=>sub_int q
theorem x0m:OpR X (binaryOp .Mult) (rI CMul fun i j=>.int (i*j)):=opI fun _ _ _ _ _ _ _ hc q=>mul_int q hc.ok
theorem x0n:OpR X (binaryOp .Mod) (rI (fun _ j=>0<j) fun i j=>.int (i % j)):=opI fun i j _ _ _ _ _ hc q=>by
 have h1:(0:Int)<j:=hc
 exact mod_int' (by omega) (by rw[Int.fmod_eq_emod_of_nonneg i (by omega)];exact q)
theorem x0l:OpR X (binaryOp .Pow) (rI CPow fun i j=>.int (i ^ j.toNat)):=opI fun _ _ _ _ _ _ _ hc q=>pow_int_small hc.1 hc.2.1 hc.2.2 q
theorem unI{f:Value->Sem Value}{g:Int->Int}
  (rule:∀(i:Int)(t:Tok)(s:Shared)(Q:Value->Shared->Prop)(E:Value->Shared->Prop),Q (.int (g i) s.toks) {s with toks:=s.toks+1}->wpAny (model X.prog X.w) X.A (f (.int i t)) Q E s) :
  UnR X f (rU fun i=>.int (g i)):=by
 intro pins s σ H x v Q I rx h
 obtain⟨i,rfl,q⟩:=h
 obtain⟨t,rfl⟩:=rx
 exact rule i t s _ _ ⟨.int (g i),H,I.tok _,⟨_,rfl⟩,q⟩
theorem y3v:UnR X (unaryOp .USub) (rU fun i=>.int (-i)):=unI fun _ _ _ _ _ q=>neg_int q
end
section
variable{X:Cx}{a b c:Expr}{ta tb tc:TE}{pos:Pos}
theorem z9r{pins:List (Addr×Obj)}{σ:St}{H:Hp}{s:Shared}{Q:VK}{k k':Bool}(I:Inv X pins σ H s)(q:Q (.bl k) H)(e:k=k'):EP X pins σ Q (.bool k') s:=by
 subst e
 exact⟨.bl k,H,I,rfl,q⟩
theorem x3s:OpR X (compareOp .Lt) (rI0 fun i j=>.bl (decide (i<j))):=opB0 fun _ _ _ _ _ _ _ q=>lt_int q
theorem x3t:OpR X (compareOp .LtE) (rI0 fun i j=>.bl (decide (i<=j))):=opB0 fun _ _ _ _ _ _ _ q=>le_int q
theorem x3u:OpR X (compareOp .Gt) (rI0 fun i j=>.bl (decide (j<i))):=opB0 fun _ _ _ _ _ _ _ q=>gt_int q
theorem x3v:OpR X (compareOp .GtE) (rI0 fun i j=>.bl (decide (j<=i))):=opB0 fun _ _ _ _ _ _ _ q=>ge_int q
theorem z8h:OpR X (compareOp .In) (fun x y H Q=>∃i j,x=.str i/\y=.str j/\Q (.bl (!(Builtin.Str.occurrences j i 0 j.length 1).isEmpty)) H):=by
 intro pins s σ H x y v u Q I rx ry h
 obtain⟨i,j,rfl,rfl,q⟩:=h
 obtain⟨t,rfl⟩:=rx
 obtain⟨t',rfl⟩:=ry
 exact in_str (z9r I q rfl)
theorem x0o : OpR X (compareOp .Is) (fun x y H Q => y = .non /\ Q (.bl (decide (x = .non))) H) := by
 intro pins s σ H x y v u Q I rx ry h
 obtain ⟨rfl, q⟩ := h
 cases ry
 refine is_none_gen (z9r I q ?_)
 cases x <;> first
  | (cases rx; rfl)
  | (obtain ⟨t, rfl⟩ := rx; rfl)
theorem y6s : OpR X (compareOp .IsNot) (fun x y H Q => y = .non /\ Q (.bl (!decide (x = .non))) H) := by
 intro pins s σ H x y v u Q I rx ry h
 obtain ⟨rfl, q⟩ := h
 cases ry
 refine isnot_none_gen (z9r I q ?_)
 cases x <;> first
  | (cases rx; rfl)
  | (obtain ⟨t, rfl⟩ := rx; rfl)
theorem q0x(b:Expr){op:CmpOp}(h:op≠.In:=by decide)(h2:op≠.NotIn:=by decide):behindInMarks op b=false:=by
 have e1:(op==CmpOp.In)=false:=by cases op<;>first|rfl|exact absurd rfl h
 have e2:(op==CmpOp.NotIn)=false:=by cases op<;>first|rfl|exact absurd rfl h2
 cases b<;>simp[behindInMarks,e1,e2]
theorem y6o{op:CmpOp}{r:R2}(ho:OpR X (compareOp op) r)(ha:PE X a ta)(hb:PE X b tb)(hm:behindInMarks op b=false):PE X (.Compare a [op] [b] pos) (tOp r ta tb):=by
 intro pins s σ H Q I h
 exact wpAny_Compare1 (binT ha hb I h fun v u s2 x y H2 I2 rx ry q=>ho pins s2 σ H2 x y v u Q I2 rx ry q) hm
def y5j(t:TE):TT:=fun σ H Q=>t σ H fun x H'=>∃k,x=.bl k/\Q k H'
theorem y6a{op:CmpOp}{r:R2}(ho:OpR X (compareOp op) r)(ha:PE X a ta)(hb:PE X b tb)(hm:behindInMarks op b=false):PT X (.Compare a [op] [b] pos) (y5j (tOp r ta tb)):=by
 intro pins s σ H Q I h
 refine wpAny_isTrue_Compare1 (thn (ha pins s σ H _ I h) fun v s1 ⟨x,H1,I1,r1,q1⟩=>thn (hb pins s1 σ H1 _ I1 q1) fun u s2 ⟨y,H2,I2,r2,q2⟩=>
  thn (ho pins s2 σ H2 x y v u _ I2 r1 r2 q2) fun c s3 ⟨z,H3,I3,r3,k,e,q3⟩=>?_) hm
 subst e
 cases r3
 exact wpAny_truthy_bool ⟨H3,I3,q3⟩
def y3y(r r':R2)(ta tb tc:TE):TE:=fun σ H Q=>ta σ H fun x H1=>tb σ H1 fun y H2=>r x y H2 fun z H3=>∃k,z=.bl k/\
 (if k=true then tc σ H3 fun w' H4=>r' y w' H4 Q else Q (.bl false) H3)
theorem y1p{op op':CmpOp}{r r':R2}(ho:OpR X (compareOp op) r)(ho':OpR X (compareOp op') r')(ha:PE X a ta)(hb:PE X b tb)(hc:PE X c tc)
  (hm:lastMarks [op,op'] [b,c]=false:=by with_unfolding_all rfl):PT X (.Compare a [op,op'] [b,c] pos) (y5j (y3y r r' ta tb tc)):=by
 intro pins s σ H Q I h
 refine isTrue_chain (thn (ha pins s σ H _ I h) fun v s1 ⟨x,H1,I1,r1,q1⟩=>test_link (thn (hb pins s1 σ H1 _ I1 q1) fun u s2 ⟨y,H2,I2,r2,q2⟩=>
  thn (ho pins s2 σ H2 x y v u _ I2 r1 r2 q2) fun d s3 ⟨z,H3,I3,r3,k,e,q3⟩=>?_)) hm
 subst e
 cases r3
 refine wpAny_truthy_bool ?_
 cases k with
 |false=>
  obtain⟨k',e',q'⟩:=q3
  cases e'
  exact ite_ff ⟨H3,I3,q'⟩
 |true=>
  refine ite_tt (test_last (thn (hc pins s3 σ H3 _ I3 q3) fun w' s4 ⟨z',H4,I4,r4,q4⟩=>thn (ho' pins s4 σ H4 y z' u w' _ I4 r2 r4 q4) fun d' s5 hh1=>?_))
  obtain⟨z2,H5,I5,r5,k2,e2,q5⟩:=hh1
  subst e2
  cases r5
  exact wpAny_truthy_bool ⟨H5,I5,q5⟩
def TruV(K:Frag)(x:V)(H:Hp)(k:Bool):Prop:=
 match x with
 |.non=>k=false
 |.bl b=>k=b
 |.int i=>k=(i != 0)
 |.str y=>y.length<=sizeLine/\k=((y.length:Int) != 0)
 |.byt y=>y.size<=sizeLine/\k=((y.size:Int) != 0)
 |.ref p=>(∃xs,SqL K H p xs/\k=!xs.isEmpty)\/(∃xs,SqT K H p xs/\k=!xs.isEmpty)\/∃kvs,H p=some (.dK kvs)/\k=!kvs.isEmpty
 |_=>False
theorem z6f{κ:Type}{kvs:List (κ×V)}{vs:List (κ×Value)}(r:KV kvs vs):(!vs.isEmpty)=!kvs.isEmpty:=by
 cases r<;>rfl
theorem q8x{xs:List V}{its:List Value}(r:Vals xs its):(!its.toArray.isEmpty)=!xs.isEmpty:=by
 cases r<;>simp
theorem q8s:(sizeLine:Nat)<2 ^ 63:=by rw[sizeLine_eq];decide
theorem y8m:TruR X (fun x H Q=>∃k,TruV X.K x H k/\Q k H):=by
 intro pins s σ H x v Q I rx h
 obtain⟨k,e,q⟩:=h
 have hl:=q8s
 have hs:sizeLine=16777216:=sizeLine_eq
 cases x with
 |non=>
  cases rx
  have e':k=false:=e
  subst e'
  exact truthy_none ⟨H,I,q⟩
 |bl b=>
  cases rx
  have e':k=b:=e
  subst e'
  exact wpAny_truthy_bool ⟨H,I,q⟩
 |int i=>
  obtain⟨t,rfl⟩:=rx
  have e':k=(i != 0):=e
  subst e'
  exact PySem.P.truthy_int ⟨H,I,q⟩
 |str y=>
  obtain⟨t,rfl⟩:=rx
  obtain⟨hy,e'⟩:y.length<=sizeLine/\k=((y.length:Int) != 0):=e
  subst e'
  exact PySem.P.truthy_str (by omega) ⟨H,I.tok _,q⟩
 |byt y=>
  obtain⟨t,rfl⟩:=rx
  obtain⟨hy,e'⟩:y.size<=sizeLine/\k=((y.size:Int) != 0):=e
  subst e'
  exact PySem.W.truthy_bytes (by omega) ⟨H,I.tok _,q⟩
 |ref p=>
  cases rx
  have e':(∃xs,SqL X.K H p xs/\k=!xs.isEmpty)\/(∃xs,SqT X.K H p xs/\k=!xs.isEmpty)\/∃kvs,H p=some (.dK kvs)/\k=!kvs.isEmpty:=e
  rcases e' with⟨xs,hx,e'⟩|⟨xs,hx,e'⟩|⟨kvs,hx,e'⟩
  ·subst e'
   obtain⟨its,r,pl,hz⟩:=I.list hx
   have hlen:=r.length
   exact wpAny_truthy_list pl.isList (by simp only[List.size_toArray];omega) ⟨H,I.tok _,by rw[q8x r];exact q⟩
  ·subst e'
   obtain⟨its,r,pl,hz⟩:=I.tuple hx
   have hlen:=r.length
   exact truthy_tuple pl (by simp only[List.size_toArray];omega) ⟨H,I.tok _,by rw[q8x r];exact q⟩
  ·subst e'
   obtain⟨hz,hS,vs,r,m⟩:kvs.length<=sizeLine/\(p==sysModules)=false/\∃vs,KV kvs vs/\s.heap.DictOf (q1s X.prog X.w) p vs:=I.hok p _ hx
   have hlen:kvs.length=vs.length:=Paired.length r
   exact wpAny_truthy_dict hS m (by omega) ⟨H,I.tok _,by rw[z6f r];exact q⟩
 |_=>exact(show False from e).elim
theorem y1o(ha:PE X a ta)(he:∀whole,isTrue a X.env whole=(do let v <-whole;standAt a.pos;holding [v] (truthy v))) :
  PT X a (fun σ H Q=>ta σ H fun x H'=>∃k,TruV X.K x H' k/\Q k H'):=by
 intro pins s σ H Q I h
 exact isTrue_plain (thn (ha pins s σ H _ I h) fun v s1 hh1=>by obtain⟨x,H1,I1,r1,q1⟩:=hh1;exact(y8m pins s1 σ H1 x v Q I1 r1 q1)) (he _)
theorem z5u:OpR X (binaryOp .Add) (fun x y H Q=>∃i j,x=.str i/\y=.str j/\i.length+j.length<=sizeLine/\Q (.str (i++j)) H):=by
 intro pins s σ H x y v u Q I rx ry h
 obtain⟨i,j,rfl,rfl,hz,q⟩:=h
 obtain⟨t,rfl⟩:=rx
 obtain⟨t',rfl⟩:=ry
 exact add_str (fun t' tk=>⟨.str (i++j),H,I.tok _,⟨_,rfl⟩,q⟩) hz
theorem z3s:OpR X (inplaceOp .Add) (fun x y H Q=>∃i j,x=.str i/\y=.str j/\i.length+j.length<=sizeLine/\Q (.str (i++j)) H):=by
 intro pins s σ H x y v u Q I rx ry h
 obtain⟨i,j,rfl,rfl,hz,q⟩:=h
 obtain⟨t,rfl⟩:=rx
 obtain⟨t',rfl⟩:=ry
 exact iadd_str (fun t' tk=>⟨.str (i++j),H,I.tok _,⟨_,rfl⟩,q⟩) hz
theorem z0q{x:V}{us:List Value}(r:Vals [x] us):∃u,us=[u]/\RelV x u:=by
 cases r with
 |cons r1 r2=>cases r2;exact⟨_,rfl,r1⟩
theorem y0x{x y:V}{us:List Value}(r:Vals [x,y] us):∃u w',us=[u,w']/\RelV x u/\RelV y w':=by
 cases r with
 |cons r1 r2=>
  cases r2 with
  |cons r3 r4=>cases r4;exact⟨_,_,rfl,r1,r3⟩
theorem y0f(hc:X.calm=true):q5a X (.builtin "min") (fun xs H Q=>∃i j,xs=[.int i,.int j]/\Q (.int (if j<i then j else i)) H):=by
 intro pins s σ H xs us Q I r h
 obtain⟨i,j,rfl,q⟩:=h
 obtain⟨u,w',rfl,⟨t,rfl⟩,⟨t',rfl⟩⟩:=y0x r
 refine min_two_ints (I.ok.hd hc) fun h' tk k=>⟨_,H,I.kept k,?_,q⟩
 by_cases hj:j<i
 ·rw[if_pos hj,if_pos hj];exact⟨_,rfl⟩
 ·rw[if_neg hj,if_neg hj];exact⟨_,rfl⟩
theorem z2l:q5a X (.type "int") (fun xs H Q=>(∃i,xs=[.int i]/\Q (.int i) H)\/∃k,xs=[.bl k]/\Q (.int (if k then 1 else 0)) H):=by
 intro pins s σ H xs us Q I r h
 rcases h with⟨i,rfl,q⟩|⟨k,rfl,q⟩
 ·obtain⟨u,rfl,t,rfl⟩:=z0q r
  exact call_int_int ⟨.int i,H,I,⟨_,rfl⟩,q⟩
 ·obtain⟨u,rfl,r1⟩:=z0q r
  cases r1
  exact call_int_bool ⟨.int (if k then 1 else 0),H,I.tok _,⟨_,rfl⟩,q⟩
end
structure ObjM(h:Heap)(x dx C:Addr)(mA:Str->Option Value):Prop where
 obj:h.get? x=some (PySem.W.instObj C dx)
 ns:h.Ns1 dx mA
 ne:dx≠x
theorem z8t{h:Heap}{dx:Addr}{mA:Str->Option Value}(n:h.Ns1 dx mA):∃od,h.get? dx=some od/\∀name,PySem.W.lookIn name od=some (mA name):=by
 obtain⟨o,es,ep,ho,hd,hk,_,hm⟩:=n
 refine⟨o,ho,fun name=>?_⟩
 have e:=hm name
 unfold nsFind findBy at e
 rw[<-Array.find?_toList]at e
 unfold PySem.W.lookIn
 rw[hd]
 dsimp only
 split
 ·rename_i y q
  rw[q]at e
  exact congrArg some e
 ·rename_i q
  rw[q]at e
  have a:es.toList.any (·.refKey)=false:=by
   rw[List.any_eq_false]
   intro y hy
   obtain⟨z,t,hkey⟩:=hk y (Array.mem_toList_iff.mp hy)
   simp[DictEntry.refKey,hkey]
  have a':¬es.toList.any (·.refKey)=true:=by rw[a];exact Bool.false_ne_true
  rw[if_neg a']
  exact congrArg some e
theorem ObjM.look{h:Heap}{x dx C:Addr}{mA:Str->Option Value}(I:ObjM h x dx C mA):∃od,PySem.W.InstAt h x (PySem.W.instObj C dx) C (some od)/\∀name,PySem.W.lookIn name od=some (mA name):=
 let ⟨od,ho,hl⟩:=z8t I.ns
 ⟨od,⟨I.obj,rfl,rfl,ho⟩,hl⟩
section
variable{prog:Program}{w:World}{A:Around}{E:Value->Shared->Prop}{s:Shared}{K:Frag}{x dx C f:Addr}{mA:Str->Option Value}{name:Str}{v:Value}
end
theorem RelO.some_of{v:V}{o:Option Value}(r:RelO (some v) o):∃u,o=some u/\RelV v u:=by
 cases o with
 |none=>exact(show False from r).elim
 |some u=>exact⟨u,rfl,r⟩
section
variable{P:Program}{w:World}{H H':Hp}{h h':Heap}{a C dx:Addr}{fs fs':List (Str×V)}
theorem y7r(hok:HOk P w H h)(e:H a=some (.ins C dx fs)):∃mA,ObjM h a dx C mA/\(∀f,RelO (fs.lookup f) (mA f))/\PySem.Within mA (fs.map (·.1))/\fs.length<=1000/\H dx=some (.own a):=by
 obtain⟨d,z,ne,ob,mA,n,r,q⟩:=(show q2a P w H h a (.ins C dx fs)from hok a _ e)
 exact⟨mA,⟨ob,n,ne⟩,r,q,z,d⟩
end
structure Cls(K:Frag)(C:Addr):Prop where
 pg:PySem.W.plainGet K C Str.empty=true
 hd:PySem.W.hasDictIn K C=true
 po:PySem.W.plainOver K C=true
 sa:PySem.W.findIn K (.ref C) "__setattr__" = some (some (.builtin "object.__setattr__"))
theorem Cls.get{K:Frag}{C:Addr}(c:Cls K C)(f:Str):PySem.W.plainGet K C f=true:=c.pg
structure Con(K:Frag)(C:Addr)(f:Str)(v:V)(u:Value):Prop where
 at_:PySem.W.findIn K (.ref C) f=some (some u)
 rel:RelV v u
 get:PySem.W.specialIn K u "__get__" = some none
 cp:PySem.W.copiedNames.contains f=false
structure Meth(K:Frag)(C:Addr)(m:Str)(f:Addr):Prop where
 at_:PySem.W.findIn K (.ref C) m=some (some (.ref f))
 fn:PySem.W.isFn K (.ref f)=true
 kp:PySem.W.keepIn K (.ref f)=true
section
variable{X:Cx}{pins:List (Addr×Obj)}{σ:St}{H:Hp}{s:Shared}{a C dx:Addr}{fs:List (Str×V)}{f:Str}{v:V}{A:Around}{E:Value->Shared->Prop}
end
section
variable{X:Cx}{o e value:Expr}{f:Str}{pos pos' tpos:Pos}{ta tv:TE}
end
section
variable{X:Cx}{pins:List (Addr×Obj)}{σ:St}{H:Hp}{s:Shared}{A:Around}{E:Value->Shared->Prop}{Q:Value->Shared->Prop}{c:Value}{b:Bool}
inductive TyOf(K:Frag)(H:Hp):V->Value->Prop where
 |non:TyOf K H .non (.type "NoneType")
 |bl (x:Bool):TyOf K H (.bl x) (.type "bool")
 |int (i:Int):TyOf K H (.int i) (.type "int")
 |str (x:Str):TyOf K H (.str x) (.type "str")
 |flt (x:UInt64):TyOf K H (.flt x) (.type "float")
 |lst {a:Addr} {xs:List V} (e:H a=some (.lst xs)):TyOf K H (.ref a) (.type "list")
 |frz {a:Addr} {o:Obj} {xs:List V} (e:H a=some (.frz o (.lst xs))):TyOf K H (.ref a) (.type "list")
 |tup {a:Addr} {xs:List V} (e:H a=some (.tup xs)):TyOf K H (.ref a) (.type "tuple")
 |dK {a:Addr} {kvs:List (Key×V)} (e:H a=some (.dK kvs)):TyOf K H (.ref a) (.type "dict")
 |dT {a:Addr} {kvs:List (List Key×V)} (e:H a=some (.dT kvs)):TyOf K H (.ref a) (.type "dict")
 |ins {a C dx:Addr} {fs:List (Str×V)} (e:H a=some (.ins C dx fs)) (cl:Cls K C) (ha:PySem.W.findIn K (.ref C) "__class__" = some (some (.builtin "object.__class__")))
   (hn:PySem.W.specialIn K (.builtin "object.__class__") "__get__" = some (some (.builtin "getset_descriptor.__get__"))) (htk:PySem.W.takesIn K (.builtin "object.__class__")=some true)
   (hm:PySem.W.mroIn K C (.type "object")=some true):TyOf K H (.ref a) (.ref C)
theorem z1y{x:V}{u t:Value}(I:Inv X pins σ H s)(rx:RelV x u)(ty:TyOf X.K H x t)(e:PySem.W.kitOne X.K t c=some b)(h:∀tk,Q (.bool b) {s with toks:=tk}) :
  wpAny (model X.prog X.w) A (call (.builtin "isinstance") [u,c]) Q E s:=by
 cases ty with
 |non=>cases(show u=Value.none from rx);exact PySem.W.kia_one PySem.W.kitx_none I.kIn True.intro e (fun z=>nomatch z) h
 |bl y=>cases(show u=Value.bool y from rx);exact PySem.W.kia_one PySem.W.kitx_bool I.kIn True.intro e (fun z=>nomatch z) h
 |int i=>obtain⟨t,q⟩:=(show ∃t,u=Value.int i t from rx);cases q;exact PySem.W.kia_one PySem.W.kitx_int I.kIn True.intro e (fun z=>nomatch z) h
 |str y=>obtain⟨t,q⟩:=(show ∃t,u=Value.str y t from rx);cases q;exact PySem.W.kia_one PySem.W.kitx_str I.kIn True.intro e (fun z=>nomatch z) h
 |flt y=>obtain⟨t,q⟩:=(show ∃t,u=Value.float y t from rx);cases q;exact PySem.W.kia_one PySem.W.kitx_float I.kIn True.intro e (fun z=>nomatch z) h
 |@lst a xs ea=>
  cases(show u=Value.ref a from rx)
  obtain⟨_,_,n,_,h1⟩:=(show q2a X.prog X.w H s.heap a (.lst xs)from I.hok a _ ea)
  exact PySem.W.kia_one PySem.W.kitx_list I.kIn ⟨_,h1,rfl⟩ e (fun z=>nomatch z) h
 |@frz a ob xs ea=>
  cases(show u=Value.ref a from rx)
  obtain⟨_,_,_,n,_,h1⟩:=(show q2a X.prog X.w H s.heap a (.frz ob (.lst xs))from I.hok a _ ea)
  exact PySem.W.kia_one PySem.W.kitx_list I.kIn ⟨_,h1,rfl⟩ e (fun z=>nomatch z) h
 |@tup a xs ea=>
  cases(show u=Value.ref a from rx)
  obtain⟨_,_,_,p⟩:=(show q2a X.prog X.w H s.heap a (.tup xs)from I.hok a _ ea)
  obtain⟨o,h1,h2,_⟩:=p
  exact PySem.W.kia_one PySem.W.kitx_tuple I.kIn ⟨o,h1,h2⟩ e (fun z=>nomatch z) h
 |@dK a kvs ea=>
  cases(show u=Value.ref a from rx)
  obtain⟨_,_,vs,_,p⟩:=(show q2a X.prog X.w H s.heap a (.dK kvs)from I.hok a _ ea)
  obtain⟨o,es,ep,h1,h2,_⟩:=p
  exact PySem.W.kia_one PySem.W.kitx_dict I.kIn ⟨o,h1,h2.1⟩ e (fun z=>nomatch z) h
 |@dT a kvs ea=>
  cases(show u=Value.ref a from rx)
  obtain⟨_,_,xs,_,o,es,ep,h1,h2,_⟩:=(show q2a X.prog X.w H s.heap a (.dT kvs)from I.hok a _ ea)
  exact PySem.W.kia_one PySem.W.kitx_dict I.kIn ⟨o,h1,h2.1⟩ e (fun z=>nomatch z) h
 |@ins a C dx fs ea cl ha hn htk hm=>
  cases(show u=Value.ref a from rx)
  obtain⟨mA,O,_⟩:=y7r I.hok ea
  obtain⟨od,J,_⟩:=O.look
  exact PySem.W.kia_one (PySem.W.kitx_own (cl.get _) cl.hd ha hn htk hm) I.kIn J e (fun z=>nomatch z) h
end
structure Room(k:Nat)(A:Around):Prop where
 hd:A.handled=none
 dp:A.depth+3*k+5<recursionLimit
 un:A.units+16*k+200<cLine
theorem Room.mono{j k:Nat}{A:Around}(r:Room k A)(h:j<=k):Room j A:=⟨r.hd,by have:=r.dp;omega,by have:=r.un;omega⟩
theorem Room.deeper{k:Nat}{A:Around}(r:Room (k+1) A)(env:Env):Room k (A.deeper env):=
 ⟨r.hd,by have:=r.dp;show A.depth+1+3*k+5<_;omega,by have:=r.un;show A.units+3+16*k+200<_;omega⟩
structure RoomW(k:Nat)(A:Around):Prop extends Room k A where
 wd:A.units+16*k+210<cLine
theorem Room.deeperW{k:Nat}{A:Around}(r:Room (k+1) A)(env:Env):RoomW k (A.deeper env):=⟨r.deeper env,by have:=r.un;show A.units+3+16*k+210<_;omega⟩
theorem RoomW.in2{k:Nat}{A:Around}(r:RoomW k A):Room k A.in1.in1:=⟨r.hd,by have:=r.dp;show A.depth+3*k+5<_;omega,by have:=r.wd;show A.units+1+1+16*k+200<_;omega⟩
theorem Room.depth{k:Nat}{A:Around}(r:Room k A):A.depth<recursionLimit:=by have:=r.dp;omega
def tNil:TA:=fun _ H Q=>Q [] H
def y8r(ta:TE)(tr:TA):TA:=fun σ H Q=>ta σ H fun x H1=>tr σ H1 fun xs H2=>Q (x::xs) H2
section
variable{X:Cx}{e:Expr}{es:List Expr}{te:TE}{t:TA}{pos:Pos}
theorem z8d:PA X [] tNil:=fun _ _ _ _ H Q I h=>Calls.spliced_nil ⟨[],H,I,.nil,h⟩
theorem z3c(ha:PE X e te)(hr:PA X es t)(hs:starEach (e::es) X.env=(false,eval e X.env)::starEach es X.env:=by rfl):PA X (e::es) (y8r te t):=by
 intro pos pins s σ H Q I h
 rw[hs]
 show wpAny _ _ (spliced ((false,eval e X.env)::backTo pos (starEach es X.env))) _ _ s
 refine Calls.spliced_cons (thn (ha pins s σ H _ I h) fun u s1 hh1=>?_)
 obtain⟨x,H1,I1,r1,q1⟩:=hh1
 exact thn (hr pos pins s1 σ H1 _ I1 q1) fun us s2 hh2=>by obtain⟨xs,H2,I2,r2,q2⟩:=hh2;exact(⟨x::xs,H2,I2,.cons r1 r2,q2⟩)
def tTup(t:TA):TE:=fun σ H Q=>t σ H fun xs H1=>xs.length<=sizeLine/\∀p,H1 p=none->Q (.ref p) (upd H1 p (.tup xs))
def tLst(t:TA):TE:=fun σ H Q=>t σ H fun xs H1=>xs.length<=sizeLine/\∀p,H1 p=none->Q (.ref p) (upd H1 p (.lst xs))
theorem y9v {x1} (h:PA X es t):PE X (.Tuple es x1 pos) (tTup t):=by
 intro pins s σ H Q I hq
 refine wpAny_Tuple_spliced (thn (h pos pins s σ H _ I hq) fun us s1 ⟨xs,H1,I1,r,z,q⟩=>⟨by rw[<-r.length];exact z,?_⟩)
 have hf:H1 s1.heap.objs.size=none:=I1.hok.fresh (Nat.le_refl _)
 refine⟨.ref s1.heap.objs.size,upd H1 s1.heap.objs.size (.tup xs),I1.laid (t':=s1.toks) (fun b u e=>Heap.get?_push_of_some _ e) (Nat.le_refl _) ?_,rfl,q _ hf⟩
 exact⟨z,us,r,⟨_,Heap.get?_push_size _ rfl,rfl,_,rfl⟩⟩
theorem x0a(h:PA X es t):PE X (.List es pos) (tLst t):=by
 intro pins s σ H Q I hq
 refine wpAny_List_spliced (thn (h pos pins s σ H _ I hq) fun us s1 ⟨xs,H1,I1,r,z,q⟩=>⟨by rw[<-r.length];exact z,?_⟩)
 have hf:H1 s1.heap.objs.size=none:=I1.hok.fresh (Nat.le_refl _)
 refine⟨.ref s1.heap.objs.size,upd H1 s1.heap.objs.size (.lst xs),I1.laid (t':=s1.toks) (fun b u e=>Heap.get?_push_of_some _ e) (Nat.le_refl _) ?_,rfl,q _ hf⟩
 exact⟨z,us,0,r,Heap.get?_push_size _ rfl⟩
end
abbrev Sp:=List V->Hp->VK->XK->Prop
abbrev CXT:=List Env->Hp->Shared->XK->Value->Shared->Prop
structure Env0(P:Program)(w:World)(K:Frag)(mg:Str->Option Value)(base:Heap)(A:Around)(outer:List Env)(s:Shared)(H:Hp):Prop where
 frames:A.frames=some outer
 mod:Mod K mg base
 bs:∀b o,base.get? b=some o->s.heap.get? b=some o/\H b=none
 bsz:base.objs.size<=s.heap.objs.size
 funs:s.heap.FunFrames base outer
 frf:∀b∈frs outer,H b=none
 hok:HOk P w H s.heap
 bare:AllBare s.gens
def CE(outer:List Env)(P:Program)(w:World)(H:Hp)(s:Shared)(Q:VK)(u:Value)(s':Shared):Prop:=
 ∃v H',s'.os=s.os/\AllBare s'.gens/\Un (frs outer) [] H H' s.heap s'.heap/\HOk P w H' s'.heap/\RelV v u/\Q v H'
def CR(CX:CXT)(outer:List Env)(P:Program)(w:World)(H:Hp)(s:Shared)(Q:VK)(E:XK)(r:Result)(s':Shared):Prop:=
 match r with
 |.ok (.ret u)=>CE outer P w H s Q u s'
 |.ok _=>False
 |.error e=>CX outer H s E e s'
structure FnOk(P:Program)(w:World)(K:Frag)(mg:Str->Option Value)(base:Heap)(CX:CXT)(k:Nat)(f:Addr)(fd:FuncData)(ps:List Str)(sp:Sp):Prop where
 len:∀vs H Q E,sp vs H Q E->vs.length=ps.length
 run:∀(A:Around)(outer:List Env)(s:Shared)(H:Hp)(args:Args)(us:List Value)(vs:List V)(Q:VK)(E:XK),Room k A->Env0 P w K mg base A outer s H->BindsTo s fd args (ps.zip us)->Vals vs us->sp vs H Q E->
  codeAny (model P w) A (.call (.ref f) args) (CR CX outer P w H s Q E) s
theorem FnOk.mono{P:Program}{w:World}{K:Frag}{mg:Str->Option Value}{base:Heap}{CX:CXT}{j k:Nat}{f:Addr}{fd:FuncData}{ps:List Str}{sp:Sp}(F:FnOk P w K mg base CX j f fd ps sp)(h:j<=k) :
  FnOk P w K mg base CX k f fd ps sp:=⟨F.len,fun A outer s H args us vs Q E hr=>F.run A outer s H args us vs Q E (hr.mono h)⟩
section
variable{X:Cx}{pins:List (Addr×Obj)}{σ:St}{H:Hp}{s s':Shared}
theorem Inv.env0(I:Inv X pins σ H s):Env0 X.prog X.w X.K X.mg X.base X.A X.stack s H:=
 ⟨I.ok.frames,I.ok.mod,I.bs,Nat.le_trans I.ok.bsz I.sz,I.stack,I.stkFree,I.hok,I.bare⟩
theorem Inv.after{Q:VK}{u:Value}(I:Inv X pins σ H s)(h:CE X.stack X.prog X.w H s Q u s'):EP X pins σ Q u s':=by
 obtain⟨v,H',os,bare,un,hok,r,q⟩:=h
 obtain⟨hh,g,d,t,os'⟩:=s'
 obtain rfl:os'=s.os:=os
 exact⟨v,H',I.call (h':=hh) (g':=g) (d':=d) (t':=t) (ch:=[]) un hok bare (fun b z=>absurd z (by simp)),r,q⟩
end
def x3h(sp:Sp)(dvs:List V)(E:XK)(t:TA):TE:=fun σ H Q=>t σ H fun vs H1=>sp (vs++dvs) H1 Q E
def z0j(K:Frag)(fd:FuncData)(ps:List Str)(ds:List Value):Prop:=
 ∀(s:Shared)(us:List Value),K.In s.heap->(us++ds).length=ps.length->BindsTo s fd ⟨us,[]⟩ (ps.zip (us++ds))
theorem z0j.all{K:Frag}{fd:FuncData}{ps:List Str}(h:∀us:List Value,us.length=ps.length->bindArgs fd ⟨us,[]⟩=pure (ps.zip us)):z0j K fd ps []:=fun s us _ hl=>by
 rw[List.append_nil]at hl ⊢
 exact .of_eq (h us hl)
def q4t(CX:CXT)(X:Cx)(E:XK):Prop:=∀(pins:List (Addr×Obj))(σ:St)(H:Hp)(s:Shared)(e:Value)(s':Shared),Inv X pins σ H s->CX X.stack H s E e s'->X.xe e s'
section
variable{X:Cx}{CX:CXT}{k:Nat}{f C:Addr}{fd:FuncData}{ps:List Str}{sp:Sp}{dvs:List V}{ds:List Value}{E:XK}{x m:Str}{p pos apos:Pos}{e o:Expr}{es:List Expr}{ta:TE}{t:TA}
theorem y4c{pins:List (Addr×Obj)}{σ:St}{H:Hp}{s:Shared}{Q:VK}{us:List Value}{vs:List V}(F:FnOk X.prog X.w X.K X.mg X.base CX k f fd ps sp)(hr:Room k X.A)(hb:z0j X.K fd ps ds)(hd:Vals dvs ds)(hx:q4t CX X E)
  (I:Inv X pins σ H s) (r:Vals vs us) (h:sp (vs++dvs) H Q E):wpAny (model X.prog X.w) X.A (call (.ref f) us) (EP X pins σ Q) X.xe s:=by
 have r2:Vals (vs++dvs) (us++ds):=r.append hd
 have hl:(us++ds).length=ps.length:=by rw[<-r2.length];exact F.len _ _ _ _ h
 refine wpAny_call (codeAny_mono (F.run X.A X.stack s H ⟨us,[]⟩ (us++ds) (vs++dvs) Q E hr I.env0 (hb s us I.kIn hl) r2 h) fun r s' hq=>?_)
 cases r with
 |error e=>exact hx pins σ H s e s' I hq
 |ok fl=>
  cases fl with
  |ret u=>exact I.after hq
  |next=>exact False.elim hq
  |brk=>exact False.elim hq
  |cont=>exact False.elim hq
theorem y6p(F:FnOk X.prog X.w X.K X.mg X.base CX k f fd ps sp)(hr:Room k X.A)(hg:Gl X x)(hm:X.mg x=some (.ref f))(hk:PySem.W.keepIn X.K (.ref f)=true)(hb:z0j X.K fd ps ds)(hd:Vals dvs ds)(hx:q4t CX X E)
  (ha:PA X (e::es) t) (hdb:(x==("__debug__" : Str))=false:=by decide) (he:starEach (e::es) X.env=(false,eval e X.env)::starEach es X.env:=by rfl) (hpl:(backTo pos (starEach es X.env)).any (·.1)=false:=by rfl) :
  PE X (.Call (.Name x p) (e::es) [] pos) (x3h sp dvs E t):=by
 intro pins s σ H Q I h
 refine wpAny_Call_Name_kw (q7y I hg hm ?_ hdb)
 refine PySem.W.callWith_K (h₀:=X.base) I.ok.mod.kin hk (thn (ha pos pins s σ H _ I h) fun us s1 ⟨vs,H1,I1,r,q⟩=>⟨I1.kIn,?_⟩) he hpl
 exact y4c F hr hb hd hx I1 r q
structure Mk(K:Frag)(C f:Addr):Prop where
 makes:PySem.W.makesIn K C=true
 init:PySem.W.findIn K (.ref C) "__init__" = some (some (.ref f))
 fn:PySem.W.isFn K (.ref f)=true
 kp:PySem.W.keepIn K (.ref C)=true
end
def PK(X:Cx)(kws:List Keyword)(t:TA):Prop:=
 ∀(pos:Pos)(pins:List (Addr×Obj))(s:Shared)(σ:St)(H:Hp)(Q:List V->Hp->Prop),Inv X pins σ H s->t σ H Q->wpAny (model X.prog X.w) X.A (evalAll ((backToKw pos (keywordEach kws X.env)).map (·.2))) (AP X pins σ Q) X.xe s
section
variable{X:Cx}{CX:CXT}{k:Nat}{f C:Addr}{fd:FuncData}{ps ks:List Str}{sp:Sp}{E:XK}{x m:Str}{p pos apos kpos:Pos}{e o:Expr}{es:List Expr}{kws:List Keyword}{te ta:TE}{t tk:TA}{nm:Option Str}
theorem y9m:PK X [] tNil:=fun _ _ _ _ H Q I h=>wpAny_evalAll_nil ⟨[],H,I,.nil,h⟩
theorem y6h(ha:PE X e te)(hr:PK X kws t):PK X (⟨nm,e,kpos⟩::kws) (y8r te t):=by
 intro pos pins s σ H Q I h
 show wpAny _ _ (evalAll ((do let v <-eval e X.env;standAt pos;pure v)::(backToKw pos (keywordEach kws X.env)).map (·.2))) _ _ s
 refine wpAny_evalAll_cons (wpAny_bind (thn (ha pins s σ H _ I h) fun u s1 ⟨x,H1,I1,r1,q1⟩=>wpAny_bind (wpAny_standAt (wpAny_pure ?_))))
 exact thn (hr pos pins s1 σ H1 _ I1 q1) fun us s2 hh1=>by obtain⟨xs,H2,I2,r2,q2⟩:=hh1;exact(⟨x::xs,H2,I2,.cons r1 r2,q2⟩)
structure KBinds(K:Frag)(fd:FuncData)(ps ks:List Str)(g:List Value->List Value->List Value)(gV:List V->List V->List V):Prop where
 to:∀(s:Shared)(us ws:List Value),K.In s.heap->(g us ws).length=ps.length->BindsTo s fd ⟨us,ks.zip ws⟩ (ps.zip (g us ws))
 rel:∀{vs:List V}{us:List Value}{zs:List V}{ws:List Value},Vals vs us->Vals zs ws->Vals (gV vs zs) (g us ws)
variable{g:List Value->List Value->List Value}{gV:List V->List V->List V}
end
structure FnScope(N P:List Str)(sc:Scope):Prop where
 kind:sc.kind=.function
 co:sc.isCoroutine=false
 gen:sc.isGenerator=false
 nd:N.Nodup
 pre:N.take P.length=P
 par:∀x∈P,sc.names.lookup x=some .local\/sc.names.lookup x=some .cell
 nofree:∀y∈sc.names,y.2≠.free
theorem z2p {kindOf : Str -> Option NameKind} {x : Str} : ∀ {binds : List (Str × Value)} {m : Str -> Option Value}, (∀ v, (x, v) ∉ binds) -> bindL kindOf binds m x = m x
 | [], _, _ => rfl
 | (n, v) :: r, m, h => by
  unfold bindL
  rw [z2p fun w hw => h w (List.mem_cons_of_mem _ hw)]
  split
  ·have : x ≠ n := by rintro rfl; exact h v List.mem_cons_self
   simp [this]
  ·rfl
theorem z2r {kindOf : Str -> Option NameKind} {x : Str} : ∀ {binds : List (Str × Value)} {m : Str -> Option Value}, (∀ v, (x, v) ∉ binds) -> bindC kindOf binds m x = m x
 | [], _, _ => rfl
 | (n, v) :: r, m, h => by
  unfold bindC
  rw [z2r fun w hw => h w (List.mem_cons_of_mem _ hw)]
  split
  ·rfl
  ·have : x ≠ n := by rintro rfl; exact h v List.mem_cons_self
   simp [this]
theorem z2q{kindOf:Str->Option NameKind}{x:Str}{v:Value}:∀{P:List Str}{vs:List Value}{i:Nat}{m:Str->Option Value},P.Nodup->P[i]?=some x->vs[i]?=some v->kindOf x=some .local->
  bindL kindOf (P.zip vs) m x=some v
 |[],_,_,_,_,h,_,_=>by simp at h
 |_::_,[],_,_,_,_,h,_=>by simp at h
 |p::P,w::vs,0,m,nd,h1,h2,hk=>by
  simp at h1 h2;subst h1;subst h2
  show bindL kindOf ((p,w)::P.zip vs) m p=_
  unfold bindL
  rw[z2p fun v hv=>(List.nodup_cons.mp nd).1 (List.of_mem_zip hv).1,if_pos hk]
  simp
 |p::P,w::vs,i+1,m,nd,h1,h2,hk=>by
  show bindL kindOf ((p,w)::P.zip vs) m x=_
  unfold bindL
  exact z2q (i:=i) (List.nodup_cons.mp nd).2 (by simpa using h1) (by simpa using h2) hk
theorem z2s{kindOf:Str->Option NameKind}{x:Str}{v:Value}:∀{P:List Str}{vs:List Value}{i:Nat}{m:Str->Option Value},P.Nodup->P[i]?=some x->vs[i]?=some v->kindOf x≠some .local->
  bindC kindOf (P.zip vs) m x=some v
 |[],_,_,_,_,h,_,_=>by simp at h
 |_::_,[],_,_,_,_,h,_=>by simp at h
 |p::P,w::vs,0,m,nd,h1,h2,hk=>by
  simp at h1 h2;subst h1;subst h2
  show bindC kindOf ((p,w)::P.zip vs) m p=_
  unfold bindC
  rw[z2r fun v hv=>(List.nodup_cons.mp nd).1 (List.of_mem_zip hv).1,if_neg hk]
  simp
 |p::P,w::vs,i+1,m,nd,h1,h2,hk=>by
  show bindC kindOf ((p,w)::P.zip vs) m x=_
  unfold bindC
  exact z2s (i:=i) (List.nodup_cons.mp nd).2 (by simpa using h1) (by simpa using h2) hk
def q7h(N:List Str)(vs:List V):St:=vs.map some++List.replicate (N.length-vs.length) none
def cxOf(CX:CXT)(P:Program)(w:World)(K:Frag)(mg:Str->Option Value)(base:Heap)(N:List Str)(qual:Str)(scope:Scope)(f:Addr)(cd:Value)(A:Around)(outer:List Env)(s:Shared)(H:Hp)(E:XK):Cx where
 prog:=P
 w:=w
 K:=K
 mg:=mg
 base:=base
 A:=A.deeper (envOfC qual scope s.heap.objs.size f cd)
 N:=N
 s₀:=s
 H₀:=H
 env:=envOfC qual scope s.heap.objs.size f cd
 outer:=outer
 stack:=envOfC qual scope s.heap.objs.size f cd::outer
 ex:=[]
 calm:=true
 fn:=fun _=>true
 pn:=[]
 xe:=fun e s'=>wpAny (model P w) (A.deeper (envOfC qual scope s.heap.objs.size f cd)) (leaving (envOfC qual scope s.heap.objs.size f cd) e) (fun _ s''=>CX outer H s E e s'') (fun e' s''=>CX outer H s E e' s'') s'
theorem z4y{sc:Scope}{n:Nat}{x:Str}(h:sc.names.lookup x=some .cell):∃c,(cellsFrom n sc.names []).lookup x=some c:=by
 have q:=PySem.W.cellsFrom_some sc.names n [] (.inl h)
 exact Option.isSome_iff_exists.mp q
theorem z9i{CX:CXT}{P:Program}{w:World}{K:Frag}{mg:Str->Option Value}{base:Heap}{N ps:List Str}{qual:Str}{scope:Scope}{f:Addr}{cd:Value}{A:Around}{outer:List Env}{s s1:Shared}{H:Hp}{E:XK}{us:List Value}{vs:List V}
  (S:FnScope N ps scope) (hd:A.handled=none) (e0:Env0 P w K mg base A outer s H) (hl:vs.length=ps.length) (r:Vals vs us)
  (x:InCallC s s.heap.objs.size (bindL (envOfC qual scope s.heap.objs.size f cd).kindOf (ps.zip us) fun _=>none) (cellsFrom (s.heap.objs.size+1) scope.names []) (bindC (envOfC qual scope s.heap.objs.size f cd).kindOf (ps.zip us) fun _=>none) s1) :
  Inv (cxOf CX P w K mg base N qual scope f cd A outer s H E) [] (q7h N vs) H s1:=by
 have hpl:ps.length<=N.length:=by have:=congrArg List.length S.pre;rw[List.length_take]at this;omega
 obtain⟨h1,tk,rfl,hk⟩:=x.done
 have noA:∀b:Addr,b∉(cxOf CX P w K mg base N qual scope f cd A outer s H E).ex:=fun b z=>absurd (show b∈([]:List Addr)from z) (by simp)
 refine⟨⟨e0.mod,S.kind,rfl,rfl,Nat.le_refl _,fun y z c h1 h2=>?_,fun y hy=>?_,fun y c _ h=>?_,fun _=>hd,Around.frames_deeper e0.frames,.inr ⟨rfl,rfl⟩,fun b z=>absurd z (noA b),e0.bs,e0.bsz,fun b _ _=>noA b,fun b z=>absurd z (noA b),e0.funs,e0.frf⟩,
  rfl,e0.bare,Un.kept hk,⟨_,x.toInCall.ns,fun i y v h1 h2 h3=>?_⟩,fun y c h=>⟨_,x.cell y c h⟩,e0.hok.fresh (Nat.le_refl _),fun y c h=>?_,fun p hp=>absurd (show p∈([]:List (Addr×Obj))from hp) (by simp),e0.hok.kept hk,?_⟩
 ·exact name_of_addr x.apart (PySem.mem_of_lookup h1) (PySem.mem_of_lookup h2)
 ·have hy:scope.names.lookup y=some .cell\/scope.names.lookup y=some .free:=hy
  rcases hy with hy|hy
  ·exact z4y hy
  ·exact absurd rfl (S.nofree _ (PySem.mem_of_lookup hy))
 ·exact Nat.le_of_lt (x.above y c (PySem.mem_of_lookup h))
 ·have hi:i<vs.length:=by
   unfold q7h at h2
   by_cases hi:i<vs.length
   ·exact hi
   ·rw[List.getElem?_append_right (by simpa using hi)]at h2
    rw[List.getElem?_replicate]at h2
    split at h2<;>cases h2
  have ha:vs[i]?=some v:=by
   unfold q7h at h2
   rw[List.getElem?_append_left (by simpa using hi),List.getElem?_map]at h2
   cases e:vs[i]? with
   |none=>rw[e]at h2;cases h2
   |some a=>rw[e]at h2;cases h2;rfl
  obtain⟨u,hu,rv⟩:=r.get ha
  have hp:ps[i]?=some y:=by
   rw[<-S.pre,List.getElem?_take_of_lt (by omega)];exact h1
  have ndP:ps.Nodup:=by rw[<-S.pre];exact S.nd.sublist (List.take_sublist _ _)
  refine⟨u,rv,?_⟩
  rcases S.par y (List.mem_of_getElem? hp)with k|k
  ·exact .inl ⟨k,z2q ndP hp hu k⟩
  ·obtain⟨c,e⟩:=z4y (n:=s.heap.objs.size+1) k
   refine .inr ⟨.inl k,c,e,?_⟩
   have q:=x.cell y c e
   rw[z2s ndP hp hu (by show scope.names.lookup y≠_;rw[k];decide)]at q
   exact q
 ·exact e0.hok.fresh (Nat.le_of_lt (x.above y c (PySem.mem_of_lookup h)))
 ·unfold q7h
  show _=N.length
  rw[List.length_append,List.length_map,List.length_replicate]
  omega
theorem x5a{CX:CXT}{P:Program}{w:World}{K:Frag}{mg:Str->Option Value}{base:Heap}{k:Nat}{f:Addr}{name qual:Str}{params:Arguments}{body:List Stmt}{scope:Scope}{dV kV doc pm cdv ct oc:Value}{an od:Option Addr}
  {osl:Array (Option Value)} {N ps:List Str} {sp:Sp} (lk:K.lookup f=some ⟨oc,od,.func (PySem.W.fnOf name qual params body scope dV kV doc pm an cdv ct),osl⟩) (hcd:PySem.W.codeIn K cdv qual=true) (S:FnScope N ps scope)
  (len:∀vs H Q E,sp vs H Q E->vs.length=ps.length)
  (hbody:∀(A:Around)(outer:List Env)(s:Shared)(H:Hp)(vs:List V)(Q:VK)(E:XK),RoomW k (A.deeper (envOfC qual scope s.heap.objs.size f cdv))->sp vs H Q E->
   ∃t,PSs (cxOf CX P w K mg base N qual scope f cdv A outer s H E) body t/\t {nx:=fun _ H'=>Q .non H',rt:=Q} (q7h N vs) H) :
  FnOk P w K mg base CX (k+1) f (PySem.W.fnOf name qual params body scope dV kV doc pm an cdv ct) ps sp:=by
 refine⟨len,fun A outer s H args us vs Q E hr e0 hb r hsp=>?_⟩
 have hl:=len _ _ _ _ hsp
 have KX:K.In s.heap:=e0.mod.kin.keeps fun b o e=>(e0.bs b o e).1
 have lim:s.heap.NoLimit:=e0.mod.nolimit.keeps fun b o e=>(e0.bs b o e).1
 have hkind:∀y∈ps.zip us,scope.names.lookup y.1=some .local\/(scope.names.lookup y.1=some .cell/\((cellsFrom (s.heap.objs.size+1) scope.names []).lookup y.1).isSome=true):=fun hh1 hy=>by
  obtain⟨n,v⟩:=hh1
  rcases S.par n (List.of_mem_zip hy).1 with q|q
  ·exact .inl q
  ·exact .inr ⟨q,PySem.W.cellsFrom_some _ _ _ (.inl q)⟩
 refine codeAny_call_function hr.depth (KX _ _ lk) rfl S.co S.gen rfl (PySem.W.codeRec_of KX hcd) (hb _ _ _ _ ?_)
 refine wpAny_newFunctionEnv_cells S.kind hkind fun env he s1 x=>?_
 subst he
 refine⟨lim.keeps x.toInCall.keep,codeAny_func ?_⟩
 obtain⟨t,ht,hq⟩:=hbody A outer s H vs Q E (hr.deeperW _) hsp
 have I:Inv (cxOf CX P w K mg base N qual scope f cdv A outer s H E) [] (q7h N vs) H s1:=z9i S hr.hd e0 hl r x
 refine wpAny_mono (ht [] s1 (q7h N vs) H _ I hq) (fun fl s' hs=>?_) fun e s' hs=>hs
 have fin:∀{σ':St}{H':Hp}{v:V}{u:Value},Inv (cxOf CX P w K mg base N qual scope f cdv A outer s H E) [] σ' H' s'->RelV v u->Q v H'->CE outer P w H s Q u s':=
  fun {σ' H' v u} J rv q=>⟨v,H',J.os,J.bare,J.base,J.hok,rv,q⟩
 cases fl with
 |ret u=>
  obtain⟨v,σ',H',J,rv,q⟩:=hs
  exact fin J rv q
 |next=>
  obtain⟨σ',H',J,q⟩:=hs
  exact fin (v:=V.non) (u:=Value.none) J rfl q
 |brk=>
  obtain⟨_,_,_,q⟩:=hs
  exact False.elim q
 |cont=>
  obtain⟨_,_,_,q⟩:=hs
  exact False.elim q
section
variable{X:Cx}{x:Str}{p pos:Pos}{e:Expr}{es:List Expr}{t:TA}{id T:String}{r:List V->Hp->VK->Prop}
def tCB(r:List V->Hp->VK->Prop)(t:TA):TE:=fun σ H Q=>t σ H fun vs H1=>r vs H1 Q
theorem y2a(hc:q5a X (.builtin id) r)(hg:Gl X x)(hm:X.mg x=none)(hv:bootBuiltins x=some (.builtin id))(ha:PA X (e::es) t)(hn:x≠ "__name__" :=by decide)(hdb:(x==("__debug__" : Str))=false:=by decide)
  (he:starEach (e::es) X.env=(false,eval e X.env)::starEach es X.env:=by rfl) (hpl:(backTo pos (starEach es X.env)).any (·.1)=false:=by rfl):PE X (.Call (.Name x p) (e::es) [] pos) (tCB r t):=by
 intro pins s σ H Q I h
 refine wpAny_Call_Name_kw (q6o I hg hm hv ?_ hn hdb)
 exact PyProof.Rows.callWith_builtin1 (thn (ha pos pins s σ H _ I h) fun us s1 hh1=>by obtain⟨vs,H1,I1,r1,q1⟩:=hh1;exact(hc pins s1 σ H1 vs us Q I1 r1 q1)) he hpl
theorem z7z(hc:q5a X (.type T) r)(hg:Gl X x)(hm:X.mg x=none)(hv:bootBuiltins x=some (.type T))(ha:PA X (e::es) t)(hn:x≠ "__name__" :=by decide)(hdb:(x==("__debug__" : Str))=false:=by decide)
  (he:starEach (e::es) X.env=(false,eval e X.env)::starEach es X.env:=by rfl) (hpl:(backTo pos (starEach es X.env)).any (·.1)=false:=by rfl):PE X (.Call (.Name x p) (e::es) [] pos) (tCB r t):=by
 intro pins s σ H Q I h
 refine wpAny_Call_Name_kw (q6o I hg hm hv ?_ hn hdb)
 exact PyProof.Rows.callWith_type1 (thn (ha pos pins s σ H _ I h) fun us s1 hh1=>by obtain⟨vs,H1,I1,r1,q1⟩:=hh1;exact(hc pins s1 σ H1 vs us Q I1 r1 q1)) he hpl
end
end L2
namespace HT
open PySem PyProof.Rows
section
open PySem.SeqAt
open PySem.AutoSeq1 (wpAny_loadPart')
open PySem.MeetsSeq PySem.MeetsSeq2 PySem.MeetsSeq3
end
section
variable{prog:Program}{w:World}{A:Around}{E:Value->Shared->Prop}{s:Shared}
theorem cat_tup{t b:Addr}{vs ws:List Value}{Q:Value->Shared->Prop}(ht:IsTup s.heap t vs.toArray)(hb:IsTup s.heap b ws.toArray)(hv:vs≠[])
  (h1:ws=[]->Q (.ref t) s) (h2:ws≠[]->Q (.ref s.heap.objs.size) {s with heap:=s.heap.push {cls:=.type "tuple",data:=.seq (vs++ws).toArray}})
  (hsz:vs.length+ws.length<=sizeLine):wpAny (model prog w) A (binaryOp .Add (.ref t) (.ref b)) Q E s:=by
 obtain⟨⟨cls,dd,data,sl⟩,ho,hc,n,hd⟩:=id ht
 obtain⟨⟨cls2,dd2,data2,sl2⟩,ho2,hc2,n2,hd2⟩:=id hb
 simp only at hc hd hc2 hd2
 subst hc hd hc2 hd2
 have e:vs.toArray++ws.toArray=(vs++ws).toArray:=by simp
 by_cases hw:ws=[]
 ·exact concat_meets ⟨_,ho,rfl⟩ ⟨_,ho2,rfl⟩ noFill_tuple_add seq_tuple_add PySem.F.slot_tuple_add PySem.F.entry_tuple_add (PySem.F.args_tuple_add_2 _ _)
   (tuple_addW1 t b vs.toArray ws.toArray n n2 dd dd2 sl sl2 (by simpa using hv) (by simp[hw])) ⟨ho,ho2,h1 hw⟩
 ·refine concat_meets ⟨_,ho,rfl⟩ ⟨_,ho2,rfl⟩ noFill_tuple_add seq_tuple_add PySem.F.slot_tuple_add PySem.F.entry_tuple_add (PySem.F.args_tuple_add_2 _ _)
   (tuple_addW2 t b vs.toArray ws.toArray n n2 dd dd2 sl sl2 (by simpa using hv) (by simpa using hw) (by rw[List.size_toArray,List.size_toArray];exact hsz)) ⟨ho,ho2,?_⟩
  rw[e]
  exact h2 hw
def sIx(n d:Nat):Option Int->Nat
 |none=>d
 |some v=>if v<0 then(v+(n:Int)).toNat else min v.toNat n
theorem sIx_none(n d:Nat):sIx n d none=d:=rfl
theorem sIx_nat(n d k:Nat):sIx n d (some (k:Int))=min k n:=by
 show(if(k:Int)<0 then((k:Int)+(n:Int)).toNat else min (k:Int).toNat n)=min k n
 rw[if_neg (by omega),Int.toNat_natCast]
theorem sIx_le(n d:Nat)(hd:d<=n)(o:Option Int):sIx n d o<=n:=by
 cases o with
 |none=>exact hd
 |some v=>
  show(if v<0 then(v+(n:Int)).toNat else min v.toNat n)<=n
  by_cases hv:v<0
  ·rw[if_pos hv];omega
  ·rw[if_neg hv];exact Nat.min_le_right _ _
theorem y0b(v:Int)(n d:Nat):(if v<0 then max (v+(n:Int)) 0 else min v (n:Int))=((sIx n d (some v):Nat):Int):=by
 show(if v<0 then max (v+(n:Int)) 0 else min v (n:Int))=(((if v<0 then(v+(n:Int)).toNat else min v.toNat n):Nat):Int)
 by_cases hv:v<0
 ·simp only[if_pos hv];omega
 ·simp only[if_neg hv];omega
theorem z6m(lo hi:Option Int)(n:Nat):Builtin.Slice.sliceAdjust lo hi 1 (n:Int)=(((sIx n 0 lo:Nat):Int),((sIx n n hi:Nat):Int)):=by
 have h1:¬((1:Int)<0):=by omega
 unfold Builtin.Slice.sliceAdjust
 simp only[h1,if_false]
 refine Prod.ext ?_ ?_
 ·cases lo with
  |none=>rfl
  |some v=>exact y0b v n 0
 ·cases hi with
  |none=>rfl
  |some v=>exact y0b v n n
theorem z5r(i j:Nat):Builtin.Slice.slicePlaces (i:Int) (j:Int) 1=j-i:=by
 unfold Builtin.Slice.slicePlaces
 have h1:(1:Int) > 0:=by omega
 simp only[h1,if_true,Int.ediv_one]
 split<;>omega
theorem q8n{v:Value}{o:Option Int}{Q:Option Int->Shared->Prop}(p:IsPart v o)(h:Q o s):wpAny (model prog w) A (Builtin.Slice.slicePartIndex v) Q E s:=by
 cases p with
 |none=>exact slicePart_none h
 |int i t=>exact slicePart_int h
theorem q6u{sl:Addr}{vl vu:Value}{lo hi:Option Int}{n:Nat}{Q:Int×Int×Nat->Shared->Prop}(hs:s.heap.IsSliceOf sl vl vu .none)(pl:IsPart vl lo)(pu:IsPart vu hi)
  (h:Q (((sIx n 0 lo:Nat):Int),1,sIx n n hi-sIx n 0 lo) s):wpAny (model prog w) A (Builtin.Slice.sliceApplied (.ref sl) (pure (n:Int))) Q E s:=by
 obtain⟨os,hos,hcs,hds⟩:=id hs
 unfold Builtin.Slice.sliceApplied Builtin.Slice.sliceFields
 refine wpAny_bind (wpAny_bind (wpAny_field hos hds (x:=vl) rfl (wpAny_bind (wpAny_field hos hds (x:=vu) rfl (wpAny_bind (wpAny_field hos hds (x:=.none) rfl (wpAny_pure ?_)))))))
 refine wpAny_bind (slicePart_none ?_)
 show wpAny _ _ (if((1:Int)==0)=true then _ else _) _ _ s
 rw[if_neg (by decide)]
 refine wpAny_bind (q8n pl (wpAny_bind (q8n pu (wpAny_bind (wpAny_pure ?_)))))
 show wpAny _ _ (match Builtin.Slice.sliceAdjust lo hi 1 (n:Int)with|(lo,hi)=>pure (lo,(1:Int),Builtin.Slice.slicePlaces lo hi 1)) _ _ s
 rw[z6m lo hi n]
 show wpAny _ _ (pure (((sIx n 0 lo:Nat):Int),(1:Int),Builtin.Slice.slicePlaces ((sIx n 0 lo:Nat):Int) ((sIx n n hi:Nat):Int) 1)) _ _ s
 rw[z5r]
 exact wpAny_pure h
theorem y1v(xs:Array Value)(i k:Nat):((List.range k).filterMap fun(m:Nat)=>xs[((i:Int)+(m:Int)*1).toNat]?).toArray=((xs.toList.drop i).take k).toArray:=by
 have e:(fun(m:Nat)=>xs[((i:Int)+(m:Int)*1).toNat]?)=fun m=>xs[i+m]?:=by
  funext m
  have:((i:Int)+(m:Int)*1).toNat=i+m:=by omega
  rw[this]
 rw[e]
 have:=pick_run xs i k
 rw[List.filterMap_map]at this
 have e2:((fun x=>xs[x]?)∘fun x=>i+x)=fun m=>xs[i+m]?:=rfl
 rw[e2]at this
 rw[this]
theorem getItem_tuple_cut{t sl:Addr}{items:Array Value}{vl vu:Value}{lo hi:Option Int}{Q:Value->Shared->Prop}(ht:IsTup s.heap t items)(hs:s.heap.IsSliceOf sl vl vu .none)(pl:IsPart vl lo)(pu:IsPart vu hi)
  (hw:¬(sIx items.size 0 lo=0/\sIx items.size items.size hi=items.size))
  (h:Q (.ref s.heap.objs.size) {s with heap:=s.heap.push {cls:=.type "tuple",data:=.seq ((items.toList.drop (sIx items.size 0 lo)).take (sIx items.size items.size hi-sIx items.size 0 lo)).toArray}})
  (hsz:items.size<=sizeLine):wpAny (model prog w) A (getItem (.ref t) (.ref sl)) Q E s:=by
 have htake:sizeOk (.seq ((items.toList.drop (sIx items.size 0 lo)).take (sIx items.size items.size hi-sIx items.size 0 lo)).toArray):=by
  show((items.toList.drop (sIx items.size 0 lo)).take (sIx items.size items.size hi-sIx items.size 0 lo)).toArray.size<=sizeLine
  rw[List.size_toArray,List.length_take,List.length_drop,Array.length_toList]
  omega
 have hj:sIx items.size items.size hi<=items.size:=sIx_le _ _ (Nat.le_refl _) hi
 obtain⟨os,hos,hcs,hds⟩:=id hs
 have hTs:s.TypeIs (.ref sl) "slice" :=⟨os,hos,hcs⟩
 unfold getItem
 try with_reducible refine wpAny_holding ?_
 first|refine wpAny_bind (wpAny_pure ?_)|skip
 refine wpAny_bind (wpAny_sequenceKey ht.typeIs (by decide) ?_)
 refine wpAny_bind (wpAny_callSpecial?_slot (name:=Str.ofString "__getitem__") ht.typeIs PyProof.Rows.slot_tuple_getitem
  (wpAny_call_entry PyProof.Rows.slot_tuple_getitem ht.typeIs entry_tuple_getitem ?_ (args_tuple_getitem _ _)))
 show wpAny _ _ (Builtin.Tuple.tupleItemsOf (.ref t) >>= _) _ _ s
 refine wpAny_bind (tupleItemsOf_ ht ?_)
 refine wpAny_bind (wpAny_typeOf hTs ?_)
 rw[if_pos (by decide)]
 refine wpAny_bind (q6u hs pl pu ?_)
 have hno:¬((((sIx items.size 0 lo:Nat):Int)==0&&(1:Int)==1&&(sIx items.size items.size hi-sIx items.size 0 lo)==items.size)=true):=by
  intro q
  rw[Bool.and_eq_true,Bool.and_eq_true]at q
  have q1:((sIx items.size 0 lo:Nat):Int)=0:=eq_of_beq q.1.1
  have q2:sIx items.size items.size hi-sIx items.size 0 lo=items.size:=eq_of_beq q.2
  exact hw ⟨by omega,by omega⟩
 show wpAny _ _ (if(((sIx items.size 0 lo:Nat):Int)==0&&(1:Int)==1&&(sIx items.size items.size hi-sIx items.size 0 lo)==items.size)=true then _ else _) _ _ s
 rw[if_neg hno,y1v]
 first
  |exact wpAny_bind (m:=Builtin.Tuple.tupleExact _) (wpAny_newObj_type (wpAny_pure ⟨_,rfl,wpAny_pure h⟩) htake)
  |exact wpAny_bind (m:=Builtin.Tuple.tupleExact _) (wpAny_newObj_type (wpAny_bind (wpAny_pure (wpAny_pure ⟨_,rfl,wpAny_pure h⟩))) htake)
  |exact wpAny_bind (wpAny_bind (m:=Builtin.Tuple.tupleExact _) (wpAny_newObj_type (wpAny_pure (wpAny_pure ⟨_,rfl,wpAny_pure h⟩)) htake))
  |exact wpAny_bind (wpAny_bind (m:=Builtin.Tuple.tupleExact _) (wpAny_newObj_type (wpAny_pure ⟨_,rfl,wpAny_pure h⟩) htake))
end
end HT
namespace L2
open PySem PySem.Spec PyProof.Rows
abbrev TO:=St->Hp->(Option Int->Hp->Prop)->Prop
def PO(X:Cx)(e:Option Expr)(t:TO):Prop:=
 ∀(pins:List (Addr×Obj))(s:Shared)(σ:St)(H:Hp)(Q:Option Int->Hp->Prop),Inv X pins σ H s->t σ H Q->
  wpAny (model X.prog X.w) X.A (evalPart e X.env) (fun u s'=>∃o H',Inv X pins σ H' s'/\IsPart u o/\Q o H') X.xe s
def y5k:TO:=fun _ H Q=>Q none H
def x3b(t:TE):TO:=fun σ H Q=>t σ H fun x H1=>∃i,x=.int i/\Q (some i) H1
section
variable{X:Cx}{e:Expr}{te:TE}{lo hi:Option Expr}{tl th:TO}{pos p2:Pos}
theorem y6g:PO X none y5k:=by
 intro pins s σ H Q I h
 rw[evalPart_none]
 exact wpAny_pure ⟨none,H,I,.none,h⟩
theorem z7t(h:PE X e te):PO X (some e) (x3b te):=by
 intro pins s σ H Q I hw
 rw[evalPart_some]
 refine thn (h pins s σ H _ I hw) fun u s1 hh1=>?_
 obtain⟨x,H1,I1,r1,q1⟩:=hh1
 obtain⟨i,rfl,q⟩:=q1
 obtain⟨t,rfl⟩:=r1
 exact⟨some i,H1,I1,.int i t,q⟩
def SlR(X:Cx)(r:V->Option Int->Option Int->Hp->VK->Prop):Prop:=
 ∀(pins:List (Addr×Obj))(s:Shared)(σ:St)(H:Hp)(x:V)(v vl vu:Value)(lo hi:Option Int)(sl:Addr)(Q:VK),Inv X pins σ H s->RelV x v->s.heap.IsSliceOf sl vl vu .none->IsPart vl lo->IsPart vu hi->r x lo hi H Q->
  ∃T id,typeLookup (.type T) "__getitem__" = pure (some (.builtin id))/\s.TypeIs v T/\wpAny (model X.prog X.w) X.A (getItem v (.ref sl)) (EP X pins σ Q) X.xe s
def tSl(r:V->Option Int->Option Int->Hp->VK->Prop)(te:TE)(tl th:TO):TE:=fun σ H Q=>te σ H fun x H1=>tl σ H1 fun l H2=>th σ H2 fun u H3=>r x l u H3 Q
theorem y1y{r:V->Option Int->Option Int->Hp->VK->Prop}(hr:SlR X r)(he:PE X e te)(hl:PO X lo tl)(hu:PO X hi th):PE X (.Subscript e (.Slice lo hi none p2) pos) (tSl r te tl th):=by
 intro pins s σ H Q I h
 refine Subscript_ (thn (he pins s σ H _ I h) fun v s1 hh1=>?_)
 obtain⟨x,H1,I1,r1,q1⟩:=hh1
 refine wpAny_Slice (thn (hl pins s1 σ H1 _ I1 q1) fun vl s2 ⟨l,H2,I2,pl,q2⟩=>thn (hu pins s2 σ H2 _ I2 q2) fun vu s3 hh2=>?_)
 obtain⟨u,H3,I3,pu,q3⟩:=hh2
 rw[evalPart_none]
 refine wpAny_pure ?_
 have I4:Inv X pins σ H3 {s3 with heap:=s3.heap.push {cls:=.type "slice",data:=.fields #[vl,vu,.none]}}:=I3.kept (t':=s3.toks) fun b ob q=>Heap.get?_push_of_some _ q
 obtain⟨T,id,hT,ht,hg⟩:=hr pins {s3 with heap:=s3.heap.push {cls:=.type "slice",data:=.fields #[vl,vu,.none]}} σ H3 x v vl vu l u s3.heap.objs.size Q I4 r1 (Heap.IsSliceOf.new ..) pl pu q3
 show wpAny (model X.prog X.w) X.A (subscriptTail e (.Slice lo hi none p2) v (.ref s3.heap.objs.size)) (EP X pins σ Q) X.xe {s3 with heap:=s3.heap.push {cls:=.type "slice",data:=.fields #[vl,vu,.none]}}
 exact tail_any (ops:=[.ref s3.heap.objs.size,v]) ht hT hg (by with_unfolding_all rfl)
def cutV(xs:List V)(lo hi:Option Int):List V:=(xs.drop (HT.sIx xs.length 0 lo)).take (HT.sIx xs.length xs.length hi-HT.sIx xs.length 0 lo)
theorem q8d(xs:List V)(lo hi:Option Int):(cutV xs lo hi).length<=xs.length:=by
 unfold cutV
 rw[List.length_take,List.length_drop]
 omega
def rSlT(K:Frag):V->Option Int->Option Int->Hp->VK->Prop:=fun x lo hi H Q=>∃a xs,x=.ref a/\SqT K H a xs/\
 ¬(HT.sIx xs.length 0 lo=0/\HT.sIx xs.length xs.length hi=xs.length)/\∀p,H p=none->Q (.ref p) (upd H p (.tup (cutV xs lo hi)))
theorem y8u:SlR X (rSlT X.K):=by
 intro pins s σ H x v vl vu lo hi sl Q I rx hs pl pu h
 obtain⟨a,xs,rfl,hx,hw,q⟩:=h
 cases rx
 obtain⟨its,r,ht,hz⟩:=I.tuple hx
 have hlen:its.toArray.size=xs.length:=by rw[List.size_toArray];exact r.length.symm
 refine⟨"tuple",_,PyProof.Rows.slot_tuple_getitem.lookup,ht.typeIs,?_⟩
 refine HT.getItem_tuple_cut ht hs pl pu (by rw[hlen];exact hw) ?_ (by rw[hlen];exact hz)
 rw[hlen]
 refine⟨.ref s.heap.objs.size,_,I.laid (t':=s.toks) (o:=.tup (cutV xs lo hi)) (fun b ob q=>Heap.get?_push_of_some _ q) (Nat.le_refl _) ?_,rfl,q _ (I.hok.fresh (Nat.le_refl _))⟩
 exact⟨Nat.le_trans (q8d xs lo hi) hz,_,(r.drop (HT.sIx xs.length 0 lo)).take (HT.sIx xs.length xs.length hi-HT.sIx xs.length 0 lo),IsTup.new _ _⟩
def y9b(K:Frag):R2:=fun x y H Q=>∃a b xs ys,x=.ref a/\y=.ref b/\SqT K H a xs/\SqT K H b ys/\xs≠[]/\xs.length+ys.length<=sizeLine/\
 (ys=[]->Q (.ref a) H)/\(ys≠[]->∀p,H p=none->Q (.ref p) (upd H p (.tup (xs++ys))))
theorem Vals.nil_iff{xs:List V}{us:List Value}(r:Vals xs us):us=[]↔xs=[]:=by
 cases r with
 |nil=>simp
 |cons _ _=>simp
theorem y6t:OpR X (binaryOp .Add) (y9b X.K):=by
 intro pins s σ H x y v u Q I rx ry h
 obtain⟨a,b,xs,ys,rfl,rfl,ha,hb,hx,hz,q1,q2⟩:=h
 cases rx
 cases ry
 obtain⟨its,r1,p1,_⟩:=I.tuple ha
 obtain⟨its2,r2,p2,_⟩:=I.tuple hb
 refine HT.cat_tup p1 p2 (fun z=>hx (r1.nil_iff.mp z)) (fun z=>⟨.ref a,H,I,rfl,q1 (r2.nil_iff.mp z)⟩) (fun z=>?_) (by rw[<-r1.length,<-r2.length];exact hz)
 refine⟨.ref s.heap.objs.size,_,I.laid (t':=s.toks) (o:=.tup (xs++ys)) (fun b ob q=>Heap.get?_push_of_some _ q) (Nat.le_refl _) ?_,rfl,q2 (fun w=>z (r2.nil_iff.mpr w)) _ (I.hok.fresh (Nat.le_refl _))⟩
 exact⟨by rw[List.length_append];exact hz,_,r1.append r2,IsTup.new _ _⟩
end
def ixN(n:Nat)(i:Int):Option Nat:=if 0<=i then(if i<n then some i.toNat else none)else if -(n:Int)<=i then some (i+n).toNat else none
def atI{α:Type}(xs:List α)(i:Int):Option α:=(ixN xs.length i).bind fun j=>xs[j]?
theorem z9f{n:Nat}{i:Int}{j:Nat}(h:ixN n i=some j):seqIndex? i n=some j/\j<n/\-(n:Int)<=i/\i<n:=by
 unfold ixN at h
 by_cases h0:0<=i
 ·rw[if_pos h0]at h
  by_cases h1:i<n
  ·rw[if_pos h1]at h
   have e:i.toNat=j:=Option.some.inj h
   exact⟨by rw[seqIndex_of h0 h1,e],by omega,by omega,h1⟩
  ·rw[if_neg h1]at h;cases h
 ·rw[if_neg h0]at h
  by_cases h1:-(n:Int)<=i
  ·rw[if_pos h1]at h
   have e:(i+n).toNat=j:=Option.some.inj h
   exact⟨by rw[seqIndex_neg (by omega) h1,e],by omega,h1,by omega⟩
  ·rw[if_neg h1]at h;cases h
theorem z3z{α:Type}{xs:List α}{i:Int}{v:α}(h:atI xs i=some v):∃j,seqIndex? i xs.length=some j/\xs[j]?=some v/\j<xs.length/\-(xs.length:Int)<=i/\i<xs.length:=by
 unfold atI at h
 cases e:ixN xs.length i with
 |none=>rw[e]at h;cases h
 |some j=>
  rw[e]at h
  obtain⟨h1,h2,h3,h4⟩:=z9f e
  exact⟨j,h1,h,h2,h3,h4⟩
theorem y8d{α:Type}{xs:List α}{j:Nat}{v:α}(h:xs[j]?=some v):atI xs (j:Int)=some v:=by
 have hj:j<xs.length:=(List.getElem?_eq_some_iff.mp h).1
 have e:ixN xs.length (j:Int)=some j:=by
  unfold ixN
  rw[if_pos (by omega),if_pos (by omega)];simp
 unfold atI;rw[e];exact h
theorem q7g{α:Type}(xs:List α)(v:α):atI (xs++[v]) (-1)=some v:=by
 have hl:(xs++[v]).length=xs.length+1:=by simp
 have e:ixN (xs++[v]).length (-1)=some xs.length:=by
  unfold ixN
  rw[hl,if_neg (by decide),if_pos (by omega)]
  congr 1
  omega
 unfold atI
 rw[e]
 show(xs++[v])[xs.length]?=some v
 simp
def z4a(b:Expr):Prop:=∀o i,subscripted b false o i=operate [o,i] (getItem o i)
def IxR(X:Cx)(r:R2):Prop:=
 ∀(value slice:Expr)(pins:List (Addr×Obj))(s:Shared)(σ:St)(H:Hp)(x y:V)(v u:Value)(Q:VK),Inv X pins σ H s->RelV x v->RelV y u->r x y H Q->
  subscripted slice false v u=operate [v,u] (getItem v u)->wpAny (model X.prog X.w) X.A (subscriptTail value slice v u) (EP X pins σ Q) X.xe s
def MtR(X:Cx)(id:String)(r:V->List V->Hp->VK->Prop):Prop:=
 ∀(pins:List (Addr×Obj))(s:Shared)(σ:St)(H:Hp)(x:V)(xs:List V)(v:Value)(us:List Value)(Q:VK),Inv X pins σ H s->RelV x v->Vals xs us->r x xs H Q->
  wpAny (model X.prog X.w) X.A (call (.builtin id) (v::us)) (EP X pins σ Q) X.xe s
section
variable{X:Cx}{a b:Expr}{ta tb:TE}{pos:Pos}
theorem x0b{r:R2}(hr:IxR X r)(ha:PE X a ta)(hb:PE X b tb)(hs:z4a b):PE X (.Subscript a b pos) (tOp r ta tb):=by
 intro pins s σ H Q I h
 exact Subscript_ (binT ha hb I h fun v u s2 x y H2 I2 rx ry q=>hr a b pins s2 σ H2 x y v u Q I2 rx ry q (hs _ _))
def rIxL(K:Frag):R2:=fun x y H Q=>∃p xs i v,x=.ref p/\y=.int i/\SqL K H p xs/\atI xs i=some v/\Q v H
def rIxT(K:Frag):R2:=fun x y H Q=>∃p xs i v,x=.ref p/\y=.int i/\SqT K H p xs/\atI xs i=some v/\Q v H
def rIxS:R2:=fun x y H Q=>∃z i c,x=.str z/\y=.int i/\z.length<=sizeLine/\atI z.cps.toList i=some c/\Q (.str ⟨#[c]⟩) H
theorem z9e:IxR X (rIxL X.K):=by
 intro value slice pins s σ H x y v u Q I rx ry h hs
 obtain⟨p,xs,i,z,rfl,rfl,hq,he,q⟩:=h
 cases rx
 obtain⟨t,rfl⟩:=ry
 obtain⟨its,r,pl,hz⟩:=I.list hq
 obtain⟨j,h1,h2,h3,h4,h5⟩:=z3z he
 obtain⟨w,ew,rw'⟩:=r.get h2
 have hl:=r.length
 have hn:=q8s
 have fin:EP X pins σ Q w s:=⟨z,H,I,rw',q⟩
 by_cases h0:0<=i
 ·have hj:i.toNat=j:=by
   rw[seqIndex_of h0 h5]at h1
   exact Option.some.inj h1
  exact item_listR pl.isList h0 (by omega) (by rw[hj];simpa using ew) fin hs
 ·have hj:(i+(its.toArray.size:Int)).toNat=j:=by
   rw[seqIndex_neg (by omega) h4]at h1
   rw[List.size_toArray,<-hl]
   exact Option.some.inj h1
  exact subscriptTail_builtinR (x:=w) pl.isList.typeIs slot_list_getitem.lookup
   (wpAny_getItem_list_neg (Q:=fun r s'=>r=w/\EP X pins σ Q r s') pl.isList (by omega) (by rw[List.size_toArray]<;>omega) (by omega) (by rw[hj];simpa using ew) ⟨rfl,fin⟩) hs
theorem x1p:IxR X (rIxT X.K):=by
 intro value slice pins s σ H x y v u Q I rx ry h hs
 obtain⟨p,xs,i,z,rfl,rfl,hq,he,q⟩:=h
 cases rx
 obtain⟨t,rfl⟩:=ry
 obtain⟨its,r,pl,hz⟩:=I.tuple hq
 obtain⟨j,h1,h2,h3,h4,h5⟩:=z3z he
 obtain⟨w,ew,rw'⟩:=r.get h2
 have hl:=r.length
 have hn:=q8s
 have fin:EP X pins σ Q w s:=⟨z,H,I,rw',q⟩
 exact subscriptTail_builtinR (x:=w) pl.typeIs slot_tuple_getitem.lookup
  (getItem_tuple (j:=j) (Q:=fun r s'=>r=w/\EP X pins σ Q r s') pl (by omega) (by omega) (by rw[List.size_toArray,<-hl];exact h1) (by simpa using ew) ⟨rfl,fin⟩) hs
theorem x1q:IxR X rIxS:=by
 intro value slice pins s σ H x y v u Q I rx ry h hs
 obtain⟨z,i,c,rfl,rfl,hz,he,q⟩:=h
 obtain⟨t,rfl⟩:=rx
 obtain⟨t',rfl⟩:=ry
 obtain⟨j,h1,h2,h3,h4,h5⟩:=z3z he
 have hl:z.cps.toList.length=z.length:=by simp[Str.length]
 rw[hl]at h1 h4 h5
 have hn:=q8s
 exact tail_any (typeIs_str s z t) slot_str_getitem.lookup (getItem_str (c:=c) (by
  have e1:decide (i < -(2 ^ 63:Int))=false:=decide_eq_false (by omega)
  have e2:decide (i>=2 ^ 63)=false:=decide_eq_false (by omega)
  rw [e1,e2,Bool.or_false]) (by rw [h1];simpa using h2) ⟨.str ⟨#[c]⟩,H,I.tok _,⟨_,rfl⟩,q⟩) hs
theorem Inv.lst{pins:List (Addr×Obj)}{σ:St}{H:Hp}{s:Shared}{p:Addr}{xs:List V}(I:Inv X pins σ H s)(h:H p=some (.lst xs)) :
  ∃(its:List Value)(n:Nat),Vals xs its/\s.heap.get? p=some {cls:=.type "list",data:=.seq its.toArray n}/\xs.length<=sizeLine:=by
 obtain⟨z,its,n,r,e⟩:=I.hok p _ h
 exact⟨its,n,r,e,z⟩
theorem z0w(lo hi:Option Int)(n:Nat):(sliceBounds lo hi none n).1=((HT.sIx n 0 lo:Nat):Int)/\(sliceBounds lo hi none n).2.1=((HT.sIx n n hi:Nat):Int)/\(sliceBounds lo hi none n).2.2=1:=by
 refine⟨?_,?_,rfl⟩
 ·cases lo with
  |none=>simp[sliceBounds,HT.sIx]
  |some i=>
   simp only[sliceBounds,HT.sIx,Option.getD_none,show(1:Int) > 0 by decide,if_true]
   by_cases h:i<0
   ·simp only[h,if_true]<;>omega
   ·simp only[h,if_false]<;>omega
 ·cases hi with
  |none=>simp[sliceBounds,HT.sIx]
  |some i=>
   simp only[sliceBounds,HT.sIx,Option.getD_none,show(1:Int) > 0 by decide,if_true]
   by_cases h:i<0
   ·simp only[h,if_true]<;>omega
   ·simp only[h,if_false]<;>omega
theorem q9k(its:List Value)(lo hi:Option Int):slicePick its.toArray lo hi none=((its.drop (HT.sIx its.length 0 lo)).take (HT.sIx its.length its.length hi-HT.sIx its.length 0 lo)).toArray:=by
 obtain⟨h1,h2,h3⟩:=z0w lo hi its.toArray.size
 unfold slicePick
 rw[h1,h2,h3]
 simp only[sliceRange_one,pick_run,List.size_toArray]<;>rfl
def rSlL(K:Frag):V->Option Int->Option Int->Hp->VK->Prop:=fun x lo hi H Q=>∃a xs,x=.ref a/\SqL K H a xs/\∀p,H p=none->Q (.ref p) (upd H p (.lst (cutV xs lo hi)))
theorem z7g:SlR X (rSlL X.K):=by
 intro pins s σ H x v vl vu lo hi sl Q I rx hs pl pu h
 obtain⟨a,xs,rfl,hx,q⟩:=h
 cases rx
 obtain⟨its,r,ht,hz⟩:=I.list hx
 have hlen:=r.length
 refine⟨"list",_,slot_list_getitem.lookup,ht.isList.typeIs,?_⟩
 refine wpAny_getItem_list_slice ht.isList hs pl pu .none (by simp) ?_ (by rw[List.size_toArray]<;>omega)
 rw[q9k,<-hlen]
 refine⟨.ref s.heap.objs.size,_,I.laid (t':=s.toks) (o:=.lst (cutV xs lo hi)) (fun b ob q=>Heap.get?_push_of_some _ q) (Nat.le_refl _) ?_,rfl,q _ (I.hok.fresh (Nat.le_refl _))⟩
 exact⟨Nat.le_trans (q8d xs lo hi) hz,_,0,(r.drop (HT.sIx xs.length 0 lo)).take (HT.sIx xs.length xs.length hi-HT.sIx xs.length 0 lo),Heap.get?_push_size _ rfl⟩
theorem z1e:OpR X (compareOp .NotIn) (fun x y H Q=>∃i j,x=.str i/\y=.str j/\Q (.bl (!(!(Builtin.Str.occurrences j i 0 j.length 1).isEmpty))) H):=by
 intro pins s σ H x y v u Q I rx ry h
 obtain⟨i,j,rfl,rfl,q⟩:=h
 obtain⟨t,rfl⟩:=rx
 obtain⟨t',rfl⟩:=ry
 exact notIn_str ⟨.bl _,H,I,rfl,q⟩
theorem q5g:q5a X (.builtin "len") (fun xs H Q=>∃p ys,xs=[.ref p]/\(SqL X.K H p ys\/SqT X.K H p ys)/\Q (.int ys.length) H):=by
 intro pins s σ H xs us Q I r h
 obtain⟨p,ys,rfl,hq,q⟩:=h
 obtain⟨u,rfl,rx⟩:=z0q r
 cases rx
 have hn:=q8s
 rcases hq with hq|hq
 ·obtain⟨its,r',pl,hz⟩:=I.list hq
  have hlen:=r'.length
  exact Calls.call_len_list pl.isList (by simp only[List.size_toArray]<;>omega) ⟨.int ys.length,H,I.tok _,⟨s.toks+1,by rw[List.size_toArray,hlen]⟩,q⟩
 ·obtain⟨its,r',pl,hz⟩:=I.tuple hq
  have hlen:=r'.length
  exact len_tuple pl (by simp only[List.size_toArray]<;>omega) ⟨.int ys.length,H,I.tok _,⟨s.toks+1,by rw[List.size_toArray,hlen]⟩,q⟩
theorem z2k:q5a X (.builtin "len") (fun xs H Q=>∃z,xs=[.str z]/\z.length<=sizeLine/\Q (.int z.length) H):=by
 intro pins s σ H xs us Q I r h
 obtain⟨z,rfl,hz,q⟩:=h
 obtain⟨u,rfl,t,rfl⟩:=z0q r
 have hn:=q8s
 exact len_str (by omega) ⟨.int z.length,H,I.tok _,⟨_,rfl⟩,q⟩
theorem q5f:q5a X (.type "list") (fun xs H Q=>∃p ys,xs=[.ref p]/\(SqL X.K H p ys\/SqT X.K H p ys)/\∀l,H l=none->Q (.ref l) (upd H l (.lst ys))):=by
 intro pins s σ H xs us Q I r h
 obtain⟨p,ys,rfl,hq,q⟩:=h
 obtain⟨u,rfl,rx⟩:=z0q r
 cases rx
 have fin:∀(its:List Value),Vals ys its->ys.length<=sizeLine->∀(h':Heap)(c':Nat),(∀b o',s.heap.get? b=some o'->h'.get? b=some o')->
   h'.get? s.heap.objs.size=some {cls:=.type "list",dict:=none,data:=.seq its.toArray c',slots:=#[]}->EP X pins σ Q (.ref s.heap.objs.size) {s with heap:=h' }:=fun its r' hz h' c' kp e=>
  ⟨.ref s.heap.objs.size,_,I.laid (t':=s.toks) kp (Nat.le_refl _) (show q2a X.prog X.w _ h' _ (.lst ys)from⟨hz,its,c',r',e⟩),rfl,q _ (I.hok.fresh (Nat.le_refl _))⟩
 rcases hq with hq|hq
 ·obtain⟨its,r',pl,hz⟩:=I.list hq
  have hlen:=r'.length
  obtain⟨o,ho,hc,n,hd⟩:=pl.isList
  exact call_list_seq p (.inl rfl) ho hc hd (fun h' c' kp e=>fin its r' hz h' c' kp e) (by simp only[List.size_toArray]<;>omega)
 ·obtain⟨its,r',pl,hz⟩:=I.tuple hq
  have hlen:=r'.length
  obtain⟨o,ho,hc,n,hd⟩:=pl
  exact call_list_seq p (.inr rfl) ho hc hd (fun h' c' kp e=>fin its r' hz h' c' kp e) (by simp only[List.size_toArray]<;>omega)
theorem q6d:q5a X (.type "tuple") (fun xs H Q=>∃p ys,xs=[.ref p]/\((SqL X.K H p ys/\∀l,H l=none->Q (.ref l) (upd H l (.tup ys)))\/(SqT X.K H p ys/\Q (.ref p) H))):=by
 intro pins s σ H xs us Q I r h
 obtain⟨p,ys,rfl,h⟩:=h
 obtain⟨u,rfl,rx⟩:=z0q r
 cases rx
 rcases h with⟨hq,q⟩|⟨hq,q⟩
 ·obtain⟨its,r',pl,hz⟩:=I.list hq
  have hlen:=r'.length
  refine call_tuple_list pl.isList (fun h' kp=>?_) (by simp only[List.size_toArray]<;>omega)
  have I1:Inv X pins σ H {s with heap:=h' }:=I.kept (t':=s.toks) kp
  have I2:Inv X pins σ (upd H h'.objs.size (.tup ys)) {s with heap:=h'.push {cls:=.type "tuple",data:=.seq its.toArray}}:=
   I1.laid (t':=s.toks) (fun b o e=>Heap.get?_push_of_some _ e) (Nat.le_refl _) (show q2a X.prog X.w _ _ _ (.tup ys)from⟨hz,its,r',IsTup.new _ _⟩)
  exact⟨.ref h'.objs.size,_,I2,rfl,q _ (I1.hok.fresh (Nat.le_refl _))⟩
 ·obtain⟨its,r',pl,hz⟩:=I.tuple hq
  exact call_tuple_same pl ⟨.ref p,H,I,rfl,q⟩
def tyV(K:Frag)(T:String)(x:V)(H:Hp):Prop:=match x with
 |.str _=>T = "str"
 |.int _=>T = "int"
 |.ref p=>(T = "list" /\∃xs,SqL K H p xs)\/(T = "tuple" /\∃o,K.lookup p=some o/\o.cls=.type "tuple" /\o.dict=none)\/
   (T = "dict" /\((∃kvs,H p=some (.dK kvs))\/∃kvs,H p=some (.dT kvs)))\/(T = "set" /\∃S n,H p=some (.set S n))
 |_=>False
theorem y3x{pins:List (Addr×Obj)}{σ:St}{H:Hp}{s:Shared}{T:String}{x:V}{v:Value}(I:Inv X pins σ H s)(r:RelV x v)(ty:tyV X.K T x H) :
  s.TypeIs v T/\∀a,v=.ref a->∃ob,s.heap.get? a=some ob/\ob.dict=none:=by
 cases x with
 |str z=>
  obtain⟨t,rfl⟩:=r
  cases(show T = "str" from ty)
  exact⟨typeIs_str s z t,fun _ e=>nomatch e⟩
 |int i=>
  obtain⟨t,rfl⟩:=r
  cases(show T = "int" from ty)
  exact⟨typeIs_int s i t,fun _ e=>nomatch e⟩
 |ref p=>
  cases r
  rcases ty with⟨rfl,xs,hq⟩|⟨rfl,o,hk,hc,hd⟩|⟨rfl,hk⟩|⟨rfl,S,n,hk⟩
  ·obtain⟨its,_,pl,_⟩:=I.list hq
   refine⟨pl.isList.typeIs,fun a e=>?_⟩
   cases e
   obtain⟨o,n,e,c,hd,_⟩:=pl
   exact⟨o,e,hd⟩
  ·refine⟨⟨o,I.kIn p o hk,hc⟩,fun a e=>?_⟩
   cases e
   exact⟨o,I.kIn _ o hk,hd⟩
  ·have z:∃o,s.heap.get? p=some o/\o.ExactDict:=by
    rcases hk with⟨kvs,hk⟩|⟨kvs,hk⟩
    ·obtain⟨_,_,_,_,o,_,_,e,ex,_⟩:=I.hok p _ hk
     exact⟨o,e,ex⟩
    ·obtain⟨_,_,_,_,o,_,_,e,ex,_⟩:=I.hok p _ hk
     exact⟨o,e,ex⟩
   obtain⟨o,e,ex⟩:=z
   refine⟨⟨o,e,ex.1⟩,fun a e2=>?_⟩
   cases e2
   exact⟨o,e,ex.2.1⟩
  ·obtain⟨o,_,_,_,e,ex,_⟩:=I.hok p _ hk
   refine⟨⟨o,e,ex.1⟩,fun a e2=>?_⟩
   cases e2
   exact⟨o,e,ex.2.1⟩
 |_=>exact False.elim ty
def tBM0(K:Frag)(T:String)(r:V->List V->Hp->VK->Prop)(to:TE):TE:=fun σ H Q=>to σ H fun x H1=>tyV K T x H1/\r x [] H1 Q
def tBM(K:Frag)(T:String)(r:V->List V->Hp->VK->Prop)(to:TE)(t:TA):TE:=fun σ H Q=>to σ H fun x H1=>tyV K T x H1/\t σ H1 fun xs H2=>r x xs H2 Q
variable{o e:Expr}{es:List Expr}{to:TE}{t:TA}{name:Str}{apos cpos:Pos}{T id:String}{r:V->List V->Hp->VK->Prop}
theorem x0d(pa:PlainAttrs T)(slot:Slot T name id)(hty:typeOf (.builtin id)=pure (.type "method_descriptor"))(hm:MtR X id r)(ho:PE X o to)
  (hbase:attributeBase o name X.env (eval o X.env)=eval o X.env:=by rfl) (hline:(apos.endLine==cpos.line)=true:=by rfl):PE X (.Call (.Attribute o name apos) [] [] cpos) (tBM0 X.K T r to):=by
 intro pins s σ H Q I h
 refine wpAny_Call_method0_late hbase hline (thn (ho pins s σ H _ I h) fun v s1 hh1=>?_)
 obtain⟨x,H1,I1,r1,ty,q1⟩:=hh1
 obtain⟨h1,h2⟩:=y3x I1 r1 ty
 exact⟨T,id,pa,slot,hty,h1,h2,Calls.callWith_builtin rfl (PySem.evalArgs_none (hm pins s1 σ H1 x [] v [] Q I1 r1 .nil q1))⟩
theorem x3p(pa:PlainAttrs T)(slot:Slot T name id)(hty:typeOf (.builtin id)=pure (.type "method_descriptor"))(hm:MtR X id r)(ho:PE X o to)(ha:PA X (e::es) t)
  (hbase:attributeBase o name X.env (eval o X.env)=eval o X.env:=by rfl)
  (hfew:((backTo cpos (starEach (e::es) X.env)).all (fun x=>!x.1)&&(backToKw cpos (keywordEach [] X.env)).all (fun x=>x.1.isSome)
   && decide ((e::es).length+([]:List Keyword).length+(if ([]:List Keyword).isEmpty then 0 else 1)<30))=true:=by rfl)
  (hline:(apos.endLine==cpos.line)=true:=by rfl) (hs:starEach (e::es) X.env=(false,eval e X.env)::starEach es X.env:=by rfl) (hplain:(backTo cpos (starEach es X.env)).any (·.1)=false:=by rfl) :
  PE X (.Call (.Attribute o name apos) (e::es) [] cpos) (tBM X.K T r to t):=by
 intro pins s σ H Q I h
 refine wpAny_Call_method_late hbase hfew hline rfl (thn (ho pins s σ H _ I h) fun v s1 hh1=>?_)
 obtain⟨x,H1,I1,r1,ty,q1⟩:=hh1
 obtain⟨h1,h2⟩:=y3x I1 r1 ty
 refine⟨T,id,pa,slot,hty,h1,h2,?_⟩
 have hA:=ha cpos pins s1 σ H1 _ I1 q1
 rw[hs]at hA ⊢
 refine Calls.callWith_builtin (by show(false||(backTo cpos (starEach es X.env)).any (·.1))=false;rw[hplain]<;>rfl) (Calls.evalArgs_plain ?_)
 exact thn hA fun us s2 hh2=>by obtain⟨vs,H2,I2,r2,q2⟩:=hh2;exact(hm pins s2 σ H2 x vs v us Q I2 r1 r2 q2)
/- xs.append(e),list.index on a module's tuple .. are MtR facts of 06m -/
end
def MtM(X:Cx)(id:String)(r:V->List V->Hp->VK->Prop):Prop:=
 ∀(pins:List (Addr×Obj))(s:Shared)(σ:St)(H:Hp)(x:V)(xs:List V)(v:Value)(us:List Value)(Q:VK),Inv X pins σ H s->RelV x v->Vals xs us->r x xs H Q->
  wpAny (model X.prog X.w) X.A (call (.builtin id) (v::us)) (EP X pins σ Q) X.xe s
theorem Vals.one:∀{x:V}{us:List Value},Vals [x] us->∃u,us=[u]/\RelV x u
 |_,_,.cons r .nil=>⟨_,rfl,r⟩
theorem Vals.zero:∀{us:List Value},Vals [] us->us=[]
 |_,.nil=>rfl
theorem Vals.dropLast{xs:List V}{us:List Value}(h:Vals xs us):Vals xs.dropLast us.dropLast:=by
 induction h with
 |nil=>exact .nil
 |cons r t ih=>
  cases t with
  |nil=>exact .nil
  |cons q t'=>exact .cons r ih
theorem Vals.eraseIdx:∀{xs:List V}{us:List Value}(i:Nat),Vals xs us->Vals (xs.eraseIdx i) (us.eraseIdx i)
 |_,_,_,.nil=>.nil
 |_,_,0,.cons _ t=>t
 |_,_,i+1,.cons r t=>.cons r (Vals.eraseIdx i t)
theorem Vals.reverse{xs:List V}{us:List Value}(h:Vals xs us):Vals xs.reverse us.reverse:=by
 induction h with
 |nil=>exact .nil
 |cons r t ih=>rw[List.reverse_cons,List.reverse_cons];exact Vals.append ih (.cons r .nil)
theorem Vals.rep{xs:List V}{us:List Value}(h:Vals xs us):∀k:Nat,Vals (List.replicate k xs).flatten (List.replicate k us).flatten
 |0=>.nil
 |k+1=>by
  rw[List.replicate_succ,List.replicate_succ,List.flatten_cons,List.flatten_cons]
  exact Vals.append h (Vals.rep h k)
theorem z6i{α:Type}(l:List α):l.eraseIdx (l.length-1)=l.dropLast:=by
 induction l with
 |nil=>rfl
 |cons a r ih=>
  cases r with
  |nil=>rfl
  |cons b r=>
   have e:(a::b::r).length-1=((b::r).length-1)+1:=by
    have h1:(a::b::r).length=r.length+2:=rfl
    have h2:(b::r).length=r.length+1:=rfl
    omega
   rw[e,List.eraseIdx_cons_succ,ih]
   all_goals rfl
theorem z1o{α:Type}:∀(l:List α)(i:Nat),(l.eraseIdx i).length<=l.length
 |[],_=>Nat.le_refl _
 |_::_,0=>Nat.le_succ _
 |_::r,i+1=>Nat.succ_le_succ (z1o r i)
theorem z2b(its:List Value):∀(k:Nat)(acc:List Value),
  List.foldl (fun x1 x2=>x1++x2) acc.toArray (List.replicate k its.toArray)=(acc++(List.replicate k its).flatten).toArray
 |0,acc=>by simp
 |k+1,acc=>by
  have e:acc.toArray++its.toArray=(acc++its).toArray:=by simp
  have e2:(acc++its)++(List.replicate k its).flatten=acc++(List.replicate (k+1) its).flatten:=by
   rw[List.replicate_succ,List.flatten_cons,List.append_assoc]
  rw[<-e2,<-z2b its k (acc++its),<-e,List.replicate_succ,List.foldl_cons]
section
variable{X:Cx}{pins:List (Addr×Obj)}{σ:St}{H:Hp}{s:Shared}{l b:Addr}{xs ys zs:List V}
theorem Inv.lset{its its':List Value}{n:Nat}{f:Array Value->Array Value}{t':Nat}(I:Inv X pins σ H s)(hH:H l=some (.lst xs))
  (e:s.heap.get? l=some {cls:=.type "list",data:=.seq its.toArray n}) (hf:f its.toArray=its'.toArray) (hv:Vals ys its') (hz:ys.length<=sizeLine) :
  Inv X pins σ (upd H l (.lst ys)) {s with heap:=s.heap.update l (Obj.mapSeq f),toks:=t' }:=by
 have q:=PySem.IsL.update e f
 rw[hf]at q
 refine I.write (x:=l) (e:=l) (by rw[hH];exact trivial) (.inl rfl) (fun b' u hb hu=>(Heap.get?_update_other s.heap (Obj.mapSeq f) (Ne.symm hb)).trans hu) ⟨_,q⟩ ?_
 exact⟨hz,its',_,hv,q⟩
theorem Inv.lnew{its:List Value}{t':Nat}(I:Inv X pins σ H s)(hv:Vals ys its)(hz:ys.length<=sizeLine) :
  Inv X pins σ (upd H s.heap.objs.size (.lst ys)) {s with heap:=s.heap.push {cls:=.type "list",data:=.seq its.toArray},toks:=t' }:=
 I.laid (fun _ _ q=>Heap.get?_push_of_some _ q) (Nat.le_refl _) ⟨hz,its,0,hv,Heap.get?_push_size _ rfl⟩
theorem Inv.fresh(I:Inv X pins σ H s):H s.heap.objs.size=none:=I.hok.fresh (Nat.le_refl _)
theorem Inv.lstM(I:Inv X pins σ H s)(hH:H l=some (.lst xs)):xs.length<=sizeLine/\∃(its:List Value)(n:Nat),Vals xs its/\xs.length=its.length/\s.heap.get? l=some {cls:=.type "list",data:=.seq its.toArray n}:=by
 obtain⟨z,its,n,r,e⟩:=I.hok l _ hH
 exact⟨z,its,n,r,r.length,e⟩
theorem q9u{n:Nat}(h:n<=sizeLine):Builtin.List.listTooLong n=false:=by
 unfold Builtin.List.listTooLong
 exact decide_eq_false (by omega)
end
section
variable{X:Cx}
def y5y:V->List V->Hp->VK->Prop:=fun x vs H Q=>∃l xs y,x=.ref l/\vs=[y]/\H l=some (.lst xs)/\xs.length<sizeLine/\Q .non (upd H l (.lst (xs++[y])))
theorem z8n:MtM X "list.append" y5y:=by
 intro pins s σ H x vs v us Q I rx rv h
 obtain⟨l,xs,y,rfl,rfl,hH,hz,q⟩:=h
 cases rx
 obtain⟨u,rfl,ru⟩:=rv.one
 obtain⟨z,its,n,r,hl,e⟩:=I.lstM hH
 refine call_meets F.slot_list_append ⟨_,e,rfl⟩ F.entry_list_append (F.args_list_append_2 _ _) (PySem.list_append l its.toArray n u (by rw[List.size_toArray];omega)) ⟨e,?_⟩
 refine⟨.non,_,I.lset (its':=its++[u]) hH e (by simp) (r.append (.cons ru .nil)) ?_,rfl,q⟩
 rw[List.length_append,List.length_singleton]
 omega
def y5x:V->List V->Hp->VK->Prop:=fun x vs H Q=>∃l b xs zs,x=.ref l/\vs=[.ref b]/\H l=some (.lst xs)/\H b=some (.lst zs)/\xs.length+zs.length<=sizeLine/\Q .non (upd H l (.lst (xs++zs)))
theorem z8m:MtM X "list.extend" y5x:=by
 intro pins s σ H x vs v us Q I rx rv h
 obtain⟨l,b,xs,zs,rfl,rfl,hH,hB,hz,q⟩:=h
 cases rx
 obtain⟨u,rfl,ru⟩:=rv.one
 cases ru
 obtain⟨z,its,n,r,hl,e⟩:=I.lstM hH
 obtain⟨z2,its2,n2,r2,hl2,e2⟩:=I.lstM hB
 have hsz:its.toArray.size+its2.toArray.size<=sizeLine:=by rw[List.size_toArray,List.size_toArray];omega
 have hlong:¬(!its.toArray.isEmpty&&Builtin.List.listTooLong (its.toArray.size+its2.toArray.size))=true:=by
  rw[q9u hsz,Bool.and_false]
  exact Bool.false_ne_true
 refine call_meets F.slot_list_extend ⟨_,e,rfl⟩ F.entry_list_extend (F.args_list_extend_2 _ _)
  (AutoSeq1.list_extend_list_list_0 l its.toArray n b its2.toArray n2 hlong (by rw[List.size_toArray];omega) (by omega)) ⟨e,e2,?_⟩
 refine⟨.non,_,I.lset (its':=its++its2) hH e (by simp) (r.append r2) ?_,rfl,q⟩
 rw[List.length_append]
 omega
def rPop:V->List V->Hp->VK->Prop:=fun x vs H Q=>∃l xs y,x=.ref l/\vs=[]/\H l=some (.lst xs)/\xs[xs.length-1]?=some y/\Q y (upd H l (.lst xs.dropLast))
theorem x0w:MtM X "list.pop" rPop:=by
 intro pins s σ H x vs v us Q I rx rv h
 obtain⟨l,xs,y,rfl,rfl,hH,hy,q⟩:=h
 cases rx
 have hus:=rv.zero
 subst hus
 obtain⟨z,its,n,r,hl,e⟩:=I.lstM hH
 obtain⟨u,hu,ru⟩:=r.get hy
 have hy':its.toArray[its.toArray.size-1]?=some u:=by
  show its.toArray[its.length-1]?=some u
  rw[<-Array.getElem?_toList,<-hl]
  exact hu
 refine call_meets F.slot_list_pop ⟨_,e,rfl⟩ F.entry_list_pop (F.args_list_pop_1 _) (MeetsSeq.list_pop_last l its.toArray n u hy' (by rw[List.size_toArray];omega)) ⟨e,?_⟩
 refine⟨y,_,I.lset (its':=its.dropLast) hH e ?_ r.dropLast ?_,ru,q⟩
 ·show its.toArray.eraseIdxIfInBounds (its.toArray.size-1)=its.dropLast.toArray
  rw[List.size_toArray,List.eraseIdxIfInBounds_toArray,z6i]
 ·rw[List.length_dropLast]
  omega
def y9a:V->List V->Hp->VK->Prop:=fun x vs H Q=>∃l xs i k y,x=.ref l/\vs=[.int i]/\H l=some (.lst xs)/\-(2 ^ 63)<=i/\i<2 ^ 63/\seqIndex? i xs.length=some k/\xs[k]?=some y/\Q y (upd H l (.lst (xs.eraseIdx k)))
theorem y2h:MtM X "list.pop" y9a:=by
 intro pins s σ H x vs v us Q I rx rv h
 obtain⟨l,xs,i,k,y,rfl,rfl,hH,h1,h2,hk,hy,q⟩:=h
 cases rx
 obtain⟨u,rfl,ru⟩:=rv.one
 obtain⟨t,rfl⟩:=ru
 obtain⟨z,its,n,r,hl,e⟩:=I.lstM hH
 obtain⟨w,hw,rw'⟩:=r.get hy
 refine call_meets F.slot_list_pop ⟨_,e,rfl⟩ F.entry_list_pop (F.args_list_pop_2 _ _)
  (MeetsSeq.list_pop_at l its.toArray n i t k w (fitsIndex_both h1 h2) (by rw[List.size_toArray,<-hl];exact hk) (by rw[<-Array.getElem?_toList];exact hw) (by rw[List.size_toArray];omega)) ⟨e,?_⟩
 refine⟨y,_,I.lset (its':=its.eraseIdx k) hH e ?_ (r.eraseIdx k) ?_,rw',q⟩
 ·show its.toArray.eraseIdxIfInBounds k=(its.eraseIdx k).toArray
  rw[List.eraseIdxIfInBounds_toArray]
 ·have:=z1o xs k
  omega
def rCat:R2:=fun x y H Q=>∃l b xs zs,x=.ref l/\y=.ref b/\H l=some (.lst xs)/\H b=some (.lst zs)/\xs.length+zs.length<=sizeLine/\∀p,H p=none->Q (.ref p) (upd H p (.lst (xs++zs)))
theorem x0p:OpR X (binaryOp .Add) rCat:=by
 intro pins s σ H x y v u Q I rx ry h
 obtain⟨l,b,xs,zs,rfl,rfl,hH,hB,hz,q⟩:=h
 cases rx
 cases ry
 obtain⟨z,its,n,r,hl,e⟩:=I.lstM hH
 obtain⟨z2,its2,n2,r2,hl2,e2⟩:=I.lstM hB
 refine PySem.P.add_list e e2 ?_ (by rw[List.size_toArray,List.size_toArray];omega)
 have ea:its.toArray++its2.toArray=(its++its2).toArray:=by simp
 rw[ea]
 exact⟨.ref _,_,I.lnew (t':=s.toks) (r.append r2) (by rw[List.length_append];omega),rfl,q _ I.fresh⟩
def rRep:R2:=fun x y H Q=>∃l k xs,x=.ref l/\y=.int k/\H l=some (.lst xs)/\-(2 ^ 63)<=k/\k<2 ^ 63/\xs.length*k.toNat<=sizeLine/\
 ∀p,H p=none->Q (.ref p) (upd H p (.lst (List.replicate k.toNat xs).flatten))
theorem y7c{α:Type}(xs:List α)(k:Nat):(List.replicate k xs).flatten.length=k*xs.length:=by
 induction k with
 |zero=>simp
 |succ k ih=>rw[List.replicate_succ,List.flatten_cons,List.length_append,ih,Nat.succ_mul,Nat.add_comm]
theorem x0k:OpR X (binaryOp .Mult) rRep:=by
 intro pins s σ H x y v u Q I rx ry h
 obtain⟨l,k,xs,rfl,rfl,hH,h1,h2,hz,q⟩:=h
 cases rx
 obtain⟨t,rfl⟩:=ry
 obtain⟨z,its,n,r,hl,e⟩:=I.lstM hH
 have hlen:its.toArray.size*k.toNat<=sizeLine:=by rw[List.size_toArray,<-hl];exact hz
 have hcap:¬its.toArray.size*k.toNat > (2 ^ 63-1) / 8:=by
  have:(sizeLine:Nat)<=(2 ^ 63-1) / 8:=by decide
  omega
 have hfit:¬(!Builtin.List.listFitsIndex k)=true:=by
  rw[fitsIndex_both h1 h2]
  exact Bool.false_ne_true
 have hlong:¬Builtin.List.listTooLong (its.toArray.size*k.toNat)=true:=by
  rw[q9u hlen]
  exact Bool.false_ne_true
 have hnew:List.foldl (fun x1 x2=>x1++x2) #[] (List.replicate (if its.toArray.isEmpty=true then 0 else k.toNat) its.toArray)=(List.replicate k.toNat its).flatten.toArray:=by
  have f0:∀m:Nat,List.foldl (fun x1 x2=>x1++x2) #[] (List.replicate m its.toArray)=(List.replicate m its).flatten.toArray:=fun m=>by
   have:=z2b its m []
   rw[List.nil_append]at this
   exact this
  rw[f0]
  cases its with
  |nil=>simp
  |cons a r'=>rw[if_neg (by simp)]
 refine wpAny_binaryOp_repeat_ref (T:= "list") (U:= "int") (by decide) ⟨_,e,rfl⟩ (fun s'=>typeIs_int s' k t) noFill_list_mul F.fills_int_mul F.slot_int_rmul repeat_list F.slot_int_index.lookup
  (call_meets F.slot_int_rmul (typeIs_int s k t) F.entry_int_rmul (F.args_int_rmul_2 _ _) (int___rmul___int_list k t l its.toArray n)
   ⟨e,rfl,⟨_,e,rfl⟩,call_meets F.slot_list_mul ⟨_,e,rfl⟩ F.entry_list_mul (F.args_list_mul_2 _ _) (AutoListH.list___mul___list_int_3 l its.toArray n k t hfit hcap hlong) ⟨e,?_⟩⟩)
 rw[hnew]
 exact⟨.ref _,_,I.lnew (t':=s.toks) (r.rep k.toNat) (by rw[y7c,Nat.mul_comm];exact hz),rfl,q _ I.fresh⟩
end
section
variable{prog:Program}{w:World}{A:Around}{E:Value->Shared->Prop}{s:Shared}
end
section
variable{X:Cx}
end
end L2
namespace Att
open PySem PySem.W PySem.Calls PyProof.Rows
theorem q8c{P:Params}{h:Heap}:∀(ns:List Int)(vs:List Value),WellAll P h vs (ns.map WData.int)->IntsAre vs ns:=by
 intro ns
 induction ns with
 |nil=>
  intro vs w
  rw[List.map_nil]at w
  cases w
  exact .nil
 |cons n ns ih=>
  intro vs w
  rw[List.map_cons]at w
  cases w with
  |cons a b=>
   cases a
   exact .cons _ _ (ih _ b)
theorem z7m {l : OpenLaw} {n : Nat} (hn : l.most = some n) {P : Params} {h : Heap} {args : List WData} {vals : List Value}
  (hpre : l.row.toRowW.claim.pre args = true) (hwl : WellAll P h vals args) :
  ∃ a vs ns, vals = [Value.ref a] /\ args = [WData.list (ns.map WData.int)] /\ h.get? a = some { cls := .type "list", data := .seq vs.toArray } /\ IntsAre vs ns /\ ns.length <= n := by
 have hsh : WShape.hasAll [] args [.list .int] = true := (pre_splitW hpre).1
 have hc : l.pre.holds [] { args := args } = true := (pre_splitW hpre).2
 obtain ⟨d, r, rfl, h1, h2⟩ := hasAllW_cons hsh
 obtain rfl := hasAllW_nil h2
 obtain ⟨xs, rfl, h3⟩ := hasW_list h1
 obtain ⟨ns, rfl⟩ := items_int h3
 have hlen : ns.length <= n := by
  unfold OpenLaw.pre at hc
  have h4 : (WTm.not (.lt (.lit (.int (n : Int))) (.len (.arg 0)))).holds [] { args := [.list (ns.map .int)] } = true := by
   have h4 := (holds_andW hc).1
   rw [hn] at h4
   exact h4
  have h5 := condW_of h4 (w_not (w_lt w_lit (w_len_list (w_arg rfl))))
  rw [List.length_map] at h5
  refine Nat.le_of_not_lt fun q => ?_
  have q' : (n : Int) < ((ns.length : Nat) : Int) := by omega
  first
   | (rw [decide_eq_true q'] at h5; exact absurd h5 (by decide))
   | (simp at h5; omega)
 cases hwl with
 | cons w1 w2 =>
  cases w2
  cases w1 with
  | list ho hall => exact ⟨_, _, ns, rfl, rfl, ho, q8c ns _ hall, hlen⟩
theorem z7s(l:OpenLaw)(args:List WData):l.row.toRowW.claim.post args (.bool true) args=true:=
 postW_of (r:=l.row.toRowW) (X:=(true==true))
  (show WShape.has [] (.bool true) .bool=true by first|rfl|decide|simp[WShape.has,WShape.arms,WShape.armsAll])
  (show(WTm.eq .res (.lit (.bool true))).value [] {args:=args,res:=some (.bool true),after:=args}=some (.bool (true==true))from w_eq_bool (w_res rfl) w_lit) rfl
theorem attach_call{l:OpenLaw}{n:Nat}{q:Program}{loose:List Str}{XP:(Str->Option Value)->Heap->Prop}{YP:World->Heap->Prop}{d:DefRec}
  (hn:l.most=some n) (hdf:d.params.defaults=[])
  (call:∀(w:World)(s₀ s₁:Shared)(mg mb:Str->Option Value)(fa:Addr)(o:Obj)(pm cd doc:Value)(a:Addr)(vs:List Value)(ns:List Int),
   Ground q loose [] XP w s₀ mg mb s₁.heap->YP w s₁.heap->
   s₁.heap.get? fa=some o->o.data=.func (docDef d.name d.params d.body d.scope pm cd doc)->s₁.heap.CodeRec cd d.name->mg d.name=some (.ref fa)->
   s₁.heap.get? a=some {cls:=.type "list",data:=.seq vs.toArray}->IntsAre vs ns->ns.length<=n->s₁.gens=#[]->
   codeAny (model l.prog w) callerA (.call (.ref fa) ⟨[.ref a],[]⟩) (fun r s'=>r=.ok (.ret (.bool true))/\OldK s₁.heap s'.heap/\s'.os=s₁.os/\AllBare s'.gens) s₁) :
  WalkO q loose XP YP l.row.toRowW d [] (fun f vs=>PySem.call f vs):=by
 intro w s₀ s₁ mg mb G Y fa o pm cd doc dV kV ho hd hcd hD hmg hg args vals as hpre hlay hrd hwl hlo
 obtain rfl:dV=.none:=Dflts.none hD hdf
 obtain rfl:kV=.none:=Dflts.noKw hD
 obtain⟨a,vs,ns,rfl,rfl,hobj,hints,hlen⟩:=z7m hn hpre hwl
 refine enter_call (codeAny_mono (call w s₀ s₁ mg mb fa o pm cd doc a vs ns G Y ho (fd_plain hd) hcd hmg hobj hints hlen hg) fun r s' hq=>?_)
 obtain⟨rfl,h2,h3,h4⟩:=hq
 exact⟨.inl ⟨.bool true,.bool true,[],rfl,fun _=>rfl,.bool true,z7s l _,fun _=>⟨List.Pairwise.nil,fun _ hm=>(nomatch hm)⟩⟩,h2,h3,h4⟩
section
variable{prog:Program}{w:World}{A:Around}{E:Value->Shared->Prop}{s:Shared}{K:Frag}
end
end Att
namespace L2
open PySem PySem.Spec PyProof.Rows
theorem q5s:∀{vs:List Value}{ns:List Int},IntsAre vs ns->Vals (ns.map V.int) vs
 |_,_,.nil=>.nil
 |_,_,.cons n t h=>.cons ⟨t,rfl⟩ (q5s h)
def Only(H:Hp):Prop:=∀b,H b=none\/∃o xs,H b=some (.frz o (.lst xs))
theorem y2m{P:Program}{w:World}{K:Frag}{mg mb:Str->Option Value}{CX:CXT}{k:Nat}{fa a:Addr}{fd:FuncData}{x:Str}{sp:Sp}{s₁:Shared}{vs:List Value}{ns:List Int}
  (KX:K.In s₁.heap) (hns:s₁.heap.Ns mainGlobals mg) (hb:s₁.heap.Ns builtinsNs mb) (hbb:∀x:Str,x≠ "__name__" ->mb x=bootBuiltins x) (hlim:s₁.heap.NoLimit) (hg:s₁.gens=#[])
  (ha:s₁.heap.get? a=some {cls:=.type "list",data:=.seq vs.toArray}) (hi:IntsAre vs ns) (hl:ns.length<=sizeLine) (hr:Room k callerA)
  (F:∀base:Heap,K.In base->base.Ns mainGlobals mg->FnOk P w K mg base CX k fa fd [x] sp) (hbind:∀(s:Shared)(u:Value),BindsTo s fd ⟨[u],[]⟩ [(x,u)])
  (hsp:∀H:Hp,Only H->SqL K H a (ns.map V.int)->sp [.ref a] H (fun v _=>v=.bl true) fun _ _ _=>False)
  (hCX:∀H e s',CX [] H s₁ (fun _ _ _=>False) e s'->False) :
  codeAny (model P w) callerA (.call (.ref fa) ⟨[.ref a],[]⟩) (fun r s'=>r=.ok (.ret (.bool true))/\OldK s₁.heap s'.heap/\s'.os=s₁.os/\AllBare s'.gens) s₁:=by
 have rv:=q5s hi
 have lenV:=hi.length
 have core:∀H:Hp,Only H->SqL K H a (ns.map V.int)->HOk P w H s₁.heap->(∀b,H b≠none->b=a)->(H a≠none->K.lookup a=none)->
   codeAny (model P w) callerA (.call (.ref fa) ⟨[.ref a],[]⟩) (fun r s'=>r=.ok (.ret (.bool true))/\OldK s₁.heap s'.heap/\s'.os=s₁.os/\AllBare s'.gens) s₁:=by
  intro H hO hS hok hA hK
  have base_of:∀{b:Addr}{o:Obj},s₁.heap.get? b=some o->H b=none->(hidT s₁.heap H).get? b=some o:=fun e n=>y2x e n
  have noA:∀{b:Addr}{o:Obj}{es:Array DictEntry}{ep:Nat},s₁.heap.get? b=some o->o.data=.dict es ep->H b=none:=fun {b o es ep} e d=>by
   cases q:H b with
   |none=>rfl
   |some u=>
    have e':b=a:=hA b (by rw[q];simp)
    subst e'
    rw[ha]at e;cases e
    have d':Data.seq vs.toArray _=Data.dict es ep:=d
    cases d'
  have nsK:∀{b:Addr}{m:Str->Option Value},s₁.heap.Ns b m->(hidT s₁.heap H).Ns b m:=fun {b m} ⟨o,es,ep,e,d,r⟩=>⟨o,es,ep,base_of e (noA e d),d,r⟩
  have hKb:K.In (hidT s₁.heap H):=fun b o e=>base_of (KX b o e) (by
   cases q:H b with
   |none=>rfl
   |some u=>
    have e':b=a:=hA b (by rw [q];simp)
    subst e'
    rw [hK (by rw [q];simp)]at e;cases e)
  have hM:Mod K mg (hidT s₁.heap H):=⟨hKb,nsK hns,⟨mb,nsK hb,hbb⟩,let ⟨mc,h1,h2⟩:=hlim;⟨mc,nsK h1,h2⟩⟩
  have e0:Env0 P w K mg (hidT s₁.heap H) callerA [] s₁ H:=⟨rfl,hM,fun b o e=>y6u e,Nat.le_of_eq (z9k _ _),trivial,fun b hb=>absurd (show b∈([]:List Addr)from hb) (by simp),hok,.of_eq hg⟩
  refine codeAny_mono ((F _ hKb (nsK hns)).run callerA [] s₁ H ⟨[.ref a],[]⟩ [.ref a] [.ref a] _ _ hr e0 (hbind s₁ (.ref a)) (.cons rfl .nil) (hsp H hO hS)) fun r s' h=>?_
  cases r with
  |error e=>exact(hCX H e s' h).elim
  |ok fl=>
   cases fl with
   |next=>exact False.elim h
   |brk=>exact False.elim h
   |cont=>exact False.elim h
   |ret u=>
    obtain⟨v,H',os,bare,un,hok',r',q⟩:=h
    have q':v=.bl true:=q
    subst q'
    obtain rfl:u=Value.bool true:=r'
    refine⟨rfl,OldK.of_keep fun b o e=>?_,os,bare⟩
    cases q:H b with
    |none=>exact un.keep b o e q (by intro z;exact absurd (show b∈([]:List Addr)from z) (by simp)) (by simp)
    |some u=>
     rcases hO b with z|⟨ob,xs,z⟩
     ·rw[q]at z;cases z
     ·have z2:=un.frzs b ob _ z
      obtain⟨e1,_⟩:=hok b _ z
      obtain⟨e2,_⟩:=hok' b _ z2
      rw[e]at e1;cases e1
      exact e2
 cases hk:K.lookup a with
 |some o=>
  have e:=KX a o hk
  rw[ha]at e
  cases e
  refine core (fun _=>none) (fun _=>.inl rfl) (.inr ⟨_,vs.toArray,_,hk,rfl,rfl,rfl,by rw[List.size_toArray,lenV];exact hl,by simpa using rv⟩) (fun b u z=>by have z':(none:Option HO)=some u:=z;cases z') (fun b z=>absurd rfl z) fun z=>absurd rfl z
 |none=>
  refine core (fun b=>if b=a then some (.frz {cls:=.type "list",data:=.seq vs.toArray} (.lst (ns.map V.int)))else none) (fun b=>?_) (.inl (.inr ⟨{cls:=.type "list",data:=.seq vs.toArray},if_pos rfl⟩)) (fun b u z=>?_) (fun b z=>?_) fun _=>hk
  ·by_cases hb:b=a
   ·exact .inr ⟨_,_,if_pos hb⟩
   ·exact .inl (if_neg hb)
  ·by_cases hb:b=a
   ·have z':=(if_pos hb).symm.trans z
    cases z'
    subst hb
    exact⟨ha,by rw[List.length_map];exact hl,vs,_,rv,ha⟩
   ·have z':=(if_neg hb).symm.trans z
    cases z'
  ·by_cases hb:b=a
   ·exact hb
   ·exact absurd (if_neg hb) z
theorem z6v{l:PySem.W.OpenLaw}{n k:Nat}{q:Program}{loose:List Str}{XP:(Str->Option Value)->Heap->Prop}{YP:World->Heap->Prop}{d:DefRec}{K:Params->Frag}{CX:World->CXT}{sp:World->Sp}{x:Str}
  (hn:l.most=some n) (hn2:n<=sizeLine) (hdf:d.params.defaults=[]) (hr:Room k callerA)
  (hY:∀(w:World)(h:Heap),YP w h->(K w.params).In h)
  (F:∀(w:World)(mg:Str->Option Value)(fa:Addr)(h:Heap),(K w.params).In h->h.Ns mainGlobals mg->mg d.name=some (.ref fa)->
   ∃fd:FuncData,(∀(s:Shared)(u:Value),BindsTo s fd ⟨[u],[]⟩ [(x,u)])/\
    ∀base:Heap,(K w.params).In base->base.Ns mainGlobals mg->FnOk l.prog w (K w.params) mg base (CX w) k fa fd [x] (sp w))
  (hsp:∀(w:World)(H:Hp)(a:Addr)(ns:List Int),ns.length<=n->Only H->SqL (K w.params) H a (ns.map V.int)->sp w [.ref a] H (fun v _=>v=.bl true) fun _ _ _=>False)
  (hCX:∀(w:World)(H:Hp)(s:Shared)(e:Value)(s':Shared),CX w [] H s (fun _ _ _=>False) e s'->False) :
  PySem.W.WalkO q loose XP YP l.row.toRowW d [] (fun f vs=>PySem.call f vs):=by
 refine Att.attach_call hn hdf fun w s₀ s₁ mg mb fa o pm cd doc a vs ns G Y ho hd hcd hmg hobj hints hlen hg=>?_
 have KX:=hY w _ Y
 obtain⟨fd,hb,hF⟩:=F w mg fa _ KX G.T.g hmg
 exact y2m KX G.T.g G.T.b G.T.builtins G.T.nolimit hg hobj hints (Nat.le_trans hlen hn2) hr hF hb (fun H hO hS=>hsp w H a ns hlen hO hS) fun H e s'=>hCX w H s₁ e s'
end L2
/- THE LAST THEOREM (shape;LID,My.* are yours):
   My.Adr: a structure of the addresses that your layer names (classes,functions);My.Txt K t: a structure (Prop) of the equations over K;
   My.txt_mk:{K} {implicit addresses ..} (e1:nsIn K mainGlobals "law" = some (some (.ref f))) (e2:K.lookup f=some ⟨oc,od,.func (fnOf "law" "law" params body scope dV kV doc pm an cdv ct),sl⟩) (e3:codeIn K cdv "law" = true) ..:∃t,My.Txt K t
set_option maxRecDepth 100000 in
set_option maxHeartbeats 0 in
theorem PySem.Challenge.cw_LID_holds : PySem.Challenge.rw_LID.Holds := by
 w_on;o_law;k_head;(case hw => w_witness2)
 k_fill
 refine L2.z6v (l := PySem.Challenge.rw_LID) (n := 63) (k := 40) (x := "script") (CX := fun w => ..) (sp := fun _ => My.sp_law) rfl (by decide) rfl ⟨rfl, by decide, by decide⟩ (fun w h Y => PySem.W.kIn_of Y) ?F ?S ?C
 case F =>
  intro w mg fa h KX G hmg
  have T : ∃ t, My.Txt (L2.KOf KX) t := by
   dsimp only[L2.KOf]                          -- K must stand as «<heap const> w.params» for k_is
   refine' My.txt_mk ?e1 ?e2 ?e3 ..
   (case e1 => PySem.W.k_is)                    -- in the order: a name -> its address -> its object -> its parts
   (case e2 => PySem.W.k_is)
   ..
  obtain⟨t, T⟩ := T
  have e0 := hmg.symm.trans (PySem.W.mg_of KX G T.law)
  cases e0                                       -- fa is the law's own address
  exact⟨_, fun s u => .of_eq rfl, fun base kb nb => My.law_fn T kb nb⟩     -- if «.of_eq rfl» comes too early: refine' ⟨_, ?b, fun base kb nb => My.law_fn T kb nb⟩;exact fun s u => .of_eq rfl
 case S => exact fun w H a ns hl hO hS => ..
 case C => exact ..
(the tactic k_is has no namespace: write k_is) -/
namespace L2
open PySem PySem.Spec PyProof.Rows
def q6m(s:Stmt):Arguments:=match s with
 |.FunctionDef _ a _ _ _ _ _ _ _ _=>a
 |_=>{posonlyargs:=[],args:=[],vararg:=none,kwonlyargs:=[],kw_defaults:=[],kwarg:=none,defaults:=[]}
def q4v(s:Stmt):List Stmt:=match s with
 |.FunctionDef _ _ b _ _ _ _ _ _ _=>b
 |_=>[]
def q1n(s:Stmt):Scope:=match s with
 |.FunctionDef _ _ _ _ _ _ sc _ _ _=>sc
 |_=>{kind:=.function,names:=[],isGenerator:=false,isCoroutine:=false}
abbrev E0:XK:=fun _ _ _=>False
structure Fun(K:Frag)(x qual:Str)(st:Stmt)(f:Addr)(fd:FuncData):Prop where
 ex:∃(oc:Value)(od:Option Addr)(kV doc pm:Value)(an:Option Addr)(cdv ct:Value)(osl:Array (Option Value)),
  fd=PySem.W.fnOf x qual (q6m st) (q4v st) (q1n st) .none kV doc pm an cdv ct/\K.lookup f=some ⟨oc,od,.func fd,osl⟩/\PySem.W.codeIn K cdv qual=true
 kp:PySem.W.keepIn K (.ref f)=true
section
variable{P:Program}{w:World}{K:Frag}{mg:Str->Option Value}{base:Heap}
theorem Fun.binds{x qual:Str}{st:Stmt}{f:Addr}{fd:FuncData}{ps:List Str}(F:Fun K x qual st f fd)
  (h:∀(kV doc pm:Value)(an:Option Addr)(cdv ct:Value)(us:List Value),us.length=ps.length->bindArgs (PySem.W.fnOf x qual (q6m st) (q4v st) (q1n st) .none kV doc pm an cdv ct) ⟨us,[]⟩=pure (ps.zip us)):z0j K fd ps []:=by
 obtain⟨oc,od,kV,doc,pm,an,cdv,ct,osl,rfl,lk,hcd⟩:=F.ex
 exact .all (h kV doc pm an cdv ct)
theorem x1z{x qual:Str}{st:Stmt}{f:Addr}{oc:Value}{od an:Option Addr}{osl:Array (Option Value)}{kV doc pm cdv ct:Value}(l:K.lookup f=some ⟨oc,od,.func (PySem.W.fnOf x qual (q6m st) (q4v st) (q1n st) .none kV doc pm an cdv ct),osl⟩)
  (c:PySem.W.codeIn K cdv qual=true) (k:PySem.W.keepIn K (.ref f)=true):Fun K x qual st f (PySem.W.fnOf x qual (q6m st) (q4v st) (q1n st) .none kV doc pm an cdv ct):=⟨⟨oc,od,kV,doc,pm,an,cdv,ct,osl,rfl,l,c⟩,k⟩
end
section
variable{X:Cx}
end
theorem ite2{c A B:Prop} [Decidable c] (h1:c->A) (h2:¬c->B):if c then A else B:=by
 by_cases h:c
 ·rw[if_pos h]
  exact h1 h
 ·rw[if_neg h]
  exact h2 h
def Same(H H':Hp):Prop:=∀b o,H b=some o->H' b=some o
structure Fly(e:Addr)(cls:Value)(own:List Addr)(h:Heap):Prop where
 is:∃(oe:Obj)(vs:Array Value)(hd:Value),h.get? e=some oe/\oe.cls=cls/\oe.data=.fields vs/\vs[1]?=some hd/\
  (hd=.none\/∃(T:Addr)(oT:Obj)(ts:Array Value),hd=.ref T/\T∈own/\T≠e/\h.get? T=some oT/\oT.data=.fields ts/\ts[3]?=some .none)
structure Past(fs own:List Addr)(h h':Heap):Prop where
 keep:∀b o,h.get? b=some o->b∉own->b∉fs->h'.get? b=some o
 slot:∀b o,h.get? b=some o->b∉own->b∈fs->∃sl,h'.get? b=some {o with slots:=sl}
 there:∀b o,h.get? b=some o->∃o',h'.get? b=some o'
theorem Past.refl(fs own:List Addr)(h:Heap):Past fs own h h:=⟨fun _ _ q _ _=>q,fun _ o q _ _=>⟨o.slots,q⟩,fun _ o q=>⟨o,q⟩⟩
theorem Past.trans{fs own:List Addr}{h1 h2 h3:Heap}(a:Past fs own h1 h2)(b:Past fs own h2 h3):Past fs own h1 h3 where
 keep:=fun c o q n m=>b.keep c o (a.keep c o q n m) n m
 slot:=fun c o q n m=>by
  obtain⟨sl,q1⟩:=a.slot c o q n m
  obtain⟨sl2,q2⟩:=b.slot c _ q1 n m
  exact⟨sl2,q2⟩
 there:=fun c o q=>by
  obtain⟨o1,q1⟩:=a.there c o q
  exact b.there c o1 q1
theorem Past.mono{fs own own':List Addr}{h h':Heap}(a:Past fs own h h')(k:∀b∈own,b∈own'):Past fs own' h h':=
 ⟨fun b o q n m=>a.keep b o q (fun z=>n (k b z)) m,fun b o q n m=>a.slot b o q (fun z=>n (k b z)) m,a.there⟩
theorem z5s{fs own:List Addr}{h h':Heap}(x:Heap.SlotsOnly fs h h'):Past fs own h h' where
 keep:=fun b o q _ m=>by rw[x.2.1 b m];exact q
 slot:=fun b o q _ _=>x.2.2 b o q
 there:=fun b o q=>let ⟨_,z⟩:=x.2.2 b o q;⟨_,z⟩
theorem z8b{fs own:List Addr}(h:Heap)(o:Obj):Past fs own h (h.push o) where
 keep:=fun b u q _ _=>Heap.get?_push_of_some o q
 slot:=fun b u q _ _=>⟨u.slots,Heap.get?_push_of_some o q⟩
 there:=fun b u q=>⟨u,Heap.get?_push_of_some o q⟩
theorem q6i{fs own:List Addr}{h:Heap}{a:Addr}{oa:Obj}{vs:Array Value}(g:Array Value->Array Value)(ha:a∈own)(q:h.get? a=some oa)(hd:oa.data=.fields vs):Past fs own h (h.update a (Obj.mapFields g)) where
 keep:=fun b u z n _=>by rw[Heap.get?_update_other _ _ (fun w=>n (by rw[<-w];exact ha))];exact z
 slot:=fun b u z n _=>⟨u.slots,by rw[Heap.get?_update_other _ _ (fun w=>n (by rw[<-w];exact ha))];exact z⟩
 there:=fun b u z=>by
  by_cases w:a=b
  ·subst w
   exact⟨_,Heap.get?_update_self _ q (Obj.isFreed_of_fields (Obj.data_mapFields hd g))⟩
  ·exact⟨u,by rw[Heap.get?_update_other _ _ w];exact z⟩
section
variable{M:Model}{A:Around}{E:Value->Shared->Prop}{s:Shared}
theorem z4n{base:Heap}{env:Env}{outer:List Env}{L e:Addr}{oe:Obj}{vs:Array Value}{head:Value}{hn:Bool}{own:List Addr}{Q:Unit->Shared->Prop}(hfr:A.frames=some (env::outer))(hl:s.heap.FunFrames base (env::outer))
  (hf:env.frame=some L) (he:s.heap.get? e=some oe) (hd:oe.data=.fields vs) (hsz:1<vs.size) (ho:e∈own)
  (h:∀h' T,s.heap.get? T=none->Past ((env::outer).filterMap (·.frame)) own s.heap h'->Fly e oe.cls [T] h'->Q () {s with heap:=h' }) :
  wpAny M A (do let a <-frameOf env;let pl <-entryPlaceOf L hn;let b <-EntryCells.newEntry head a .none (rawInt L) .none pl;setField (.ref e) 1 b) (fun _ s'=>wpAny M A (setFlight (.ref e) none) Q E s') E s:=by
 have nfr:e∉(env::outer).filterMap (·.frame):=fun z=>by
  obtain⟨-,o,q,nd⟩:=hl.mem z
  rw[he]at q;cases q
  exact nd vs hd
 refine wpAny_bind (wpAny_frameOf_fun hfr hl hf fun g1 s1=>wpAny_bind (wpAny_entryPlaceOf fun pl hpl=>?_))
 have P1:Past ((env::outer).filterMap (·.frame)) own s.heap g1:=z5s s1
 unfold EntryCells.newEntry newFields
 refine wpAny_bind (wpAny_newObj_type ?_ (hpl.sizeOk5 _ _ _ _ _))
 have e1:g1.get? e=some oe:=by rw[s1.2.1 e nfr];exact he
 generalize hto:({cls:=.type "traceback",dict:=none,data:=.fields ([head,.ref L,.none,rawInt L,.none]++(if pl.isEmpty then List.replicate 6 Value.none else pl)).toArray}:Obj)=to
 have P2:Past ((env::outer).filterMap (·.frame)) own g1 (g1.push to):=z8b g1 to
 have e2:=Heap.get?_push_of_some (h:=g1) to e1
 have Tnew:s.heap.get? g1.objs.size=none:=by
  cases q:s.heap.get? g1.objs.size with
  |none=>rfl
  |some o=>exact absurd (Heap.lt_size q) (by rw[s1.1];exact Nat.lt_irrefl _)
 have T2:(g1.push to).get? g1.objs.size=some to:=Heap.get?_push_size g1 (by subst hto;rfl)
 refine wpAny_setField e2 hd hsz ?_
 have Te:g1.objs.size≠e:=Nat.ne_of_gt (Heap.lt_size e1)
 have P3:Past ((env::outer).filterMap (·.frame)) own (g1.push to) _:=q6i (·.setIfInBounds 1 (Value.ref g1.objs.size)) ho e2 hd
 have d3:=Obj.data_mapFields hd (·.setIfInBounds 1 (Value.ref g1.objs.size))
 have e3:=Heap.get?_update_self (Obj.mapFields (·.setIfInBounds 1 (Value.ref g1.objs.size))) e2 (Obj.isFreed_of_fields d3)
 have T3:=(Heap.get?_update_other (g1.push to) (Obj.mapFields (·.setIfInBounds 1 (Value.ref g1.objs.size))) (Ne.symm Te)).trans T2
 have tod:to.data=.fields ([head,.ref L,.none,rawInt L,.none]++(if pl.isEmpty then List.replicate 6 Value.none else pl)).toArray:=by subst hto;rfl
 unfold setFlight
 refine wpAny_bind (wpAny_field e3 d3 (x:=.ref g1.objs.size) (by simp[hsz]) ?_)
 rw[if_pos (show(Value.ref g1.objs.size != Value.none)=true by simp)]
 have sz3:3<([head,.ref L,.none,rawInt L,.none]++(if pl.isEmpty then List.replicate 6 Value.none else pl)).toArray.size:=by
  simp only[List.size_toArray,List.length_append,List.length_cons,List.length_nil];omega
 refine wpAny_setField T3 tod sz3 (h _ g1.objs.size Tnew ?_ ?_)
 ·have P:=(P1.trans P2).trans P3
  have nT:∀b u,s.heap.get? b=some u->g1.objs.size≠b:=fun b u z w=>by rw[w,z]at Tnew;cases Tnew
  refine⟨fun b u z n m=>?_,fun b u z n m=>?_,fun b u z=>?_⟩
  ·rw[Heap.get?_update_other _ _ (nT b u z)]
   exact P.keep b u z n m
  ·obtain⟨sl,q⟩:=P.slot b u z n m
   exact⟨sl,by rw[Heap.get?_update_other _ _ (nT b u z)];exact q⟩
  ·obtain⟨o',q⟩:=P.there b u z
   exact⟨o',by rw[Heap.get?_update_other _ _ (nT b u z)];exact q⟩
 ·have T4:=Heap.get?_update_self (Obj.mapFields (·.setIfInBounds 3 ((none:Option Addr).elim Value.none fun f=>rawInt f))) T3 (Obj.isFreed_of_fields (Obj.data_mapFields tod _))
  refine⟨_,_,.ref g1.objs.size,?_,Obj.cls_mapFields _ _,d3,by simp[hsz],.inr ⟨g1.objs.size,_,_,rfl,by simp,Te,T4,Obj.data_mapFields tod _,?_⟩⟩
  ·rw[Heap.get?_update_other _ _ Te]
   exact e3
  ·rw[Array.getElem?_setIfInBounds_self_of_lt sz3]
   rfl
theorem z4o{base:Heap}{env:Env}{outer:List Env}{L e:Addr}{cls:Value}{own:List Addr}{Q:Unit->Shared->Prop}(hfr:A.frames=some (env::outer))(hl:s.heap.FunFrames base (env::outer))(hf:env.frame=some L)(F:Fly e cls own s.heap)
  (h:∀h' T,s.heap.get? T=none->Past ((env::outer).filterMap (·.frame)) (e::own) s.heap h'->Fly e cls [T] h'->Q () {s with heap:=h' }):wpAny M A (noteFrame (.ref e) env) (fun _ s2=>wpAny M A (setFlight (.ref e) none) Q E s2) E s:=by
 obtain⟨oe,vs,hd,he,hc,hdt,h1,hh⟩:=F.is
 subst hc
 have hsz:1<vs.size:=(Array.getElem?_eq_some_iff.mp h1).1
 unfold noteFrame
 simp only[hf]
 refine wpAny_bind (wpAny_field he hdt h1 ?_)
 rcases hh with rfl|⟨T,oT,ts,rfl,hT,Te,gT,dT,h3⟩
 ·rw[if_neg (by decide)]
  exact z4n hfr hl hf he hdt hsz (by simp) h
 ·rw[if_pos (show(Value.ref T != Value.none)=true by simp)]
  refine wpAny_bind (wpAny_field gT dT h3 ?_)
  rw[if_neg (show ¬((Value.none==rawInt L)=true) by simp[rawInt])]
  refine wpAny_bind (wpAny_setField gT dT (Array.getElem?_eq_some_iff.mp h3).1 ?_)
  have P:Past ((env::outer).filterMap (·.frame)) (e::own) s.heap _:=q6i (·.setIfInBounds 3 Value.none) (List.mem_cons_of_mem _ hT) gT dT
  have hl2:(s.heap.update T (Obj.mapFields (·.setIfInBounds 3 Value.none))).FunFrames base (env::outer):=hl.of_keeps fun b o q nd=>⟨o,by
   rw [Heap.get?_update_other _ _ (fun w=>by subst w;rw [gT]at q;cases q;exact nd ts dT)];exact q,rfl⟩
  refine z4n (own:=e::own) hfr hl2 hf (oe:=oe) (by rw[Heap.get?_update_other _ _ Te];exact he) hdt hsz (by simp) fun h' T' n' P' F'=>h h' T' ?_ (P.trans P') F'
  cases q:s.heap.get? T' with
  |none=>rfl
  |some o=>
   obtain⟨o',z⟩:=P.there T' o q
   rw[z]at n'
   cases n'
theorem z8x{base:Heap}{env:Env}{outer:List Env}{L e:Addr}{cls:Value}{own:List Addr}{Q:Unit->Shared->Prop}(hfr:A.frames=some (env::outer))(hl:s.heap.FunFrames base (env::outer))(hf:env.frame=some L)(F:Fly e cls own s.heap)
  (h:∀h' T,s.heap.get? T=none->Past ((env::outer).filterMap (·.frame)) (e::own) s.heap h'->Fly e cls [T] h'->Q () {s with heap:=h' }):wpAny M A (leaving env (.ref e)) Q E s:=by
 unfold leaving
 exact wpAny_bind (z4o hfr hl hf F h)
theorem y2n{fs:List Addr}{e T:Addr}{cls:Value}{Q:Unit->Shared->Prop}(F:Fly e cls [T] s.heap)(h:∀h',Past fs [T] s.heap h'->Fly e cls [T] h'->Q () {s with heap:=h' }):wpAny M A (setFlight (.ref e) none) Q E s:=by
 obtain⟨oe,vs,hd,he,hc,hdt,h1,hh⟩:=F.is
 unfold setFlight
 refine wpAny_bind (wpAny_field he hdt h1 ?_)
 rcases hh with rfl|⟨T',oT,ts,rfl,hT,Te,gT,dT,h3⟩
 ·rw[if_neg (by decide)]
  exact wpAny_pure (h s.heap (Past.refl _ _ _) ⟨oe,vs,.none,he,hc,hdt,h1,.inl rfl⟩)
 ·have:T'=T:=by simpa using hT
  subst this
  rw[if_pos (show(Value.ref T' != Value.none)=true by simp)]
  have s3:=(Array.getElem?_eq_some_iff.mp h3).1
  have T4:=Heap.get?_update_self (Obj.mapFields (·.setIfInBounds 3 ((none:Option Addr).elim Value.none fun f=>rawInt f))) gT (Obj.isFreed_of_fields (Obj.data_mapFields dT _))
  refine wpAny_setField gT dT s3 (h _ (q6i _ (by simp) gT dT) ⟨oe,vs,.ref T',by rw[Heap.get?_update_other _ _ Te];exact he,hc,hdt,h1,.inr ⟨T',_,_,rfl,by simp,Te,T4,Obj.data_mapFields dT _,?_⟩⟩)
  rw[Array.getElem?_setIfInBounds_self_of_lt s3]
  rfl
end
def CXE(P:Program)(w:World):CXT:=fun outer H s E e s'=>∃(a:Addr)(cls:Value)(own:List Addr)(H':Hp),e=.ref a/\s'.os=s.os/\AllBare s'.gens/\Un (frs outer) [] H H' s.heap s'.heap/\HOk P w H' s'.heap/\Fly a cls own s'.heap/\
 (∀b∈a::own,s.heap.get? b=none/\H' b=none)/\E cls none H'
theorem HOk.past{P:Program}{w:World}{H:Hp}{h h':Heap}{fs own:List Addr}(ok:HOk P w H h)(p:Past fs own h h')(n1:∀b∈fs,H b=none)(n2:∀b∈own,H b=none):HOk P w H h':=fun a o q=>
 (ok a o q).stay (fun b u hb z=>p.keep b u z (fun m=>by
   rcases hb with rfl|hb
   ·rw [n2 _ m]at q;cases q
   ·rw [n2 _ m]at hb;cases hb) (fun m=>by
   rcases hb with rfl|hb
   ·rw [n1 _ m]at q;cases q
   ·rw [n1 _ m]at hb;cases hb)) (fun _ q=>q) fun _ _ q=>q
theorem q2a.ex{P:Program}{w:World}{H:Hp}{h:Heap}{a:Addr}{o:HO}(x:q2a P w H h a o):∃u,h.get? a=some u:=by
 cases o with
 |lst xs=>obtain⟨_,_,_,_,e⟩:=x;exact⟨_,e⟩
 |tup xs=>obtain⟨_,_,_,_,e,_⟩:=x;exact⟨_,e⟩
 |dK kvs=>obtain⟨_,_,_,_,o,_,_,e,_⟩:=x;exact⟨_,e⟩
 |dT kvs=>obtain⟨_,_,_,_,o,_,_,e,_⟩:=x;exact⟨_,e⟩
 |dH c kvs=>obtain⟨_,_,_,_,o,_,e,_⟩:=x;exact⟨_,e⟩
 |set S n=>obtain⟨o,_,_,_,e,_⟩:=x;exact⟨_,e⟩
 |ins C dx fs=>obtain⟨_,_,_,e,_⟩:=x;exact⟨_,e⟩
 |own _=>exact x
 |xd fs=>obtain⟨_,⟨_,_,_,e,_⟩,_⟩:=x;exact⟨_,e⟩
 |rng lo hi=>obtain⟨_,_,_,e⟩:=x;exact⟨_,e⟩
 |frz o u=>exact⟨_,x.1⟩
 |tbl ps=>exact⟨_,x⟩
 |met f y=>exact⟨_,x⟩
 |ext φ=>exact x.2.1
theorem HOk.none_of{P:Program}{w:World}{H:Hp}{h:Heap}{b:Addr}(ok:HOk P w H h)(n:h.get? b=none):H b=none:=by
 cases q:H b with
 |none=>rfl
 |some o=>
  obtain⟨u,z⟩:=q2a.ex (ok b o q)
  rw[n]at z;cases z
theorem x3r{P:Program}{w:World}{K:Frag}{mg:Str->Option Value}{base:Heap}{N:List Str}{qual:Str}{scope:Scope}{f:Addr}{cd:Value}{A:Around}{outer:List Env}{s:Shared}{H:Hp}{E:XK} :
  q4t (CXE P w) (cxOf (CXE P w) P w K mg base N qual scope f cd A outer s H E) E:=by
 intro pins σ H1 s1 e s2 I1 hx
 obtain⟨a,cls,own,H2,rfl,os,bare,un,hok,F,new,q⟩:=hx
 have I2:=I1.call' os un hok bare (fun b z=>absurd z (by simp))
 have n0:∀b,(∃o,s.heap.get? b=some o)->∃o,s1.heap.get? b=some o:=fun b ⟨o,z⟩=>I1.base.there b o z (by intro y;cases y)
 have old:∀b,(∃o,s.heap.get? b=some o)->b∉a::own:=fun b z m=>by
  obtain⟨o,y⟩:=n0 b z
  rw[(new b m).1]at y;cases y
 have n2:∀b,(∃o,s.heap.get? b=some o)->∃o,s2.heap.get? b=some o:=fun b ⟨o,z⟩=>I2.base.there b o z (by intro y;cases y)
 refine z8x (base:=base) I2.ok.frames I2.stack rfl F fun h' T nT P' F'=>?_
 have hfr:∀b,(∃o,s.heap.get? b=some o)->b∉frs outer->b∉frs (envOfC qual scope s.heap.objs.size f cd::outer):=fun b ⟨o,z⟩ m y=>by
  have lt:=Heap.lt_size z
  have y':b∈s.heap.objs.size::frs outer:=y
  rcases List.mem_cons.mp y' with r|r
  ·rw[r]at lt;exact absurd lt (Nat.lt_irrefl _)
  ·exact m r
 refine⟨a,cls,[T],H2,rfl,I2.os,I2.bare,⟨fun b o z n m _=>?_,fun b o z n m _=>?_,fun b o z n x=>I2.base.free b o z n x,fun b o z x=>?_,I2.base.tups,I2.base.frzs,I2.base.tbls⟩,?_,F',?_,q⟩
 ·exact P'.keep b o (I2.base.keep b o z n m (by intro y;cases y)) (old b ⟨o,z⟩) (hfr b ⟨o,z⟩ m)
 ·obtain⟨sl,y⟩:=I2.base.slot b o z n m (by intro y;cases y)
  obtain⟨sl2,y2⟩:=P'.slot b _ y (old b ⟨o,z⟩) (show b∈s.heap.objs.size::frs outer from List.mem_cons_of_mem _ m)
  exact⟨sl2,y2⟩
 ·obtain⟨o2,y⟩:=n2 b ⟨o,z⟩
  exact P'.there b o2 y
 ·exact HOk.past I2.hok P' I2.stkFree fun b m=>(new b m).2
 ·intro b m
  simp only[List.mem_cons,List.not_mem_nil,or_false]at m
  rcases m with rfl|rfl
  ·refine⟨?_,(new b (by simp)).2⟩
   cases z:s.heap.get? b with
   |none=>rfl
   |some o=>exact absurd (by simp) (old b ⟨o,z⟩)
  ·refine⟨?_,HOk.none_of I2.hok nT⟩
   cases z:s.heap.get? b with
   |none=>rfl
   |some o=>
    obtain⟨o',y⟩:=n2 b ⟨o,z⟩
    rw[nT]at y;cases y
theorem y7v{K:Frag}{h:Heap}{C:Addr}{bmB:List Value}{newId:String}(X:K.In h)(q:PySem.W.excIn K C bmB newId=true) :
  ∃bm N nm qn bs hd sn sub ab col dd k0 k1 k2 k3 k5 mN,h.get? C=some (excClassObj nm qn C N bs bm hd sn sub ab col dd k0 k1 k2 k3 k5 newId)/\h.Ns N mN/\mN "__init__" = none/\OwnTail h bmB bm:=by
 unfold PySem.W.excIn at q
 split at q
 ·rename_i d0 cl slots lk
  split at q
  ·rename_i C1 rest j0 j1 j2 j3 id j5 hm hs
   simp only[Bool.and_eq_true,beq_iff_eq,Bool.not_eq_true']at q
   obtain⟨⟨⟨⟨⟨rfl,rfl⟩,nodel⟩,tl⟩,okN⟩,noI⟩:=q
   obtain⟨c1,c2,c3,c4,c5,c6,c7,c8,c9,c10,c11⟩:=cl
   dsimp only at hm nodel okN noI
   subst hm nodel
   have es:slots=#[j0,j1,j2,j3,some (.builtin id),j5]:=by
    cases slots with
    |mk l=>simp only at hs;rw[hs]
   subst es
   refine⟨rest,c4,c1,c5,c2,c6,c7,c8,c9,c10,d0,j0,j1,j2,j3,j5,h.nsMap c4,X _ _ lk,?_,?_,?_⟩
   ·exact Heap.Ns.of_isNs (PySem.W.isNs_of_in X okN)
   ·exact PySem.W.nsMap_none_of_in X okN noI
   ·exact PySem.W.tail_of_in X tl
  ·cases q
 ·cases q
def vErr:List Value:=[.type "ValueError",.type "Exception",.type "BaseException",.type "object"]
section
variable{X:Cx}{E:XK}
theorem y2j{pins:List (Addr×Obj)}{σ:St}{H:Hp}{s:Shared}{h':Heap}{a C:Addr}{vs:List Value}(I:Inv X pins σ H s)(m:Heap.MadeExcOf s.heap h' a (.ref C) vs)(q:E (.ref C) none H):CXE X.prog X.w X.stack H s E (.ref a) {s with heap:=h' }:=by
 obtain⟨t,he,htn,ht⟩:=m.there
 refine⟨a,.ref C,[],H,rfl,rfl,I.bare,Un.kept m.keeps,I.hok.kept m.keeps,⟨_,_,.none,he,rfl,rfl,rfl,.inl rfl⟩,fun b hb=>?_,q⟩
 have:b=a:=by simpa using hb
 subst this
 exact⟨m.new,HOk.none_of I.hok m.new⟩
theorem y1t{x:Str}{C:Addr}{np cpos pos:Pos}{e0:Expr}{ta:TA}(hp:q4t (CXE X.prog X.w) X E)(hc:X.calm=true)(hg:Gl X x)(hm:X.mg x=some (.ref C))(q:PySem.W.excIn X.K C vErr "ValueError.__new__" = true)(ha:PA X [e0] ta)
  (hd:(x==("__debug__" : Str))=false:=by decide) (he:starEach [e0] X.env=(false,eval e0 X.env)::starEach [] X.env:=by rfl) :
  PS X (.Raise (some (.Call (.Name x np) [e0] [] cpos)) none pos) (fun _ σ H=>ta σ H fun vs H1=>vs.length<=sizeLine/\E (.ref C) none H1):=by
 intro pins s σ H D I h
 obtain⟨bm,N,nm,qn,bs,hdd,sn,sub,ab,col,dd,k0,k1,k2,k3,k5,mN,hC,hN,hni,T⟩:=y7v I.ok.mod.kin q
 have FB:=PySem.F.excBase_ValueError
 refine wpAny_Raise_call_subT (C:=C) (N:=N) (nm:=nm) (q:=qn) (bs:=bs) (bm:=bm) (hdct:=hdd) (sn:=sn) (sub:=sub) (ab:=ab) (col:=col) (dd:=dd) (k0:=k0) (k1:=k1) (k2:=k2) (k3:=k3) (k5:=k5) (mN:=mN) FB (T.hasType FB.hasBase) (I.ok.hd hc) (by rw[he];rfl) hni ?_
 refine q7y I hg hm ⟨rfl,?_⟩ hd
 have hs:=ha cpos pins s σ H _ I h
 rw[he]at hs ⊢
 refine Calls.evalArgs_plain (wpAny_mono hs (fun us s2 ⟨vs,H1,I1,r,hl,hE⟩=>?_) fun _ _ z=>z)
 refine⟨rfl,by rw[<-r.length];exact hl,I1.bk _ _ hC,hN.keeps I1.bk,T.keeps I1.bk,fun h' a m=>?_⟩
 exact hp pins σ H1 s2 (.ref a) _ I1 (y2j I1 m hE)
end
theorem Inv.stepX{X:Cx}{pins:List (Addr×Obj)}{σ:List (Option V)}{H H':Hp}{s:Shared}{h':Heap}{g':Array GenState}{t':Nat}{d':Drawn}{ch:List Addr}(I:Inv X pins σ H s)
  (hch:∀b∈ch,(b∈X.ex\/X.s₀.heap.get? b=none)/\b≠X.env.locals/\(∀x c,X.env.cells.lookup x=some c->c≠b)/\∀p∈X.pn++pins,p.1≠b)
  (keep:∀b o,b≠X.env.locals->b∉X.fs->b∉ch->s.heap.get? b=some o->H b=none->h'.get? b=some o)
  (slot:∀b o,b≠X.env.locals->b∈X.fs->b∉ch->s.heap.get? b=some o->H b=none->∃sl,h'.get? b=some {o with slots:=sl}) (free:∀b o,b∉ch->s.heap.get? b=some o->H b=none->H' b=none)
  (there:∀b o,b∉ch->s.heap.get? b=some o->∃o',h'.get? b=some o')
  (tups:∀b xs,H b=some (.tup xs)->H' b=some (.tup xs)) (frzs:∀b o u,H b=some (.frz o u)->H' b=some (.frz o u)) (tbls:∀b ps,H b=some (.tbl ps)->∃more,H' b=some (.tbl (ps++more)))
  (ns:∀m,s.heap.Ns X.env.locals m->h'.Ns X.env.locals m) (hok:HOk X.prog X.w H' h') (hg:AllBare g') :
  Inv X pins σ H' {s with heap:=h',gens:=g',drawn:=d',toks:=t' }:=by
 have neL:∀b o,X.s₀.heap.get? b=some o->b≠X.env.locals:=fun b o e=>Nat.ne_of_lt (Nat.lt_of_lt_of_le (Heap.lt_size e) I.ok.above)
 have neC:∀b o,X.s₀.heap.get? b=some o->b∉X.ex->b∉ch:=fun b o e hx hb=>by
  rcases(hch b hb).1 with z|z
  ·exact hx z
  ·rw[e]at z;cases z
 have cellK:∀x c,X.env.cells.lookup x=some c->∀v,s.heap.IsCell c v->h'.IsCell c v:=fun x c e v hh1=>by
  obtain⟨o,ho,hd⟩:=hh1
  have nch:c∉ch:=fun z=>(hch c z).2.2.1 x c e rfl
  by_cases hc:c∈X.fs
  ·obtain⟨sl,q⟩:=slot c o (I.cne x c e) hc nch ho (I.freeC x c e)
   exact⟨_,q,hd⟩
  ·exact⟨o,keep c o (I.cne x c e) hc nch ho (I.freeC x c e),hd⟩
 refine⟨I.ok,I.os,hg,⟨fun b o e n hb hx=>?_,fun b o e n hb hx=>?_,fun b o e n hx=>?_,fun b o e hx=>?_,fun b xs e=>tups b xs (I.base.tups b xs e),fun b o xs e=>frzs b o xs (I.base.frzs b o xs e),fun b ps e=>?_⟩,?_,fun x c e=>?_,?_,fun x c e=>?_,fun p hp=>?_,hok,I.len⟩
 ·exact keep b o (neL b o e) hb (neC b o e hx) (I.base.keep b o e n hb hx) (I.base.free b o e n hx)
 ·obtain⟨sl,e1⟩:=I.base.slot b o e n hb hx
  obtain⟨sl',e2⟩:=slot b _ (neL b o e) hb (neC b o e hx) e1 (I.base.free b o e n hx)
  exact⟨sl',e2⟩
 ·obtain⟨o',e1⟩:=I.base.there b o e hx
  exact free b o' (neC b o e hx) e1 (I.base.free b o e n hx)
 ·obtain⟨o',e1⟩:=I.base.there b o e hx
  exact there b o' (neC b o e hx) e1
 ·obtain⟨m1,e1⟩:=I.base.tbls b ps e
  obtain⟨m2,e2⟩:=tbls b _ e1
  exact⟨m1++m2,by rw[e2,Array.append_assoc]⟩
 ·obtain⟨m,hn,hl⟩:=I.loc
  refine⟨m,ns m hn,fun i x v e1 e2 e3=>?_⟩
  obtain⟨u,r,l⟩:=hl i x v e1 e2 e3
  refine⟨u,r,?_⟩
  rcases l with l|⟨k,c,e,z⟩
  ·exact .inl l
  ·exact .inr ⟨k,c,e,cellK x c e _ z⟩
 ·obtain⟨v,z⟩:=I.cell x c e
  exact⟨v,cellK x c e v z⟩
 ·obtain⟨m,⟨o,_,_,ho,_⟩,_⟩:=I.loc
  exact free _ o (fun z=>(hch _ z).2.1 rfl) ho I.free
 ·obtain⟨v,o,ho,hd⟩:=I.cell x c e
  exact free c o (fun z=>(hch c z).2.2.1 x c e rfl) ho (I.freeC x c e)
 ·obtain⟨e,n,ne,nf,d⟩:=I.pin p hp
  have nch:p.1∉ch:=fun z=>(hch p.1 z).2.2.2 p hp rfl
  exact⟨keep p.1 p.2 ne nf nch e n,free p.1 p.2 nch e n,ne,nf,d⟩
theorem x0f{P:Program}{w:World}{X:Cx}:q4t (CXE P w) X E0:=fun _ _ _ _ _ _ _ hh1=>by obtain⟨_,_,_,_,_,_,_,_,_,_,_,q⟩:=hh1;exact(q.elim)
theorem CXE.imp{P:Program}{w:World}{outer:List Env}{H:Hp}{s s':Shared}{E E':XK}{e:Value}(h:CXE P w outer H s E e s')(i:∀c d H',E c d H'->E' c d H'):CXE P w outer H s E' e s':=
 let ⟨a,cls,own,H',h1,h2,h3,h4,h5,h6,h7,q⟩:=h;⟨a,cls,own,H',h1,h2,h3,h4,h5,h6,h7,i _ _ _ q⟩
theorem q4t.imp{P:Program}{w:World}{X:Cx}{E E':XK}(h:q4t (CXE P w) X E)(i:∀c d H',E' c d H'->E c d H'):q4t (CXE P w) X E':=fun pins σ H s e s' I q=>h pins σ H s e s' I (q.imp i)
theorem Fun.okX{P:Program}{w:World}{K:Frag}{mg:Str->Option Value}{base:Heap}{x qual:Str}{st:Stmt}{f:Addr}{fd:FuncData}{N ps:List Str}{k:Nat}{sp:Sp}(F:Fun K x qual st f fd)(S:FnScope N ps (q1n st))(len:∀vs H Q E,sp vs H Q E->vs.length=ps.length)
  (hbody:∀(cdv:Value)(A:Around)(outer:List Env)(s:Shared)(H:Hp)(vs:List V)(Q:VK)(E:XK),RoomW k (A.deeper (envOfC qual (q1n st) s.heap.objs.size f cdv))->sp vs H Q E->
   ∃t,PSs (cxOf (CXE P w) P w K mg base N qual (q1n st) f cdv A outer s H E) (q4v st) t/\t {nx:=fun _ H'=>Q .non H',rt:=Q} (q7h N vs) H):FnOk P w K mg base (CXE P w) (k+1) f fd ps sp:=by
 obtain⟨oc,od,kV,doc,pm,an,cdv,ct,osl,rfl,lk,hcd⟩:=F.ex
 exact x5a lk hcd S len fun A outer s H vs Q E hr hsp=>hbody cdv A outer s H vs Q E hr hsp
section
variable(P:Program)(w:World)
end
section
variable{P:Program}{w:World}{H H':Hp}{h h':Heap}{a:Addr}{o:HO}
end
section
variable{P:Program}{w:World}{H:Hp}{h h':Heap}{x e:Addr}{o':HO}
end
section
variable{fs fs' ex ex':List Addr}{H H1 H2:Hp}{h h1 h2 h':Heap}{a x e:Addr}{o:HO}
end
section
variable{X:Cx}{pins:List (Addr×Obj)}{σ:List (Option V)}{H H':Hp}{s:Shared}{h':Heap}
end
section
variable{X:Cx}
variable{a b:Expr}{ta tb:TE}{pos:Pos}
variable{tA tB':TT}{rest:List Expr}
end
section
variable{X:Cx}{pins:List (Addr×Obj)}{σ:St}{H:Hp}{s:Shared}{a:Addr}{xs ys:List V}
end
section
variable{X:Cx}{pins:List (Addr×Obj)}{σ:St}{H:Hp}{s:Shared}{E:Value->Shared->Prop}
end
section
variable{X:Cx}{st:Stmt}{rest:List Stmt}{t u:TS}{e:Expr}{te:TE}{pos:Pos}
end
section
variable{X:Cx}{pos:Pos}
end
section
variable{X:Cx}{pos:Pos}
end
section
variable{X:Cx}{tg:Expr}
end
section
variable{X:Cx}{a b c:Expr}{ta tb tc:TE}{pos:Pos}
end
section
variable{X:Cx}{a b c:Expr}{ta tb tc:TE}{pos:Pos}
end
section
variable{prog:Program}{w:World}{A:Around}{E:Value->Shared->Prop}{s:Shared}{K:Frag}{x dx C f:Addr}{mA:Str->Option Value}{name:Str}{v:Value}
end
section
variable{P:Program}{w:World}{H H':Hp}{h h':Heap}{a C dx:Addr}{fs fs':List (Str×V)}
end
section
variable{X:Cx}{pins:List (Addr×Obj)}{σ:St}{H:Hp}{s:Shared}{a C dx:Addr}{fs:List (Str×V)}{f:Str}{v:V}{A:Around}{E:Value->Shared->Prop}
end
section
variable{X:Cx}{o e value:Expr}{f:Str}{pos pos' tpos:Pos}{ta tv:TE}
end
section
variable{X:Cx}{pins:List (Addr×Obj)}{σ:St}{H:Hp}{s:Shared}{A:Around}{E:Value->Shared->Prop}{Q:Value->Shared->Prop}{c:Value}{b:Bool}
end
section
variable{X:Cx}{e:Expr}{es:List Expr}{te:TE}{t:TA}{pos:Pos}
end
section
variable{X:Cx}{pins:List (Addr×Obj)}{σ:St}{H:Hp}{s s':Shared}
end
section
variable{X:Cx}{CX:CXT}{k:Nat}{f C:Addr}{fd:FuncData}{ps:List Str}{sp:Sp}{dvs:List V}{ds:List Value}{E:XK}{x m:Str}{p pos apos:Pos}{e o:Expr}{es:List Expr}{ta:TE}{t:TA}
end
section
variable{X:Cx}{CX:CXT}{k:Nat}{f C:Addr}{fd:FuncData}{ps ks:List Str}{sp:Sp}{E:XK}{x m:Str}{p pos apos kpos:Pos}{e o:Expr}{es:List Expr}{kws:List Keyword}{te ta:TE}{t tk:TA}{nm:Option Str}
variable{g:List Value->List Value->List Value}{gV:List V->List V->List V}
end
section
variable{X:Cx}{x:Str}{p pos:Pos}{e:Expr}{es:List Expr}{t:TA}{id T:String}{r:List V->Hp->VK->Prop}
end
section
variable{κ:Type} [DecidableEq κ]
def valV(kvs:List (κ×V))(k:κ):Option V:=(kvs.find? fun kv=>decide (kv.1=k)).map (·.2)
def putK(kvs:List (κ×V))(k:κ)(v:V):List (κ×V):=
 if(kvs.any fun kv=>decide (kv.1=k))=true then kvs.map (fun kv=>if kv.1=k then(kv.1,v)else kv)else kvs++[(k,v)]
theorem q6x{p:κ×V}{r:List (κ×V)}{k:κ}(e:p.1=k):valV (p::r) k=some p.2:=by simp[valV,List.find?_cons,e]
theorem q6y{p:κ×V}{r:List (κ×V)}{k:κ}(e:¬p.1=k):valV (p::r) k=valV r k:=by simp[valV,List.find?_cons,e]
theorem z4e(k:κ):∀kvs:List (κ×V),(kvs.any fun kv=>decide (kv.1=k))=(valV kvs k).isSome
 |[]=>rfl
 |p::r=>by
  rw[List.any_cons]
  by_cases e:p.1=k
  ·simp only[q6x e,decide_eq_true e,Bool.true_or,Option.isSome_some]
  ·rw[q6y e,decide_eq_false e,Bool.false_or];exact z4e k r
theorem z3f(kvs:List (κ×V))(k:κ)(v:V):(putK kvs k v).length<=kvs.length+1:=by
 unfold putK
 split
 ·rw[List.length_map];omega
 ·rw[List.length_append,List.length_cons,List.length_nil];omega
theorem RelO.isSome_eq{o:Option V}{u:Option Value}(r:RelO o u):o.isSome=u.isSome:=by
 cases o with
 |none=>cases u with
  |none=>rfl
  |some _=>exact(show False from r).elim
 |some _=>cases u with
  |none=>exact(show False from r).elim
  |some _=>rfl
theorem RelO.getD{o:Option V}{u:Option Value}{d:V}{d':Value}(r:RelO o u)(rd:RelV d d'):RelV (o.getD d) (u.getD d'):=by
 cases o with
 |none=>cases u with
  |none=>exact rd
  |some _=>exact(show False from r).elim
 |some _=>cases u with
  |none=>exact(show False from r).elim
  |some _=>exact r
theorem KV.val{kvs:List (κ×V)}{vs:List (κ×Value)}(r:KV kvs vs)(k:κ):RelO (valV kvs k) (valueAt vs k):=by
 unfold KV at r
 induction r with
 |nil=>exact True.intro
 |@cons p q ps qs h t ih=>
  obtain⟨h1,h2⟩:=h
  by_cases e:p.1=k
  ·have e':q.1=k:=h1.symm.trans e
   have b:valueAt (q::qs) k=some q.2:=by simp[valueAt,List.find?_cons,e']
   rw[q6x e,b];exact h2
  ·have e':¬q.1=k:=fun z=>e (h1.trans z)
   have b:valueAt (q::qs) k=valueAt qs k:=by simp[valueAt,List.find?_cons,e']
   rw[q6y e,b];exact ih
theorem KV.any{kvs:List (κ×V)}{vs:List (κ×Value)}(r:KV kvs vs)(k:κ):(kvs.any fun kv=>decide (kv.1=k))=vs.any fun kv=>decide (kv.1=k):=by
 unfold KV at r
 induction r with
 |nil=>rfl
 |cons h t ih=>rw[List.any_cons,List.any_cons,ih,h.1]
theorem KV.repl{kvs:List (κ×V)}{vs:List (κ×Value)}(r:KV kvs vs)(k:κ){y:V}{u:Value}(ry:RelV y u) :
  KV (kvs.map fun kv=>if kv.1=k then(kv.1,y)else kv) (vs.map fun kv=>if kv.1=k then(kv.1,u)else kv):=by
 unfold KV at r ⊢
 induction r with
 |nil=>exact .nil
 |@cons p q ps qs h t ih=>
  rw[List.map_cons,List.map_cons]
  refine .cons ?_ ih
  obtain⟨h1,h2⟩:=h
  by_cases e:p.1=k
  ·rw[if_pos e,if_pos (h1.symm.trans e)];exact⟨h1,ry⟩
  ·rw[if_neg e,if_neg (fun z=>e (h1.trans z))];exact⟨h1,h2⟩
theorem KV.put{kvs:List (κ×V)}{vs:List (κ×Value)}(r:KV kvs vs)(k:κ){y:V}{u:Value}(ry:RelV y u):KV (putK kvs k y) (stored vs k u):=by
 unfold putK stored
 rw[r.any k]
 by_cases e:(vs.any fun kv=>decide (kv.1=k))=true
 ·rw[if_pos e,if_pos e];exact r.repl k ry
 ·rw[if_neg e,if_neg e];exact Paired.snoc r ⟨rfl,ry⟩
theorem KV.length{kvs:List (κ×V)}{vs:List (κ×Value)}(r:KV kvs vs):kvs.length=vs.length:=Paired.length r
end
theorem y2t{P:Program}{w:World}{k:Key}{u:Value}(r:RelV (kV k) u):(q1s P w).is k u=true:=by
 cases k with
 |inl i=>obtain⟨t,e⟩:=(show ∃t,u=Value.int i t from r);subst e;exact q7v P w i t
 |inr x=>obtain⟨t,e⟩:=(show ∃t,u=Value.str x t from r);subst e;exact q7u P w x t
theorem z1p{P:Program}{w:World}:∀{ks:List Key}{us:List Value},Vals (ks.map kV) us->ItemsAre (q1s P w) ks us
 |[],_,r=>by rw[List.map_nil]at r;cases r;exact .nil
 |k::ks,_,r=>by
  rw[List.map_cons]at r
  cases r with
  |cons h t=>exact .cons (y2t h) (z1p t)
abbrev KT(H:Hp):List (List Key×V)->List (List Key×Addr×Value)->Prop:=Paired fun p q=>p.1=q.1/\H q.2.1=some (.tup (p.1.map kV))/\RelV p.2 q.2.2
theorem KT.val{H:Hp}{kvs:List (List Key×V)}{xs:List (List Key×Addr×Value)}(r:KT H kvs xs)(k:List Key):RelO (valV kvs k) ((atKey xs k).map (·.2)):=by
 induction r with
 |nil=>exact True.intro
 |@cons p q ps qs h t ih=>
  obtain⟨h1,_,h2⟩:=h
  by_cases e:p.1=k
  ·have e':q.1=k:=h1.symm.trans e
   have b:atKey (q::qs) k=some q.2:=by simp[atKey,List.find?_cons,e']
   rw[q6x e,b];exact h2
  ·have e':¬q.1=k:=fun z=>e (h1.trans z)
   have b:atKey (q::qs) k=atKey qs k:=by simp[atKey,List.find?_cons,e']
   rw[q6y e,b];exact ih
theorem KT.repl{H:Hp}{kvs:List (List Key×V)}{xs:List (List Key×Addr×Value)}(r:KT H kvs xs)(k:List Key){y:V}{u:Value}(ry:RelV y u) :
  KT H (kvs.map fun kv=>if kv.1=k then(kv.1,y)else kv) (xs.map (putAt k u)):=by
 induction r with
 |nil=>exact .nil
 |@cons p q ps qs h t ih=>
  rw[List.map_cons,List.map_cons]
  refine .cons ?_ ih
  obtain⟨h1,h2,h3⟩:=h
  unfold putAt
  by_cases e:p.1=k
  ·rw[if_pos e,if_pos (h1.symm.trans e)];exact⟨h1,h2,ry⟩
  ·rw[if_neg e,if_neg (fun z=>e (h1.trans z))];exact⟨h1,h2,h3⟩
theorem KT.put{H:Hp}{kvs:List (List Key×V)}{xs:List (List Key×Addr×Value)}(r:KT H kvs xs)(k:List Key){b:Addr}{y:V}{u:Value}(hb:H b=some (.tup (k.map kV)))(ry:RelV y u) :
  KT H (putK kvs k y) (storedH xs k b u):=by
 have e:(kvs.any fun kv=>decide (kv.1=k))=(atKey xs k).isSome:=by
  rw[z4e,(r.val k).isSome_eq,Option.isSome_map]
 unfold putK storedH
 rw[e]
 by_cases q:(atKey xs k).isSome=true
 ·rw[if_pos q,if_pos q];exact r.repl k ry
 ·rw[if_neg q,if_neg q];exact Paired.snoc r ⟨rfl,hb,ry⟩
theorem KT.keeps{H H':Hp}{kvs:List (List Key×V)}{xs:List (List Key×Addr×Value)}(r:KT H kvs xs)(ht:∀b ys,H b=some (.tup ys)->H' b=some (.tup ys)):KT H' kvs xs:=
 Paired.mapP r fun _ _ z=>⟨z.1,ht _ _ z.2.1,z.2.2⟩
section
variable{P:Program}{w:World}{H:Hp}{h:Heap}{a:Addr}
theorem y8z{u:HO}(ok:HOk P w H h)(e:Rd H a u):q2a P w H h a u:=e.ok ok
theorem z9y{kvs:List (Key×V)}(ok:HOk P w H h)(e:Rd H a (.dK kvs)):kvs.length<=sizeLine/\(a==sysModules)=false/\∃vs,KV kvs vs/\h.DictOf (q1s P w) a vs:=
 show q2a P w H h a (.dK kvs)from y8z ok e
theorem x5b{kvs:List (Key×V)}(ok:HOk P w H h)(e:H a=some (.dK kvs)):kvs.length<=sizeLine/\(a==sysModules)=false/\∃vs,KV kvs vs/\h.DictOf (q1s P w) a vs:=z9y ok (.inl e)
theorem z9a{ks:List Key}(ok:HOk P w H h)(e:H a=some (.tup (ks.map kV))):(tupleKind (q1s P w)).is h ks a:=by
 obtain⟨_,its,r,o,h1,h2,n,h3⟩:=(show q2a P w H h a (.tup (ks.map kV))from ok a _ e)
 exact⟨o,its.toArray,n,h1,h2,h3,by simpa using z1p r⟩
theorem y7w{kvs:List (List Key×V)}(ok:HOk P w H h)(e:Rd H a (.dT kvs)):kvs.length<=sizeLine/\(a==sysModules)=false/\
  ∃xs,KT H kvs xs/\h.DictOfH (tupleKind (q1s P w)) a xs:=by
 obtain⟨z,y,xs,r,o,es,ep,h1,h2,h3,h4,h5⟩:=(show q2a P w H h a (.dT kvs)from y8z ok e)
 refine⟨z,y,xs,r,o,es,ep,h1,h2,h3,h4,fun x hx=>?_,h5⟩
 have all:∀{l:List (List Key×V)}{m:List (List Key×Addr×Value)},KT H l m->∀x∈m,(tupleKind (q1s P w)).is h x.1 x.2.1:=by
  intro l m q
  induction q with
  |nil=>intro x hx;exact nomatch hx
  |@cons p q ps qs hq t ih=>
   intro x hx
   rcases List.mem_cons.mp hx with e|hx
   ·subst e
    exact z9a ok (by rw[<-hq.1];exact hq.2.1)
   ·exact ih x hx
 exact all r x hx
end
def DGet(H:Hp)(a:Addr)(y:V)(r:Option V):Prop:=
 (∃kvs k,Rd H a (.dK kvs)/\y=kV k/\r=valV kvs k)\/∃kvs k b,Rd H a (.dT kvs)/\y=.ref b/\H b=some (.tup (k.map kV))/\r=valV kvs k
def DPut(H:Hp)(a:Addr)(y v:V)(H':Hp):Prop:=
 (∃kvs k,H a=some (.dK kvs)/\y=kV k/\kvs.length<sizeLine/\H'=upd H a (.dK (putK kvs k v)))\/
 ∃kvs k b,H a=some (.dT kvs)/\y=.ref b/\H b=some (.tup (k.map kV))/\kvs.length<sizeLine/\H'=upd H a (.dT (putK kvs k v))
theorem DGet.k{H:Hp}{a:Addr}{kvs:List (Key×V)}{k:Key}(e:H a=some (.dK kvs)):DGet H a (kV k) (valV kvs k):=.inl ⟨kvs,k,.inl e,rfl,rfl⟩
theorem DPut.k{H:Hp}{a:Addr}{kvs:List (Key×V)}{k:Key}{v:V}(e:H a=some (.dK kvs))(hl:kvs.length<sizeLine):DPut H a (kV k) v (upd H a (.dK (putK kvs k v))):=.inl ⟨kvs,k,e,rfl,hl,rfl⟩
section
variable{X:Cx}{pins:List (Addr×Obj)}{σ:St}{H:Hp}{s:Shared}{a:Addr}{y v:V}{u r:Value}{o:Option V}{A:Around}{E:Value->Shared->Prop}
theorem Inv.big(I:Inv X pins σ H s):sysModules<s.heap.objs.size:=by
 have h:mainGlobals<s.heap.objs.size:=(I.mod.glob.keeps I.bk).lt
 exact Nat.lt_trans (by decide) h
theorem z2e{Q:Value->Shared->Prop}(hu:A.units+1<cLine)(I:Inv X pins σ H s)(g:DGet H a y (some v))(ry:RelV y u)(h:∀w' s',Inv X pins σ H s'->RelV v w'->Q w' s') :
  wpAny (model X.prog X.w) A (getItem (.ref a) u) Q E s:=by
 rcases g with⟨kvs,k,e,ey,l⟩|⟨kvs,k,b,e,ey,eb,l⟩
 ·subst ey
  obtain⟨z,hd,vs,rel,dd⟩:=z9y I.hok e
  obtain⟨w',hw,rw'⟩:=RelO.some_of (v:=v) (o:=valueAt vs k) (by rw[l];exact rel.val k)
  exact wpAny_getItem_of (y2t ry) dd.mapOf hw (h w' _ (I.tok _) rw')
 ·subst ey
  cases(show u=Value.ref b from ry)
  obtain⟨z,hd,xs,rel,dd⟩:=y7w I.hok e
  obtain⟨w',hw,rw'⟩:=RelO.some_of (v:=v) (o:=(atKey xs k).map (·.2)) (by rw[l];exact rel.val k)
  obtain⟨p,hp,hp2⟩:=Option.map_eq_some_iff.mp hw
  refine wpAny_getItem_heap (tupleKind_room_in1 hu) (z9a I.hok eb) dd hp ?_
  rw[hp2]
  exact h w' _ (I.tok _) rw'
theorem y7z{h':Heap}{t':Nat}{ob:HO}(I:Inv X pins σ H s)(mu:Mut (H a))(hs:Heap.SameBut a s.heap h')(he:∃q,h'.get? a=some q)(new:q2a X.prog X.w (upd H a ob) h' a ob) :
  Inv X pins σ (upd H a ob) {s with heap:=h',toks:=t' }:=
 I.write (x:=a) (e:=a) mu (.inl rfl) (fun b q hb z=>(hs.2 b hb).trans z) he new
theorem x2f{P:Program}{w:World}{H':Hp}{h':Heap}{kvs:List (Key×V)}{vs:List (Key×Value)}(z:kvs.length<=sizeLine)(hd:(a==sysModules)=false)(rel:KV kvs vs)(dd:h'.DictOf (q1s P w) a vs) :
  q2a P w H' h' a (.dK kvs):=⟨z,hd,vs,rel,dd⟩
end
section
variable{X:Cx}{pins:List (Addr×Obj)}{σ:St}{H:Hp}{s:Shared}{a:Addr}{kvs:List (Key×V)}{k:Key}{u:Value}{A:Around}{E:Value->Shared->Prop}
end
theorem z3t{X:Cx}{pins:List (Addr×Obj)}{σ:St}{H:Hp}{s:Shared}{a:Addr}{y:V}{o:Option V}(I:Inv X pins σ H s)(g:DGet H a y o):s.TypeIs (.ref a) "dict" :=by
 rcases g with⟨kvs,k,e,_,_⟩|⟨kvs,k,b,e,_,_,_⟩
 ·obtain⟨_,_,vs,_,dd⟩:=z9y I.hok e
  exact dd.typeIs
 ·obtain⟨_,_,xs,_,dd⟩:=y7w I.hok e
  exact dd.typeIs
section
variable{X:Cx}{o i e value:Expr}{pos pos' tpos:Pos}{td ty tv:TE}
end
theorem y3d{P:Program}{w:World}{H:Hp}(h:Heap)(hb:sysModules<h.objs.size):q2a P w H (h.push {cls:=.type "dict",data:=.dict #[]}) h.objs.size (.dK []):=
 ⟨Nat.zero_le _,beq_eq_false_iff_ne.mpr (Ne.symm (Nat.ne_of_lt hb)),[],.nil,Heap.DictOf.new h⟩
def y8q:TE:=fun _ H Q=>∀p,H p=none->Q (.ref p) (upd H p (.dK []))
section
variable{X:Cx}{pos:Pos}
theorem y1z:PE X (.Dict [] [] pos) y8q:=fun pins s σ H Q I h=>
 wpAny_Dict_empty ⟨.ref s.heap.objs.size,_,I.laid (a:=s.heap.objs.size) (o:=.dK []) (t':=s.toks) (fun _ _ q=>Heap.get?_push_of_some _ q) (Nat.le_refl _) (y3d s.heap I.big),rfl,h _ (I.hok.fresh (Nat.le_refl _))⟩
end
structure M1(X:Cx)(o:Expr)(m:Str)(apos:Pos)(e:Expr)(cpos:Pos):Prop where
 base:attributeBase o m X.env (eval o X.env)=eval o X.env
 few:((backTo cpos (starEach [e] X.env)).all (fun x=>!x.1)&&(backToKw cpos (keywordEach [] X.env)).all (fun x=>x.1.isSome)
  && decide (([e]:List Expr).length+([]:List Keyword).length+(if ([]:List Keyword).isEmpty then 0 else 1)<30))=true
 line:(apos.endLine==cpos.line)=true
 trees:backTo cpos (starEach [e] X.env)=[(false,eval e X.env)]
structure M2(X:Cx)(o:Expr)(m:Str)(apos:Pos)(e f:Expr)(cpos:Pos):Prop where
 base:attributeBase o m X.env (eval o X.env)=eval o X.env
 few:((backTo cpos (starEach [e,f] X.env)).all (fun x=>!x.1)&&(backToKw cpos (keywordEach [] X.env)).all (fun x=>x.1.isSome)
  && decide (([e,f]:List Expr).length+([]:List Keyword).length+(if ([]:List Keyword).isEmpty then 0 else 1)<30))=true
 line:(apos.endLine==cpos.line)=true
 trees:backTo cpos (starEach [e,f] X.env)=[(false,eval e X.env),(false,eval f X.env)]
section
variable{X:Cx}{pins:List (Addr×Obj)}{σ:St}{H:Hp}{s:Shared}{a:Addr}{y d:V}{u r:Value}{o:Option V}{A:Around}{E:Value->Shared->Prop}
theorem x2g{Q:Value->Shared->Prop}(hu:A.units+1<cLine)(I:Inv X pins σ H s)(g:DGet H a y o)(ry:RelV y u)(rd:RelV d r)(h:∀w' s',Inv X pins σ H s'->RelV (o.getD d) w'->Q w' s') :
  wpAny (model X.prog X.w) A (call (.builtin "dict.get") [.ref a,u,r]) Q E s:=by
 rcases g with⟨kvs,k,e,ey,l⟩|⟨kvs,k,b,e,ey,eb,l⟩
 ·subst ey
  obtain⟨z,hd,vs,rel,dd⟩:=z9y I.hok e
  refine call_meetsIn PySem.F.slot_dict_get dd.typeIs PySem.F.entry_dict_get (PySem.F.args_dict_get_3 _ _ _) (meets_dict_get_default (q1s X.prog X.w) a (y2t ry) hd r) ⟨_,dd.mapOf,h _ _ (I.tok _) ?_⟩
  rw[l]
  exact(rel.val k).getD rd
 ·subst ey
  cases(show u=Value.ref b from ry)
  obtain⟨z,hd,xs,rel,dd⟩:=y7w I.hok e
  refine call_meetsIn PySem.F.slot_dict_get dd.typeIs PySem.F.entry_dict_get (PySem.F.args_dict_get_3 _ _ _) (meetsH_dict_get_default (tupleKind (q1s X.prog X.w)) a b hd r) ⟨tupleKind_room_in1 hu,k,xs,z9a I.hok eb,dd,h _ _ (I.tok _) ?_⟩
  rw[l]
  exact(rel.val k).getD rd
end
section
variable{X:Cx}{o e f:Expr}{apos cpos:Pos}{td ty tx:TE}
end
section
variable{X:Cx}{pins:List (Addr×Obj)}{σ:St}{H:Hp}{s:Shared}{a:Addr}{kvs:List (Key×V)}{A:Around}{E:Value->Shared->Prop}
end
section
variable{X:Cx}{pins:List (Addr×Obj)}{σ:St}{H:Hp}{s:Shared}{a:Addr}{y:V}{u:Value}{A:Around}{E:Value->Shared->Prop}
end
end L2
namespace Att
open PySem PySem.W PySem.Calls PyProof.Rows
section
variable{prog:Program}{w:World}{A:Around}{E:Value->Shared->Prop}{s:Shared}{K:Frag}
end
end Att
namespace L2
open PySem PySem.Spec PyProof.Rows
section
variable{P:Program}{w:World}{K:Frag}{mg:Str->Option Value}{base:Heap}
end
section
variable{X:Cx}
end
section
variable{κ:Type} [DecidableEq κ]
end
theorem z2i(env:Env):∀(names:List (Str×NameKind))(acc:List (Str×Addr)),
  (∀p∈names,p.2=.free->∃c,env.cells.lookup p.1=some c)->
  (∀x c,acc.lookup x=some c->env.cells.lookup x=some c)->
  ∃cl,(forIn names acc (fun(x:Str×NameKind) cs=>
    (if (x.2==NameKind.free)=true then (do let a <-cellOf env x.1;pure (ForInStep.yield ((x.1,a)::cs)))else pure (ForInStep.yield cs))):Sem (List (Str×Addr)))=pure cl/\
   (∀x c,cl.lookup x=some c->env.cells.lookup x=some c)/\
   (∀x,(names.lookup x=some .free\/(acc.lookup x).isSome=true)->∃c,cl.lookup x=some c):=by
 intro names
 induction names with
 |nil=>
  intro acc _ ha
  refine⟨acc,rfl,ha,fun x hx=>?_⟩
  rcases hx with hx|hx
  ·simp at hx
  ·exact Option.isSome_iff_exists.mp hx
 |cons p r ih=>
  intro acc hf ha
  obtain⟨n,k⟩:=p
  have hr:∀p∈r,p.2=.free->∃c,env.cells.lookup p.1=some c:=fun p hp=>hf p (List.mem_cons_of_mem _ hp)
  by_cases hk:k=.free
  ·subst hk
   obtain⟨c,hc⟩:=hf (n,.free) List.mem_cons_self rfl
   obtain⟨cl,h1,h2,h3⟩:=ih ((n,c)::acc) hr (fun x c' e=>by
    rw [List.lookup_cons]at e
    cases hx:x==n with
    |true=>
     rw [hx]at e
     have:=eq_of_beq hx
     subst this
     cases e
     exact hc
    |false=>rw [hx]at e;exact ha x c' e)
   refine⟨cl,?_,h2,fun x hx=>h3 x ?_⟩
   ·rw[List.forIn_cons]
    have:cellOf env n=pure c:=by unfold cellOf;rw[hc]
    simp only[beq_self_eq_true,if_true,this]
    exact h1
   ·rcases hx with hx|hx
    ·rw[List.lookup_cons]at hx
     cases hq:x==n with
     |true=>right;rw[List.lookup_cons,hq];rfl
     |false=>rw[hq]at hx;exact .inl hx
    ·right
     rw[List.lookup_cons]
     cases hq:x==n with
     |true=>rfl
     |false=>exact hx
  ·have hb:(k==NameKind.free)=false:=by simpa using hk
   obtain⟨cl,h1,h2,h3⟩:=ih acc hr ha
   refine⟨cl,?_,h2,fun x hx=>h3 x ?_⟩
   ·rw[List.forIn_cons]
    simp only[hb,Bool.false_eq_true,if_false]
    exact h1
   ·rcases hx with hx|hx
    ·rw[List.lookup_cons]at hx
     cases hq:x==n with
     |true=>rw[hq]at hx;cases hx;exact absurd rfl hk
     |false=>rw[hq]at hx;exact .inl hx
    ·exact .inr hx
theorem z2j{scope:Scope}{env:Env}(hf:∀p∈scope.names,p.2=.free->∃c,env.cells.lookup p.1=some c) :
  ∃cl,closureFor scope env=pure cl/\(∀x c,cl.lookup x=some c->env.cells.lookup x=some c)/\(∀x,scope.names.lookup x=some .free->∃c,cl.lookup x=some c):=by
 obtain⟨cl,h1,h2,h3⟩:=z2i env scope.names [] hf (fun _ _ e=>by simp at e)
 refine⟨cl,?_,h2,fun x hx=>h3 x (.inl hx)⟩
 unfold closureFor
 simp only[]
 have:((forIn scope.names ([]:List (Str×Addr)) (fun(x:Str×NameKind) cs=>
    (if (x.2==NameKind.free)=true then (do let a <-cellOf env x.1;pure (ForInStep.yield ((x.1,a)::cs)))else pure (ForInStep.yield cs))):Sem (List (Str×Addr))) >>= fun r=>pure r)=pure cl:=by
  rw[h1];rfl
 exact this
def IxOk(N:List Str)(around:Scope)(scope:Scope):List Str->List (Option Nat)->Prop
 |[],[]=>True
 |y::r,some j::t=>(N[j]?=some y/\scope.names.lookup y=some .free/\(around.names.lookup y=some .cell\/around.names.lookup y=some .free))/\IxOk N around scope r t
 |_::r,none::t=>IxOk N around scope r t
 |_,_=>False
theorem IxOk.at{N:List Str}{around scope:Scope}:∀{N':List Str}{ix:List (Option Nat)},IxOk N around scope N' ix->∀(i:Nat)(y:Str)(j:Nat),N'[i]?=some y->ix[i]?=some (some j)->
  N[j]?=some y/\scope.names.lookup y=some .free/\(around.names.lookup y=some .cell\/around.names.lookup y=some .free)
 |[],_,_,i,y,j,e,_=>by simp at e
 |_::_,[],h,_,_,_,_,_=>h.elim
 |y'::r,some j'::t,h,0,y,j,e,e'=>by
  simp at e e'
  subst e e'
  exact h.1
 |y'::r,some j'::t,h,i+1,y,j,e,e'=>IxOk.at (N':=r) (ix:=t) h.2 i y j (by simpa using e) (by simpa using e')
 |y'::r,none::t,h,0,y,j,e,e'=>by simp at e'
 |y'::r,none::t,h,i+1,y,j,e,e'=>IxOk.at (N':=r) (ix:=t) h i y j (by simpa using e) (by simpa using e')
theorem IxOk.len{N:List Str}{around scope:Scope}:∀{N':List Str}{ix:List (Option Nat)},IxOk N around scope N' ix->ix.length=N'.length
 |[],[],_=>rfl
 |[],_::_,h=>h.elim
 |_::_,[],h=>h.elim
 |_::r,some _::t,h=>by simp[IxOk.len (N':=r) (ix:=t) h.2]
 |_::r,none::t,h=>by simp[IxOk.len (N':=r) (ix:=t) h]
def q3o(ix:List (Option Nat))(σ:St):St:=ix.map fun o=>match o with
 |none=>none
 |some j=>match σ[j]? with
  |some v=>v
  |none=>none
structure CompOk(X:Cx)(scope:Scope)(N':List Str)(ix:List (Option Nat)):Prop where
 kind:scope.kind=.function
 cell:∀y∈scope.names,y.2≠.cell
 names:∀y∈scope.names,y.2=.local->scope.names.lookup y.1=some .local
 free:∀y∈scope.names,y.2=.free->X.env.scope.names.lookup y.1=some .cell\/X.env.scope.names.lookup y.1=some .free
 ixs:IxOk X.N X.env.scope scope N' ix
def Cx.comp(X:Cx)(scope:Scope)(N':List Str)(cl:List (Str×Addr))(C:Addr)(s:Shared)(H:Hp)(fp:List Addr):Cx where
 prog:=X.prog
 w:=X.w
 K:=X.K
 mg:=X.mg
 base:=X.base
 A:=X.A
 N:=N'
 s₀:=s
 H₀:=H
 env:=compEnvC scope cl C X.env
 outer:=X.stack
 stack:=X.stack
 ex:=fp
 fn:=fun _=>false
 calm:=true
 pn:=[]
 xe:=fun _ _=>False
theorem q8f{env:Env}{scope:Scope}{x:Str}{k:NameKind}:(relabel scope env).names.lookup x=some k->k=.cell\/k=.free->(∀y∈scope.names,y.2≠.cell)->scope.names.lookup x=some .free:=by
 unfold relabel
 dsimp only
 generalize scope.names=names
 intro h hk hc
 induction names with
 |nil=>simp at h
 |cons p r ih=>
  obtain⟨n,k'⟩:=p
  rw[List.map_cons,List.lookup_cons]at h
  rw[List.lookup_cons]
  by_cases hf:k'=.free
  ·subst hf
   cases hq:x==n with
   |true=>rfl
   |false=>
    refine ih ?_ fun y hy=>hc y (List.mem_cons_of_mem _ hy)
    split at h
    ·rename_i hh;simp only[hq]at hh;split at hh<;>exact absurd hh (by simp[hq])
    ·exact h
  ·have hb:(k' == NameKind.free)=false:=by simpa using hf
   simp only[hb,Bool.false_and,Bool.false_eq_true,if_false]at h
   cases hq:x==n with
   |true=>
    rw[hq]at h
    simp only[Option.some.injEq]at h
    subst h
    rcases hk with hk|hk
    ·exact absurd hk (hc (n,k') List.mem_cons_self)
    ·exact absurd hk hf
   |false=>
    rw[hq]at h
    exact ih h fun y hy=>hc y (List.mem_cons_of_mem _ hy)
theorem z0z{env:Env}{scope:Scope}{x:Str}(h:scope.names.lookup x=some .free):(relabel scope env).names.lookup x=some .cell\/(relabel scope env).names.lookup x=some .free:=by
 unfold relabel
 dsimp only
 generalize scope.names=names at h
 induction names with
 |nil=>simp at h
 |cons p r ih=>
  obtain⟨n,k'⟩:=p
  rw[List.lookup_cons]at h
  rw[List.map_cons]
  cases hq:x==n with
  |true=>
   rw[hq]at h
   simp only[Option.some.injEq]at h
   subst h
   by_cases hc:(env.scope.kind==ScopeKind.function&&env.kindOf n==some NameKind.cell)=true
   ·left
    simp only[beq_self_eq_true,Bool.true_and,hc,if_true,List.lookup_cons,hq]
   ·right
    simp only[beq_self_eq_true,Bool.true_and,hc,Bool.false_eq_true,if_false,List.lookup_cons,hq]
  |false=>
   rw[hq]at h
   have:=ih h
   by_cases hc:(k' == NameKind.free&&env.scope.kind==ScopeKind.function&&env.kindOf n==some NameKind.cell)=true
   ·simp only[hc,if_true,List.lookup_cons,hq];exact this
   ·simp only[hc,Bool.false_eq_true,if_false,List.lookup_cons,hq];exact this
section
variable{X:Cx}{pins:List (Addr×Obj)}{σ:St}{H:Hp}{s:Shared}
theorem Inv.track{D:Addr}{its:List Value}{n:Nat}{ys:List V}(I:Inv X pins σ H s)(hn:H D=none)(hL:D≠X.env.locals)(h1:X.s₀.heap.objs.size<=D)
  (h2:∀x c,X.env.cells.lookup x=some c->c≠D) (h3:∀p∈X.pn++pins,p.1≠D) (ho:s.heap.get? D=some {cls:=.type "list",data:=.seq its.toArray n}) (r:Vals ys its) (hz:ys.length<=sizeLine) :
  Inv X pins σ (upd H D (.lst ys)) s:=by
 have ne:∀b u,H b=some u->b≠D:=fun b u e z=>by rw[z,hn]at e;cases e
 have ne0:∀b o,X.s₀.heap.get? b=some o->b≠D:=fun b o e=>Nat.ne_of_lt (Nat.lt_of_lt_of_le (Heap.lt_size e) h1)
 refine⟨I.ok,I.os,I.bare,⟨I.base.keep,I.base.slot,fun b o e n' hx=>?_,I.base.there,fun b xs e=>?_,fun b o u e=>?_,fun b ps e=>?_⟩,I.loc,I.cell,?_,fun x c e=>?_,fun p hp=>?_,fun b u e=>?_,I.len⟩
 ·rw[q0w (ne0 b o e)];exact I.base.free b o e n' hx
 ·have q:=I.base.tups b xs e
  rw[q0w (ne _ _ q)];exact q
 ·have q:=I.base.frzs b o u e
  rw[q0w (ne _ _ q)];exact q
 ·obtain⟨more,q⟩:=I.base.tbls b ps e
  exact⟨more,by rw[q0w (ne _ _ q)];exact q⟩
 ·rw[q0w (Ne.symm hL)];exact I.free
 ·rw[q0w (h2 x c e)];exact I.freeC x c e
 ·obtain⟨a1,a2,a3⟩:=I.pin p hp
  exact⟨a1,by rw[q0w (h3 p hp)];exact a2,a3⟩
 ·by_cases hb:b=D
  ·subst hb
   rw[q2d]at e
   cases e
   exact⟨hz,its,n,r,ho⟩
  ·rw[q0w hb]at e
   refine(I.hok b u e).stay (fun c v hc q=>q) (fun c q=>?_) fun c xs q=>?_
   ·rw[q0w (ne _ _ q)];exact q
   ·rw[q0w (ne _ _ q)];exact q
theorem Inv.comp{scope:Scope}{N':List Str}{ix:List (Option Nat)}{cl:List (Str×Addr)}{C:Addr}{fp:List Addr}{h':Heap}{t':Nat}(I:Inv X pins σ H s)(co:CompOk X scope N' ix)
  (hcl1:∀x c,cl.lookup x=some c->X.env.cells.lookup x=some c) (hcl2:∀x,scope.names.lookup x=some .free->∃c,cl.lookup x=some c) (hc:X.calm=true)
  (hC:s.heap.objs.size<=C) (hns:h'.Ns C fun _=>none) (hk:∀b o,s.heap.get? b=some o->h'.get? b=some o) (hf:∀b∈fp,FpOk X pins H b) (hfz:∀b∈fp,b<s.heap.objs.size) :
  Inv (X.comp scope N' cl C s H fp) [] (q3o ix σ) H {s with heap:=h',toks:=t' }:=by
 have lookK:∀x k,(compEnvC scope cl C X.env).kindOf x=some k->k=.cell\/k=.free->scope.names.lookup x=some .free:=fun x k e hk'=>q8f (env:=X.env) e hk' co.cell
 have ok:(X.comp scope N' cl C s H fp).Ok:=by
  refine⟨I.ok.mod,co.kind,I.ok.glob,I.ok.blt,hC,fun x y c e1 e2=>I.ok.inj x y c (hcl1 x c e1) (hcl1 y c e2),fun x hx=>?_,fun x c e=>(by cases e),fun _=>I.ok.hd hc,I.ok.frames,.inl rfl,fun b hb=>⟨?_,fun x c e=>?_⟩,I.bs,?_,fun b o e hb=>?_,fun b hb z=>?_,I.stack,I.stkFree⟩
  ·refine hcl2 x ?_
   rcases hx with e|e
   ·exact lookK x _ e (.inl rfl)
   ·exact lookK x _ e (.inr rfl)
  ·exact Nat.ne_of_lt (Nat.lt_of_lt_of_le (hfz b hb) hC)
  ·exact(hf b hb).2.2.2.2.1 x c (hcl1 x c e)
  ·exact Nat.le_trans I.ok.bsz I.sz
  ·rcases(hf b hb).2.2.2.1 with z|z
   ·exact I.ok.noex b o e z
   ·exact absurd (Nat.lt_of_lt_of_le (Heap.lt_size (I.ok.bs b o e).1) z) (Nat.lt_irrefl _)
  ·rcases List.mem_cons.mp (I.stkSub b z)with q|q
   ·exact(hf b hb).2.1 q
   ·exact(hf b hb).2.2.1 q
 refine⟨ok,rfl,I.bare,Un.kept hk,⟨_,hns,fun i y v e1 e2 e3=>?_⟩,fun x c e=>?_,?_,fun x c e=>I.freeC x c (hcl1 x c e),(fun p hp=>by cases hp),I.hok.kept hk,?_⟩
 ·-- a name of the frame around
  have e1':N'[i]?=some y:=e1
  have e2':(q3o ix σ)[i]?=some (some v):=e2
  unfold q3o at e2'
  rw[List.getElem?_map]at e2'
  cases hix:ix[i]? with
  |none=>rw[hix]at e2';cases e2'
  |some o=>
   rw[hix]at e2'
   cases o with
   |none=>cases e2'
   |some j=>
    have hj:σ[j]?=some (some v):=by
     cases hs:σ[j]? with
     |none=>simp only[Option.map_some,hs]at e2';cases e2'
     |some o=>
      simp only[Option.map_some,hs,Option.some.injEq]at e2'
      rw[e2']
    obtain⟨a1,a2,a3⟩:=co.ixs.at i y j e1' hix
    obtain⟨m,hm,hl⟩:=I.loc
    obtain⟨u,r,l⟩:=hl j y v a1 hj (by rcases a3 with z|z;exact .inr (.inl z);exact .inr (.inr z))
    refine⟨u,r,.inr ⟨z0z a2,?_⟩⟩
    obtain⟨c,hc'⟩:=hcl2 y a2
    refine⟨c,hc',?_⟩
    rcases l with⟨z,_⟩|⟨_,c',e',o,ho,hd⟩
    ·have z':X.env.scope.names.lookup y=some .local:=z
     rcases a3 with q|q<;>rw[z']at q<;>cases q
    ·have:c'=c:=Option.some.inj (e'.symm.trans (hcl1 y c hc'))
     subst this
     exact⟨o,hk _ _ ho,hd⟩
 ·obtain⟨v,o,ho,hd⟩:=I.cell x c (hcl1 x c e)
  exact⟨v,o,hk _ _ ho,hd⟩
 ·exact I.hok.fresh hC
 ·show(q3o ix σ).length=N'.length
  unfold q3o
  rw[List.length_map]
  exact co.ixs.len
end
def z5f(J:It)(g:TG)(tc:TT)(te:TE)(Q:VK)(σ₀:St)(H1:Hp):Prop:=∃(W:Nat->List V->St->Hp->Prop)(n:Nat),n<=sizeLine/\W 0 [] σ₀ H1/\∀i ys σ H,i<=n->W i ys σ H->
 (J.stop i H/\∀p,H p=none->Q (.ref p) (upd H p (.lst ys)))\/(i<n/\J.go i H/\∀x H',J.yld i H x H'->g x σ H' fun σ2 H2=>tc σ2 H2 fun b H3=>if b=true then te σ2 H3 fun y H4=>W (i+1) (ys++[y]) σ2 H4 else W (i+1) ys σ2 H3)
def z2w(wi:TI)(ix:List (Option Nat))(g:TG)(tc:TT)(te:TE):TE:=fun σ H Q=>wi σ H fun J H1=>z5f J g tc te Q (q3o ix σ) H1
section
variable{X:Cx}{tg iter elt c:Expr}{scope:Scope}{pos:Pos}{N':List Str}{ix:List (Option Nat)}{wi:TI}{g:TG}{te:TE}{tc:TT}
structure CompMid(X:Cx)(scope:Scope)(N':List Str)(cl:List (Str×Addr))(C D:Addr)(s₂:Shared)(H₂:Hp)(fp:List Addr)(tn:Nat->Heap->Prop)(W:Nat->List V->St->Hp->Prop)(i:Nat)(ys:List V)(σ':St)(H':Hp)(s':Shared):Prop where
 inv:∃us:List Value,Vals ys us/\Inv (X.comp scope N' cl C s₂ H₂ fp) [(D,{cls:=.type "list",data:=.seq us.toArray us.length})] σ' H' s'
 tn:tn i s'.heap
 fpn:∀b∈fp,H' b=none
 len:ys.length<=i
 w:W i ys σ' H'
theorem y3e{pins:List (Addr×Obj)}{σ:St}{H₂:Hp}{s₂:Shared}{cl:List (Str×Addr)}{C D:Addr}{fp:List Addr}{Q:VK}{ys:List V}{us:List Value}{σ':St}{H':Hp}{s':Shared}
  (I₂:Inv X pins σ H₂ s₂) (f2:∀b∈fp,FpOk X pins H₂ b) (hD:s₂.heap.objs.size<=D) (hC:s₂.heap.objs.size<=C) (hDC:D≠C) (r:Vals ys us)
  (I':Inv (X.comp scope N' cl C s₂ H₂ fp) [(D,{cls:=.type "list",data:=.seq us.toArray us.length})] σ' H' s') (hz:ys.length<=sizeLine) (q:∀p,H' p=none->Q (.ref p) (upd H' p (.lst ys))) :
  ∃m,s'.heap.Ns C m/\∀h',Heap.SameBut C s'.heap h'->EP X pins σ Q (.ref D) {s' with heap:=h' }:=by
 obtain⟨m,hm,_⟩:=I'.loc
 refine⟨m,hm,fun h' sb=>?_⟩
 have new:∀a,s₂.heap.objs.size<=a->a≠X.env.locals/\X.s₀.heap.objs.size<=a/\(∀x c,X.env.cells.lookup x=some c->c≠a)/\∀p∈X.pn++pins,p.1≠a:=fun a ha=>by
  refine⟨Nat.ne_of_gt (Nat.lt_of_lt_of_le I₂.lt ha),Nat.le_trans I₂.sz ha,fun x c e=>?_,fun p hp=>?_⟩
  ·obtain⟨v,o,ho,_⟩:=I₂.cell x c e
   exact Nat.ne_of_lt (Nat.lt_of_lt_of_le (Heap.lt_size ho) ha)
  ·exact Nat.ne_of_lt (Nat.lt_of_lt_of_le (Heap.lt_size (I₂.pin p hp).1) ha)
 have I3:Inv X pins σ H' s':=I₂.call' I'.os I'.base I'.hok I'.bare fun b hb=>⟨(f2 b hb).2.2.2.1,(f2 b hb).2.1,(f2 b hb).2.2.2.2.1,(f2 b hb).2.2.2.2.2⟩
 obtain⟨eD,nD,_,_,_⟩:=I'.pin (D,{cls:=.type "list",data:=.seq us.toArray us.length}) (by simp)
 obtain⟨c1,c2,c3,c4⟩:=new C hC
 have I4:Inv X pins σ H' {s' with heap:=h' }:=I3.turned (t':=s'.toks) (it:=C) (fun b o hb e=>(sb.2 b hb).trans e) I'.free c1 (.inr c2) c3 c4
 obtain⟨d1,d2,d3,d4⟩:=new D hD
 have I5:=I4.track (D:=D) (ys:=ys) nD d1 d2 d3 d4 ((sb.2 D hDC).trans eD) r hz
 exact⟨.ref D,_,I5,rfl,q D nD⟩
theorem y3f{H₂:Hp}{s₂:Shared}{cl:List (Str×Addr)}{C D:Addr}{fp:List Addr}{ys:List V}{us:List Value}{σ':St}{H':Hp}{s':Shared}{pl:List (Addr×Obj)}{y:V}{u:Value}{Q:Value->Shared->Prop}{E:Value->Shared->Prop}
  (hD:s₂.heap.objs.size<=D) (hDC:D≠C) (hcl:∀x c,cl.lookup x=some c->c≠D) (r:Vals ys us) (ry:RelV y u) (hz:ys.length<sizeLine)
  (I':Inv (X.comp scope N' cl C s₂ H₂ fp) ([(D,{cls:=.type "list",data:=.seq us.toArray us.length})]++pl) σ' H' s') (hp:∀p∈pl,p.1≠D)
  (h:∀s'',Inv (X.comp scope N' cl C s₂ H₂ fp) ([(D,{cls:=.type "list",data:=.seq (us++[u]).toArray (us++[u]).length})]++pl) σ' H' s''->Q .none s'') :
  wpAny (model X.prog X.w) X.A (call (.builtin "list.append") [.ref D,u]) Q E s':=by
 obtain⟨eD,nD,neD,nfD,ndD⟩:=I'.pin (D,{cls:=.type "list",data:=.seq us.toArray us.length}) (by simp)
 refine append_at eD (fun h₅ hs₅ hD₅=>h _ ?_) (by simp only[List.size_toArray];rw[<-r.length];exact Nat.le_of_lt hz)
 have I1:Inv (X.comp scope N' cl C s₂ H₂ fp) pl σ' H' s':=I'.pins_of fun p hp'=>I'.pin p (List.mem_append_right _ (List.mem_append_right _ hp'))
 have I2:Inv (X.comp scope N' cl C s₂ H₂ fp) pl σ' H' {s' with heap:=h₅}:=I1.turned (t':=s'.toks) (it:=D) (fun b o hb e=>(hs₅.2 b hb).trans e) nD neD (.inr hD) hcl (fun p hp'=>hp p (by simpa[Cx.comp]using hp'))
 refine I2.pins_of fun p hp'=>?_
 rcases List.mem_append.mp hp' with z|z
 ·obtain rfl:=List.mem_singleton.mp z
  refine⟨?_,nD,neD,nfD,fun v z=>by cases z⟩
  rw[hD₅,List.length_append,List.length_singleton,List.push_toArray]
 ·exact I2.pin p (List.mem_append_right _ z)
end
section
variable{X:Cx}{tg iter elt c:Expr}{scope:Scope}{pos:Pos}{N':List Str}{ix:List (Option Nat)}{wi:TI}{g:TG}{te:TE}{tc:TT}
theorem z2h{pins:List (Addr×Obj)}{σ:St}{H₂:Hp}{s₂:Shared}{cl:List (Str×Addr)}{C D:Addr}{fp:List Addr}{ys:List V}{us:List Value}{σ':St}{H':Hp}{s':Shared}{i:Nat}{x:Str}{py:Pos}{Q:Value->Shared->Prop}
  (hN:X.N.Nodup) (hi:X.N[i]?=some x) (hx:Loc X.env.scope x) (hf:X.fn x=true\/X.env.scope.names.lookup x=some .local)
  (I₂:Inv X pins σ H₂ s₂) (f2:∀b∈fp,FpOk X pins H₂ b) (hD:s₂.heap.objs.size<=D) (hC:s₂.heap.objs.size<=C) (hDC:D≠C) (r:Vals ys us)
  (I':Inv (X.comp scope N' cl C s₂ H₂ fp) [(D,{cls:=.type "list",data:=.seq us.toArray us.length})] σ' H' s') (hz:ys.length<=sizeLine)
  (q:∀s'',Inv X pins (σ.set i (some (.ref D))) (upd H' D (.lst ys)) s''->H' D=none->Q .none s'') :
  wpAny (model X.prog X.w) X.A (assign (.Name x py) X.env (.ref D)) (fun _ s''=>∃m,s''.heap.Ns C m/\∀h',Heap.SameBut C s''.heap h'->Q .none {s'' with heap:=h' }) X.xe s':=by
 obtain⟨m,hm,_⟩:=I'.loc
 have new:∀a,s₂.heap.objs.size<=a->a≠X.env.locals/\X.s₀.heap.objs.size<=a/\(∀x c,X.env.cells.lookup x=some c->c≠a)/\∀p∈X.pn++pins,p.1≠a:=fun a ha=>by
  refine⟨Nat.ne_of_gt (Nat.lt_of_lt_of_le I₂.lt ha),Nat.le_trans I₂.sz ha,fun x c e=>?_,fun p hp=>?_⟩
  ·obtain⟨v,o,ho,_⟩:=I₂.cell x c e
   exact Nat.ne_of_lt (Nat.lt_of_lt_of_le (Heap.lt_size ho) ha)
  ·exact Nat.ne_of_lt (Nat.lt_of_lt_of_le (Heap.lt_size (I₂.pin p hp).1) ha)
 have I3:Inv X pins σ H' s':=I₂.call' I'.os I'.base I'.hok I'.bare fun b hb=>⟨(f2 b hb).2.2.2.1,(f2 b hb).2.1,(f2 b hb).2.2.2.2.1,(f2 b hb).2.2.2.2.2⟩
 obtain⟨eD,nD,_,_,_⟩:=I'.pin (D,{cls:=.type "list",data:=.seq us.toArray us.length}) (by simp)
 obtain⟨c1,c2,c3,c4⟩:=new C hC
 obtain⟨d1,d2,d3,d4⟩:=new D hD
 have I5:=I3.track (D:=D) (ys:=ys) nD d1 d2 d3 d4 eD r hz
 refine wpAny_assign_Name (z0v I5 hN hi hx (v:=.ref D) rfl (fun s'' I'' ⟨a,sb,ha⟩=>?_) hf)
 have haC:a≠C:=by
  rcases ha with rfl|ha
  ·exact c1.symm
  ·exact c3 _ _ ha
 refine⟨m,hm.sameBut sb haC.symm,fun h' sb'=>q _ ?_ nD⟩
 exact I''.turned (t':=s''.toks) (it:=C) (fun b o hb e=>(sb'.2 b hb).trans e) (by rw[q0w hDC.symm];exact I'.free) c1 (.inr c2) c3 c4
theorem y2r{prog:Program}{w:World}{A:Around}{s:Shared}{elt target iter:Expr}{ifs:List Expr}{scope:Scope}{pos:Pos}{it acc:Value}{env:Env}{R:Result->Shared->Prop}(I:Nat->Shared->Prop)
  (turn:∀n s,I n s->wpAny (model prog w) A (pyNext it) (fun r s₁=>match r with
   |none=>R (.ok .next) s₁
   |some v=>wpAny (model prog w) A (letOwnedTupleGo target it v) (fun _ s₀=>wpAny (model prog w) A (assign target env v) (fun _ s₂=>
     wpAny (model prog w) A (forIn ifs true fun c r=>if r=true then do let ok <-isTrue c env (eval c env);pure (ForInStep.yield ok)else pure (ForInStep.yield r)) (fun ok s₃=>if ok=true then wpAny (model prog w) A (eval elt env) (fun x s₄=>
      wpAny (model prog w) A (call (.builtin "list.append") [acc,x]) (fun _ s₅=>∃m,m<n/\I m s₅) (notedBy (model prog w) A env fun e s'=>R (.error e) s') s₄) (notedBy (model prog w) A env fun e s'=>R (.error e) s') s₃
      else ∃m,m<n/\I m s₃) (notedBy (model prog w) A env fun e s'=>R (.error e) s') s₂)
     (notedBy (model prog w) A env fun e s'=>R (.error e) s') s₀) (notedBy (model prog w) A env fun e s'=>R (.error e) s') s₁) (notedBy (model prog w) A env fun e s'=>R (.error e) s') s)
  (n:Nat) (h:I n s):codeAny (model prog w) A (.compLoop (.ListComp elt [⟨target,iter,ifs,0⟩] scope pos) 0 it acc env) R s:=by
 refine codeAny_loop rfl I (fun n s hI=>?_) n h
 show wpAny _ A ((compTurn (.ListComp elt [⟨target,iter,ifs,0⟩] scope pos) 0 it acc env).onRaise (fun x=>do noteFrame x env;theTreesLotGoes x)) _ _ s
 refine wpAny_noted ?_
 rw[compTurn_list]
 refine wpAny_bind (wpAny_standAt (wpAny_bind (wpAny_mono (turn n s hI) (fun r s₁ h₁=>?_) fun _ _ h'=>h')))
 cases r with
 |none=>exact wpAny_pure h₁
 |some v=>
  refine wpAny_bind (wpAny_mono h₁ (fun _ s₀ h₀'=>?_) fun _ _ h'=>h')
  refine wpAny_bind (wpAny_mono h₀' (fun _ s₂ h₂=>?_) fun _ _ h'=>h')
  refine wpAny_bind (wpAny_mono h₂ (fun okb s₃ h₃=>?_) fun _ _ h'=>h')
  cases okb with
  |false=>exact wpAny_pure ⟨rfl,h₃⟩
  |true=>exact wpAny_bind (wpAny_bind (wpAny_mono h₃ (fun x s₄ h₄=>wpAny_bind (wpAny_mono h₄ (fun _ s₅ h₅=>wpAny_pure (wpAny_pure ⟨rfl,h₅⟩)) fun _ _ h'=>h')) fun _ _ h'=>h'))
def PTs(X:Cx)(ifs:List Expr)(t:TT):Prop:=
 ∀(pins:List (Addr×Obj))(s:Shared)(σ:St)(H:Hp)(Q:Bool->Hp->Prop),Inv X pins σ H s->t σ H Q->wpAny (model X.prog X.w) X.A (forIn ifs true fun c r=>if r=true then do let ok <-isTrue c X.env (eval c X.env);pure (ForInStep.yield ok)else pure (ForInStep.yield r)) (TP X pins σ Q) X.xe s
theorem z7p(h:PT X c tc):PTs X [c] tc:=fun pins s σ H Q I q=>wpAny_tests_one (h pins s σ H Q I q)
theorem z7q(h:∀σ H Q,tc σ H Q->Q true H):PTs X [] tc:=fun pins s σ H Q I q=>wpAny_tests_nil ⟨H,I,h σ H Q q⟩
theorem z2g{ifs:List Expr}{use:Option (Value->Sem Unit)}{Qf:Value->Shared->Prop}{pins:List (Addr×Obj)}{s:Shared}{σ:St}{H:Hp}{ps:Pos}(hc:X.calm=true)(co:CompOk X scope N' ix)(hi:PI X tg iter wi)(hg:∀cl C s H fp,PG (X.comp scope N' cl C s H fp) tg g)(ht:∀cl C s H fp,PTs (X.comp scope N' cl C s H fp) ifs tc)(he:∀cl C s H fp,PE (X.comp scope N' cl C s H fp) elt te)
  (hs:∀x,foldedSetIterable iter X.env x=pure x:=by intro _;rfl)
  (I:Inv X pins σ H s) (h:wi σ H fun J H1=>∃Q:VK,z5f J g tc te Q (q3o ix σ) H1/\∀{H₂:Hp}{s₂:Shared}{cl:List (Str×Addr)}{C D:Addr}{fp:List Addr}{ys:List V}{us:List Value}{σ':St}{H':Hp}{s':Shared},Inv X pins σ H₂ s₂->(∀b∈fp,FpOk X pins H₂ b)->s₂.heap.objs.size<=D->s₂.heap.objs.size<=C->D≠C->Vals ys us->
   Inv (X.comp scope N' cl C s₂ H₂ fp) [(D,{cls:=.type "list",data:=.seq us.toArray us.length})] σ' H' s'->ys.length<=sizeLine->(∀p,H' p=none->Q (.ref p) (upd H' p (.lst ys)))->compPost (model X.prog X.w) X.A X.xe use Qf (.ref D) C (.ok .next) s') :
  wpAny (model X.prog X.w) X.A (comprehension (.ListComp elt [⟨tg,iter,ifs,0⟩] scope pos) scope X.env ps (newList []) false (eval iter X.env) use) Qf X.xe s:=by
 obtain⟨cl,hclos,hcl1,hcl2⟩:=z2j (scope:=scope) (env:=X.env) fun p hp e=>by
  rcases co.free p hp e with z|z
  ·exact I.ok.has p.1 (.inl z)
  ·exact I.ok.has p.1 (.inr z)
 refine wpAny_comprehension_free (use:=use) rfl hs hclos co.kind co.names (thn (hi pins s σ H _ I h) fun v s1 h1=>thn h1 fun itv s₂ h2=>?_)
 obtain⟨it,fp,tn,J,H₂,rfl,I₂,T,st2,f2,Q,⟨W,n,hn,w0,turn⟩,fin⟩:=h2
 refine wpAny_newObj_type (wpAny_newFunctionEnv co.cell (by intro y hy;simp at hy) (fun h₁ hns₁ hsb₁=>?_) co.kind)
 dsimp only at hns₁ hsb₁ ⊢
 generalize hH2:s₂.heap.push {cls:=.type "list",dict:=none,data:=.seq ([]:List Value).toArray}=H2 at hns₁ hsb₁ ⊢
 have hC:H2.objs.size=s₂.heap.objs.size+1:=by rw[<-hH2,Heap.size_push]
 have hCle:s₂.heap.objs.size<=H2.objs.size:=by omega
 have hDC:s₂.heap.objs.size≠H2.objs.size:=by omega
 have old:∀b o,s₂.heap.get? b=some o->h₁.get? b=some o:=fun b o e=>hsb₁.extBut b o (Nat.ne_of_lt (by rw[hC];exact Nat.lt_succ_of_lt (Heap.lt_size e))) (Heap.get?_push_of_some _ (hH2▸Heap.get?_push_of_some _ e))
 have hacc:h₁.get? s₂.heap.objs.size=some {cls:=.type "list",data:=.seq ([]:List Value).toArray}:=hsb₁.extBut _ _ hDC (Heap.get?_push_of_some _ (hH2▸Heap.get?_push_size _ rfl))
 have hfz:∀b∈fp,b<s₂.heap.objs.size:=fun b hb=>by
  obtain⟨o,e,_⟩:=T.obj _ _ st2 b hb
  exact Heap.lt_size e
 have hclD:∀x c,cl.lookup x=some c->c≠s₂.heap.objs.size:=fun x c e=>by
  obtain⟨v,o,ho,_⟩:=I₂.cell x c (hcl1 x c e)
  exact Nat.ne_of_lt (Heap.lt_size ho)
 have st0:tn 0 h₁:=T.keep _ _ _ st2 fun b hb o e=>old b o e
 have loop:∀s₃:Shared,s₃={s₂ with heap:=h₁,toks:=s₂.toks+([]:List (Str×Value)).length}->
   codeAny (model X.prog X.w) X.A (.compLoop (.ListComp elt [⟨tg,iter,ifs,0⟩] scope pos) 0 (.ref it) (.ref s₂.heap.objs.size) (compEnvC scope cl H2.objs.size X.env))
    (compPost (model X.prog X.w) X.A X.xe use Qf (.ref s₂.heap.objs.size) H2.objs.size) s₃:=by
  rintro s₃ rfl
  have I0:=I₂.comp (t':=s₂.toks+([]:List (Str×Value)).length) co hcl1 hcl2 hc hCle hns₁ old f2 hfz
  have nof:s₂.heap.objs.size∉(X.comp scope N' cl H2.objs.size s₂ H₂ fp).fs:=fun z=>by
   obtain⟨_,o,ho,_⟩:=I0.ok.funs.mem z
   exact absurd (Heap.lt_size ho) (Nat.lt_irrefl _)
  have I0':Inv (X.comp scope N' cl H2.objs.size s₂ H₂ fp) [(s₂.heap.objs.size,{cls:=.type "list",data:=.seq ([]:List Value).toArray ([]:List Value).length})] (q3o ix σ) H₂ {s₂ with heap:=h₁,toks:=s₂.toks+([]:List (Str×Value)).length}:=I0.pins_of fun p hp=>by
   obtain rfl:=List.mem_singleton.mp hp
   exact⟨hacc,I₂.fresh,hDC,nof,fun v z=>by cases z⟩
  have hclC:∀x c,cl.lookup x=some c->c≠s₂.heap.objs.size:=hclD
  have fpok:∀{us:List Value}{H':Hp},(∀b∈fp,H' b=none)->∀b∈fp,FpOk (X.comp scope N' cl H2.objs.size s₂ H₂ fp) [(s₂.heap.objs.size,{cls:=.type "list",data:=.seq us.toArray us.length})] H' b:=fun hn' b hb=>
   ⟨hn' b hb,(I0.ok.exf b hb).1,I0.ok.exfs b hb,.inl hb,(I0.ok.exf b hb).2,fun p hp=>by
    have hp':p∈[(s₂.heap.objs.size,({cls:=.type "list",data:=.seq _ _}:Obj))]:=hp
    obtain rfl:=List.mem_singleton.mp hp'
    exact Nat.ne_of_gt (hfz b hb)⟩
  refine y2r (fun k s'=>∃i ys σ' H',i<=n/\k=n-i/\CompMid X scope N' cl H2.objs.size s₂.heap.objs.size s₂ H₂ fp tn W i ys σ' H' s') ?_ n
   ⟨0,[],q3o ix σ,H₂,Nat.zero_le _,rfl,⟨[],.nil,I0'⟩,st0,fun b hb=>(f2 b hb).1,Nat.le_refl _,w0⟩
  rintro k s3 ⟨i,ys,σ3,H3,hi3,rfl,⟨us,r3,I3⟩,st3,fr3,hl3,w3⟩
  have weak:∀{e:Value}{s':Shared},False->notedBy (model X.prog X.w) X.A (compEnvC scope cl H2.objs.size X.env) (fun e s'=>compPost (model X.prog X.w) X.A X.xe use Qf (.ref s₂.heap.objs.size) H2.objs.size (.error e) s') e s':=fun z=>z.elim
  rcases turn i ys σ3 H3 hi3 w3 with⟨stop,q⟩|⟨hlt,go,step⟩
  ·refine thn (T.done (X.comp scope N' cl H2.objs.size s₂ H₂ fp) rfl rfl rfl rfl i _ s3 σ3 H3 _ I3 (fpok fr3) st3 stop) fun r s4 hh1=>?_
   obtain⟨hr,I4⟩:=hh1
   subst hr
   exact fin I₂ f2 (Nat.le_refl _) hCle hDC r3 I4 (by omega) q
  ·refine thn (T.item (X.comp scope N' cl H2.objs.size s₂ H₂ fp) rfl rfl rfl rfl i _ s3 σ3 H3 _ I3 (fpok fr3) st3 go) fun r s4 hh2=>?_
   obtain⟨u,hr,h4⟩:=hh2
   subst hr
   refine thn h4 fun _ s5 hh3=>?_
   obtain⟨x,H5,I5,r5,y5,st5,fr5⟩:=hh3
   have I5':=I5.pinned (fpok fr5) (T.obj _ _ st5)
   refine wpAny_mono (hg cl _ s₂ H₂ fp _ s5 σ3 H5 x u _ I5' r5 (step x H5 y5)) (fun _ s6 ⟨σ6,H6,I6,q6⟩=>?_) fun _ _ z=>weak z
   refine wpAny_mono (ht cl _ s₂ H₂ fp _ s6 σ6 H6 _ I6 q6) (fun b6 s6' ⟨H6',I6',q6'⟩=>?_) fun _ _ z=>weak z
   have hpl:∀p∈q8p fp s5.heap,p.1≠s₂.heap.objs.size:=fun p hp=>Nat.ne_of_lt (hfz p.1 (z1h hp).1)
   cases b6 with
   |false=>
    have q6'':W (i+1) ys σ6 H6':=by simpa using q6'
    have g6:¬(false=true):=by decide
    rw[if_neg g6]
    refine⟨n-(i+1),by omega,i+1,ys,σ6,H6',hlt,rfl,⟨us,r3,I6'.unpinned⟩,?_,fun b hb=>?_,by omega,q6''⟩
    ·exact T.keep _ _ _ st5 fun b hb o e=>(I6'.pin (b,o) (List.mem_append_right _ (List.mem_append_right _ (q3z hb e)))).1
    ·obtain⟨o,e,d⟩:=T.obj _ _ st5 b hb
     exact(I6'.pin (b,o) (List.mem_append_right _ (List.mem_append_right _ (q3z hb e)))).2.1
   |true=>
    have q6'':te σ6 H6' fun y H4=>W (i+1) (ys++[y]) σ6 H4:=by simpa using q6'
    have g6:true=true:=rfl
    rw[if_pos g6]
    refine wpAny_mono (he cl _ s₂ H₂ fp _ s6' σ6 H6' _ I6' q6'') (fun u7 s7 ⟨y7,H7,I7,r7,q7⟩=>?_) fun _ _ z=>weak z
    refine y3f (pl:=q8p fp s5.heap) (Nat.le_refl _) hDC hclD r3 r7 (by omega) I7 hpl fun s8 I8=>?_
    refine⟨n-(i+1),by omega,i+1,ys++[y7],σ6,H7,hlt,rfl,⟨us++[u7],r3.append (.cons r7 .nil),I8.unpinned⟩,?_,fun b hb=>?_,by rw[List.length_append,List.length_singleton];omega,q7⟩
    ·exact T.keep _ _ _ st5 fun b hb o e=>(I8.pin (b,o) (List.mem_append_right _ (List.mem_append_right _ (q3z hb e)))).1
    ·obtain⟨o,e,d⟩:=T.obj _ _ st5 b hb
     exact(I8.pin (b,o) (List.mem_append_right _ (List.mem_append_right _ (q3z hb e)))).2.1
 exact codeAny_compStart_list (loop _ rfl) (T.self _ 0 _ _ _ st0 (loop _ rfl))
theorem z4m{ifs:List Expr}(hc:X.calm=true)(co:CompOk X scope N' ix)(hit:PI X tg iter wi)(hm:∀σ H R R',(∀J H1,R J H1->R' J H1)->wi σ H R->wi σ H R')(hg:∀cl C s H fp,PG (X.comp scope N' cl C s H fp) tg g)(ht:∀cl C s H fp,PTs (X.comp scope N' cl C s H fp) ifs tc)(he:∀cl C s H fp,PE (X.comp scope N' cl C s H fp) elt te)
  (hs:∀x,foldedSetIterable iter X.env x=pure x:=by intro _;rfl):PE X (.ListComp elt [⟨tg,iter,ifs,0⟩] scope pos) (z2w wi ix g tc te):=by
 intro pins s σ H Q I h
 rw[eval_ListComp]
 refine z2g (use:=none) (Qf:=EP X pins σ Q) hc co hit hg ht he hs I (hm σ H _ _ (fun J H1 q=>⟨_,q,?_⟩) h)
 intro H₂ s₂ cl C DD fp ys us σ' H' s' I₂ f2 hD hC hDC r I' hz q
 exact y3e I₂ f2 hD hC hDC r I' hz q
def z5k(wi:TI)(ix:List (Option Nat))(g:TG)(tc:TT)(te:TE)(i:Nat):TS:=fun D σ H=>z2w wi ix g tc te σ H fun v H1=>D.nx (σ.set i (some v)) H1
theorem PI.mono{wi wi':TI}(h:PI X tg iter wi)(i:∀σ H R,wi' σ H R->wi σ H R):PI X tg iter wi':=fun pins s σ H R I q=>h pins s σ H R I (i σ H R q)
theorem q7m{ifs:List Expr}{i:Nat}{x:Str}{px sp:Pos}(hsw:swapsWith (.ListComp elt [⟨tg,iter,ifs,0⟩] scope pos) (some (.Name x px)) sp.line X.env=pure true)(hN:X.N.Nodup)(hi:X.N[i]?=some x)(hx:Loc X.env.scope x)
  (hc:X.calm=true) (co:CompOk X scope N' ix) (hit:PI X tg iter wi) (hm:∀σ H R R',(∀J H1,R J H1->R' J H1)->wi σ H R->wi σ H R') (hg:∀cl C s H fp,PG (X.comp scope N' cl C s H fp) tg g) (ht:∀cl C s H fp,PTs (X.comp scope N' cl C s H fp) ifs tc) (he:∀cl C s H fp,PE (X.comp scope N' cl C s H fp) elt te)
  (hs:∀x,foldedSetIterable iter X.env x=pure x:=by intro _;rfl) (hf:X.fn x=true\/X.env.scope.names.lookup x=some .local:=by first|exact .inl rfl|exact .inr rfl|assumption) :
  PS X (.Assign [.Name x px] (.ListComp elt [⟨tg,iter,ifs,0⟩] scope pos) sp) (z5k wi ix g tc te i):=by
 intro pins s σ H D I h
 rw[exec_Assign_Name_used _ _ _ _ hsw]
 refine wpAny_bind (wpAny_standAt (wpAny_bind ?_))
 show wpAny _ X.A (do let _ <-comprehension (.ListComp elt [⟨tg,iter,ifs,0⟩] scope pos) scope X.env _ (newList []) false (eval iter X.env) (some (assign (.Name x px) X.env))) _ _ s
 refine wpAny_bind (wpAny_mono (z2g (use:=some (assign (.Name x px) X.env)) (Qf:=fun _ s'=>SP X pins D .next s') hc co hit hg ht he hs I (hm σ H _ _ (fun J H1 q=>⟨_,q,?_⟩) h)) (fun _ s' hq=>wpAny_pure (wpAny_pure hq)) fun _ _ e=>e)
 intro H₂ s₂ cl C DD fp ys us σ' H' s' I₂ f2 hD hC hDC r I' hz q
 exact z2h (py:=px) (Q:=fun _ s'=>SP X pins D .next s') hN hi hx hf I₂ f2 hD hC hDC r I' hz fun s'' I'' nD=>⟨_,_,I'',q DD nD⟩
end
section
variable{prog:Program}{w:World}{A:Around}{E:Value->Shared->Prop}{s:Shared}
theorem q9e{j t:Addr}{k:Nat}{xs:Array Value}{v:Value}{R:Value->Shared->Prop}(g:s.heap.IsTupleIter j t k)(gt:s.heap.IsTuple t xs)(gv:xs[k]?=some v)
  (gR:∀h',h'.IsTupleIter j t (k+1)->Heap.SameBut j s.heap h'->R v {s with heap:=h' }):wpAny (model prog w) A (Builtin.SmallTypes.nextOf (.ref j)) R E s:=by
 obtain⟨oj,gj,cj,dj⟩:=id g
 obtain⟨ot,got,_,nt,dt⟩:=gt
 unfold Builtin.SmallTypes.nextOf
 refine wpAny_bind (wpAny_callSpecial?_slot (name:=Str.ofString "__next__") g.typeIs F.slot_tuple_iterator_next (wpAny_call_entry F.slot_tuple_iterator_next g.typeIs F.entry_tuple_iterator_next ?_ (F.args_tuple_iterator_next_1 _)))
 show wpAny _ _ (field (.ref j) 0 >>= _) _ _ s
 refine wpAny_bind (wpAny_field gj dj (x:=.ref t) rfl ?_)
 show wpAny _ _ (ite ((Value.ref t==Value.none)=true) _ _) _ _ s
 rw[if_neg (show(Value.ref t==Value.none)≠true from Bool.false_ne_true)]
 show wpAny _ _ (field (.ref j) 1 >>= _) _ _ s
 refine wpAny_bind (wpAny_field gj dj (x:=.int k 0) rfl ?_)
 show wpAny _ _ (seqItems? (.ref t) >>= _) _ _ s
 refine wpAny_bind (wpAny_seqItems got dt ?_)
 simp only[Int.toNat_natCast,gv]
 refine wpAny_bind (wpAny_setField gj dj (by simp) (wpAny_pure ⟨v,rfl,wpAny_pure (gR _ ?_ (Heap.SameBut.update ..))⟩))
 refine⟨_,Heap.get?_update_self _ gj (Obj.isFreed_of_fields (Obj.data_mapFields dj _)),(Obj.cls_mapFields ..).trans cj,?_⟩
 rw[Obj.data_mapFields dj];simp[rawInt]
theorem q9f{j t:Addr}{k:Nat}{xs:Array Value}{R:Value->Shared->Prop}(gh:A.handled=none)(g:s.heap.IsTupleIter j t k)(gt:s.heap.IsTuple t xs)(gv:xs[k]?=none)
  (gE:∀h' e,Heap.ExtBut j s.heap h'->(∃o,h'.get? e=some o/\o.cls=.type "StopIteration")->E (.ref e) {s with heap:=h' }):wpAny (model prog w) A (Builtin.SmallTypes.nextOf (.ref j)) R E s:=by
 obtain⟨oj,gj,cj,dj⟩:=id g
 obtain⟨ot,got,_,nt,dt⟩:=gt
 unfold Builtin.SmallTypes.nextOf
 refine wpAny_bind (wpAny_callSpecial?_slot (name:=Str.ofString "__next__") g.typeIs F.slot_tuple_iterator_next (wpAny_call_entry F.slot_tuple_iterator_next g.typeIs F.entry_tuple_iterator_next ?_ (F.args_tuple_iterator_next_1 _)))
 show wpAny _ _ (field (.ref j) 0 >>= _) _ _ s
 refine wpAny_bind (wpAny_field gj dj (x:=.ref t) rfl ?_)
 show wpAny _ _ (ite ((Value.ref t==Value.none)=true) _ _) _ _ s
 rw[if_neg (show(Value.ref t==Value.none)≠true from Bool.false_ne_true)]
 show wpAny _ _ (field (.ref j) 1 >>= _) _ _ s
 refine wpAny_bind (wpAny_field gj dj (x:=.int k 0) rfl ?_)
 show wpAny _ _ (seqItems? (.ref t) >>= _) _ _ s
 refine wpAny_bind (wpAny_seqItems got dt ?_)
 simp only[Int.toNat_natCast,gv]
 refine wpAny_bind (wpAny_rule (wpAny_bind (wpAny_setField gj dj (by simp) ?_)))
 show wpAny _ _ (newExc (.type "StopIteration") [] >>= _) _ _ _
 refine wpAny_bind ?_
 simp only[newExc,newTuple]
 refine wpAny_bind (wpAny_newObj_type ?_ (by size_fits))
 refine wpAny_bind (m:=firstArgMember _ _) (wpAny_of_eq (a:=Value.none) (by simp only[firstArgMember];rfl) ?_)
 refine wpAny_newObj_type ?_ (by size_fits)
 simp only[raiseNew]
 refine wpAny_bind (wpAny_handled ?_)
 rw[show A.in1.handled=none from gh]
 refine wpAny_bind (wpAny_pure (wpAny_throw ?_))
 exact gE _ _ (((Heap.SameBut.update ..).extBut.push _).push _) ⟨_,Heap.get?_push_size _ rfl,rfl⟩
end
def ZIt(tp:Bool)(it l:Addr)(i:Nat)(h:Heap):Prop:=if tp=true then h.IsTupleIter it l i else h.IsListIter it l i
def ZSrc(tp:Bool)(l:Addr)(xs:Array Value)(h:Heap):Prop:=if tp=true then h.IsTuple l xs else h.IsList l xs
theorem ZIt.get{tp:Bool}{it l:Addr}{i:Nat}{h:Heap}(x:ZIt tp it l i h):∃o,h.get? it=some o/\∀v,o.data≠.cell v:=by
 unfold ZIt at x
 split at x
 ·obtain⟨o,e,c,d⟩:=x
  exact⟨o,e,fun v z=>by rw[d]at z;cases z⟩
 ·obtain⟨o,e,c,d⟩:=x
  exact⟨o,e,fun v z=>by rw[d]at z;cases z⟩
theorem ZIt.at{tp:Bool}{it l:Addr}{i:Nat}{h h':Heap}(x:ZIt tp it l i h)(k:∀o,h.get? it=some o->h'.get? it=some o):ZIt tp it l i h':=by
 unfold ZIt at x ⊢
 split at x
 ·rename_i c;rw[if_pos c];obtain⟨o,e,r⟩:=x;exact⟨o,k o e,r⟩
 ·rename_i c;rw[if_neg c];obtain⟨o,e,r⟩:=x;exact⟨o,k o e,r⟩
theorem ZSrc.at{tp:Bool}{l:Addr}{xs:Array Value}{h h':Heap}(x:ZSrc tp l xs h)(k:∀o,h.get? l=some o->h'.get? l=some o):ZSrc tp l xs h':=by
 unfold ZSrc at x ⊢
 split at x
 ·rename_i c;rw[if_pos c];obtain⟨o,e,r⟩:=x;exact⟨o,k o e,r⟩
 ·rename_i c;rw[if_neg c];obtain⟨o,e,r⟩:=x;exact⟨o,k o e,r⟩
section
variable{prog:Program}{w:World}{A:Around}{E:Value->Shared->Prop}{s:Shared}
theorem q6e{tp:Bool}{j t:Addr}{k:Nat}{xs:Array Value}{v:Value}{R:Value->Shared->Prop}(g:ZIt tp j t k s.heap)(gt:ZSrc tp t xs s.heap)(gv:xs[k]?=some v)
  (gR:∀h',ZIt tp j t (k+1) h'->Heap.SameBut j s.heap h'->R v {s with heap:=h' }):wpAny (model prog w) A (Builtin.SmallTypes.nextOf (.ref j)) R E s:=by
 cases tp with
 |true=>exact q9e g gt gv gR
 |false=>exact wpAny_nextOf_list_item g gt gv gR
theorem q9g{tp:Bool}{j t:Addr}{k:Nat}{xs:Array Value}{R:Value->Shared->Prop}(gh:A.handled=none)(g:ZIt tp j t k s.heap)(gt:ZSrc tp t xs s.heap)(gv:xs[k]?=none)
  (gE:∀h' e,Heap.ExtBut j s.heap h'->(∃o,h'.get? e=some o/\o.cls=.type "StopIteration")->E (.ref e) {s with heap:=h' }):wpAny (model prog w) A (Builtin.SmallTypes.nextOf (.ref j)) R E s:=by
 cases tp with
 |true=>exact q9f gh g gt gv gE
 |false=>exact wpAny_nextOf_list_end gh g gt gv gE
structure ZAp(z ti to j1 j2 t1 t2:Addr):Prop where
 a1:ti≠z
 a2:to≠z
 a3:j1≠z
 a4:j2≠z
 a5:ti≠to
 a6:ti≠j1
 a7:ti≠j2
 a8:to≠j1
 a9:to≠j2
 b1:j1≠j2
 b2:t1≠z
 b3:t1≠to
 b4:t1≠j1
 b5:t1≠j2
 b6:t2≠z
 b7:t2≠to
 b8:t2≠j1
 b9:t2≠j2
theorem y8h{tp tq:Bool}{z ti to j1 j2 t1 t2:Addr}{k1 k2:Nat}{xs ys:Array Value}{x y p q:Value}{R:Value->Shared->Prop}(D:ZAp z ti to j1 j2 t1 t2)
  (gz:IsZip s.heap z ti to .none) (gi:IsPair s.heap ti (.ref j1) (.ref j2)) (go:IsPair s.heap to p q)
  (g1:ZIt tp j1 t1 k1 s.heap) (g2:ZIt tq j2 t2 k2 s.heap) (l1:ZSrc tp t1 xs s.heap) (l2:ZSrc tq t2 ys s.heap) (ex:xs[k1]?=some x) (ey:ys[k2]?=some y)
  (gR:∀h',IsZip h' z ti to (rawInt s.heap.objs.size)->IsPair h' to x y->ZIt tp j1 t1 (k1+1) h'->ZIt tq j2 t2 (k2+1) h'->IsPair h' s.heap.objs.size x y->
   (∀c o,c≠z->c≠to->c≠j1->c≠j2->s.heap.get? c=some o->h'.get? c=some o)->R (.ref s.heap.objs.size) {s with heap:=h' }) :
  wpAny (model prog w) A (Builtin.«zip.__next__» ⟨[.ref z],[]⟩) (fun fin s'=>∃v,fin=.done (.ret v)/\R v s') E s:=by
 show wpAny _ _ (field (.ref z) 2 >>= _) _ _ _
 refine wpAny_bind (wpAny_field gz rfl (x:=.bool false) rfl ?_)
 show wpAny _ _ (field (.ref z) 3 >>= _) _ _ _
 refine wpAny_bind (wpAny_field gz rfl (x:=.ref ti) rfl ?_)
 refine wpAny_bind (wpAny_seqItems gi rfl ?_)
 show wpAny _ _ (Builtin.SmallTypes.ownedTupleIsFree (.ref z) >>= _) _ _ _
 refine wpAny_bind ?_
 unfold Builtin.SmallTypes.ownedTupleIsFree
 refine wpAny_bind (wpAny_field gz rfl (x:=.none) rfl (wpAny_pure ?_))
 simp only[if_true]
 refine wpAny_bind (wpAny_rule ?_)
 refine wpAny_bind (wpAny_field gz rfl (x:=.ref to) rfl ?_)
 refine wpAny_bind (wpAny_setField_rec gz (by simp) fun H1 gz1 e1=>?_)
 replace gz1:IsZip H1 z ti to .ellipsis:=gz1
 refine wpAny_bind ?_
 simp only[List.zipIdx_cons,List.zipIdx_nil,List.forIn_cons,List.forIn_nil]
 refine wpAny_bind (wpAny_bind (wpAny_onRaise ?_))
 show wpAny _ _ (Builtin.SmallTypes.nextOf (.ref j1) >>= _) _ _ _
 refine wpAny_bind (q6e (g1.at fun o e=>e1.extBut _ _ D.a3 e) (l1.at fun o e=>e1.extBut _ _ D.b2 e) ex fun H2 n1 e2=>wpAny_pure ?_)
 have go2:IsPair H2 to p q:=e2.extBut _ _ D.a8 (e1.extBut _ _ D.a2 go)
 refine wpAny_bind (wpAny_seqItems go2 rfl ?_)
 refine wpAny_bind (wpAny_updateSeq_pair go2 fun H3 go3 e3=>?_)
 replace go3:IsPair H3 to x q:=go3
 refine wpAny_bind (wpAny_letGo (wpAny_pure ?_))
 refine wpAny_bind (wpAny_bind (wpAny_onRaise ?_))
 show wpAny _ _ (Builtin.SmallTypes.nextOf (.ref j2) >>= _) _ _ _
 refine wpAny_bind (q6e (g2.at fun o e=>e3.extBut _ _ D.a9.symm (e2.extBut _ _ D.b1.symm (e1.extBut _ _ D.a4 e))) (l2.at fun o e=>e3.extBut _ _ D.b7 (e2.extBut _ _ D.b8 (e1.extBut _ _ D.b6 e))) ey fun H4 n2 e4=>wpAny_pure ?_)
 have go4:IsPair H4 to x q:=e4.extBut _ _ D.a9 go3
 refine wpAny_bind (wpAny_seqItems go4 rfl ?_)
 refine wpAny_bind (wpAny_updateSeq_pair go4 fun H5 go5 e5=>?_)
 replace go5:IsPair H5 to x y:=go5
 refine wpAny_bind (wpAny_letGo (wpAny_pure (wpAny_pure ?_)))
 refine wpAny_bind (wpAny_seqItems go5 rfl ?_)
 refine wpAny_bind (wpAny_newTuple ?_)
 have sz5:H5.objs.size=s.heap.objs.size:=by rw[e5.1,e4.1,e3.1,e2.1,e1.1]
 have gz5:IsZip H5 z ti to .ellipsis:=e5.extBut _ _ D.a2.symm (e4.extBut _ _ D.a4.symm (e3.extBut _ _ D.a2.symm (e2.extBut _ _ D.a3.symm gz1)))
 have kk5:∀c o,c≠z->c≠to->c≠j1->c≠j2->s.heap.get? c=some o->H5.get? c=some o:=fun c o c1 c2 c3 c4 e=>
  e5.extBut _ _ c2 (e4.extBut _ _ c4 (e3.extBut _ _ c2 (e2.extBut _ _ c3 (e1.extBut _ _ c1 e))))
 have n15:ZIt tp j1 t1 (k1+1) H5:=n1.at fun o e=>e5.extBut _ _ D.a8.symm (e4.extBut _ _ D.b1 (e3.extBut _ _ D.a8.symm e))
 have n25:ZIt tq j2 t2 (k2+1) H5:=n2.at fun o e=>e5.extBut _ _ D.a9.symm e
 have lz:z<H5.objs.size:=Heap.lt_size gz5
 show wpAny _ _ (Builtin.SmallTypes.ownedTupleHandOut (.ref z) (.ref H5.objs.size) >>= _) _ _ _
 refine wpAny_bind ?_
 unfold Builtin.SmallTypes.ownedTupleHandOut
 have gz6:IsZip (H5.push {cls:=.type "tuple",data:=.seq #[x,y]}) z ti to .ellipsis:=Heap.get?_push_of_some _ gz5
 refine wpAny_bind (wpAny_setField_rec gz6 (by simp) fun H7 gz7 e7=>?_)
 replace gz7:IsZip H7 z ti to (rawInt H5.objs.size):=gz7
 refine wpAny_setField_rec gz7 (by simp) fun H8 gz8 e8=>?_
 replace gz8:IsZip H8 z ti to (rawInt H5.objs.size):=gz8
 have up:∀c o,c≠z->H5.get? c=some o->H8.get? c=some o:=fun c o c1 e=>e8.extBut _ _ c1 (e7.extBut _ _ c1 (Heap.get?_push_of_some _ e))
 have gT8:IsPair H8 H5.objs.size x y:=e8.extBut _ _ (Nat.ne_of_gt lz) (e7.extBut _ _ (Nat.ne_of_gt lz) (Heap.get?_push_size _ rfl))
 rw[sz5]at gz8 gT8
 refine wpAny_pure ⟨_,rfl,?_⟩
 show R (.ref H5.objs.size) _
 rw[sz5]
 exact gR H8 gz8 (up _ _ D.a2 go5) (n15.at fun o e=>up _ o D.a3 e) (n25.at fun o e=>up _ o D.a4 e) gT8 fun c o c1 c2 c3 c4 e=>up c o c1 (kk5 c o c1 c2 c3 c4 e)
theorem y8i{tp tq:Bool}{z ti to j1 j2 t1 t2:Addr}{k1 k2:Nat}{xs ys:Array Value}{p q:Value}{R:Fin->Shared->Prop}(gh:A.handled=none)(D:ZAp z ti to j1 j2 t1 t2)
  (gz:IsZip s.heap z ti to .none) (gi:IsPair s.heap ti (.ref j1) (.ref j2)) (go:IsPair s.heap to p q)
  (g1:ZIt tp j1 t1 k1 s.heap) (g2:ZIt tq j2 t2 k2 s.heap) (l1:ZSrc tp t1 xs s.heap) (l2:ZSrc tq t2 ys s.heap) (hend:xs[k1]?=none\/ys[k2]?=none)
  (gE:∀h' e,(∀c o,c≠z->c≠to->c≠j1->c≠j2->s.heap.get? c=some o->h'.get? c=some o)->(∃o,h'.get? e=some o/\o.cls=.type "StopIteration")->E (.ref e) {s with heap:=h' }) :
  wpAny (model prog w) A (Builtin.«zip.__next__» ⟨[.ref z],[]⟩) R E s:=by
 show wpAny _ _ (field (.ref z) 2 >>= _) _ _ _
 refine wpAny_bind (wpAny_field gz rfl (x:=.bool false) rfl ?_)
 show wpAny _ _ (field (.ref z) 3 >>= _) _ _ _
 refine wpAny_bind (wpAny_field gz rfl (x:=.ref ti) rfl ?_)
 refine wpAny_bind (wpAny_seqItems gi rfl ?_)
 show wpAny _ _ (Builtin.SmallTypes.ownedTupleIsFree (.ref z) >>= _) _ _ _
 refine wpAny_bind ?_
 unfold Builtin.SmallTypes.ownedTupleIsFree
 refine wpAny_bind (wpAny_field gz rfl (x:=.none) rfl (wpAny_pure ?_))
 simp only[if_true]
 refine wpAny_bind (wpAny_rule ?_)
 refine wpAny_bind (wpAny_field gz rfl (x:=.ref to) rfl ?_)
 refine wpAny_bind (wpAny_setField_rec gz (by simp) fun H1 gz1 e1=>?_)
 replace gz1:IsZip H1 z ti to .ellipsis:=gz1
 refine wpAny_bind ?_
 simp only[List.zipIdx_cons,List.zipIdx_nil,List.forIn_cons,List.forIn_nil]
 refine wpAny_bind (wpAny_bind (wpAny_onRaise ?_))
 show wpAny _ _ (Builtin.SmallTypes.nextOf (.ref j1) >>= _) _ _ _
 cases ex:xs[k1]? with
 |none=>
  refine wpAny_bind (q9g gh (g1.at fun o e=>e1.extBut _ _ D.a3 e) (l1.at fun o e=>e1.extBut _ _ D.b2 e) ex fun H2 e e2 ge=>?_)
  obtain⟨oe,goe,gce⟩:=ge
  have gz2:IsZip H2 z ti to .ellipsis:=e2 _ _ D.a3.symm gz1
  have ne:e≠z:=fun x=>by subst x;rw[gz2]at goe;cases goe;simp at gce
  refine wpAny_setField_rec gz2 (by simp) fun H3 _ e3=>gE H3 e (fun c o c1 _ c3 _ x=>e3.extBut _ _ c1 (e2 _ _ c3 (e1.extBut _ _ c1 x))) ⟨oe,e3.extBut _ _ ne goe,gce⟩
 |some x=>
  have ey:ys[k2]?=none:=by
   rcases hend with h|h
   ·rw[ex]at h;cases h
   ·exact h
  refine wpAny_bind (q6e (g1.at fun o e=>e1.extBut _ _ D.a3 e) (l1.at fun o e=>e1.extBut _ _ D.b2 e) ex fun H2 n1 e2=>wpAny_pure ?_)
  have go2:IsPair H2 to p q:=e2.extBut _ _ D.a8 (e1.extBut _ _ D.a2 go)
  refine wpAny_bind (wpAny_seqItems go2 rfl ?_)
  refine wpAny_bind (wpAny_updateSeq_pair go2 fun H3 go3 e3=>?_)
  refine wpAny_bind (wpAny_letGo (wpAny_pure ?_))
  refine wpAny_bind (wpAny_bind (wpAny_onRaise ?_))
  show wpAny _ _ (Builtin.SmallTypes.nextOf (.ref j2) >>= _) _ _ _
  refine wpAny_bind (q9g gh (g2.at fun o e=>e3.extBut _ _ D.a9.symm (e2.extBut _ _ D.b1.symm (e1.extBut _ _ D.a4 e))) (l2.at fun o e=>e3.extBut _ _ D.b7 (e2.extBut _ _ D.b8 (e1.extBut _ _ D.b6 e))) ey fun H4 e e4 ge=>?_)
  obtain⟨oe,goe,gce⟩:=ge
  have gz4:IsZip H4 z ti to .ellipsis:=e4 _ _ D.a4.symm (e3.extBut _ _ D.a2.symm (e2.extBut _ _ D.a3.symm gz1))
  have ne:e≠z:=fun x=>by subst x;rw[gz4]at goe;cases goe;simp at gce
  refine wpAny_setField_rec gz4 (by simp) fun H5 _ e5=>gE H5 e (fun c o c1 c2 c3 c4 x=>e5.extBut _ _ c1 (e4 _ _ c4 (e3.extBut _ _ c2 (e2.extBut _ _ c3 (e1.extBut _ _ c1 x))))) ⟨oe,e5.extBut _ _ ne goe,gce⟩
end
section
variable{X:Cx}{pins:List (Addr×Obj)}{σ:St}{H:Hp}{s:Shared}{h':Heap}
theorem Inv.trackO{D:Addr}{ob:HO}(I:Inv X pins σ H s)(hf:FpOk X pins H D)(h1:X.s₀.heap.objs.size<=D)(new:q2a X.prog X.w (upd H D ob) s.heap D ob):Inv X pins σ (upd H D ob) s:=by
 obtain⟨hn,hL,_,_,h2,h3⟩:=hf
 have ne:∀b u,H b=some u->b≠D:=fun b u e z=>by rw[z,hn]at e;cases e
 have ne0:∀b o,X.s₀.heap.get? b=some o->b≠D:=fun b o e=>Nat.ne_of_lt (Nat.lt_of_lt_of_le (Heap.lt_size e) h1)
 refine⟨I.ok,I.os,I.bare,⟨I.base.keep,I.base.slot,fun b o e n' hx=>?_,I.base.there,fun b xs e=>?_,fun b o u e=>?_,fun b ps e=>?_⟩,I.loc,I.cell,?_,fun x c e=>?_,fun p hp=>?_,fun b u e=>?_,I.len⟩
 ·rw[q0w (ne0 b o e)];exact I.base.free b o e n' hx
 ·have q:=I.base.tups b xs e
  rw[q0w (ne _ _ q)];exact q
 ·have q:=I.base.frzs b o u e
  rw[q0w (ne _ _ q)];exact q
 ·obtain⟨more,q⟩:=I.base.tbls b ps e
  exact⟨more,by rw[q0w (ne _ _ q)];exact q⟩
 ·rw[q0w (Ne.symm hL)];exact I.free
 ·rw[q0w (h2 x c e)];exact I.freeC x c e
 ·obtain⟨a1,a2,a3⟩:=I.pin p hp
  exact⟨a1,by rw[q0w (h3 p hp)];exact a2,a3⟩
 ·by_cases hb:b=D
  ·subst hb
   rw[q2d]at e
   cases e
   exact new
  ·rw[q0w hb]at e
   refine(I.hok b u e).stay (fun c v hc q=>q) (fun c q=>?_) fun c xs q=>?_
   ·rw[q0w (ne _ _ q)];exact q
   ·rw[q0w (ne _ _ q)];exact q
end
def Sq(tp:Bool)(K:Frag)(H:Hp)(a:Addr)(xs:List V):Prop:=if tp=true then SqT K H a xs else SqL K H a xs
theorem Inv.sq{X:Cx}{pins:List (Addr×Obj)}{σ:St}{H:Hp}{s:Shared}{tp:Bool}{a:Addr}{xs:List V}(I:Inv X pins σ H s)(h:Sq tp X.K H a xs):∃its:List Value,Vals xs its/\ZSrc tp a its.toArray s.heap/\xs.length<=sizeLine:=by
 cases tp with
 |true=>
  obtain⟨its,r,t,z⟩:=I.tuple h
  exact⟨its,r,t,z⟩
 |false=>
  obtain⟨its,r,t,z⟩:=I.list h
  exact⟨its,r,t.isList,z⟩
theorem Inv.sq_fp{X:Cx}{pins:List (Addr×Obj)}{σ:St}{H:Hp}{s:Shared}{tp:Bool}{a b:Addr}{xs:List V}(I:Inv X pins σ H s)(h:Sq tp X.K H a xs)(hf:FpOk X pins H b):a≠b:=by
 rintro rfl
 have look:∀o,X.K.lookup a=some o->False:=fun o e=>by
  have e':=I.ok.mod.kin a o e
  rcases hf.2.2.2.1 with z|z
  ·exact I.ok.noex a o e' z
  ·exact absurd (Nat.lt_of_lt_of_le (Heap.lt_size (I.ok.bs a o e').1) z) (Nat.lt_irrefl _)
 have rd:∀u,Rd H a u->False:=fun u e=>by
  rcases e with e|⟨o,e⟩<;>rw[hf.1]at e<;>cases e
 cases tp with
 |true=>
  rcases h with e|⟨o,its,n,e,_⟩
  ·exact rd _ e
  ·exact look o e
 |false=>
  rcases h with e|⟨o,its,n,e,_⟩
  ·exact rd _ e
  ·exact look o e
structure ZAt(tp tq:Bool)(z ti to j1 j2 a b:Addr)(i:Nat)(h:Heap):Prop where
 gz:IsZip h z ti to .none
 gi:IsPair h ti (.ref j1) (.ref j2)
 go:∃p q,IsPair h to p q
 g1:ZIt tp j1 a i h
 g2:ZIt tq j2 b i h
abbrev z0k(tp:Bool)(a:Addr):Obj:={cls:=.type (if tp=true then "tuple_iterator" else "list_iterator"),data:=.fields #[.ref a,.int 0 0]}
theorem y3r{prog:Program}{w:World}{A:Around}{E:Value->Shared->Prop}{s:Shared}{tp:Bool}{a:Addr}{xs:Array Value}{R:Value->Shared->Prop}(g:ZSrc tp a xs s.heap)
  (h:R (.ref s.heap.objs.size) {s with heap:=s.heap.push (z0k tp a)}):wpAny (model prog w) A (pyIter (.ref a)) R E s:=by
 cases tp with
 |true=>exact wpAny_pyIter_tuple g h
 |false=>exact wpAny_pyIter_list g h
theorem ZIt.new{tp:Bool}{a:Addr}{h:Heap}{it:Addr}(g:h.get? it=some (z0k tp a)):ZIt tp it a 0 h:=by
 cases tp with
 |true=>exact⟨_,g,rfl,rfl⟩
 |false=>exact⟨_,g,rfl,rfl⟩
abbrev zz1(h:Heap)(tp:Bool)(a:Addr):Heap:=h.push (z0k tp a)
abbrev zz2(h:Heap)(tp tq:Bool)(a b:Addr):Heap:=(zz1 h tp a).push (z0k tq b)
abbrev zz3(h:Heap)(tp tq:Bool)(a b:Addr):Heap:=(zz2 h tp tq a b).push {cls:=.type "tuple",data:=.seq #[.ref h.objs.size,.ref (zz1 h tp a).objs.size]}
abbrev zz4(h:Heap)(tp tq:Bool)(a b:Addr):Heap:=(zz3 h tp tq a b).push {cls:=.type "tuple",data:=.seq #[.none,.none]}
abbrev zz5(h:Heap)(tp tq:Bool)(a b:Addr):Heap:=(zz4 h tp tq a b).push {cls:=.type "zip",data:=.fields #[.none,.bool false,.bool false,.ref (zz2 h tp tq a b).objs.size,.ref (zz3 h tp tq a b).objs.size]}
theorem x2y(tp tq:Bool)(a b:Addr)(xs ys:Array Value) :
  Meets (Builtin.«zip.__new__» ⟨[.type "zip",.ref a,.ref b],[]⟩) (fun _ R s=>ZSrc tp a xs s.heap/\ZSrc tq b ys s.heap/\R (.ok (.ret (.ref (zz4 s.heap tp tq a b).objs.size))) {s with heap:=zz5 s.heap tp tq a b}):=
 .of_wp fun prog w A R s h=>by
  obtain⟨hp,g,d,tk,os⟩:=s;obtain⟨s1,s2,h⟩:=h
  have hsub:=sub_zip
  have S1:ZSrc tp a xs (Shared.heap ⟨hp,g,d,tk,os⟩):=s1
  have S2:ZSrc tq b ys (Shared.heap ⟨hp.push (z0k tp a),g,d,tk,os⟩):=ZSrc.at s2 fun o e=>Heap.get?_push_of_some _ e
  wp_walk using y3r S1,y3r S2
  exact⟨_,rfl,h⟩
theorem y8b{prog:Program}{w:World}{A:Around}{E:Value->Shared->Prop}{s:Shared}{tp tq:Bool}{a b:Addr}{xs ys:Array Value}{Q:Value->Shared->Prop}(s1:ZSrc tp a xs s.heap)(s2:ZSrc tq b ys s.heap)
  (h:∀h',ZAt tp tq (s.heap.objs.size+4) (s.heap.objs.size+2) (s.heap.objs.size+3) s.heap.objs.size (s.heap.objs.size+1) a b 0 h'->(∀c o,s.heap.get? c=some o->h'.get? c=some o)->Q (.ref (s.heap.objs.size+4)) {s with heap:=h' }) :
  wpAny (model prog w) A (call (.type "zip") [.ref a,.ref b]) Q E s:=by
 refine callType_new F.called_zip (by decide) (F.typeCall_zip_2 _ _) (F.newCall_zip_2 _ _) (fun obj=>F.args_object_init_3 obj _ _) F.entry_zip_new (x2y tp tq a b xs ys) ⟨s1,s2,?_⟩
 have z1:(zz1 s.heap tp a).objs.size=s.heap.objs.size+1:=Heap.size_push ..
 have z2:(zz2 s.heap tp tq a b).objs.size=s.heap.objs.size+2:=by rw[Heap.size_push,z1]
 have z3:(zz3 s.heap tp tq a b).objs.size=s.heap.objs.size+3:=by rw[Heap.size_push,z2]
 have z4:(zz4 s.heap tp tq a b).objs.size=s.heap.objs.size+4:=by rw[Heap.size_push,z3]
 have g5:(zz5 s.heap tp tq a b).get? (zz4 s.heap tp tq a b).objs.size=some _:=Heap.get?_push_size _ rfl
 have g4:(zz5 s.heap tp tq a b).get? (zz3 s.heap tp tq a b).objs.size=some _:=Heap.get?_push_of_some _ (Heap.get?_push_size _ rfl)
 have g3:(zz5 s.heap tp tq a b).get? (zz2 s.heap tp tq a b).objs.size=some _:=Heap.get?_push_of_some _ (Heap.get?_push_of_some _ (Heap.get?_push_size _ rfl))
 have g2:(zz5 s.heap tp tq a b).get? (zz1 s.heap tp a).objs.size=some _:=Heap.get?_push_of_some _ (Heap.get?_push_of_some _ (Heap.get?_push_of_some _ (Heap.get?_push_size _ rfl)))
 have g1:(zz5 s.heap tp tq a b).get? s.heap.objs.size=some _:=Heap.get?_push_of_some _ (Heap.get?_push_of_some _ (Heap.get?_push_of_some _ (Heap.get?_push_of_some _ (Heap.get?_push_size _ rfl))))
 show _/\_
 rw[z2,z3,z4]at g5
 rw[z1,z2]at g3
 rw[z3]at g4
 rw[z1]at g2
 rw[z4]
 exact⟨⟨_,g5,rfl⟩,h _ ⟨g5,g3,⟨_,_,g4⟩,ZIt.new g1,ZIt.new g2⟩ fun c o x=>Heap.get?_push_of_some _ (Heap.get?_push_of_some _ (Heap.get?_push_of_some _ (Heap.get?_push_of_some _ (Heap.get?_push_of_some _ x))))⟩
theorem y3i:bootBuiltins "zip" = some (.type "zip"):=by kernel_rfl
abbrev ZRec(h:Heap)(z ti to:Addr)(x:Value)(f:Bool):Prop:=h.get? z=some {cls:=.type "zip",dict:=none,data:=.fields #[x,.bool f,.bool false,.ref ti,.ref to],slots:=#[]}
section
variable{prog:Program}{w:World}{A:Around}{E:Value->Shared->Prop}{s:Shared}
theorem y0m{d:Addr}{od:Obj}{R:Option Obj->Shared->Prop}(g:s.heap.get? d=some od)(h:R (some od) s):wpAny (model prog w) A (loadIfAlive d) R E s:=by
 have q:R (s.heap.get? d) s:=by rw[g];exact h
 exact fun _ _ _=>q
theorem z6n{z ti to d:Addr}{f:Bool}{od:Obj}{R:Bool->Shared->Prop}(gz:ZRec s.heap z ti to (rawInt d) f)(gd:s.heap.get? d=some od)
  (h:∀h',ZRec h' z ti to (rawInt d) true->Heap.SameBut z s.heap h'->R false {s with heap:=h' }):wpAny (model prog w) A (Builtin.SmallTypes.ownedTupleIsFree (.ref z)) R E s:=by
 unfold Builtin.SmallTypes.ownedTupleIsFree
 refine wpAny_bind (wpAny_field gz rfl (x:=rawInt d) rfl ?_)
 show wpAny _ _ (loadIfAlive ((d:Int).toNat) >>= _) _ _ _
 rw[Int.toNat_natCast]
 refine wpAny_bind (y0m gd ?_)
 simp only[Option.isNone_some,Bool.false_eq_true,if_false]
 refine wpAny_bind (wpAny_field gz rfl (x:=.bool f) rfl ?_)
 cases f with
 |true=>
  rw[if_neg (show ¬((Value.bool true != Value.bool true)=true)from Bool.false_ne_true)]
  exact wpAny_pure (h _ gz (Heap.SameBut.refl _ _))
 |false=>
  rw[if_pos (show(Value.bool false != Value.bool true)=true from rfl)]
  exact wpAny_bind (wpAny_setField_rec gz (by simp) fun H1 g1 e1=>wpAny_pure (h H1 g1 e1))
theorem y4u{tp tq:Bool}{z ti to j1 j2 t1 t2 d:Addr}{f:Bool}{od:Obj}{k1 k2:Nat}{xs ys:Array Value}{x y:Value}{R:Value->Shared->Prop}(D:ZAp z ti to j1 j2 t1 t2)
  (gz:ZRec s.heap z ti to (rawInt d) f) (gd:s.heap.get? d=some od) (gi:IsPair s.heap ti (.ref j1) (.ref j2))
  (g1:ZIt tp j1 t1 k1 s.heap) (g2:ZIt tq j2 t2 k2 s.heap) (l1:ZSrc tp t1 xs s.heap) (l2:ZSrc tq t2 ys s.heap) (ex:xs[k1]?=some x) (ey:ys[k2]?=some y)
  (gR:∀h',ZRec h' z ti to (rawInt d) true->ZIt tp j1 t1 (k1+1) h'->ZIt tq j2 t2 (k2+1) h'->IsPair h' s.heap.objs.size x y->
   (∀c o,c≠z->c≠j1->c≠j2->s.heap.get? c=some o->h'.get? c=some o)->R (.ref s.heap.objs.size) {s with heap:=h' }) :
  wpAny (model prog w) A (Builtin.«zip.__next__» ⟨[.ref z],[]⟩) (fun fin s'=>∃v,fin=.done (.ret v)/\R v s') E s:=by
 show wpAny _ _ (field (.ref z) 2 >>= _) _ _ _
 refine wpAny_bind (wpAny_field gz rfl (x:=.bool false) rfl ?_)
 show wpAny _ _ (field (.ref z) 3 >>= _) _ _ _
 refine wpAny_bind (wpAny_field gz rfl (x:=.ref ti) rfl ?_)
 refine wpAny_bind (wpAny_seqItems gi rfl ?_)
 show wpAny _ _ (Builtin.SmallTypes.ownedTupleIsFree (.ref z) >>= _) _ _ _
 refine wpAny_bind (z6n gz gd fun H1 gz1 e1=>?_)
 simp only[Bool.false_eq_true,if_false]
 rw[<-Array.forIn_toList]
 simp only[List.forIn_cons,List.forIn_nil]
 refine wpAny_bind (wpAny_bind (wpAny_bind (wpAny_holding ?_)))
 show wpAny _ _ (Builtin.SmallTypes.nextOf (.ref j1) >>= _) _ _ _
 refine wpAny_bind (q6e (g1.at fun o e=>e1.extBut _ _ D.a3 e) (l1.at fun o e=>e1.extBut _ _ D.b2 e) ex fun H2 n1 e2=>wpAny_pure ?_)
 refine wpAny_pure (wpAny_bind (wpAny_bind (wpAny_holding ?_)))
 show wpAny _ _ (Builtin.SmallTypes.nextOf (.ref j2) >>= _) _ _ _
 refine wpAny_bind (q6e (g2.at fun o e=>e2.extBut _ _ D.b1.symm (e1.extBut _ _ D.a4 e)) (l2.at fun o e=>e2.extBut _ _ D.b8 (e1.extBut _ _ D.b6 e)) ey fun H3 n2 e3=>wpAny_pure ?_)
 refine wpAny_pure (wpAny_pure ?_)
 refine wpAny_bind (wpAny_newTuple ?_ (by show 2<=sizeLine;decide))
 have sz:H3.objs.size=s.heap.objs.size:=by rw[e3.1,e2.1,e1.1]
 refine wpAny_pure ⟨_,rfl,?_⟩
 show R (.ref H3.objs.size) _
 rw[sz]
 have up:∀c o,H3.get? c=some o->(H3.push {cls:=.type "tuple",data:=.seq #[x,y]}).get? c=some o:=fun c o e=>Heap.get?_push_of_some _ e
 refine gR _ (up _ _ (e3.extBut _ _ D.a4.symm (e2.extBut _ _ D.a3.symm gz1))) (n1.at fun o e=>up _ _ (e3.extBut _ _ D.b1 e)) (n2.at fun o e=>up _ _ e) ?_ fun c o c1 c2 c3 e=>up c o (e3.extBut _ _ c3 (e2.extBut _ _ c2 (e1.extBut _ _ c1 e)))
 rw[<-sz]
 exact Heap.get?_push_size _ rfl
theorem y4w{tp tq:Bool}{z ti to j1 j2 t1 t2 d:Addr}{f:Bool}{od:Obj}{k1 k2:Nat}{xs ys:Array Value}{R:Fin->Shared->Prop}(gh:A.handled=none)(D:ZAp z ti to j1 j2 t1 t2)
  (gz:ZRec s.heap z ti to (rawInt d) f) (gd:s.heap.get? d=some od) (gi:IsPair s.heap ti (.ref j1) (.ref j2))
  (g1:ZIt tp j1 t1 k1 s.heap) (g2:ZIt tq j2 t2 k2 s.heap) (l1:ZSrc tp t1 xs s.heap) (l2:ZSrc tq t2 ys s.heap) (hend:xs[k1]?=none\/ys[k2]?=none)
  (gE:∀h' e,(∀c o,c≠z->c≠j1->c≠j2->s.heap.get? c=some o->h'.get? c=some o)->(∃o,h'.get? e=some o/\o.cls=.type "StopIteration")->E (.ref e) {s with heap:=h' }) :
  wpAny (model prog w) A (Builtin.«zip.__next__» ⟨[.ref z],[]⟩) R E s:=by
 show wpAny _ _ (field (.ref z) 2 >>= _) _ _ _
 refine wpAny_bind (wpAny_field gz rfl (x:=.bool false) rfl ?_)
 show wpAny _ _ (field (.ref z) 3 >>= _) _ _ _
 refine wpAny_bind (wpAny_field gz rfl (x:=.ref ti) rfl ?_)
 refine wpAny_bind (wpAny_seqItems gi rfl ?_)
 show wpAny _ _ (Builtin.SmallTypes.ownedTupleIsFree (.ref z) >>= _) _ _ _
 refine wpAny_bind (z6n gz gd fun H1 gz1 e1=>?_)
 simp only[Bool.false_eq_true,if_false]
 rw[<-Array.forIn_toList]
 simp only[List.forIn_cons,List.forIn_nil]
 refine wpAny_bind (wpAny_bind (wpAny_bind (wpAny_holding ?_)))
 show wpAny _ _ (Builtin.SmallTypes.nextOf (.ref j1) >>= _) _ _ _
 cases ex:xs[k1]? with
 |none=>exact wpAny_bind (q9g gh (g1.at fun o e=>e1.extBut _ _ D.a3 e) (l1.at fun o e=>e1.extBut _ _ D.b2 e) ex fun H2 e e2 ge=>gE H2 e (fun c o c1 c3 _ x=>e2 _ _ c3 (e1.extBut _ _ c1 x)) ge)
 |some x=>
  have ey:ys[k2]?=none:=by
   rcases hend with h|h
   ·rw[ex]at h;cases h
   ·exact h
  refine wpAny_bind (q6e (g1.at fun o e=>e1.extBut _ _ D.a3 e) (l1.at fun o e=>e1.extBut _ _ D.b2 e) ex fun H2 n1 e2=>wpAny_pure ?_)
  refine wpAny_pure (wpAny_bind (wpAny_bind (wpAny_holding ?_)))
  show wpAny _ _ (Builtin.SmallTypes.nextOf (.ref j2) >>= _) _ _ _
  exact wpAny_bind (q9g gh (g2.at fun o e=>e2.extBut _ _ D.b1.symm (e1.extBut _ _ D.a4 e)) (l2.at fun o e=>e2.extBut _ _ D.b8 (e1.extBut _ _ D.b6 e)) ey fun H4 e e4 ge=>gE H4 e (fun c o c1 c3 c4 x=>e4 _ _ c4 (e2.extBut _ _ c3 (e1.extBut _ _ c1 x))) ge)
end
structure ZL(tp tq:Bool)(z ti to j1 j2 a b S:Addr)(i:Nat)(h:Heap):Prop where
 gz:IsZip h z ti to .none\/∃(d:Addr)(f:Bool)(od:Obj),ZRec h z ti to (rawInt d) f/\h.get? d=some od/\S<d
 gi:IsPair h ti (.ref j1) (.ref j2)
 go:∃p q,IsPair h to p q
 g1:ZIt tp j1 a i h
 g2:ZIt tq j2 b i h
theorem ZL.keep{tp tq:Bool}{z ti to j1 j2 a b S:Addr}{i:Nat}{h h':Heap}(x:ZL tp tq z ti to j1 j2 a b S i h)(k:∀c o,c≠S->h.get? c=some o->h'.get? c=some o)(l1:z<S)(l2:ti<S)(l3:to<S)(l4:j1<S)(l5:j2<S):ZL tp tq z ti to j1 j2 a b S i h':=by
 obtain⟨gz,gi,⟨p,q,go⟩,g1,g2⟩:=x
 refine⟨?_,k _ _ (Nat.ne_of_lt l2) gi,⟨p,q,k _ _ (Nat.ne_of_lt l3) go⟩,g1.at fun o e=>k _ _ (Nat.ne_of_lt l4) e,g2.at fun o e=>k _ _ (Nat.ne_of_lt l5) e⟩
 rcases gz with g|⟨d,f,od,g,gd,ld⟩
 ·exact .inl (k _ _ (Nat.ne_of_lt l1) g)
 ·exact .inr ⟨d,f,od,k _ _ (Nat.ne_of_lt l1) g,k _ _ (Nat.ne_of_gt ld) gd,ld⟩
structure ZLo(tp tq:Bool)(z ti to j1 j2 a b S:Addr):Prop where
 D:ZAp z ti to j1 j2 a b
 l1:z<S
 l2:ti<S
 l3:to<S
 l4:j1<S
 l5:j2<S
 l6:a<S
 l7:b<S
 m1:a≠ti
 m2:b≠ti
structure ZG(xs ys:Array Value)(S:Addr)(h:Heap)(as:List Addr):Prop where
 rise:as.Pairwise (·<·)
 above:∀a∈as,S<a
 pairs:∀(j:Nat)(a:Addr),as[j]?=some a->∃x y,xs[j]?=some x/\ys[j]?=some y/\IsPair h a x y
section
variable{prog:Program}{w:World}{A:Around}{E:Value->Shared->Prop}{s:Shared}
theorem y4x{tp tq:Bool}{z ti to j1 j2 a b S:Addr}{i:Nat}{xs ys:Array Value}{x y:Value}{R:Option Value->Shared->Prop}(O:ZLo tp tq z ti to j1 j2 a b S)(st:ZL tp tq z ti to j1 j2 a b S i s.heap)(hS:S<s.heap.objs.size)
  (l1:ZSrc tp a xs s.heap) (l2:ZSrc tq b ys s.heap) (ex:xs[i]?=some x) (ey:ys[i]?=some y)
  (gR:∀h',ZL tp tq z ti to j1 j2 a b S (i+1) h'->IsPair h' s.heap.objs.size x y->(∀c o,c≠z->c≠to->c≠j1->c≠j2->s.heap.get? c=some o->h'.get? c=some o)->R (some (.ref s.heap.objs.size)) {s with heap:=h' }) :
  wpAny (model prog w) A (pyNext (.ref z)) R E s:=by
 obtain⟨gz,gi,⟨p,q,go⟩,g1,g2⟩:=st
 have D:=O.D
 have hT:s.TypeIs (.ref z) "zip" :=by
  rcases gz with g|⟨d,f,od,g,_⟩
  ·exact⟨_,g,rfl⟩
  ·exact⟨_,g,rfl⟩
 unfold pyNext
 refine wpAny_bind (wpAny_attempt (wpAny_callSpecial?_slot (name:=Str.ofString "__next__") hT F.slot_zip_next (wpAny_call_entry F.slot_zip_next hT F.entry_zip_next ?_ (F.args_zip_next_1 _))))
 rcases gz with g|⟨d,f,od,g,gd,ld⟩
 ·refine y8h D g gi go g1 g2 l1 l2 ex ey fun h1 b1 b2 b3 b4 b5 b6=>?_
  exact wpAny_pure (gR h1 ⟨.inr ⟨_,false,_,b1,b5,hS⟩,b6 _ _ D.a1 D.a5 D.a6 D.a7 gi,⟨_,_,b2⟩,b3,b4⟩ b5 b6)
 ·refine y4u D g gd gi g1 g2 l1 l2 ex ey fun h1 b1 b3 b4 b5 b6=>?_
  exact wpAny_pure (gR h1 ⟨.inr ⟨d,true,od,b1,b6 _ _ (Nat.ne_of_gt (Nat.lt_trans O.l1 ld)) (Nat.ne_of_gt (Nat.lt_trans O.l4 ld)) (Nat.ne_of_gt (Nat.lt_trans O.l5 ld)) gd,ld⟩,b6 _ _ D.a1 D.a6 D.a7 gi,⟨_,_,b6 _ _ D.a2 D.a8 D.a9 go⟩,b3,b4⟩ b5 fun c o c1 _ c3 c4 e=>b6 c o c1 c3 c4 e)
theorem y4z{tp tq:Bool}{z ti to j1 j2 a b S:Addr}{i:Nat}{xs ys:Array Value}{R:Option Value->Shared->Prop}(gh:A.handled=none)(O:ZLo tp tq z ti to j1 j2 a b S)(st:ZL tp tq z ti to j1 j2 a b S i s.heap)
  (l1:ZSrc tp a xs s.heap) (l2:ZSrc tq b ys s.heap) (he:xs[i]?=none\/ys[i]?=none)
  (gR:∀h',(∀c o,c≠z->c≠to->c≠j1->c≠j2->s.heap.get? c=some o->h'.get? c=some o)->R none {s with heap:=h' }) :
  wpAny (model prog w) A (pyNext (.ref z)) R E s:=by
 obtain⟨gz,gi,⟨p,q,go⟩,g1,g2⟩:=st
 have D:=O.D
 have hT:s.TypeIs (.ref z) "zip" :=by
  rcases gz with g|⟨d,f,od,g,_⟩
  ·exact⟨_,g,rfl⟩
  ·exact⟨_,g,rfl⟩
 unfold pyNext
 refine wpAny_bind (wpAny_attempt (wpAny_callSpecial?_slot (name:=Str.ofString "__next__") hT F.slot_zip_next (wpAny_call_entry F.slot_zip_next hT F.entry_zip_next ?_ (F.args_zip_next_1 _))))
 rcases gz with g|⟨d,f,od,g,gd,ld⟩
 ·refine y8i gh D g gi go g1 g2 l1 l2 he fun h1 e kk ge=>?_
  obtain⟨oe,goe,gce⟩:=ge
  exact wpAny_bind (wpAny_isInstance (T:= "StopIteration") (b:=true) ⟨oe,goe,gce⟩ isSubtype_stop (wpAny_pure (gR h1 kk)))
 ·refine y4w gh D g gd gi g1 g2 l1 l2 he fun h1 e kk ge=>?_
  obtain⟨oe,goe,gce⟩:=ge
  exact wpAny_bind (wpAny_isInstance (T:= "StopIteration") (b:=true) ⟨oe,goe,gce⟩ isSubtype_stop (wpAny_pure (gR h1 fun c o c1 _ c3 c4 x=>kk c o c1 c3 c4 x)))
end
section
variable{prog:Program}{w:World}{A:Around}{s:Shared}{R:Result->Shared->Prop}
theorem y4v{tp tq:Bool}{z ti to j1 j2 a b S:Addr}{xs ys:Array Value}{n:Nat}(gh:A.handled=none)(O:ZLo tp tq z ti to j1 j2 a b S)(hn:n=min xs.size ys.size)(hz:n<=sizeLine)(res:Value){h₁:Heap}
  (hR:∀h' tk acc c as,(∀x o,x≠S->x≠z->x≠to->x≠j1->x≠j2->h₁.get? x=some o->h'.get? x=some o)->h'.get? S=some {cls:=.type "list",dict:=none,data:=.seq acc c,slots:=#[]}->as.length=n->ZG xs ys S h' as->acc.toList=as.map Value.ref->R (.ok (.ret res)) {s with heap:=h',toks:=tk}) :
  ∀(k i:Nat)(h:Heap)(tk c:Nat)(acc:Array Value)(as:List Addr),n-i=k->i<=n->ZL tp tq z ti to j1 j2 a b S i h->ZSrc tp a xs h->ZSrc tq b ys h->(∀x o,x≠S->x≠z->x≠to->x≠j1->x≠j2->h₁.get? x=some o->h.get? x=some o)->
   h.get? S=some {cls:=.type "list",dict:=none,data:=.seq acc c,slots:=#[]}->acc.toList=as.map Value.ref->as.length=i->ZG xs ys S h as->
   codeAny (model prog w) A (.builtin "list.extend.loop" ⟨[.ref S,.ref z,res],[]⟩) R {s with heap:=h,toks:=tk}:=by
 have D:=O.D
 have nS:∀x,x<S->x≠S:=fun x q=>Nat.ne_of_lt q
 intro k
 induction k with
 |zero=>
  intro i h tk c acc as hk hi st l1 l2 kp gS ha al G
  refine codeAny_builtin F.entry_extend_loop ?_
  rw[Around.under_plainId F.plain_extend_loop _]
  show wpAny _ A.in1 (pyNext (.ref z) >>= _) _ _ _
  refine wpAny_bind (y4z (s:={s with heap:=h,toks:=tk}) (A:=A.in1) gh O st l1 l2 (by
   have e:i=n:=by omega
   rw [Array.getElem?_eq_none_iff,Array.getElem?_eq_none_iff];omega) fun h' up=>?_)
  refine wpAny_pure (hR h' tk acc c as (fun x o q1 q2 q3 q4 q5 e=>up x o q2 q3 q4 q5 (kp x o q1 q2 q3 q4 q5 e)) (up S _ (nS _ O.l1).symm (nS _ O.l3).symm (nS _ O.l4).symm (nS _ O.l5).symm gS) (by omega) ⟨G.rise,G.above,fun j c' hj=>?_⟩ ha)
  obtain⟨x,y,e1,e2,e3⟩:=G.pairs j c' hj
  have lc:=G.above c' (List.mem_of_getElem? hj)
  exact⟨x,y,e1,e2,up c' _ (Nat.ne_of_gt (Nat.lt_trans O.l1 lc)) (Nat.ne_of_gt (Nat.lt_trans O.l3 lc)) (Nat.ne_of_gt (Nat.lt_trans O.l4 lc)) (Nat.ne_of_gt (Nat.lt_trans O.l5 lc)) e3⟩
 |succ k ih=>
  intro i h tk c acc as hk hi st l1 l2 kp gS ha al G
  have lx:i<xs.size:=by omega
  have ly:i<ys.size:=by omega
  have sz:acc.size=i:=by rw[<-Array.length_toList,ha,List.length_map,al]
  have sl:S<h.objs.size:=Heap.lt_size gS
  refine codeAny_builtin F.entry_extend_loop ?_
  rw[Around.under_plainId F.plain_extend_loop _]
  show wpAny _ A.in1 (pyNext (.ref z) >>= _) _ _ _
  refine wpAny_bind (y4x (s:={s with heap:=h,toks:=tk}) O st sl l1 l2 (Array.getElem?_eq_getElem lx) (Array.getElem?_eq_getElem ly) fun h' st' gp up=>?_)
  dsimp only at gp up ⊢
  have gS':=up S _ (nS _ O.l1).symm (nS _ O.l3).symm (nS _ O.l4).symm (nS _ O.l5).symm gS
  have ot:∀x o,x≠S->h'.get? x=some o->(h'.update S (Obj.mapSeq (·.push (Value.ref h.objs.size)))).get? x=some o:=fun x o q e=>(Heap.get?_update_other _ _ (Ne.symm q)).trans e
  show wpAny _ A.in1 (updateSeq S (·.push (Value.ref h.objs.size)) >>= _) _ _ _
  refine wpAny_bind ?_
  refine wpAny_updateSeq gS' rfl (wpAny_pure ⟨plainId_quiet F.plain_extend_loop _,ih (i+1) _ tk _ (acc.push (Value.ref h.objs.size)) (as++[h.objs.size]) (by omega) (by omega) (st'.keep ot O.l1 O.l2 O.l3 O.l4 O.l5)
   (l1.at fun o e=>ot _ o (nS _ O.l6) (up _ o D.b2 D.b3 D.b4 D.b5 e)) (l2.at fun o e=>ot _ o (nS _ O.l7) (up _ o D.b6 D.b7 D.b8 D.b9 e))
   (fun x o q1 q2 q3 q4 q5 e=>ot x o q1 (up x o q2 q3 q4 q5 (kp x o q1 q2 q3 q4 q5 e))) (Heap.get?_update_self _ gS' rfl) (by rw [Array.toList_push,ha,List.map_append];rfl) (by rw [List.length_append,al];rfl) ⟨?_,?_,?_⟩⟩) (by rw [sz];omega) (by show (acc.push (Value.ref h.objs.size)).size<=sizeLine+1;rw [Array.size_push,sz];omega)
  ·refine List.pairwise_append.mpr ⟨G.rise,List.pairwise_singleton _ _,fun c1 h1 c2 h2=>?_⟩
   rw[List.mem_singleton.mp h2]
   obtain⟨j,hj⟩:=List.mem_iff_getElem?.mp h1
   obtain⟨_,_,_,_,e⟩:=G.pairs j c1 hj
   exact Heap.lt_size e
  ·intro c1 h1
   rcases List.mem_append.mp h1 with h1|h1
   ·exact G.above c1 h1
   ·rw[List.mem_singleton.mp h1];exact sl
  ·intro j c1 hj
   rcases Nat.lt_trichotomy j as.length with q|q|q
   ·rw[List.getElem?_append_left q]at hj
    obtain⟨x,y,e1,e2,e3⟩:=G.pairs j c1 hj
    have lc:=G.above c1 (List.mem_of_getElem? hj)
    exact⟨x,y,e1,e2,ot c1 _ (Nat.ne_of_gt lc) (up c1 _ (Nat.ne_of_gt (Nat.lt_trans O.l1 lc)) (Nat.ne_of_gt (Nat.lt_trans O.l3 lc)) (Nat.ne_of_gt (Nat.lt_trans O.l4 lc)) (Nat.ne_of_gt (Nat.lt_trans O.l5 lc)) e3)⟩
   ·subst q
    have e:h.objs.size=c1:=by simpa using hj
    subst e
    rw[al]
    exact⟨_,_,Array.getElem?_eq_getElem lx,Array.getElem?_eq_getElem ly,ot _ _ (Nat.ne_of_gt sl) gp⟩
   ·have e:(as++[h.objs.size])[j]?=none:=List.getElem?_eq_none (by rw[List.length_append,List.length_singleton];omega)
    rw[e]at hj;cases hj
end
theorem z6q:typeLookup (.type "zip") "__len__" = pure none:=by rw[typeLookup_type,builtinLookup_eq_fast];kernel_rfl
theorem z5h:typeLookup (.type "zip") "__length_hint__" = pure none:=by rw[typeLookup_type,builtinLookup_eq_fast];kernel_rfl
section
variable{prog:Program}{w:World}{A:Around}{s:Shared}{R:Result->Shared->Prop}
theorem z6o{tp tq:Bool}{z ti to j1 j2 a b S:Addr}{xs ys:Array Value}{n c₀:Nat}(gh:A.handled=none)(O:ZLo tp tq z ti to j1 j2 a b S)(hn:n=min xs.size ys.size)(hz:n<=sizeLine)(res:Value)
  (st:ZAt tp tq z ti to j1 j2 a b 0 s.heap) (l1:ZSrc tp a xs s.heap) (l2:ZSrc tq b ys s.heap) (gS:s.heap.get? S=some {cls:=.type "list",data:=.seq #[] c₀})
  (hR:∀h' tk acc c as,(∀x o,x≠S->x≠z->x≠to->x≠j1->x≠j2->s.heap.get? x=some o->h'.get? x=some o)->h'.get? S=some {cls:=.type "list",dict:=none,data:=.seq acc c,slots:=#[]}->as.length=n->ZG xs ys S h' as->acc.toList=as.map Value.ref->R (.ok (.ret res)) {s with heap:=h',toks:=tk}) :
  wpAny (model prog w) A.in1 (Builtin.List.listExtendWith (.ref S) (.ref z) res)
   (fun fin s'=>match fin with|.done f=>R (.ok f) s'|.again c'=>c'.quiet=true/\codeAny (model prog w) A c' R s') (fun e s'=>R (.error e) s') s:=by
 have hT:s.TypeIs (.ref z) "zip" :=⟨_,st.gz,rfl⟩
 have Sz:S≠z:=Nat.ne_of_gt O.l1
 unfold Builtin.List.listExtendWith
 refine wpAny_bind (wpAny_typeOf hT ?_)
 have q1:Builtin.List.listSameRef (.ref S) (.ref z)=false:=by simp[Builtin.List.listSameRef,Sz]
 have q2:(Value.type "zip" == Value.type "list")=false:=by decide
 have q3:(Value.type "zip" == Value.type "tuple")=false:=by decide
 simp only[q1,q2,q3,Bool.or_false,Bool.false_eq_true,if_false]
 refine wpAny_bind (wpAny_pyIter_zip st.gz (wpAny_bind (wpAny_holding ?_)))
 unfold Builtin.List.listLengthHint
 refine wpAny_bind (wpAny_specialOf hT z6q ?_)
 show wpAny _ A.in1 (specialOf (Value.ref z) (Str.ofString "__length_hint__") >>= _) _ _ _
 refine wpAny_bind (wpAny_specialOf hT z5h (wpAny_pure ?_))
 show wpAny _ A.in1 (rule "list.extend.makes-room" >>= fun _=>Builtin.List.listTouch (.ref S) >>= fun _=>again (.builtin "list.extend.loop" ⟨[.ref S,.ref z,res],[]⟩)) _ _ _
 refine wpAny_bind (wpAny_rule (wpAny_bind ?_))
 show wpAny _ A.in1 (updateSeq S (·.push .none) >>= fun _=>updateSeq S (·.pop)) _ _ _
 refine wpAny_bind (wpAny_updateSeq gS rfl ?_)
 have gS2:=Heap.get?_update_self (Obj.mapSeq (·.push Value.none)) gS rfl
 refine wpAny_updateSeq (hz:=by seq_fits) gS2 rfl ?_
 have gS3:=Heap.get?_update_self (Obj.mapSeq (·.pop)) gS2 rfl
 have ot:∀x o,x≠S->s.heap.get? x=some o->((s.heap.update S (Obj.mapSeq (·.push Value.none))).update S (Obj.mapSeq (·.pop))).get? x=some o:=fun x o q e=>(Heap.get?_update_other _ _ (Ne.symm q)).trans ((Heap.get?_update_other _ _ (Ne.symm q)).trans e)
 obtain⟨gz,gi,go,g1,g2⟩:=st
 have st':ZL tp tq z ti to j1 j2 a b S 0 _:=ZL.keep ⟨.inl gz,gi,go,g1,g2⟩ ot O.l1 O.l2 O.l3 O.l4 O.l5
 exact wpAny_pure ⟨plainId_quiet F.plain_extend_loop _,y4v (s:=s) (h₁:=s.heap) gh O hn hz res hR n 0 _ s.toks _ #[] [] (Nat.sub_zero _) (Nat.zero_le _) st' (l1.at fun o e=>ot _ o (Nat.ne_of_lt O.l6) e) (l2.at fun o e=>ot _ o (Nat.ne_of_lt O.l7) e) (fun x o q _ _ _ _ e=>ot x o q e) gS3 rfl rfl ⟨List.Pairwise.nil,fun _ m=>(by cases m),fun j c hj=>by simp at hj⟩⟩
theorem y4y{tp tq:Bool}{z ti to j1 j2 a b S:Addr}{xs ys:Array Value}{n:Nat}(gh:A.handled=none)(O:ZLo tp tq z ti to j1 j2 a b S)(hn:n=min xs.size ys.size)(hz:n<=sizeLine)
  (st:ZAt tp tq z ti to j1 j2 a b 0 s.heap) (l1:ZSrc tp a xs s.heap) (l2:ZSrc tq b ys s.heap) (gS:s.heap.get? S=some {cls:=.type "list",data:=.seq #[]})
  (hR:∀h' tk acc c as,(∀x o,x≠S->x≠z->x≠to->x≠j1->x≠j2->s.heap.get? x=some o->h'.get? x=some o)->h'.get? S=some {cls:=.type "list",dict:=none,data:=.seq acc c,slots:=#[]}->as.length=n->ZG xs ys S h' as->acc.toList=as.map Value.ref->R (.ok (.ret .none)) {s with heap:=h',toks:=tk}) :
  wpAny (model prog w) A.in1 (Builtin.«list.__init__» ⟨[.ref S,.ref z],[]⟩)
   (fun fin s'=>match fin with|.done f=>R (.ok f) s'|.again c'=>c'.quiet=true/\codeAny (model prog w) A c' R s') (fun e s'=>R (.error e) s') s:=by
 show wpAny _ A.in1 (do let was <-Builtin.List.listItems (.ref S);Builtin.List.listUpdate (.ref S) (fun _=>#[]);letGo was.toList.reverse;Builtin.List.listExtendWith (.ref S) (.ref z) .none) _ _ s
 refine wpAny_bind ?_
 unfold Builtin.List.listItems
 refine wpAny_bind (wpAny_seqItems gS rfl (wpAny_pure ?_))
 show wpAny _ A.in1 (updateSeq S (fun _=>#[]) >>= fun _=>letGo (#[]:Array Value).toList.reverse >>= fun _=>Builtin.List.listExtendWith (.ref S) (.ref z) .none) _ _ s
 refine wpAny_bind (wpAny_updateSeq gS rfl ?_)
 have gS2:=Heap.get?_update_self (Obj.mapSeq (fun _=>(#[]:Array Value))) gS rfl
 have ot:∀x o,x≠S->s.heap.get? x=some o->(s.heap.update S (Obj.mapSeq (fun _=>(#[]:Array Value)))).get? x=some o:=fun x o q e=>(Heap.get?_update_other _ _ (Ne.symm q)).trans e
 refine wpAny_bind (wpAny_letGo ?_)
 obtain⟨gz,gi,⟨p,q,go⟩,g1,g2⟩:=st
 refine z6o (s:={s with heap:=s.heap.update S (Obj.mapSeq (fun _=>(#[]:Array Value)))}) gh O hn hz .none ⟨ot _ _ (Nat.ne_of_lt O.l1) gz,ot _ _ (Nat.ne_of_lt O.l2) gi,⟨p,q,ot _ _ (Nat.ne_of_lt O.l3) go⟩,g1.at fun o e=>ot _ _ (Nat.ne_of_lt O.l4) e,g2.at fun o e=>ot _ _ (Nat.ne_of_lt O.l5) e⟩
  (l1.at fun o e=>ot _ o (Nat.ne_of_lt O.l6) e) (l2.at fun o e=>ot _ o (Nat.ne_of_lt O.l7) e) gS2 fun h' tk acc c as kp gS' hl G ha=>hR h' tk acc c as (fun x o r1 r2 r3 r4 r5 e=>kp x o r1 r2 r3 r4 r5 (ot x o r1 e)) gS' hl G ha
end
section
variable{prog:Program}{w:World}{A:Around}{E:Value->Shared->Prop}{s:Shared}
theorem y0g{tp tq:Bool}{z ti to j1 j2 a b:Addr}{xs ys:Array Value}{n:Nat}{Q:Value->Shared->Prop}(gh:A.handled=none)(D:ZAp z ti to j1 j2 a b)(m1:a≠ti)(m2:b≠ti)(hn:n=min xs.size ys.size)(hz:n<=sizeLine)
  (st:ZAt tp tq z ti to j1 j2 a b 0 s.heap) (l1:ZSrc tp a xs s.heap) (l2:ZSrc tq b ys s.heap)
  (hQ:∀h' tk acc c as,(∀x o,x≠z->x≠to->x≠j1->x≠j2->s.heap.get? x=some o->h'.get? x=some o)->h'.get? s.heap.objs.size=some {cls:=.type "list",dict:=none,data:=.seq acc c,slots:=#[]}->as.length=n->ZG xs ys s.heap.objs.size h' as->acc.toList=as.map Value.ref->Q (.ref s.heap.objs.size) {s with heap:=h',toks:=tk}) :
  wpAny (model prog w) A (call (.type "list") [.ref z]) Q E s:=by
 refine callType_codes (Q₁:=fun ob s1=>ob=.ref s.heap.objs.size/\s1={s with heap:=s.heap.push {cls:=.type "list",data:=.seq #[]}}) F.called_list (F.typeCall_list_1 _) F.entry_list_init (code_list_new _ ⟨rfl,rfl⟩) fun ob s1 h1=>?_
 obtain⟨rfl,rfl⟩:=h1
 have gS:(s.heap.push {cls:=.type "list",data:=.seq #[]}).get? s.heap.objs.size=some {cls:=.type "list",data:=.seq #[]}:=Heap.get?_push_size _ rfl
 have up:∀x o,s.heap.get? x=some o->(s.heap.push {cls:=.type "list",data:=.seq #[]}).get? x=some o:=fun x o e=>Heap.get?_push_of_some _ e
 obtain⟨gz,gi,⟨p,q,go⟩,g1,g2⟩:=st
 have la:a<s.heap.objs.size:=by
  unfold ZSrc at l1
  split at l1
  ·obtain⟨_,e,_⟩:=l1;exact Heap.lt_size e
  ·obtain⟨_,e,_⟩:=l1;exact Heap.lt_size e
 have lb:b<s.heap.objs.size:=by
  unfold ZSrc at l2
  split at l2
  ·obtain⟨_,e,_⟩:=l2;exact Heap.lt_size e
  ·obtain⟨_,e,_⟩:=l2;exact Heap.lt_size e
 have O:ZLo tp tq z ti to j1 j2 a b s.heap.objs.size:=⟨D,Heap.lt_size gz,Heap.lt_size gi,Heap.lt_size go,by obtain⟨_,e,_⟩:=g1.get;exact Heap.lt_size e,by obtain⟨_,e,_⟩:=g2.get;exact Heap.lt_size e,la,lb,m1,m2⟩
 refine⟨⟨_,gS,rfl⟩,F.args_list_init_2 _ _,y4y (s:={s with heap:=s.heap.push {cls:=.type "list",data:=.seq #[]}}) (A:=A.in1) gh O hn hz ⟨up _ _ gz,up _ _ gi,⟨p,q,up _ _ go⟩,g1.at fun o e=>up _ _ e,g2.at fun o e=>up _ _ e⟩ (l1.at fun o e=>up _ o e) (l2.at fun o e=>up _ o e) gS fun h' tk acc c as kp gS' hl G ha=>⟨rfl,hQ h' tk acc c as (fun x o r2 r3 r4 r5 e=>kp x o (Nat.ne_of_lt (Heap.lt_size e)) r2 r3 r4 r5 (up x o e)) gS' hl G ha⟩⟩
end
theorem z0t{X:Cx}{pins:List (Addr×Obj)}{σ:St}{s:Shared}:∀(as:List Addr)(vs:List (V×V))(H:Hp),Inv X pins σ H s->as.length=vs.length->as.Nodup->(∀a∈as,FpOk X pins H a/\X.s₀.heap.objs.size<=a)->
  (∀(j:Nat) a p,as[j]?=some a->vs[j]?=some p->∃u v,RelV p.1 u/\RelV p.2 v/\IsPair s.heap a u v)->∃H',Inv X pins σ H' s/\(∀c,c∉as->H' c=H c)/\∀(j:Nat) a p,as[j]?=some a->vs[j]?=some p->H' a=some (.tup [p.1,p.2])
 |[],_,H,I,_,_,_,_=>⟨H,I,fun _ _=>rfl,fun j a p h=>by simp at h⟩
 |a::as,[],H,I,hl,_,_,_=>by simp at hl
 |a::as,p::vs,H,I,hl,nd,hf,hp=>by
  obtain⟨n1,n2⟩:=List.nodup_cons.mp nd
  obtain⟨u,v,ru,rv,g⟩:=hp 0 a p rfl rfl
  obtain⟨f1,f2⟩:=hf a (by simp)
  have I1:=I.trackO (ob:=.tup [p.1,p.2]) f1 f2 ⟨by show 2<=sizeLine;decide,[u,v],.cons ru (.cons rv .nil),⟨_,g,rfl,_,rfl⟩⟩
  obtain⟨H',I',k1,k2⟩:=z0t as vs _ I1 (by simpa using hl) n2 (fun c hc=>⟨⟨by rw[q0w (fun(e:c=a)=>n1 (by rw[<-e];exact hc))];exact(hf c (by simp[hc])).1.1,(hf c (by simp[hc])).1.2⟩,(hf c (by simp[hc])).2⟩) fun j c q h1 h2=>hp (j+1) c q (by simpa using h1) (by simpa using h2)
  refine⟨H',I',fun c hc=>?_,fun j c q h1 h2=>?_⟩
  ·simp only[List.mem_cons,not_or]at hc
   rw[k1 c hc.2,q0w hc.1]
  ·cases j with
   |zero=>
    simp at h1 h2
    subst h1 h2
    rw[k1 a n1]
    exact q2d
   |succ j=>exact k2 j c q (by simpa using h1) (by simpa using h2)
def x3f(K:Frag)(ta:TA):TE:=fun σ H Q=>ta σ H fun vs H1=>∃tp tq a b xs ys,vs=[.ref a,.ref b]/\Sq tp K H1 a xs/\Sq tq K H1 b ys/\
 ∀(as:List Addr)(H2:Hp)(p:Addr),as.length=min xs.length ys.length->(∀c o,H1 c=some o->H2 c=some o)->(∀(j:Nat) c x y,as[j]?=some c->xs[j]?=some x->ys[j]?=some y->H2 c=some (.tup [x,y]))->H2 p=none->Q (.ref p) (upd H2 p (.lst (as.map V.ref)))
theorem y6n{X:Cx}{a b:Expr}{ta:TA}{p p2 pos2 pos:Pos}(hc:X.calm=true)(ha:PA X [a,b] ta)(hm:X.mg "list" = none)(hm2:X.mg "zip" = none)(hg:Gl X "list" :=by rfl)(hg2:Gl X "zip" :=by rfl)
  (he:starEach [.Call (.Name "zip" p2) [a,b] [] pos2] X.env=(false,eval (.Call (.Name "zip" p2) [a,b] [] pos2) X.env)::starEach [] X.env:=by rfl) (hs:starEach [a,b] X.env=[(false,eval a X.env),(false,eval b X.env)]:=by rfl) (hs2:starEach [b] X.env=[(false,eval b X.env)]:=by rfl) :
  PE X (.Call (.Name "list" p) [.Call (.Name "zip" p2) [a,b] [] pos2] [] pos) (x3f X.K ta):=by
 intro pins s σ H Q I h
 refine wpAny_Call_Name_kw (q6o I hg hm boot_list ?_)
 refine PyProof.Rows.callWith_type1 ?_ he rfl
 rw[he]
 show wpAny _ _ (spliced ((false,eval (.Call (.Name "zip" p2) [a,b] [] pos2) X.env)::backTo pos (starEach [] X.env))) _ _ s
 refine Calls.spliced_cons (Call_ (q6o I hg2 hm2 y3i (PyProof.Rows.callWith_type1 (thn (ha pos2 pins s σ H _ I h) fun us s1 ⟨vs,H1,I1,r1,q1⟩=>?_) (by rw[hs,hs2]) (by rw[hs2];rfl))))
 obtain⟨tp,tq,a,b,xs,ys,e,sx,sy,q⟩:=q1
 subst e
 cases r1 with
 |cons r rr=>
  cases rr with
  |cons r' rr=>
   cases rr
   cases r
   cases r'
   obtain⟨is,rx,lx,zx⟩:=I1.sq sx
   obtain⟨js,ry,ly,zy⟩:=I1.sq sy
   have d:∀i j:Nat,i≠j->s1.heap.objs.size+i≠s1.heap.objs.size+j:=fun i j q z=>q (Nat.add_left_cancel z)
   have fr:∀c,s1.heap.objs.size<=c->FpOk X pins H1 c:=fun c hle=>I1.fpOk hle (I1.hok.fresh hle)
   have fk:∀k,FpOk X pins H1 (s1.heap.objs.size+k):=fun k=>fr _ (Nat.le_add_right _ _)
   have D:ZAp (s1.heap.objs.size+4) (s1.heap.objs.size+2) (s1.heap.objs.size+3) s1.heap.objs.size (s1.heap.objs.size+1) a b:=⟨d 2 4 (by decide),d 3 4 (by decide),d 0 4 (by decide),d 1 4 (by decide),d 2 3 (by decide),d 2 0 (by decide),d 2 1 (by decide),d 3 0 (by decide),d 3 1 (by decide),d 0 1 (by decide),I1.sq_fp sx (fk 4),I1.sq_fp sx (fk 3),I1.sq_fp sx (fk 0),I1.sq_fp sx (fk 1),I1.sq_fp sy (fk 4),I1.sq_fp sy (fk 3),I1.sq_fp sy (fk 0),I1.sq_fp sy (fk 1)⟩
   have ex:=rx.length
   have ey:=ry.length
   refine y8b lx ly fun h' st kk=>Calls.spliced_nil ?_
   refine y0g (s:={s1 with heap:=h' }) (n:=min xs.length ys.length) (I1.ok.hd hc) D (I1.sq_fp sx (fk 2)) (I1.sq_fp sy (fk 2)) (by simp[ex,ey]) (by omega) st (lx.at fun o e=>kk _ o e) (ly.at fun o e=>kk _ o e) fun h2 tk acc c as kp gS hl G hacc=>?_
   dsimp only at kp gS G ⊢
   have big:∀c,s1.heap.objs.size+4<c->s1.heap.objs.size<=c:=fun c q=>by omega
   have hS:s1.heap.objs.size+4<h'.objs.size:=Heap.lt_size st.gz
   have I2:Inv X pins σ H1 {s1 with heap:=h2,toks:=tk}:=I1.kept (t':=tk) fun x o e=>by
    have lt:=Heap.lt_size e
    have ne:∀k,x≠s1.heap.objs.size+k:=fun k=>Nat.ne_of_lt (Nat.lt_of_lt_of_le lt (Nat.le_add_right _ _))
    exact kp x o (ne 4) (ne 3) (ne 0) (ne 1) (kk x o e)
   have ab:∀c∈as,h'.objs.size<c:=G.above
   obtain⟨H2,I3,k1,k2⟩:=z0t as (xs.zip ys) H1 I2 (by rw[List.length_zip];exact hl) (G.rise.imp fun q=>Nat.ne_of_lt q) (fun c m=>⟨fr c (by have:=ab c m;omega),Nat.le_trans I1.sz (by have:=ab c m;omega)⟩) fun j c pr h1 h3=>by
    obtain⟨u,v,e1,e2,e3⟩:=G.pairs j c h1
    obtain⟨z1,z2⟩:=List.getElem?_zip_eq_some.mp h3
    obtain⟨u',f1,f2⟩:=rx.get z1
    obtain⟨v',f3,f4⟩:=ry.get z2
    rw[List.getElem?_toArray]at e1 e2
    rw[f1]at e1;rw[f3]at e2
    cases e1;cases e2
    exact⟨u,v,f2,f4,e3⟩
   have nS:h'.objs.size∉as:=fun m=>Nat.lt_irrefl _ (ab _ m)
   have H2S:H2 h'.objs.size=none:=by rw[k1 _ nS];exact I1.hok.fresh (by omega)
   have fS:FpOk X pins H2 h'.objs.size:=I1.fpOk (by omega) H2S
   have hv:Vals (as.map V.ref) acc.toList:=by
    rw[hacc]
    clear hacc hl G ab k1 k2 nS I3
    induction as with
    |nil=>exact .nil
    |cons c r ih=>exact .cons rfl ih
   have I4:=I3.trackO (D:=h'.objs.size) (ob:=.lst (as.map V.ref)) fS (Nat.le_trans I1.sz (by omega)) ⟨by rw[List.length_map,hl];omega,acc.toList,c,hv,gS⟩
   refine⟨.ref h'.objs.size,_,I4,rfl,q as H2 h'.objs.size hl (fun x o e=>?_) (fun j x u v h1 h3 h4=>k2 j x (u,v) h1 (List.getElem?_zip_eq_some.mpr ⟨h3,h4⟩)) H2S⟩
   rw[k1 x fun m=>?_]
   ·exact e
   ·have:=I1.hok.fresh (show s1.heap.objs.size<=x by have:=ab x m;omega)
    rw[this]at e;cases e
section
variable{X:Cx}
theorem y2c:OpR X (binaryOp .FloorDiv) (rI (fun _ j=>0<j/\j<2 ^ 100) fun i j=>.int (i / j)):=opI fun i j _ _ s Q E hc q=>by
 refine floordiv_int (by omega) ?_ (.inl (PyProof.noPylong_of_log2 ?_))
 ·rw[Int.fdiv_eq_ediv_of_nonneg _ (by omega)];exact q
 ·have:j.natAbs<2 ^ 100:=by omega
  have h2:j.natAbs.log2<100:=(Nat.log2_lt (by omega)).mpr this
  omega
theorem y3m{bs:List Bool}{us:List Value}(r:Vals (bs.map V.bl) us){i:Nat}{v:Value}(e:us[i]?=some v):v=.bool (bs.getD i true):=by
 have hl:=r.length
 rw[List.length_map]at hl
 obtain⟨hi,rfl⟩:=List.getElem?_eq_some_iff.mp e
 have hi':i<bs.length:=by omega
 have:(bs.map V.bl)[i]?=some (.bl bs[i]):=by simp[hi']
 obtain⟨u,eu,ru⟩:=r.get this
 rw[e]at eu
 cases eu
 have hd:bs.getD i true=bs[i]:=by simp[List.getD,hi']
 rw[hd]
 exact ru
theorem z7o(bs:List Bool):(List.range bs.length).all (fun i=>bs.getD i true)=bs.all id:=by
 rw[Bool.eq_iff_iff,List.all_eq_true,List.all_eq_true]
 constructor
 ·intro h x hx
  obtain⟨i,hi,rfl⟩:=List.mem_iff_getElem.mp hx
  have:=h i (by simp[hi])
  simpa[List.getD,hi]using this
 ·intro h i hi
  have hi':i<bs.length:=by simpa using hi
  have:=h bs[i] (List.getElem_mem hi')
  simpa[List.getD,hi']using this
theorem y3h:X.calm=true->q5a X (.builtin "all") (fun xs H Q=>∃(p:Addr)(bs:List Bool),xs=[.ref p]/\SqL X.K H p (bs.map V.bl)/\Q (.bl (bs.all id)) H):=by
 intro hc pins s σ H xs us Q I r h
 obtain⟨p,bs,rfl,hp,q⟩:=h
 obtain⟨u,rfl,ru⟩:=z0q r
 cases ru
 obtain⟨is,r1,p1,_⟩:=I.list hp
 have hl:=r1.length
 rw[List.length_map]at hl
 have hlt:p<s.heap.objs.size:=by obtain⟨_,e,_⟩:=p1.isList;exact Heap.lt_size e
 refine call_all_walk (wpAny_pyIter_list p1.isList ?_)
 refine⟨s.heap.objs.size,_,_,_,_,_,(fun i=>bs.getD i true),rfl,Walks.list (A:=X.A.in1) (I.ok.hd hc) s.heap.objs.size p (Nat.ne_of_lt hlt) is.toArray,⟨⟨_,Heap.get?_push_size _ rfl,rfl,rfl⟩,p1.isList.push _⟩,fun i v s' Q' E' hv hQ'=>?_,fun h' tk hk=>?_⟩
 ·have e:=y3m r1 (i:=i) (v:=v) (by simpa using hv)
  subst e
  exact wpAny_pure hQ'
 ·refine⟨.bl _,H,I.kept (fun b o e=>hk b o (by have:=Heap.lt_size e;simp;exact Nat.ne_of_lt this) (Heap.get?_push_of_some _ e)),rfl,?_⟩
  have e:(List.range is.toArray.size).all (fun i=>bs.getD i true)=bs.all id:=by
   rw[List.size_toArray,<-hl];exact z7o bs
  show Q (.bl ((List.range is.toArray.size).all fun i=>bs.getD i true)) H
  rw[e];exact q
theorem z6e{h:Heap}{sl:Addr}{vl vu:Value}{lo hi:Option Int}(hs:h.IsSliceOf sl vl vu .none)(pl:IsPart vl lo)(pu:IsPart vu hi):∃l u:Option (Int×Tok),h.IsSlice sl l u none/\l.map (·.1)=lo/\u.map (·.1)=hi:=by
 cases pl with
 |none=>
  cases pu with
  |none=>exact⟨none,none,hs,rfl,rfl⟩
  |int i t=>exact⟨none,some (_,_),hs,rfl,rfl⟩
 |int i t=>
  cases pu with
  |none=>exact⟨some (_,_),none,hs,rfl,rfl⟩
  |int i t=>exact⟨some (_,_),some (_,_),hs,rfl,rfl⟩
theorem y8v:SlR X (fun x lo hi H Q=>∃z:Str,x=.str z/\z.length<=sizeLine/\Q (.str (Txt.slice z lo hi)) H):=by
 intro pins s σ H x v vl vu lo hi sl Q I rx hs pl pu h
 obtain⟨z,rfl,hz,q⟩:=h
 obtain⟨t,rfl⟩:=rx
 obtain⟨l,u,hsl,rfl,rfl⟩:=z6e hs pl pu
 refine⟨"str",_,F.slot_str_getitem.lookup,typeIs_str _ _ _,wpAny_getItem_str_slice (l:=l) (u:=u) (st:=none) hsl rfl ?_⟩
 exact post_val_or_str ⟨Nat.le_trans (Txt.slice_le z _ _) hz,fun t' k=>⟨.str _,H,I.tok k,⟨t',rfl⟩,q⟩⟩
theorem y2i:X.calm=true->MtR X "str.index" (fun x xs H Q=>∃z y:Str,x=.str z/\xs=[.str y]/\0<=Txt.find z y/\Q (.int (Txt.find z y)) H):=by
 intro hc pins s σ H x xs v us Q I rx r h
 obtain⟨z,y,rfl,rfl,hf,q⟩:=h
 obtain⟨t,rfl⟩:=rx
 obtain⟨u,rfl,ru⟩:=z0q r
 obtain⟨t',rfl⟩:=ru
 exact index_or (I.ok.hd hc) (fun e=>by rw[e]at hf;exact absurd hf (by decide)) fun _ _=>⟨.int _,H,I.tok _,⟨_,rfl⟩,q⟩
end
section
variable{X:Cx}
end
theorem z2m:bootBuiltins "list" = some (.type "list"):=by kernel_rfl
theorem q3h:bootBuiltins "tuple" = some (.type "tuple"):=by kernel_rfl
theorem q7f:bootBuiltins "str" = some (.type "str"):=by kernel_rfl
theorem z0g:bootBuiltins "int" = some (.type "int"):=by kernel_rfl
theorem z2n:bootBuiltins "bool" = some (.type "bool"):=by kernel_rfl
theorem q1p:bootBuiltins "isinstance" = some (.builtin "isinstance"):=by kernel_rfl
theorem y3l:bootBuiltins "all" = some (.builtin "all"):=by kernel_rfl
inductive Ty(H:Hp):V->String->Prop where
 |non:Ty H .non "NoneType"
 |bl (x:Bool):Ty H (.bl x) "bool"
 |int (i:Int):Ty H (.int i) "int"
 |str (x:Str):Ty H (.str x) "str"
 |lst {a:Addr} {xs:List V} (e:H a=some (.lst xs)):Ty H (.ref a) "list"
 |tup {a:Addr} {xs:List V} (e:H a=some (.tup xs)):Ty H (.ref a) "tuple"
section
variable{X:Cx}
theorem Ty.of{K:Frag}{H:Hp}{x:V}{T:String}(h:Ty H x T):TyOf K H x (.type T):=by
 cases h with
 |non=>exact .non
 |bl x=>exact .bl x
 |int i=>exact .int i
 |str x=>exact .str x
 |lst e=>exact .lst e
 |tup e=>exact .tup e
theorem y2p{K:Frag}{T C D:String}{b c:Bool}(h1:PySem.W.kitOne K (.type T) (.type C)=some b)(h2:PySem.W.kitOne K (.type T) (.type D)=some c):PySem.W.kitAny K (.type T) [.type C,.type D]=some (b||c):=by
 unfold PySem.W.kitAny
 rw[h1]
 cases b with
 |true=>rfl
 |false=>
  show PySem.W.kitAny K (.type T) [.type D]=_
  unfold PySem.W.kitAny
  rw[h2]
  cases c<;>rfl
end
structure Cal(P:Program)(w:World)(K:Frag)(mg:Str->Option Value)(base:Heap)(k:Nat)(name:Str)(ps:List Str)(sp:Sp)(f:Addr)(fd:FuncData):Prop where
 G:FnOk P w K mg base (CXE P w) k f fd ps sp
 m:mg name=some (.ref f)
 kp:PySem.W.keepIn K (.ref f)=true
 b:z0j K fd ps []
theorem Cal.mono{P:Program}{w:World}{K:Frag}{mg:Str->Option Value}{base:Heap}{j k:Nat}{name:Str}{ps:List Str}{sp:Sp}{f:Addr}{fd:FuncData}(c:Cal P w K mg base j name ps sp f fd)(h:j<=k):Cal P w K mg base k name ps sp f fd:=⟨c.G.mono h,c.m,c.kp,c.b⟩
structure Loc2(K:Frag)(mg:Str->Option Value)(name:Str)(st:Stmt)(ps:List Str)(f:Addr)(fd:FuncData):Prop where
 F:Fun K name name st f fd
 m:mg name=some (.ref f)
 b:z0j K fd ps []
theorem Loc2.cal{P:Program}{w:World}{K:Frag}{mg:Str->Option Value}{base:Heap}{k:Nat}{name:Str}{st:Stmt}{ps:List Str}{sp:Sp}{f:Addr}{fd:FuncData}(l:Loc2 K mg name st ps f fd)(G:FnOk P w K mg base (CXE P w) k f fd ps sp):Cal P w K mg base k name ps sp f fd:=⟨G,l.m,l.F.kp,l.b⟩
structure Zs(mg:Str->Option Value):Prop where
 len:mg "len" = none
 range:mg "range" = none
 isinstance:mg "isinstance" = none
 list:mg "list" = none
 tuple:mg "tuple" = none
 str:mg "str" = none
 int:mg "int" = none
 bool:mg "bool" = none
 sum:mg "sum" = none
 all:mg "all" = none
 zip:mg "zip" = none
def z0h(l:Addr)(H H':Hp):Prop:=∀b o,b≠l->H b=some o->H' b=some o
theorem Same.x{H H':Hp}(h:Same H H')(l:Addr):z0h l H H':=fun b o _ e=>h b o e
theorem z0h.trans{l:Addr}{H H1 H2:Hp}(a:z0h l H H1)(b:z0h l H1 H2):z0h l H H2:=fun c o n e=>b c o n (a c o n e)
theorem z0h.refl(l:Addr)(H:Hp):z0h l H H:=fun _ _ _ e=>e
theorem z0h.seq{K:Frag}{l:Addr}{H H':Hp}{a:Addr}{xs:List V}(e:z0h l H H')(n:a≠l)(h:SqL K H a xs):SqL K H' a xs:=by
 rcases h with h|h
 ·left
  rcases h with q|⟨ob,q⟩
  ·exact .inl (e _ _ n q)
  ·exact .inr ⟨ob,e _ _ n q⟩
 ·exact .inr h
end L2
namespace My
open PySem L2
def wd(ks:List Nat):Str:=⟨(ks.map (97+·)).toArray⟩
theorem z2x{x y:Str}(h:x.cps.toList=y.cps.toList):x=y:=by
 obtain⟨a⟩:=x
 obtain⟨b⟩:=y
 have:a=b:=by rw[<-Array.toList_inj];exact h
 rw[this]
theorem y5f(ks:List Nat):(wd ks).cps.toList=ks.map (97+·):=rfl
theorem y3t(ks:List Nat):(wd ks).length=ks.length:=by simp[wd,Str.length]
theorem y3n(x y:Str):(x++y).cps.toList=x.cps.toList++y.cps.toList:=by
 show(x.cps++y.cps).toList=_
 simp
theorem q8t:(Str.ofString "abcdefghijklmnopqrstuvwxyz")=wd (List.range 26):=by decide +kernel
theorem q8u{i:Int}(h0:0<=i)(h1:i<26):atI (Str.ofString "abcdefghijklmnopqrstuvwxyz").cps.toList i=some (97+i.toNat):=by
 obtain⟨m,rfl⟩:∃m:Nat,i=(m:Int):=⟨i.toNat,by omega⟩
 have hm:m<26:=by omega
 rw[q8t]
 refine y8d ?_
 rw[y5f]
 simp[hm]
theorem q7x:(Str.ofString "abcdefghijklmnopqrstuvwxyz").length<=sizeLine:=by rw[q8t,y3t];decide
theorem z1n:∀k:Nat,k<26->Txt.find (Str.ofString "abcdefghijklmnopqrstuvwxyz") (wd [k])=(k:Int):=by decide +kernel
theorem x1t(lo hi:Option Int)(n:Nat):Builtin.Str.strSliceIndices lo hi 1 n=(List.range (HT.sIx n n hi-HT.sIx n 0 lo)).map fun k=>HT.sIx n 0 lo+k:=by
 have clip:∀(v:Option Int)(d:Nat),(match v with|none=>((d:Nat):Int)|some i=>max 0 (min (if i<0 then i+(n:Int)else i) (n:Int)))=((HT.sIx n d v:Nat):Int):=by
  intro v d
  cases v with
  |none=>rfl
  |some i=>
   unfold HT.sIx
   dsimp only
   split
   ·omega
   ·omega
 unfold Builtin.Str.strSliceIndices
 simp only[show((1:Int) > 0) by decide,if_true]
 have e1:=clip lo 0
 have e2:=clip hi n
 simp only[Int.ofNat_zero]at e1
 have key:∀a b a' b':Int,a=a'->b=b'->sliceRange a b 1=sliceRange a' b' 1:=fun a b a' b' h1 h2=>by rw[h1,h2]
 refine(key _ _ _ _ e1 e2).trans ?_
 unfold sliceRange
 simp only[show((1:Int) > 0) by decide,if_true]
 have e3:(if((HT.sIx n 0 lo:Nat):Int)<((HT.sIx n n hi:Nat):Int)then(((HT.sIx n n hi:Nat):Int)-((HT.sIx n 0 lo:Nat):Int)+1-1) / 1 else 0).toNat=HT.sIx n n hi-HT.sIx n 0 lo:=by
  split
  ·rw[Int.ediv_one];omega
  ·omega
 rw[e3]
 apply List.map_congr_left
 intro k _
 omega
theorem y6i(xs:List Nat)(a c:Nat)(hc:a+c<=xs.length):((List.range c).map fun k=>a+k).filterMap (fun i=>xs[i]?)=(xs.drop a).take c:=by
 induction c generalizing a with
 |zero=>simp
 |succ c ih=>
  have ha:a<xs.length:=by omega
  rw[List.range_succ_eq_map,List.map_cons,List.map_map,List.filterMap_cons]
  have e0:xs[a+0]?=some xs[a]:=by simp[ha]
  rw[e0]
  dsimp only
  rw[List.drop_eq_getElem_cons ha,List.take_succ_cons]
  congr 1
  have:=ih (a+1) (by omega)
  rw[<-this]
  congr 1
  apply List.map_congr_left
  intro k _
  simp only[Function.comp]
  omega
theorem q8m(x:Str)(lo hi:Option Int):(Txt.slice x lo hi).cps.toList=(x.cps.toList.drop (HT.sIx x.length 0 lo)).take (HT.sIx x.length x.length hi-HT.sIx x.length 0 lo):=by
 have hn:x.cps.toList.length=x.length:=by simp[Str.length]
 have hb:=HT.sIx_le x.length x.length (Nat.le_refl _) hi
 have ha:=HT.sIx_le x.length 0 (Nat.zero_le _) lo
 unfold Txt.slice
 rw[x1t,List.length_map,List.length_range]
 split
 ·rename_i h
  have h':HT.sIx x.length x.length hi-HT.sIx x.length 0 lo=x.length:=by simpa using h
  have h2:HT.sIx x.length 0 lo=0\/x.length=0:=by omega
  rw[h']
  rcases h2 with h2|h2
  ·rw[h2,List.drop_zero,List.take_of_length_le (by omega)]
  ·have:x.cps.toList=[]:=List.length_eq_zero_iff.mp (by omega)
   rw[this];simp
 ·show List.filterMap _ _=_
  have e:(fun(i:Nat)=>x.cps[i]?)=fun i=>x.cps.toList[i]?:=by funext i;simp
  rw[e]
  by_cases hle:HT.sIx x.length 0 lo<=HT.sIx x.length x.length hi
  ·exact y6i _ _ _ (by omega)
  ·have:HT.sIx x.length x.length hi-HT.sIx x.length 0 lo=0:=by omega
   rw[this];simp
def Nm(x:Str):Prop:=∃ks:List Nat,x=wd ks/\ks≠[]/\ks.length<=8/\∀k∈ks,k<26
theorem Nm.len{x:Str}(h:Nm x):x.length<=8:=by
 obtain⟨ks,rfl,_,h,_⟩:=h
 rw[y3t];exact h
end My
namespace L2
open PySem PySem.Spec PyProof.Rows
theorem q5n{X:Cx}{scope:Scope}{N':List Str}{ix:List (Option Nat)}(kind:scope.kind=.function)(cell:∀y∈scope.names,y.2≠.cell)(names:∀y∈scope.names,y.2=.local->scope.names.lookup y.1=some .local)
  (free:(scope.names.all fun y=>!(y.2==.free)||X.env.scope.names.lookup y.1==some .cell||X.env.scope.names.lookup y.1==some .free)=true) (ixs:IxOk X.N X.env.scope scope N' ix):CompOk X scope N' ix:=
 ⟨kind,cell,names,fun y hy e=>by
  have h:=List.all_eq_true.mp free y hy
  simp only [e,beq_self_eq_true,Bool.not_true,Bool.false_or,Bool.or_eq_true,beq_iff_eq]at h
  exact h,ixs⟩
section
variable{X:Cx}{K:Frag}
end
end L2
namespace My
open PySem L2
end My
namespace L2
open PySem PySem.Spec PyProof.Rows
def Its(z:Str):It:=⟨fun i _=>i<z.length,fun i H v H'=>H'=H/\∃c,z.cps[i]?=some c/\v=.str ⟨#[c]⟩,fun i _=>z.length<=i⟩
theorem z7c{P:Program}{w:World}{A:Around}(hh:A.handled=none)(it:Addr)(x:Str)(t:Tok):Walks P w A it [it] [it] x.cps.size (SignAt x) fun i h=>h.IsStrIter it (strIterType x) x t i:=by
 unfold strIterType
 split
 ·exact Walks.strAscii hh it x t
 ·exact Walks.strWide hh it x t
theorem x1w{M:Model}{A:Around}{E:Value->Shared->Prop}{s:Shared}{tg:Expr}{it:Addr}{u:Value}{x:Str}{t:Tok}{i:Nat}{Q:Unit->Shared->Prop}(h:s.heap.IsStrIter it (strIterType x) x t i)(hQ:Q () s):wpAny M A (letOwnedTupleGo tg (.ref it) u) Q E s:=by
 obtain⟨o,e,c,d⟩:=h
 refine z6g e c d ?_ hQ
 unfold strIterType
 split<;>decide
theorem y0y{P:Program}{w:World}{K:Frag}{tg:Expr}(it:Addr)(x:Str)(t:Tok):Turn P w K tg (Its x) [it] it (fun i h=>i<=x.length/\h.IsStrIter it (strIterType x) x t i) where
 mem:=by simp
 obj:=fun i h st b hb=>by
  obtain rfl:=List.mem_singleton.mp hb
  obtain⟨_,o,e,c,d⟩:=st
  exact⟨o,e,fun v z=>by rw[d]at z;cases z⟩
 keep:=fun i h h' st k=>by
  obtain⟨hi,o,e,r⟩:=st
  exact⟨hi,o,k it (by simp) o e,r⟩
 item:=by
  intro X hP hw hK hc i pins s σ H E I hf st hg
  subst hP hw hK
  obtain⟨f0,f1,f2,f3,f4,f5⟩:=hf it (by simp)
  have hg':i<x.length:=hg
  refine(z7c (P:=X.prog) (w:=X.w) (I.ok.hd hc) it x t).item i s _ _ hg' st.2 fun v h' tk hv st' kk=>?_
  have I1:Inv X pins σ H {s with heap:=h',toks:=tk}:=I.turned (fun b o hb e=>kk b o (by simpa using hb) e) f0 f1 f3 f4 f5
  obtain⟨c,u,hc',rfl⟩:=hv
  exact⟨_,rfl,x1w (s:={s with heap:=h',toks:=tk}) st' ⟨.str ⟨#[c]⟩,H,I1,⟨u,rfl⟩,⟨rfl,c,hc',rfl⟩,⟨hg',st'⟩,fun b hb=>(hf b hb).1⟩⟩
 done:=by
  intro X hP hw hK hc i pins s σ H E I hf st hg
  subst hP hw hK
  obtain⟨f0,f1,f2,f3,f4,f5⟩:=hf it (by simp)
  have hg':x.length<=i:=hg
  have e:i=x.cps.size:=Nat.le_antisymm st.1 hg'
  subst e
  exact(z7c (P:=X.prog) (w:=X.w) (I.ok.hd hc) it x t).done s _ _ st.2 fun h' tk kk=>⟨rfl,I.turned (fun b o hb e=>kk b o (by simpa using hb) e) f0 f1 f3 f4 f5⟩
 self:=fun A i s Q E st h=>by
  have st':=st.2
  unfold strIterType at st'
  split at st'
  ·exact wpAny_pyIter_striter_ascii st' h
  ·exact wpAny_pyIter_striter_wide st' h
section
variable{X:Cx}{tg:Expr}
end
abbrev TJ:=St->Hp->Str->(Str->Hp->Prop)->Prop
def PJ(X:Cx)(es:List Expr)(t:TJ):Prop:=∀(pins:List (Addr×Obj))(s:Shared)(σ:St)(H:Hp)(acc:Str)(Q:Str->Hp->Prop),Inv X pins σ H s->t σ H acc Q->
 Joins (model X.prog X.w) X.A X.xe (evalEach es X.env) acc (fun out s₁=>∃H',Inv X pins σ H' s₁/\Q out H') s
def jNil:TJ:=fun _ H acc Q=>Q acc H
def jStr(x:Str)(t:TJ):TJ:=fun σ H acc Q=>(acc++x).length<=sizeLine/\t σ H (acc++x) Q
def jVal(te:TE)(t:TJ):TJ:=fun σ H acc Q=>te σ H fun v H1=>∃x:Str,v=.str x/\x.length<=sizeLine/\(acc++x).length<=sizeLine/\t σ H1 (acc++x) Q
section
variable{X:Cx}{e:Expr}{es:List Expr}{t:TJ}{te:TE}{pos p2:Pos}
theorem y9p:PJ X [] jNil:=fun _ _ _ H _ _ I h=>⟨H,I,h⟩
theorem y9o{x:Str} {j} (hr:PJ X es t) (he:evalEach (.Constant (.str x) j pos::es) X.env=eval (.Constant (.str x) j pos) X.env::evalEach es X.env:=by rfl):PJ X (.Constant (.str x) j pos::es) (jStr x t):=by
 intro pins s σ H acc Q I h
 rw[he]
 exact Calls.Constant_str ⟨x,_,rfl,h.1,hr pins _ σ H _ Q (I.tok _) h.2⟩
theorem y9n(h1:PE X e te)(hr:PJ X es t)(he:evalEach (.FormattedValue e (-1) none pos::es) X.env=eval (.FormattedValue e (-1) none pos) X.env::evalEach es X.env:=by rfl):PJ X (.FormattedValue e (-1) none pos::es) (jVal te t):=by
 intro pins s σ H acc Q I h
 rw[he]
 refine FormattedValue_plain (thn (h1 pins s σ H _ I h) fun v s1 hh1=>?_)
 obtain⟨y,H1,I1,r1,x,hx,hz,hz2,q⟩:=hh1
 subst hx
 obtain⟨tk,rfl⟩:=r1
 exact formatField_str (fun t' tk=>⟨x,t',rfl,hz2,hr pins _ σ H1 _ Q (I1.tok tk) q⟩) hz
def y5l(t:TJ):TE:=fun σ H Q=>t σ H Str.empty fun out H1=>out.length<=sizeLine/\Q (.str out) H1
theorem z7y{v₁ v₂:Expr}(h:PJ X (v₁::v₂::es) t):PE X (.JoinedStr (v₁::v₂::es) pos) (y5l t):=by
 intro pins s σ H Q I hq
 refine wpAny_JoinedStr ?_
 have h1:=h pins s σ H Str.empty _ I hq
 have mono:∀(l:List (Sem Value))(acc:Str)(s:Shared){R R':Str->Shared->Prop},(∀o s,R o s->R' o s)->Joins (model X.prog X.w) X.A X.xe l acc R s->Joins (model X.prog X.w) X.A X.xe l acc R' s:=by
  intro l
  induction l with
  |nil=>intro acc s R R' k h;exact k _ _ h
  |cons x r ih=>intro acc s R R' k h;exact thn h fun v s1 ⟨y,t,e,z,q⟩=>⟨y,t,e,z,ih _ _ k q⟩
 exact mono _ _ _ (fun o s1 ⟨H',I',hz,q⟩=>⟨hz,.str o,H',I'.tok _,⟨_,rfl⟩,q⟩) h1
theorem z8g:OpR X (compareOp .IsNot) (fun x y H Q=>∃a b,x=.bl a/\y=.bl b/\Q (.bl (!decide (a=b))) H):=by
 intro pins s σ H x y v u Q I rx ry h
 obtain⟨a,b,rfl,rfl,q⟩:=h
 cases(show v=Value.bool a from rx)
 cases(show u=Value.bool b from ry)
 refine wpAny_isNot_plain rfl ⟨.bl (!decide (a=b)),H,I,?_,q⟩
 show Value.bool _=Value.bool _
 cases a<;>cases b<;>rfl
end
section
variable{X:Cx}
theorem extT(lA:Addr)(xsA:Array Value)(nA:Nat)(tB:Addr)(ysB:Array Value)(nB:Nat)(ddB:Option Addr)(slB:Array (Option Value))(h0:¬(!xsA.isEmpty&&Builtin.List.listTooLong (xsA.size+ysB.size))=true)(h1:xsA.size<=sizeLine)(h2:xsA.size+ysB.size<=sizeLine+1) :
  Meets (Builtin.«list.extend» ⟨[.ref lA,.ref tB],[]⟩) (fun _ R s=>s.heap.get? lA=some {cls:=.type "list",dict:=none,data:=.seq xsA nA,slots:=#[]}/\s.heap.get? tB=some {cls:=.type "tuple",dict:=ddB,data:=.seq ysB nB,slots:=slB}/\R (.ok (.ret Value.none)) {s with heap:=s.heap.update lA (Obj.mapSeq fun u=>u++ysB),toks:=s.toks}):=
 .of_wp fun prog w A R s h=>by
  obtain⟨hp,g,d,tk,os⟩:=s
  obtain⟨hl,hb,h⟩:=h
  have f1:=AutoSeq1.idx_int
  have f2:=AutoSeq1.sub_tuple_tuple
  have f3:=AutoSeq1.sub_list_list
  have f4:=AutoSeq1.sub_tuple_list
  have f5:=AutoSeq1.sub_list_tuple
  have hz':(xsA++ysB).size<=sizeLine+1:=by rw[Array.size_append];exact h2
  wp_walk using(wpAny_updateSeq hl rfl (hz:=h1) (_hz':=hz')),AutoSeq1.wpAny_loadPart' hl,AutoSeq1.wpAny_loadPart' hb
  exact⟨_,rfl,h⟩
theorem y2d:OpR X (binaryOp .Add) (fun x y H Q=>(∃a b ys,x=.ref a/\y=.ref b/\SqT X.K H a []/\SqT X.K H b ys/\Q (.ref b) H)\/y9b X.K x y H Q):=by
 intro pins s σ H x y v u Q I rx ry h
 rcases h with h|h
 ·obtain⟨a,b,ys,rfl,rfl,ha,hb,q⟩:=h
  cases rx
  cases ry
  obtain⟨its,r1,p1,_⟩:=I.tuple ha
  obtain⟨its2,r2,p2,hz⟩:=I.tuple hb
  cases r1
  obtain⟨⟨c1,e1,t1,l1⟩,ho,hc,n,hd⟩:=p1
  obtain⟨⟨c2,e2,t2,l2⟩,ho2,hc2,n2,hd2⟩:=p2
  simp only at hc hd hc2 hd2
  subst hc hd hc2 hd2
  refine concat_meets ⟨_,ho,rfl⟩ ⟨_,ho2,rfl⟩ noFill_tuple_add seq_tuple_add PySem.F.slot_tuple_add PySem.F.entry_tuple_add (PySem.F.args_tuple_add_2 _ _)
   (tuple_addW0 a b _ its2.toArray n n2 e1 e2 l1 l2 (by rfl)) ⟨ho,ho2,⟨.ref b,H,I,rfl,q⟩⟩
 ·exact y6t pins s σ H x y v u Q I rx ry h
end
end L2
namespace Ev
open PySem L2
inductive PV where
 |non|bl (b:Bool)|int (i:Int)|str (x:Str)|ty (n:String)
 |tup (xs:List PV)|frl (xs:List PV)|ref (n:Nat)|exc (c:String)
inductive SO where
 |lst (xs:List PV)|dK (kvs:List (Key×PV))|dN (kvs:List (KTr×PV))|dF (kvs:List (Key×PV))
abbrev q0h:=List SO
abbrev Loc:=List (Option PV)
def SqF(K:Frag)(H:Hp)(a:Addr)(xs:List V):Prop:=
 (∃o,H a=some (.frz o (.lst xs)))\/∃(o:Obj)(its:Array Value)(n:Nat),K.lookup a=some o/\o.cls=.type "list" /\o.dict=none/\o.data=.seq its n/\its.size<=sizeLine/\Vals xs its.toList
theorem SqF.sq{K:Frag}{H:Hp}{a:Addr}{xs:List V}(h:SqF K H a xs):SqL K H a xs:=by
 rcases h with⟨o,h⟩|h
 ·exact .inl (.inr ⟨o,h⟩)
 ·exact .inr h
def x5g(K:Frag)(H:Hp)(a:Addr)(c:String):Prop:=∃(f:Heap->Prop)(C:Addr),H a=some (.ext f)/\PySem.W.nsIn K mainGlobals (Str.ofString c)=some (some (.ref C))/\∀h,f h->∃o,h.get? a=some o/\o.cls=.ref C
mutual
def RV(K:Frag)(H:Hp)(φ:List Addr):PV->V->Prop
 |.non,v=>v=.non
 |.bl b,v=>v=.bl b
 |.int i,v=>v=.int i
 |.str x,v=>v=.str x
 |.ty n,v=>v=.ty n
 |.tup xs,v=>∃a vs,v=.ref a/\SqT K H a vs/\RVs K H φ xs vs
 |.frl xs,v=>∃a vs,v=.ref a/\SqF K H a vs/\RVs K H φ xs vs
 |.ref n,v=>∃a,v=.ref a/\φ[n]?=some a
 |.exc c,v=>∃a,v=.ref a/\x5g K H a c
def RVs(K:Frag)(H:Hp)(φ:List Addr):List PV->List V->Prop
 |[],vs=>vs=[]
 |x::xs,vs=>∃y ys,vs=y::ys/\RV K H φ x y/\RVs K H φ xs ys
end
structure Mono(H H':Hp):Prop where
 tup:∀a xs,H a=some (.tup xs)->H' a=some (.tup xs)
 frz:∀a o u,H a=some (.frz o u)->H' a=some (.frz o u)
 ext:∀a f,H a=some (.ext f)->H' a=some (.ext f)
 dic:∀a c ws,H a=some (.dH c ws)->∃ws',H' a=some (.dH c ws')
theorem Mono.refl(H:Hp):Mono H H:=⟨fun _ _ h=>h,fun _ _ _ h=>h,fun _ _ h=>h,fun _ _ ws h=>⟨ws,h⟩⟩
theorem Mono.trans{H H1 H2:Hp}(a:Mono H H1)(b:Mono H1 H2):Mono H H2:=⟨fun c xs h=>b.tup c xs (a.tup c xs h),fun c o u h=>b.frz c o u (a.frz c o u h),fun c f h=>b.ext c f (a.ext c f h),fun c n ws h=>let ⟨ws',h'⟩:=a.dic c n ws h;b.dic c n ws' h'⟩
theorem Mono.new{H:Hp}{p:Addr}(o:HO)(h:H p=none):Mono H (upd H p o):=⟨fun b u q=>by rw[q0w (q1y q h)];exact q,fun b u v q=>by rw[q0w (q1y q h)];exact q,fun b f q=>by rw[q0w (q1y q h)];exact q,fun b c ws q=>⟨ws,by rw[q0w (q1y q h)];exact q⟩⟩
theorem Mono.rd{H H':Hp}(m:Mono H H'){a:Addr}{xs:List V}(h:Rd H a (.tup xs)):Rd H' a (.tup xs):=by
 rcases h with h|⟨o,h⟩
 ·exact .inl (m.tup _ _ h)
 ·exact .inr ⟨o,m.frz _ _ _ h⟩
theorem Mono.sqT{K:Frag}{H H':Hp}(m:Mono H H'){a:Addr}{xs:List V}(h:SqT K H a xs):SqT K H' a xs:=by
 rcases h with h|h
 ·exact .inl (m.rd h)
 ·exact .inr h
theorem Mono.sqF{K:Frag}{H H':Hp}(m:Mono H H'){a:Addr}{xs:List V}(h:SqF K H a xs):SqF K H' a xs:=by
 rcases h with⟨o,h⟩|h
 ·exact .inl ⟨o,m.frz _ _ _ h⟩
 ·exact .inr h
theorem q9q{φ φ':List Addr}(h:φ <+: φ'){n:Nat}{a:Addr}(e:φ[n]?=some a):φ'[n]?=some a:=by
 obtain⟨t,rfl⟩:=h
 rw[List.getElem?_append_left (by
  have:=List.getElem?_eq_some_iff.mp e
  exact this.1)]
 exact e
section
variable{K:Frag}{H H':Hp}{φ φ':List Addr}
mutual
theorem RV.mono(m:Mono H H')(p:φ <+: φ'):∀(v:PV)(x:V),RV K H φ v x->RV K H' φ' v x
 |.non,_,h=>h
 |.bl _,_,h=>h
 |.int _,_,h=>h
 |.str _,_,h=>h
 |.ty _,_,h=>h
 |.tup xs,_,⟨a,vs,e,s,r⟩=>⟨a,vs,e,m.sqT s,RVs.mono m p xs vs r⟩
 |.frl xs,_,⟨a,vs,e,s,r⟩=>⟨a,vs,e,m.sqF s,RVs.mono m p xs vs r⟩
 |.ref _,_,⟨a,e,q⟩=>⟨a,e,q9q p q⟩
 |.exc _,_,⟨a,e,f,C,h1,h2,h3⟩=>⟨a,e,f,C,m.ext _ _ h1,h2,h3⟩
theorem RVs.mono(m:Mono H H')(p:φ <+: φ'):∀(xs:List PV)(vs:List V),RVs K H φ xs vs->RVs K H' φ' xs vs
 |[],_,h=>h
 |x::xs,_,⟨y,ys,e,r,t⟩=>⟨y,ys,e,RV.mono m p x y r,RVs.mono m p xs ys t⟩
end
theorem RVs.length:∀{xs:List PV}{vs:List V},RVs K H φ xs vs->xs.length=vs.length
 |[],_,h=>by rw[show _=[]from h];rfl
 |_::xs,_,⟨y,ys,e,_,t⟩=>by rw[e,List.length_cons,List.length_cons,RVs.length t]
theorem RVs.get:∀{xs:List PV}{vs:List V}{i:Nat}{x:PV},RVs K H φ xs vs->xs[i]?=some x->∃y,vs[i]?=some y/\RV K H φ x y
 |[],_,_,_,_,e=>by simp at e
 |x::xs,_,0,x',⟨y,ys,e,r,t⟩,q=>by
  simp at q;subst q;subst e
  exact⟨y,by simp,r⟩
 |x::xs,_,i+1,x',⟨y,ys,e,r,t⟩,q=>by
  subst e
  obtain⟨z,h1,h2⟩:=RVs.get (i:=i) t (by simpa using q)
  exact⟨z,by simpa using h1,h2⟩
theorem RVs.getV:∀{xs:List PV}{vs:List V}{i:Nat}{y:V},RVs K H φ xs vs->vs[i]?=some y->∃x,xs[i]?=some x/\RV K H φ x y
 |[],_,_,_,h,e=>by rw[show _=[]from h]at e;simp at e
 |x::xs,_,0,y',⟨y,ys,e,r,t⟩,q=>by
  subst e;simp at q;subst q
  exact⟨x,by simp,r⟩
 |x::xs,_,i+1,y',⟨y,ys,e,r,t⟩,q=>by
  subst e
  obtain⟨z,h1,h2⟩:=RVs.getV (i:=i) t (by simpa using q)
  exact⟨z,by simpa using h1,h2⟩
theorem RVs.append:∀{xs ys:List PV}{vs ws:List V},RVs K H φ xs vs->RVs K H φ ys ws->RVs K H φ (xs++ys) (vs++ws)
 |[],_,_,_,h,s=>by rw[show _=[]from h];exact s
 |x::xs,_,_,_,⟨y,ys,e,r,t⟩,s=>by subst e;exact⟨y,_,rfl,r,RVs.append t s⟩
theorem RVs.one{x:PV}{y:V}(r:RV K H φ x y):RVs K H φ [x] [y]:=⟨y,[],rfl,r,rfl⟩
theorem RVs.cons{x:PV}{y:V}{xs:List PV}{ys:List V}(r:RV K H φ x y)(t:RVs K H φ xs ys):RVs K H φ (x::xs) (y::ys):=⟨y,ys,rfl,r,t⟩
theorem RVs.take:∀{xs:List PV}{vs:List V}(n:Nat),RVs K H φ xs vs->RVs K H φ (xs.take n) (vs.take n)
 |_,_,0,_=>by simp;exact rfl
 |[],_,_+1,h=>by rw[show _=[]from h];exact rfl
 |x::xs,_,n+1,⟨y,ys,e,r,t⟩=>by subst e;exact⟨y,_,rfl,r,RVs.take n t⟩
theorem RVs.drop:∀{xs:List PV}{vs:List V}(n:Nat),RVs K H φ xs vs->RVs K H φ (xs.drop n) (vs.drop n)
 |_,_,0,h=>h
 |[],_,_+1,h=>by rw[show _=[]from h];exact rfl
 |x::xs,_,n+1,⟨y,ys,e,r,t⟩=>by subst e;exact RVs.drop n t
theorem RVs.set{z:PV}{u:V}(q:RV K H φ z u):∀{xs:List PV}{vs:List V}(n:Nat),RVs K H φ xs vs->RVs K H φ (xs.set n z) (vs.set n u)
 |[],_,_,h=>by rw[show _=[]from h];exact rfl
 |x::xs,_,0,⟨y,ys,e,r,t⟩=>by subst e;exact⟨u,_,rfl,q,t⟩
 |x::xs,_,n+1,⟨y,ys,e,r,t⟩=>by subst e;exact⟨y,_,rfl,r,RVs.set q n t⟩
theorem RVs.eraseIdx:∀{xs:List PV}{vs:List V}(n:Nat),RVs K H φ xs vs->RVs K H φ (xs.eraseIdx n) (vs.eraseIdx n)
 |[],_,_,h=>by rw[show _=[]from h];exact rfl
 |x::xs,_,0,⟨y,ys,e,r,t⟩=>by subst e;exact t
 |x::xs,_,n+1,⟨y,ys,e,r,t⟩=>by subst e;exact⟨y,_,rfl,r,RVs.eraseIdx n t⟩
theorem RVs.dropLast{xs:List PV}{vs:List V}(h:RVs K H φ xs vs):RVs K H φ xs.dropLast vs.dropLast:=by
 rw[List.dropLast_eq_take,List.dropLast_eq_take,<-h.length]
 exact h.take _
theorem RVs.reverse:∀{xs:List PV}{vs:List V},RVs K H φ xs vs->RVs K H φ xs.reverse vs.reverse
 |[],_,h=>by rw[show _=[]from h];exact rfl
 |x::xs,_,⟨y,ys,e,r,t⟩=>by
  subst e
  rw[List.reverse_cons,List.reverse_cons]
  exact(RVs.reverse t).append (.one r)
theorem RVs.rep{xs:List PV}{vs:List V}(h:RVs K H φ xs vs):∀n,RVs K H φ (List.replicate n xs).flatten (List.replicate n vs).flatten
 |0=>rfl
 |n+1=>by
  rw[List.replicate_succ,List.replicate_succ,List.flatten_cons,List.flatten_cons]
  exact h.append (RVs.rep h n)
theorem RVs.ints:∀{ns:List Int}{vs:List V},RVs K H φ (ns.map PV.int) vs->vs=ns.map V.int
 |[],_,h=>h
 |_::ns,_,⟨y,ys,e,r,t⟩=>by rw[e,show y=_ from r,RVs.ints t];rfl
theorem RVs.strs:∀{ns:List Str}{vs:List V},RVs K H φ (ns.map PV.str) vs->vs=ns.map V.str
 |[],_,h=>h
 |_::ns,_,⟨y,ys,e,r,t⟩=>by rw[e,show y=_ from r,RVs.strs t];rfl
theorem RVs.bls:∀{ns:List Bool}{vs:List V},RVs K H φ (ns.map PV.bl) vs->vs=ns.map V.bl
 |[],_,h=>h
 |_::ns,_,⟨y,ys,e,r,t⟩=>by rw[e,show y=_ from r,RVs.bls t];rfl
theorem RVs.of_ints:∀(ns:List Int),RVs K H φ (ns.map PV.int) (ns.map V.int)
 |[]=>rfl
 |_::ns=>⟨_,_,rfl,rfl,RVs.of_ints ns⟩
def RKs(K:Frag)(H:Hp)(φ:List Addr):List (Key×PV)->List (Key×V)->Prop:=Paired fun p q=>p.1=q.1/\RV K H φ p.2 q.2
theorem RKs.mono(m:Mono H H')(p:φ <+: φ'){xs:List (Key×PV)}{ys:List (Key×V)}(h:RKs K H φ xs ys):RKs K H' φ' xs ys:=Paired.mapP h fun _ _ hh1=>by obtain⟨a,b⟩:=hh1;exact(⟨a,RV.mono m p _ _ b⟩)
mutual
def ktP:KTr->PV
 |.int i=>.int i
 |.str x=>.str x
 |.tup xs=>.tup (ktPs xs)
def ktPs:List KTr->List PV
 |[]=>[]
 |x::xs=>ktP x::ktPs xs
end
def RNs(K:Frag)(H:Hp)(φ:List Addr):List (KTr×PV)->List (KTr×Addr×V)->Prop:=Paired fun p q=>p.1=q.1/\((∃ys,p.1=.tup ys)/\kdep p.1<=8)/\RV K H φ (ktP p.1) (.ref q.2.1)/\RV K H φ p.2 q.2.2
theorem RNs.mono(m:Mono H H')(p:φ <+: φ'){xs:List (KTr×PV)}{ys:List (KTr×Addr×V)}(h:RNs K H φ xs ys):RNs K H' φ' xs ys:=Paired.mapP h fun _ _ hh1=>by obtain⟨a,c,b,d⟩:=hh1;exact(⟨a,c,RV.mono m p _ _ b,RV.mono m p _ _ d⟩)
def ObjR(K:Frag)(H:Hp)(φ:List Addr):SO->Addr->Prop
 |.lst xs,a=>∃vs,H a=some (.lst vs)/\RVs K H φ xs vs
 |.dK kvs,a=>∃ws,H a=some (.dK ws)/\RKs K H φ kvs ws
 |.dN kvs,a=>∃c ws,H a=some (.dH c ws)/\RNs K H φ kvs ws
 |.dF kvs,a=>∃o ws,H a=some (.frz o (.dK ws))/\RKs K H φ kvs ws
theorem ObjR.some{o:SO}{a:Addr}(h:ObjR K H φ o a):∃u,H a=Option.some u:=by
 cases o with
 |lst xs=>obtain⟨vs,e,_⟩:=h;exact⟨_,e⟩
 |dK xs=>obtain⟨vs,e,_⟩:=h;exact⟨_,e⟩
 |dN xs=>obtain⟨_,vs,e,_⟩:=h;exact⟨_,e⟩
 |dF xs=>obtain⟨_,vs,e,_⟩:=h;exact⟨_,e⟩
theorem ObjR.mono(m:Mono H H')(p:φ <+: φ'){o:SO}{a:Addr}(e:∀u,H a=Option.some u->H' a=Option.some u)(h:ObjR K H φ o a):ObjR K H' φ' o a:=by
 cases o with
 |lst xs=>obtain⟨vs,q,r⟩:=h;exact⟨vs,e _ q,RVs.mono m p _ _ r⟩
 |dK xs=>obtain⟨vs,q,r⟩:=h;exact⟨vs,e _ q,RKs.mono m p r⟩
 |dN xs=>obtain⟨c,vs,q,r⟩:=h;exact⟨c,vs,e _ q,RNs.mono m p r⟩
 |dF xs=>obtain⟨c,vs,q,r⟩:=h;exact⟨c,vs,e _ q,RKs.mono m p r⟩
structure Rel(K:Frag)(φ:List Addr)(S:q0h)(H:Hp):Prop where
 len:φ.length=S.length
 nd:φ.Nodup
 obj:∀(n:Nat)(a:Addr)(o:SO),φ[n]?=some a->S[n]?=some o->ObjR K H φ o a
theorem Rel.at{S:q0h}(h:Rel K φ S H){n:Nat}{o:SO}(e:S[n]?=some o):∃a,φ[n]?=some a/\ObjR K H φ o a:=by
 have hn:n<φ.length:=by rw[h.len];exact(List.getElem?_eq_some_iff.mp e).1
 exact⟨φ[n],List.getElem?_eq_getElem hn,h.obj n _ o (List.getElem?_eq_getElem hn) e⟩
theorem Rel.at'{S:q0h}(h:Rel K φ S H){n:Nat}{a:Addr}(e:φ[n]?=some a):∃o,S[n]?=some o/\ObjR K H φ o a:=by
 have hn:n<S.length:=by rw[<-h.len];exact(List.getElem?_eq_some_iff.mp e).1
 exact⟨S[n],List.getElem?_eq_getElem hn,h.obj n a _ e (List.getElem?_eq_getElem hn)⟩
theorem Rel.frame{S:q0h}(h:Rel K φ S H){p:Addr}(o:HO)(hp:H p=none):Rel K φ S (upd H p o):=
 ⟨h.len,h.nd,fun n a o' e q=>(h.obj n a o' e q).mono (Mono.new o hp) (List.prefix_refl _) fun u z=>by rw[q0w (q1y z hp)];exact z⟩
theorem Rel.new{S:q0h}(h:Rel K φ S H){p:Addr}{o:SO}{u:HO}(hp:H p=none)(ho:ObjR K (upd H p u) (φ++[p]) o p):Rel K (φ++[p]) (S++[o]) (upd H p u):=by
 refine⟨by simp[h.len],?_,fun n a o' e q=>?_⟩
 ·refine List.nodup_append.mpr ⟨h.nd,by simp,fun a ha b hb=>?_⟩
  rw[List.mem_singleton]at hb
  subst hb
  intro z
  subst z
  obtain⟨n,hn,e⟩:=List.mem_iff_getElem.mp ha
  obtain⟨o',_,r⟩:=h.at' (n:=n) (a:=a) (by rw[List.getElem?_eq_getElem hn,e])
  obtain⟨u',z⟩:=r.some
  rw[hp]at z
  cases z
 ·by_cases hn:n<φ.length
  ·rw[List.getElem?_append_left hn]at e
   rw[List.getElem?_append_left (by rw[<-h.len];exact hn)]at q
   exact(h.obj n a o' e q).mono (Mono.new u hp) (List.prefix_append _ _) fun u' z=>by rw[q0w (q1y z hp)];exact z
  ·have hn':n=φ.length:=by
    have:=(List.getElem?_eq_some_iff.mp e).1
    simp at this
    omega
   subst hn'
   rw[List.getElem?_append_right (Nat.le_refl _)]at e
   rw[h.len,List.getElem?_append_right (Nat.le_refl _)]at q
   simp at e q
   subst e q
   exact ho
theorem Rel.put{S:q0h}(h:Rel K φ S H){n:Nat}{a:Addr}{o:SO}{u:HO}(e:φ[n]?=some a)(m:Mono H (upd H a u))(ho:ObjR K (upd H a u) φ o a):Rel K φ (S.set n o) (upd H a u):=by
 refine⟨by simp[h.len],h.nd,fun i b o' q r=>?_⟩
 by_cases hi:i=n
 ·subst hi
  rw[e]at q
  cases q
  have hl:i<S.length:=by rw[<-h.len];exact(List.getElem?_eq_some_iff.mp e).1
  rw[List.getElem?_set_self hl]at r
  cases r
  exact ho
 ·rw[List.getElem?_set_ne (fun z=>hi z.symm)]at r
  have hb:b≠a:=fun z=>by
   subst z
   have h1:=List.getElem?_eq_some_iff.mp q
   have h2:=List.getElem?_eq_some_iff.mp e
   obtain⟨l1,e1⟩:=h1
   obtain⟨l2,e2⟩:=h2
   exact hi ((List.getElem_inj h.nd).mp (e1.trans e2.symm))
  exact(h.obj i b o' q r).mono m (List.prefix_refl _) fun u' z=>by rw[q0w hb];exact z
theorem Mono.lst{a:Addr}{xs:List V}{u:HO}(e:H a=some (.lst xs)):Mono H (upd H a u):=
 ⟨fun b xs q=>by rw[q0w (z1j q e (by intro z;cases z))];exact q,fun b o w q=>by rw[q0w (z1j q e (by intro z;cases z))];exact q,fun b f q=>by rw[q0w (z1j q e (by intro z;cases z))];exact q,fun b c ws q=>⟨ws,by rw[q0w (z1j q e (by intro z;cases z))];exact q⟩⟩
theorem Mono.dict{a:Addr}{xs:List (Key×V)}{u:HO}(e:H a=some (.dK xs)):Mono H (upd H a u):=
 ⟨fun b xs q=>by rw[q0w (z1j q e (by intro z;cases z))];exact q,fun b o w q=>by rw[q0w (z1j q e (by intro z;cases z))];exact q,fun b f q=>by rw[q0w (z1j q e (by intro z;cases z))];exact q,fun b c ws q=>⟨ws,by rw[q0w (z1j q e (by intro z;cases z))];exact q⟩⟩
abbrev EK:=PV->q0h->Prop
structure GX where
 ek:EK
 xh:PV->Hp->Prop
structure LRel(K:Frag)(G:GX)(H:Hp)(φ:List Addr)(σ:Loc)(σV:St):Prop where
 len:σ.length=σV.length
 at':∀(i:Nat)(v:PV),σ[i]?=some (some v)->∃x,σV[i]?=some (some x)/\RV K H φ v x
 kx:∀v S' φ' H',G.ek v S'->φ <+: φ'->Mono H H'->Rel K φ' S' H'->G.xh v H'
theorem LRel.mono{G:GX}(m:Mono H H')(p:φ <+: φ'){σ:Loc}{σV:St}(h:LRel K G H φ σ σV):LRel K G H' φ' σ σV:=
 ⟨h.len,fun i v e=>let ⟨x,a,b⟩:=h.at' i v e;⟨x,a,RV.mono m p _ _ b⟩,fun v S1 φ1 H1 g p1 m1 r=>h.kx v S1 φ1 H1 g (p.trans p1) (m.trans m1) r⟩
theorem LRel.set{G:GX}{σ:Loc}{σV:St}(h:LRel K G H φ σ σV)(i:Nat){v:PV}{x:V}(r:RV K H φ v x):LRel K G H φ (σ.set i (some v)) (σV.set i (some x)):=by
 refine⟨by simp[h.len],fun j u e=>?_,h.kx⟩
 by_cases hj:j=i
 ·subst hj
  have hl:j<σ.length:=by
   have:=(List.getElem?_eq_some_iff.mp e).1
   simpa using this
  rw[List.getElem?_set_self hl]at e
  cases e
  exact⟨x,List.getElem?_set_self (by rw[<-h.len];exact hl),r⟩
 ·rw[List.getElem?_set_ne (fun z=>hj z.symm)]at e
  rw[List.getElem?_set_ne (fun z=>hj z.symm)]
  exact h.at' j u e
end
end Ev
namespace Ev
open PySem L2
abbrev VC:=PV->q0h->Prop
abbrev WE:=Loc->q0h->EK->VC->Prop
abbrev WT:=Loc->q0h->EK->(Bool->q0h->Prop)->Prop
abbrev WA:=Loc->q0h->EK->(List PV->q0h->Prop)->Prop
def KE(K:Frag)(φ:List Addr)(H:Hp)(Q0:VC)(Q:VK):Prop:=∀v S' φ' H' x,Q0 v S'->φ <+: φ'->Mono H H'->Rel K φ' S' H'->RV K H' φ' v x->Q x H'
def KB(K:Frag)(φ:List Addr)(H:Hp)(Q0:Bool->q0h->Prop)(Q:Bool->Hp->Prop):Prop:=∀v S' φ' H',Q0 v S'->φ <+: φ'->Mono H H'->Rel K φ' S' H'->Q v H'
def KL(K:Frag)(φ:List Addr)(H:Hp)(Q0:List PV->q0h->Prop)(Q:List V->Hp->Prop):Prop:=∀v S' φ' H' x,Q0 v S'->φ <+: φ'->Mono H H'->Rel K φ' S' H'->RVs K H' φ' v x->Q x H'
theorem KE.up{K:Frag}{φ φ1:List Addr}{H H1:Hp}{Q0:VC}{Q:VK}(k:KE K φ H Q0 Q)(p:φ <+: φ1)(m:Mono H H1):KE K φ1 H1 Q0 Q:=fun v S' φ' H' x q p' m'=>k v S' φ' H' x q (p.trans p') (m.trans m')
theorem KB.up{K:Frag}{φ φ1:List Addr}{H H1:Hp}{Q0:Bool->q0h->Prop}{Q:Bool->Hp->Prop}(k:KB K φ H Q0 Q)(p:φ <+: φ1)(m:Mono H H1):KB K φ1 H1 Q0 Q:=fun v S' φ' H' q p' m'=>k v S' φ' H' q (p.trans p') (m.trans m')
theorem KL.up{K:Frag}{φ φ1:List Addr}{H H1:Hp}{Q0:List PV->q0h->Prop}{Q:List V->Hp->Prop}(k:KL K φ H Q0 Q)(p:φ <+: φ1)(m:Mono H H1):KL K φ1 H1 Q0 Q:=fun v S' φ' H' x q p' m'=>k v S' φ' H' x q (p.trans p') (m.trans m')
def q5e(K:Frag)(G:GX)(w:WE):TE:=fun σV H Q=>∃φ σ S Q0,LRel K G H φ σ σV/\Rel K φ S H/\w σ S G.ek Q0/\KE K φ H Q0 Q
def q9w(K:Frag)(G:GX)(w:WT):TT:=fun σV H Q=>∃φ σ S Q0,LRel K G H φ σ σV/\Rel K φ S H/\w σ S G.ek Q0/\KB K φ H Q0 Q
def x1f(K:Frag)(G:GX)(w:WA):TA:=fun σV H Q=>∃φ σ S Q0,LRel K G H φ σ σV/\Rel K φ S H/\w σ S G.ek Q0/\KL K φ H Q0 Q
def SimE(X:Cx)(G:GX)(e:Expr)(w:WE):Prop:=PE X e (q5e X.K G w)
def SimT(X:Cx)(G:GX)(e:Expr)(w:WT):Prop:=PT X e (q9w X.K G w)
def SimW(X:Cx)(G:GX)(e:Expr)(w:WT):Prop:=PW X e (q9w X.K G w)
def SimA(X:Cx)(G:GX)(es:List Expr)(w:WA):Prop:=PA X es (x1f X.K G w)
theorem _root_.L2.PE.imp{X:Cx}{e:Expr}{t t':TE}(h:PE X e t)(i:∀σ H Q,t' σ H Q->t σ H Q):PE X e t':=fun pins s σ H Q I q=>h pins s σ H Q I (i σ H Q q)
theorem _root_.L2.PT.imp{X:Cx}{e:Expr}{t t':TT}(h:PT X e t)(i:∀σ H Q,t' σ H Q->t σ H Q):PT X e t':=fun pins s σ H Q I q=>h pins s σ H Q I (i σ H Q q)
theorem _root_.L2.PW.imp{X:Cx}{e:Expr}{t t':TT}(h:PW X e t)(i:∀σ H Q,t' σ H Q->t σ H Q):PW X e t':=fun wh pins s σ H Q I q=>h wh pins s σ H Q I (i σ H Q q)
theorem _root_.L2.PA.imp{X:Cx}{e:List Expr}{t t':TA}(h:PA X e t)(i:∀σ H Q,t' σ H Q->t σ H Q):PA X e t':=fun pos pins s σ H Q I q=>h pos pins s σ H Q I (i σ H Q q)
def wVar(i:Nat):WE:=fun σ S _ Q=>match σ[i]? with
 |some (some v)=>Q v S
 |_=>False
def wC(v:PV):WE:=fun _ S _ Q=>Q v S
section
variable{X:Cx}{G:GX}{pos:Pos}
theorem q0b(i:Nat){x:Str}(hN:X.N[i]?=some x:=by rfl)(hv:Vis X.env.scope x:=by first|exact Or.inl rfl|exact Or.inr (Or.inl rfl)|exact Or.inr (Or.inr rfl))(hd:(x==("__debug__" : Str))=false:=by decide)(hcd:(x==("__classdict__" : Str))=false:=by decide) :
  SimE X G (.Name x pos) (wVar i):=by
 refine(y9t (i:=i) hN hv hd hcd).imp fun σV H Q hh1=>?_
 obtain⟨φ,σ,S,Q0,L,R,h,k⟩:=hh1
 unfold wVar at h
 split at h
 ·rename_i v e
  obtain⟨x,e',r⟩:=L.at' i v e
  exact⟨x,e',k v S φ H x h (List.prefix_refl _) (.refl _) R r⟩
 ·exact h.elim
theorem q6g{e:Expr}{v:V}(p:PV)(h:PE X e (tC v))(r:∀H φ,RV X.K H φ p v):SimE X G e (wC p):=
 h.imp fun σV H Q hh1=>by obtain⟨φ,σ,S,Q0,L,R,h,k⟩:=hh1;exact(k p S φ H v h (List.prefix_refl _) (.refl _) R (r H φ))
theorem q0e {i j}:SimE X G (.Constant (.int i) j pos) (wC (.int i)):=q6g _ y4f fun _ _=>rfl
theorem q6n {i j}:SimE X G (.Constant (.bool i) j pos) (wC (.bl i)):=q6g _ x3q fun _ _=>rfl
theorem q0p {i j}:SimE X G (.Constant (.str i) j pos) (wC (.str i)):=q6g _ y9w fun _ _=>rfl
theorem q6f {j}:SimE X G (.Constant .none j pos) (wC .non):=q6g _ y9z fun _ _=>rfl
structure GlobV(K:Frag)(mg:Str->Option Value)(x:Str)(p:PV):Prop where
 is:∃u v,mg x=some u/\RelV v u/\∀H φ,RV K H φ p v
theorem q5t{x:Str}{p:PV}(g:GlobV X.K X.mg x p)(hg:Gl X x:=by rfl)(hd:(x==("__debug__" : Str))=false:=by decide):SimE X G (.Name x pos) (wC p):=by
 obtain⟨u,v,h1,h2,h3⟩:=g.is
 exact q6g p (z3b hg h1 h2 hd) h3
theorem q5c{x:Str}{T:String}(hm:X.mg x=none)(hb:bootBuiltins x=some (.type T))(hg:Gl X x:=by rfl)(hn:x≠ "__name__" :=by decide)(hd:(x==("__debug__" : Str))=false:=by decide):SimE X G (.Name x pos) (wC (.ty T)):=
 q6g (v:=.ty T) _ (z8a hg hm hb rfl hn hd) fun _ _=>rfl
end
abbrev F2:=PV->PV->q0h->VC->Prop
def wBin(f:F2)(wa wb:WE):WE:=fun σ S E Q=>wa σ S E fun x S1=>wb σ S1 E fun y S2=>f x y S2 Q
def q3g(K:Frag)(f:F2):R2:=fun x' y' H Q=>∃φ S x y Q0,Rel K φ S H/\RV K H φ x x'/\RV K H φ y y'/\f x y S Q0/\KE K φ H Q0 Q
section
variable{X:Cx}{G:GX}{pos:Pos}{a b:Expr}{wa wb:WE}{f:F2}
theorem q5y{σV:St}{H:Hp}{Q:VK}(h:q5e X.K G (wBin f wa wb) σV H Q):tOp (q3g X.K f) (q5e X.K G wa) (q5e X.K G wb) σV H Q:=by
 obtain⟨φ,σ,S,Q0,L,R,h,k⟩:=h
 refine⟨φ,σ,S,_,L,R,h,fun v S1 φ1 H1 x q p1 m1 R1 r1=>?_⟩
 refine⟨φ1,σ,S1,_,L.mono m1 p1,R1,q,fun u S2 φ2 H2 y q2 p2 m2 R2 r2=>?_⟩
 exact⟨φ2,S2,v,u,Q0,R2,RV.mono m2 p2 _ _ r1,r2,q2,k.up (p1.trans p2) (m1.trans m2)⟩
theorem q0o{op:Operator}(ho:OpR X (binaryOp op) (q3g X.K f))(ha:SimE X G a wa)(hb:SimE X G b wb):SimE X G (.BinOp a op b pos) (wBin f wa wb):=(x3o ho ha hb).imp fun _ _ _ h=>q5y h
theorem q6h{op:CmpOp}(ho:OpR X (compareOp op) (q3g X.K f))(ha:SimE X G a wa)(hb:SimE X G b wb)(hm:behindInMarks op b=false):SimE X G (.Compare a [op] [b] pos) (wBin f wa wb):=(y6o ho ha hb hm).imp fun _ _ _ h=>q5y h
def q1d(w:WE):WT:=fun σ S E Q=>w σ S E fun x S1=>match x with
 |.bl c=>Q c S1
 |_=>False
theorem z1m{w:WE}{t:TE}(i:∀σ H Q,q5e X.K G w σ H Q->t σ H Q){σV:St}{H:Hp}{Q:Bool->Hp->Prop}(h:q9w X.K G (q1d w) σV H Q):y5j t σV H Q:=by
 obtain⟨φ,σ,S,Q0,L,R,h,k⟩:=h
 refine i _ _ _ ⟨φ,σ,S,_,L,R,h,fun v S1 φ1 H1 x q p1 m1 R1 r1=>?_⟩
 cases v with
 |bl c=>exact⟨c,r1,k c S1 φ1 H1 q p1 m1 R1⟩
 |_=>exact q.elim
theorem q0k{op:CmpOp}(ho:OpR X (compareOp op) (q3g X.K f))(ha:SimE X G a wa)(hb:SimE X G b wb)(hm:behindInMarks op b=false):SimT X G (.Compare a [op] [b] pos) (q1d (wBin f wa wb)):=
 (y6a ho ha hb hm).imp fun _ _ _ h=>z1m (fun _ _ _ h=>q5y h) h
end
def truK(x:PV)(S:q0h)(Q:Bool->q0h->Prop):Prop:=match x with
 |.non=>Q false S
 |.bl b=>Q b S
 |.int i=>Q (i != 0) S
 |.str y=>y.length<=sizeLine/\Q (!decide (y.length=0)) S
 |.tup xs=>Q (!xs.isEmpty) S
 |.frl xs=>Q (!xs.isEmpty) S
 |.ref n=>match S[n]? with
  |some (.lst xs)=>Q (!xs.isEmpty) S
  |some (.dK xs)=>Q (!xs.isEmpty) S
  |_=>False
 |.ty _=>False
 |.exc _=>False
def wTru(w:WE):WT:=fun σ S E Q=>w σ S E fun x S1=>truK x S1 Q
theorem z9x{K:Frag}{H:Hp}{φ:List Addr}{xs:List PV}{vs:List V}(r:RVs K H φ xs vs):(!xs.isEmpty)=!vs.isEmpty:=by
 have:=r.length
 cases xs<;>cases vs<;>simp_all
theorem y5g{K:Frag}{H:Hp}{φ:List Addr}{S:q0h}{x:PV}{x':V}{Q0:Bool->q0h->Prop}{Q:Bool->Hp->Prop}(R:Rel K φ S H)(r:RV K H φ x x')(h:truK x S Q0)(k:∀b,Q0 b S->Q b H):∃b,TruV K x' H b/\Q b H:=by
 unfold truK at h
 cases x with
 |non=>cases r;exact⟨false,rfl,k _ h⟩
 |bl b=>cases r;exact⟨b,rfl,k _ h⟩
 |int i=>cases r;exact⟨_,rfl,k _ h⟩
 |str y=>
  cases r
  obtain⟨hz,h⟩:=h
  refine⟨!decide (y.length=0),⟨hz,?_⟩,k _ h⟩
  by_cases e:y.length=0
  ·rw[e];rfl
  ·rw[decide_eq_false e]
   symm
   simp only[bne_iff_ne,Bool.not_false]
   intro z
   exact e (by exact_mod_cast z)
 |tup xs=>
  obtain⟨a,vs,rfl,s,rs⟩:=r
  exact⟨_,.inr (.inl ⟨vs,s,rfl⟩),k _ (by rw[<-z9x rs];exact h)⟩
 |frl xs=>
  obtain⟨a,vs,rfl,s,rs⟩:=r
  exact⟨_,.inl ⟨vs,s.sq,rfl⟩,k _ (by rw[<-z9x rs];exact h)⟩
 |ref n=>
  obtain⟨a,rfl,e⟩:=r
  dsimp only at h
  split at h
  ·rename_i xs es
   obtain⟨vs,e1,rs⟩:=R.obj n a _ e es
   exact⟨_,.inl ⟨vs,SqL.of e1,rfl⟩,k _ (by rw[<-z9x rs];exact h)⟩
  ·rename_i xs es
   obtain⟨vs,e1,rs⟩:=R.obj n a _ e es
   have:(!xs.isEmpty)=!vs.isEmpty:=by cases rs<;>rfl
   exact⟨_,.inr (.inr ⟨vs,e1,rfl⟩),k _ (by rw[<-this];exact h)⟩
  ·exact h.elim
 |ty n=>exact h.elim
 |exc c=>exact h.elim
section
variable{X:Cx}{G:GX}{pos:Pos}{a b c:Expr}{wa wb:WE}{ta tb:WT}{rest:List Expr}
theorem q1l(ha:SimE X G a wa)(he:∀whole,isTrue a X.env whole=(do let v <-whole;standAt a.pos;holding [v] (truthy v)):=by intro _;rfl):SimT X G a (wTru wa):=
 (y1o ha he).imp fun σV H Q hh1=>by obtain⟨φ,σ,S,Q0,L,R,h,k⟩:=hh1;exact(⟨φ,σ,S,_,L,R,h,fun v S1 φ1 H1 x q p1 m1 R1 r1=>y5g R1 r1 q fun b q=>k b S1 φ1 H1 q p1 m1 R1⟩)
def wAnd(ta tb:WT):WT:=fun σ S E Q=>ta σ S E fun c S1=>if c=true then tb σ S1 E Q else Q false S1
def wOr(ta tb:WT):WT:=fun σ S E Q=>ta σ S E fun c S1=>if c=true then Q true S1 else tb σ S1 E Q
def wNot(ta:WT):WT:=fun σ S E Q=>ta σ S E fun c S1=>Q (!c) S1
theorem SimW.t{e:Expr}{w:WT}(h:SimW X G e w):SimT X G e w:=h _
theorem q2c(ha:SimT X G a ta):SimW X G (.BoolOp .And [a] pos) ta:=y5z ha
theorem q3w(ha:SimT X G a ta):SimW X G (.BoolOp .Or [a] pos) ta:=y9c ha
theorem q2e(ha:SimT X G a ta)(hb:SimW X G (.BoolOp .And (b::rest) pos) tb):SimW X G (.BoolOp .And (a::b::rest) pos) (wAnd ta tb):=
 (y9d ha hb).imp fun σV H Q hh1=>by obtain⟨φ,σ,S,Q0,L,R,h,k⟩:=hh1;exact(⟨φ,σ,S,_,L,R,h,fun c S1 φ1 H1 q p1 m1 R1=>by
  cases c with
  |true=>exact ⟨φ1,σ,S1,_,L.mono m1 p1,R1,q,k.up p1 m1⟩
  |false=>exact k false S1 φ1 H1 q p1 m1 R1⟩)
theorem q2u(ha:SimT X G a ta)(hb:SimW X G (.BoolOp .Or (b::rest) pos) tb):SimW X G (.BoolOp .Or (a::b::rest) pos) (wOr ta tb):=
 (x3m ha hb).imp fun σV H Q hh1=>by obtain⟨φ,σ,S,Q0,L,R,h,k⟩:=hh1;exact(⟨φ,σ,S,_,L,R,h,fun c S1 φ1 H1 q p1 m1 R1=>by
  cases c with
  |false=>exact ⟨φ1,σ,S1,_,L.mono m1 p1,R1,q,k.up p1 m1⟩
  |true=>exact k true S1 φ1 H1 q p1 m1 R1⟩)
theorem q2r(ha:SimT X G a ta):SimT X G (.UnaryOp .Not a pos) (wNot ta):=
 (y9f ha).imp fun σV H Q hh1=>by obtain⟨φ,σ,S,Q0,L,R,h,k⟩:=hh1;exact(⟨φ,σ,S,_,L,R,h,fun c S1 φ1 H1 q p1 m1 R1=>k (!c) S1 φ1 H1 q p1 m1 R1⟩)
def z0p(wa wb:WE):WE:=fun σ S E Q=>wa σ S E fun x S1=>match x with
 |.bl c=>if c=true then wb σ S1 E Q else Q (.bl false) S1
 |_=>False
def y0u(wa:WE):WE:=fun σ S E Q=>wa σ S E fun x S1=>match x with
 |.bl c=>Q (.bl (!c)) S1
 |_=>False
theorem q9n {op} (h:SimE X G a wa):SimE X G (.BoolOp op [a] pos) wa:=y9x h
theorem q7l(ha:SimE X G a wa)(hb:SimE X G (.BoolOp .And (b::rest) pos) wb):SimE X G (.BoolOp .And (a::b::rest) pos) (z0p wa wb):=
 (x0e ha hb).imp fun σV H Q hh1=>by obtain⟨φ,σ,S,Q0,L,R,h,k⟩:=hh1;exact(⟨φ,σ,S,_,L,R,h,fun v S1 φ1 H1 x q p1 m1 R1 r1=>by
  cases v with
  |bl c=>
   refine ⟨c,r1,?_⟩
   cases c with
   |true=>exact ⟨φ1,σ,S1,_,L.mono m1 p1,R1,q,k.up p1 m1⟩
   |false=>exact k _ S1 φ1 H1 _ q p1 m1 R1 rfl
  |_=>exact q.elim⟩)
theorem y5r(ha:SimE X G a wa):SimE X G (.UnaryOp .Not a pos) (y0u wa):=
 (y9y ha).imp fun σV H Q hh1=>by obtain⟨φ,σ,S,Q0,L,R,h,k⟩:=hh1;exact(⟨φ,σ,S,_,L,R,h,fun v S1 φ1 H1 x q p1 m1 R1 r1=>by
  cases v with
  |bl c=>exact ⟨c,r1,k _ S1 φ1 H1 _ q p1 m1 R1 rfl⟩
  |_=>exact q.elim⟩)
def wNeg(wa:WE):WE:=fun σ S E Q=>wa σ S E fun x S1=>match x with
 |.int i=>Q (.int (-i)) S1
 |_=>False
theorem q7j(ha:SimE X G a wa):SimE X G (.UnaryOp .USub a pos) (wNeg wa):=
 (y9u y3v ha).imp fun σV H Q hh1=>by obtain⟨φ,σ,S,Q0,L,R,h,k⟩:=hh1;exact(⟨φ,σ,S,_,L,R,h,fun v S1 φ1 H1 x q p1 m1 R1 r1=>by
  cases v with
  |int c=>exact ⟨c,r1,k _ S1 φ1 H1 _ q p1 m1 R1 rfl⟩
  |_=>exact q.elim⟩)
def wNil:WA:=fun _ S _ Q=>Q [] S
def q0d(wa:WE)(wr:WA):WA:=fun σ S E Q=>wa σ S E fun x S1=>wr σ S1 E fun xs S2=>Q (x::xs) S2
theorem q0c:SimA X G [] wNil:=z8d.imp fun σV H Q hh1=>by obtain⟨φ,σ,S,Q0,L,R,h,k⟩:=hh1;exact(k [] S φ H [] h (List.prefix_refl _) (.refl _) R rfl)
theorem q0a{e:Expr}{es:List Expr}{we:WE}{wr:WA}(ha:SimE X G e we)(hr:SimA X G es wr)(hs:starEach (e::es) X.env=(false,eval e X.env)::starEach es X.env:=by rfl):SimA X G (e::es) (q0d we wr):=
 (z3c ha hr hs).imp fun σV H Q hh1=>by obtain⟨φ,σ,S,Q0,L,R,h,k⟩:=hh1;exact(⟨φ,σ,S,_,L,R,h,fun v S1 φ1 H1 x q p1 m1 R1 r1=>
  ⟨φ1,σ,S1,_,L.mono m1 p1,R1,q,fun vs S2 φ2 H2 xs q2 p2 m2 R2 r2=>k (v::vs) S2 φ2 H2 (x::xs) q2 (p1.trans p2) (m1.trans m2) R2 (.cons (RV.mono m2 p2 _ _ r1) r2)⟩⟩)
def wTup(w:WA):WE:=fun σ S E Q=>w σ S E fun xs S1=>xs.length<=sizeLine/\Q (.tup xs) S1
def wLst(w:WA):WE:=fun σ S E Q=>w σ S E fun xs S1=>xs.length<=sizeLine/\Q (.ref S1.length) (S1++[.lst xs])
variable{es:List Expr}{w:WA}
theorem KE.tup{K:Frag}{φ:List Addr}{H:Hp}{Q0:VC}{Q:VK}{S:q0h}{xs:List PV}{vs:List V}(k:KE K φ H Q0 Q)(q:Q0 (.tup xs) S)(R:Rel K φ S H)(r:RVs K H φ xs vs):∀p,H p=none->Q (.ref p) (upd H p (.tup vs)):=fun p hp=>
 k _ S φ _ _ q (List.prefix_refl _) (.new _ hp) (R.frame _ hp) ⟨p,vs,rfl,SqT.of q2d,RVs.mono (.new _ hp) (List.prefix_refl _) _ _ r⟩
theorem KE.lst{K:Frag}{φ:List Addr}{H:Hp}{Q0:VC}{Q:VK}{S:q0h}{xs:List PV}{vs:List V}(k:KE K φ H Q0 Q)(q:Q0 (.ref S.length) (S++[.lst xs]))(R:Rel K φ S H)(r:RVs K H φ xs vs):∀p,H p=none->Q (.ref p) (upd H p (.lst vs)):=fun p hp=>
 k _ (S++[.lst xs]) (φ++[p]) _ _ q (List.prefix_append _ _) (.new _ hp) (R.new (o:=.lst xs) hp ⟨vs,q2d,RVs.mono (.new _ hp) (List.prefix_append _ _) _ _ r⟩) (show RV K _ _ (.ref S.length) _ from⟨p,rfl,by rw[<-R.len];simp⟩)
theorem q0v {x1} (h:SimA X G es w):SimE X G (.Tuple es x1 pos) (wTup w):=
 (y9v h).imp fun σV H Q hh1=>by obtain⟨φ,σ,S,Q0,L,R,h,k⟩:=hh1;exact(⟨φ,σ,S,_,L,R,h,fun vs S1 φ1 H1 xs hh2 p1 m1 R1 r1=>by obtain⟨hz,q⟩:=hh2;exact(⟨by rw[<-r1.length];exact hz,(k.up p1 m1).tup q R1 r1⟩)⟩)
theorem q1e(h:SimA X G es w):SimE X G (.List es pos) (wLst w):=
 (x0a h).imp fun σV H Q hh1=>by obtain⟨φ,σ,S,Q0,L,R,h,k⟩:=hh1;exact(⟨φ,σ,S,_,L,R,h,fun vs S1 φ1 H1 xs hh2 p1 m1 R1 r1=>by obtain⟨hz,q⟩:=hh2;exact(⟨by rw[<-r1.length];exact hz,(k.up p1 m1).lst q R1 r1⟩)⟩)
end
def q5l(S:q0h)(n:Nat):Option (List PV):=match S[n]? with
 |some (.lst xs)=>some xs
 |_=>none
def q2w(S:q0h)(n:Nat):Option (List PV):=match S[n]? with
 |some (.lst xs)=>some xs
 |_=>none
def y7y(S:q0h)(n:Nat):Option (List (Key×PV)):=match S[n]? with
 |some (.dK xs)=>some xs
 |_=>none
section
variable{K:Frag}{H:Hp}{φ:List Addr}{S:q0h}
theorem z8s{n:Nat}{xs:List PV}(e:q5l S n=some xs):S[n]?=some (.lst xs):=by
 unfold q5l at e
 split at e
 ·cases e;assumption
 ·cases e
theorem z9z{n:Nat}{xs:List (Key×PV)}(e:y7y S n=some xs):S[n]?=some (.dK xs):=by
 unfold y7y at e
 split at e
 ·cases e;assumption
 ·cases e
theorem Rel.lst(R:Rel K φ S H){n:Nat}{a:Addr}{xs:List PV}(q:φ[n]?=some a)(e:q5l S n=some xs):∃vs,H a=some (.lst vs)/\RVs K H φ xs vs:=R.obj n a _ q (z8s e)
theorem Rel.dic(R:Rel K φ S H){n:Nat}{a:Addr}{xs:List (Key×PV)}(q:φ[n]?=some a)(e:y7y S n=some xs):∃vs,H a=some (.dK vs)/\RKs K H φ xs vs:=R.obj n a _ q (z9z e)
theorem Rel.seq(R:Rel K φ S H){n:Nat}{a:Addr}{xs:List PV}(q:φ[n]?=some a)(e:q2w S n=some xs):∃vs,SqL K H a vs/\RVs K H φ xs vs:=by
 unfold q2w at e
 split at e
 ·rename_i ys es
  cases e
  obtain⟨vs,e1,r⟩:=R.obj n a _ q es
  exact⟨vs,SqL.of e1,r⟩
 ·cases e
end
def bAdd:F2:=fun x y S Q=>match x,y with
 |.int i,.int j=>Q (.int (i+j)) S
 |.str a,.str b=>a.length+b.length<=sizeLine/\Q (.str (a++b)) S
 |.tup xs,.tup ys=>xs.length+ys.length<=sizeLine/\Q (.tup (xs++ys)) S
 |.ref m,.ref n=>match q5l S m,q5l S n with
  |some xs,some ys=>xs.length+ys.length<=sizeLine/\Q (.ref S.length) (S++[.lst (xs++ys)])
  |_,_=>False
 |_,_=>False
def bI(C:Int->Int->Prop)(g:Int->Int->PV):F2:=fun x y S Q=>match x,y with
 |.int i,.int j=>C i j/\Q (g i j) S
 |_,_=>False
def bSub:F2:=bI (fun _ _=>True) fun i j=>.int (i-j)
def z2t:F2:=bI (fun _ j=>0<j/\j<2 ^ 100) fun i j=>.int (i / j)
def bMod:F2:=bI (fun _ j=>0<j) fun i j=>.int (i % j)
def bPow:F2:=bI CPow fun i j=>.int (i ^ j.toNat)
def cLt:F2:=bI (fun _ _=>True) fun i j=>.bl (decide (i<j))
def cLe:F2:=bI (fun _ _=>True) fun i j=>.bl (decide (i<=j))
def cGt:F2:=bI (fun _ _=>True) fun i j=>.bl (decide (j<i))
def cGe:F2:=bI (fun _ _=>True) fun i j=>.bl (decide (j<=i))
def bMul:F2:=fun x y S Q=>match x,y with
 |.int i,.int j=>CMul i j/\Q (.int (i*j)) S
 |.ref m,.int k=>match q5l S m with
  |some xs=>(-(2 ^ 63)<=k/\k<2 ^ 63/\xs.length*k.toNat<=sizeLine)/\Q (.ref S.length) (S++[.lst (List.replicate k.toNat xs).flatten])
  |none=>False
 |_,_=>False
section
variable{X:Cx}
theorem z1d{f:Value->Value->Sem Value}{C D:Int->Int->Prop}{g:Int->Int->PV}{gV:Int->Int->V}(ho:OpR X f (rI D gV))(hd:∀i j,C i j->D i j)(hg:∀i j H φ,RV X.K H φ (g i j) (gV i j)):OpR X f (q3g X.K (bI C g)):=by
 rintro pins s σ H x y v u Q I rx ry ⟨φ,S,px,py,Q0,R,hx,hy,h,k⟩
 unfold bI at h
 split at h
 ·rename_i i j
  exact ho pins s σ H x y v u Q I rx ry ⟨i,j,hx,hy,hd i j h.1,k _ S φ H _ h.2 (List.prefix_refl _) (.refl _) R (hg i j H φ)⟩
 ·exact h.elim
theorem OpR.of0{f:Value->Value->Sem Value}{gV:Int->Int->V}(ho:OpR X f (rI0 gV)):OpR X f (rI (fun _ _=>True) gV):=fun pins s σ H x y v u Q I rx ry hh1=>by obtain⟨i,j,a,b,_,q⟩:=hh1;exact(ho pins s σ H x y v u Q I rx ry ⟨i,j,a,b,q⟩)
theorem z3d:OpR X (binaryOp .Sub) (q3g X.K bSub):=z1d (OpR.of0 x0j) (fun _ _ h=>h) fun _ _ _ _=>rfl
theorem q5v:OpR X (binaryOp .FloorDiv) (q3g X.K z2t):=z1d y2c (fun _ _ h=>h) fun _ _ _ _=>rfl
theorem q4b:OpR X (binaryOp .Mod) (q3g X.K bMod):=z1d x0n (fun _ _ h=>h) fun _ _ _ _=>rfl
theorem q9s:OpR X (binaryOp .Pow) (q3g X.K bPow):=z1d x0l (fun _ _ h=>h) fun _ _ _ _=>rfl
theorem z1c:OpR X (compareOp .Lt) (q3g X.K cLt):=z1d (OpR.of0 x3s) (fun _ _ h=>h) fun _ _ _ _=>rfl
theorem y4g:OpR X (compareOp .LtE) (q3g X.K cLe):=z1d (OpR.of0 x3t) (fun _ _ h=>h) fun _ _ _ _=>rfl
theorem q5u:OpR X (compareOp .Gt) (q3g X.K cGt):=z1d (OpR.of0 x3u) (fun _ _ h=>h) fun _ _ _ _=>rfl
theorem x0i:OpR X (compareOp .GtE) (q3g X.K cGe):=z1d (OpR.of0 x3v) (fun _ _ h=>h) fun _ _ _ _=>rfl
theorem q7p:OpR X (binaryOp .Mult) (q3g X.K bMul):=by
 rintro pins s σ H x y v u Q I rx ry ⟨φ,S,px,py,Q0,R,hx,hy,h,k⟩
 unfold bMul at h
 split at h
 ·rename_i i j
  exact x0m pins s σ H x y v u Q I rx ry ⟨i,j,hx,hy,h.1,k _ S φ H _ h.2 (List.prefix_refl _) (.refl _) R rfl⟩
 ·rename_i m kk
  split at h
  ·rename_i xs e
   obtain⟨a,rfl,qa⟩:=hx
   cases hy
   obtain⟨vs,ea,r⟩:=R.lst qa e
   obtain⟨⟨h1,h2,h3⟩,h⟩:=h
   exact x0k pins s σ H _ _ v u Q I rx ry ⟨a,kk,vs,rfl,rfl,ea,h1,h2,by rw[<-r.length];exact h3,k.lst h R (r.rep _)⟩
  ·exact h.elim
 ·exact h.elim
theorem q1g:OpR X (binaryOp .Add) (q3g X.K bAdd):=by
 rintro pins s σ H x y v u Q I rx ry ⟨φ,S,px,py,Q0,R,hx,hy,h,k⟩
 unfold bAdd at h
 split at h
 ·rename_i i j
  exact x0q pins s σ H x y v u Q I rx ry ⟨i,j,hx,hy,k _ S φ H _ h (List.prefix_refl _) (.refl _) R rfl⟩
 ·rename_i a b
  exact z5u pins s σ H x y v u Q I rx ry ⟨a,b,hx,hy,h.1,k _ S φ H _ h.2 (List.prefix_refl _) (.refl _) R rfl⟩
 ·rename_i xs ys
  obtain⟨a,vs,rfl,sa,ra⟩:=hx
  obtain⟨b,ws,rfl,sb,rb⟩:=hy
  refine y2d pins s σ H _ _ v u Q I rx ry ?_
  by_cases hv:vs=[]
  ·subst hv
   have:xs=[]:=List.length_eq_zero_iff.mp (by rw[ra.length];rfl)
   subst this
   exact .inl ⟨a,b,ws,rfl,rfl,sa,sb,k _ S φ H _ h.2 (List.prefix_refl _) (.refl _) R ⟨b,ws,rfl,sb,rb⟩⟩
  ·refine .inr ⟨a,b,vs,ws,rfl,rfl,sa,sb,hv,by rw[<-ra.length,<-rb.length];exact h.1,fun hw=>?_,fun _=>k.tup h.2 R (ra.append rb)⟩
   subst hw
   have:ys=[]:=List.length_eq_zero_iff.mp (by rw[rb.length];rfl)
   subst this
   refine k _ S φ H _ h.2 (List.prefix_refl _) (.refl _) R ?_
   rw[List.append_nil]
   exact⟨a,vs,rfl,sa,ra⟩
 ·rename_i m n
  split at h
  ·rename_i xs ys e1 e2
   obtain⟨a,rfl,qa⟩:=hx
   obtain⟨b,rfl,qb⟩:=hy
   obtain⟨vs,ea,ra⟩:=R.lst qa e1
   obtain⟨ws,eb,rb⟩:=R.lst qb e2
   exact x0p pins s σ H _ _ v u Q I rx ry ⟨a,b,vs,ws,rfl,rfl,ea,eb,by rw[<-ra.length,<-rb.length];exact h.1,k.lst h.2 R (ra.append rb)⟩
  ·exact h.elim
 ·exact h.elim
def z3x:F2:=fun x y S Q=>match x,y with
 |.int i,.int j=>Q (.int (i+j)) S
 |.str a,.str b=>a.length+b.length<=sizeLine/\Q (.str (a++b)) S
 |_,_=>False
theorem y7q:PIp X .Add (fun x' y' H Q=>q3g X.K z3x x' y' H Q):=by
 rintro pins s σ H x y v u Q I rx ry ⟨φ,S,px,py,Q0,R,hx,hy,h,k⟩
 unfold z3x at h
 split at h
 ·rename_i i j
  exact x1s pins s σ H x y v u Q I rx ry ⟨i,j,hx,hy,k _ S φ H _ h (List.prefix_refl _) (.refl _) R rfl⟩
 ·rename_i a b
  exact z3s pins s σ H x y v u Q I rx ry ⟨a,b,hx,hy,h.1,k _ S φ H _ h.2 (List.prefix_refl _) (.refl _) R rfl⟩
 ·exact h.elim
end
mutual
def eqB:PV->PV->Bool
 |.non,y=>match y with
  |.non=>true
  |_=>false
 |.bl a,y=>match y with
  |.bl b=>a==b
  |.int b=>(if a then 1 else 0)==b
  |_=>false
 |.int a,y=>match y with
  |.bl b=>a==(if b then 1 else 0)
  |.int b=>a==b
  |_=>false
 |.str a,y=>match y with
  |.str b=>a==b
  |_=>false
 |.tup xs,y=>match y with
  |.tup ys=>eqBs xs ys
  |_=>false
 |.ty _,_=>false
 |.frl _,_=>false
 |.ref _,_=>false
 |.exc _,_=>false
def eqBs:List PV->List PV->Bool
 |[],ys=>ys.isEmpty
 |x::xs,ys=>match ys with
  |[]=>false
  |y::r=>eqB x y&&eqBs xs r
end
mutual
def nrf:PV->Bool
 |.ty _=>false
 |.frl _=>false
 |.ref _=>false
 |.exc _=>false
 |.tup xs=>nrfs xs
 |_=>true
def nrfs:List PV->Bool
 |[]=>true
 |x::xs=>nrf x&&nrfs xs
end
mutual
def dep:PV->Nat
 |.tup xs=>1+deps xs
 |_=>0
def deps:List PV->Nat
 |[]=>0
 |x::xs=>max (dep x) (deps xs)
end
theorem z4v:∀{xs ys:List PV},eqBs xs ys=true->xs.length=ys.length
 |[],ys,h=>by cases ys<;>simp_all [eqBs]
 |x::xs,ys,h=>by
  cases ys with
  |nil=>simp[eqBs]at h
  |cons y r=>
   simp only[eqBs,Bool.and_eq_true]at h
   simp[z4v h.2]
theorem q4s:∀(xs ys:List PV),eqBs xs ys=((List.range (min xs.length ys.length)).all (fun j=>eqB (xs.getD j .non) (ys.getD j .non))&&xs.length==ys.length)
 |[],ys=>by cases ys<;>simp[eqBs]
 |x::xs,ys=>by
  cases ys with
  |nil=>simp[eqBs]
  |cons y r=>
   have e:min (x::xs).length (y::r).length=min xs.length r.length+1:=by simp only[List.length_cons];omega
   rw[e,List.range_succ_eq_map,List.all_cons,List.all_map]
   simp only[eqBs,q4s xs r,List.length_cons,Function.comp]
   rw[Bool.and_assoc]
   congr 2
   by_cases h:xs.length=r.length
   ·simp[h]
   ·simp[h]
mutual
theorem q7e:∀x:PV,nrf x=true->eqB x x=true
 |.non,_=>rfl
 |.bl b,_=>by simp[eqB]
 |.int i,_=>by simp[eqB]
 |.str x,_=>by simp[eqB]
 |.tup xs,h=>by simp only[eqB];exact q4e xs (by simpa[nrf]using h)
 |.ty _,h=>by simp[nrf]at h
 |.frl _,h=>by simp[nrf]at h
 |.ref _,h=>by simp[nrf]at h
 |.exc _,h=>by simp[nrf]at h
theorem q4e:∀xs:List PV,nrfs xs=true->eqBs xs xs=true
 |[],_=>rfl
 |x::xs,h=>by
  simp only[nrfs,Bool.and_eq_true]at h
  simp only[eqBs,q7e x h.1,q4e xs h.2,Bool.and_self]
end
section
variable{X:Cx}{pins:List (Addr×Obj)}{s:Shared}{σ:St}{H:Hp}{φ:List Addr}
mutual
theorem RV.inj(I:Inv X pins σ H s):∀(x y:PV)(v:V),nrf x=true->nrf y=true->RV X.K H φ x v->RV X.K H φ y v->x=y
 |.non,y,v,_,hy,r,q=>by cases y<;>simp_all [RV,nrf]
 |.bl b,y,v,_,hy,r,q=>by cases y<;>simp_all [RV,nrf]
 |.int b,y,v,_,hy,r,q=>by cases y<;>simp_all [RV,nrf]
 |.str b,y,v,_,hy,r,q=>by cases y<;>simp_all [RV,nrf]
 |.ty _,y,v,h,hy,r,q=>by simp[nrf]at h
 |.frl _,y,v,h,hy,r,q=>by simp[nrf]at h
 |.ref _,y,v,h,hy,r,q=>by simp[nrf]at h
 |.exc _,y,v,h,hy,r,q=>by simp[nrf]at h
 |.tup xs,y,v,h,hy,r,q=>by
  obtain⟨a,vs,rfl,sa,ra⟩:=r
  cases y with
  |tup ys=>
   obtain⟨b,ws,e,sb,rb⟩:=q
   cases e
   have:=I.tuple_inj sa sb
   subst this
   rw[RVs.inj I xs ys vs (by simpa[nrf]using h) (by simpa[nrf]using hy) ra rb]
  |non=>cases q
  |bl _=>cases q
  |int _=>cases q
  |str _=>cases q
  |ty _=>simp[nrf]at hy
  |frl _=>simp[nrf]at hy
  |ref _=>simp[nrf]at hy
  |exc _=>simp[nrf]at hy
theorem RVs.inj(I:Inv X pins σ H s):∀(xs ys:List PV)(vs:List V),nrfs xs=true->nrfs ys=true->RVs X.K H φ xs vs->RVs X.K H φ ys vs->xs=ys
 |[],ys,vs,_,_,r,q=>by
  rw[show vs=[]from r]at q
  exact(List.length_eq_zero_iff.mp (by rw[RVs.length q];rfl)).symm
 |x::xs,ys,vs,h,h',r,q=>by
  obtain⟨v,ws,rfl,r1,r2⟩:=r
  cases ys with
  |nil=>cases(show v::ws=[]from q)
  |cons y ys=>
   obtain⟨v',ws',e,q1,q2⟩:=q
   cases e
   simp only[nrfs,Bool.and_eq_true]at h h'
   rw[RV.inj I x y v h.1 h'.1 r1 q1,RVs.inj I xs ys ws h.2 h'.2 r2 q2]
end
theorem q4d(A:Around):A.in1.units=A.units+1:=rfl
theorem q4p{vs:List V}{its:List Value}(r:Vals vs its){j:Nat}(h:j<its.toArray.size){x:V}(e:vs[j]?=some x):RelV x its.toArray[j]:=by
 obtain⟨u,e1,r1⟩:=r.get e
 have:its.toArray[j]=u:=by
  have h':j<its.length:=by simpa using h
  rw[List.getElem?_eq_getElem h']at e1
  simpa using e1
 rw[this]
 exact r1
theorem q1m:∀{xs:List PV}{j:Nat}{x:PV},nrfs xs=true->xs[j]?=some x->nrf x=true
 |[],_,_,_,e=>by simp at e
 |x::xs,0,y,h,e=>by simp[nrfs]at h e;subst e;exact h.1
 |x::xs,j+1,y,h,e=>by simp[nrfs]at h e;exact q1m h.2 e
theorem q4n:∀{xs:List PV}{j:Nat}{x:PV},xs[j]?=some x->dep x<=deps xs
 |[],_,_,e=>by simp at e
 |x::xs,0,y,e=>by simp at e;subst e;simp only[deps];omega
 |x::xs,j+1,y,e=>by simp at e;have:=q4n e;simp only[deps];omega
theorem getD_some{xs:List PV}{j:Nat}{x:PV}(e:xs[j]?=some x):xs.getD j .non=x:=by rw[List.getD_eq_getElem?_getD,e];rfl
theorem q9b(I:Inv X pins σ H s):∀(d:Nat)(A:Around)(x y:PV)(x' y':V)(v u:Value),nrf x=true->nrf y=true->dep x<=d->A.units+d<cLine->RV X.K H φ x x'->RV X.K H φ y y'->RelV x' v->RelV y' u->SeqAt.EqAt A s v u (eqB x y):=by
 intro d
 induction d with
 |zero=>
  intro A x y x' y' v u hx hy hd hu rx ry qx qy
  cases x with
  |tup xs=>simp[dep]at hd
  |non=>
   cases rx;cases qx
   cases y with
   |non=>cases ry;cases qy;exact .same _
   |bl b=>cases ry;cases qy;exact .none_bool b
   |int b=>cases ry;obtain⟨t,rfl⟩:=qy;exact .none_int b t
   |str b=>cases ry;obtain⟨t,rfl⟩:=qy;exact .none_str b t
   |tup ys=>obtain⟨b,ws,rfl,sb,rb⟩:=ry;cases qy;obtain⟨_,_,p,_⟩:=I.tuple sb;exact .none_tuple p (by omega)
   |ty _=>simp[nrf]at hy
   |frl _=>simp[nrf]at hy
   |ref _=>simp[nrf]at hy
   |exc _=>simp[nrf]at hy
  |bl a=>
   cases rx;cases qx
   cases y with
   |non=>cases ry;cases qy;exact .bool_none a
   |bl b=>cases ry;cases qy;exact .bool_bool a b
   |int b=>cases ry;obtain⟨t,rfl⟩:=qy;exact .bool_int a b t
   |str b=>cases ry;obtain⟨t,rfl⟩:=qy;exact .bool_str a b t
   |tup ys=>obtain⟨b,ws,rfl,sb,rb⟩:=ry;cases qy;obtain⟨_,_,p,_⟩:=I.tuple sb;exact .bool_tuple a p (by omega)
   |ty _=>simp[nrf]at hy
   |frl _=>simp[nrf]at hy
   |ref _=>simp[nrf]at hy
   |exc _=>simp[nrf]at hy
  |int a=>
   cases rx;obtain⟨t,rfl⟩:=qx
   cases y with
   |non=>cases ry;cases qy;exact .int_none a t
   |bl b=>cases ry;cases qy;exact .int_bool a t b
   |int b=>cases ry;obtain⟨t',rfl⟩:=qy;exact .int_int a t b t'
   |str b=>cases ry;obtain⟨t',rfl⟩:=qy;exact .int_str a t b t'
   |tup ys=>obtain⟨b,ws,rfl,sb,rb⟩:=ry;cases qy;obtain⟨_,_,p,_⟩:=I.tuple sb;exact .int_tuple a t p (by omega)
   |ty _=>simp[nrf]at hy
   |frl _=>simp[nrf]at hy
   |ref _=>simp[nrf]at hy
   |exc _=>simp[nrf]at hy
  |str a=>
   cases rx;obtain⟨t,rfl⟩:=qx
   cases y with
   |non=>cases ry;cases qy;exact .str_none a t
   |bl b=>cases ry;cases qy;exact .str_bool a t b
   |int b=>cases ry;obtain⟨t',rfl⟩:=qy;exact .str_int a t b t'
   |str b=>cases ry;obtain⟨t',rfl⟩:=qy;exact .str_str a t b t'
   |tup ys=>obtain⟨b,ws,rfl,sb,rb⟩:=ry;cases qy;obtain⟨_,_,p,_⟩:=I.tuple sb;exact .str_tuple a t p (by omega)
   |ty _=>simp[nrf]at hy
   |frl _=>simp[nrf]at hy
   |ref _=>simp[nrf]at hy
   |exc _=>simp[nrf]at hy
  |ty _=>simp[nrf]at hx
  |frl _=>simp[nrf]at hx
  |ref _=>simp[nrf]at hx
  |exc _=>simp[nrf]at hx
 |succ d ih=>
  intro A x y x' y' v u hx hy hd hu rx ry qx qy
  cases x with
  |tup xs=>
   obtain⟨a,vs,rfl,sa,ra⟩:=id rx
   cases qx
   obtain⟨its,r1,p1,_⟩:=I.tuple sa
   cases y with
   |non=>cases ry;cases qy;exact .tuple_none p1 (by omega)
   |bl b=>cases ry;cases qy;exact .tuple_bool b p1 (by omega)
   |int b=>cases ry;obtain⟨t,rfl⟩:=qy;exact .tuple_int b t p1 (by omega)
   |str b=>cases ry;obtain⟨t,rfl⟩:=qy;exact .tuple_str b t p1 (by omega)
   |ty _=>simp[nrf]at hy
   |frl _=>simp[nrf]at hy
   |ref _=>simp[nrf]at hy
   |exc _=>simp[nrf]at hy
   |tup ys=>
    obtain⟨b,ws,rfl,sb,rb⟩:=id ry
    cases qy
    obtain⟨its2,r2,p2,_⟩:=I.tuple sb
    by_cases hab:a=b
    ·subst hab
     rw[RV.inj I _ _ _ hx hy rx ry,q7e _ hy]
     exact .same _
    ·refine .of_refs hab ?_
     have e:eqB (.tup xs) (.tup ys)=((List.range (min its.toArray.size its2.toArray.size)).all (fun j=>eqB (xs.getD j .non) (ys.getD j .non))&&its.toArray.size==its2.toArray.size):=by
      simp only[eqB]
      rw[q4s,List.size_toArray,List.size_toArray,<-r1.length,<-r2.length,ra.length,rb.length]
     rw[e]
     refine .tuples p1 p2 (by omega) fun j h1 h2=>?_
     have hj1:j<xs.length:=by rw[ra.length,r1.length];simpa using h1
     have hj2:j<ys.length:=by rw[rb.length,r2.length];simpa using h2
     have e1:xs[j]?=some xs[j]:=List.getElem?_eq_getElem hj1
     have e2:ys[j]?=some ys[j]:=List.getElem?_eq_getElem hj2
     obtain⟨v1,g1,q1⟩:=ra.get e1
     obtain⟨v2,g2,q2⟩:=rb.get e2
     rw[getD_some e1,getD_some e2]
     have hdd:=q4n e1
     simp only[dep]at hd
     exact ih A.in1 _ _ v1 v2 _ _ (q1m (by simpa[nrf]using hx) e1) (q1m (by simpa[nrf]using hy) e2) (by omega) (by rw[q4d];omega) q1 q2 (q4p r1 h1 g1) (q4p r2 h2 g2)
  |non=>exact ih A _ _ x' y' v u hx hy (Nat.zero_le _) (by omega) rx ry qx qy
  |bl a=>exact ih A _ _ x' y' v u hx hy (Nat.zero_le _) (by omega) rx ry qx qy
  |int a=>exact ih A _ _ x' y' v u hx hy (Nat.zero_le _) (by omega) rx ry qx qy
  |str a=>exact ih A _ _ x' y' v u hx hy (Nat.zero_le _) (by omega) rx ry qx qy
  |ty _=>simp[nrf]at hx
  |frl _=>simp[nrf]at hx
  |ref _=>simp[nrf]at hx
  |exc _=>simp[nrf]at hx
end
section
variable{X:Cx}{pins:List (Addr×Obj)}{s:Shared}{σ:St}{H:Hp}{φ:List Addr}
theorem y4e(I:Inv X pins σ H s)(d:Nat)(A:Around)(x y:PV)(x' y':V)(v u:Value)(hx:nrf x=true)(hy:nrf y=true)(hd:∀xs ys,x=.tup xs->y=.tup ys->dep x<=d)(hu:A.units+d<cLine)(rx:RV X.K H φ x x')(ry:RV X.K H φ y y')(qx:RelV x' v)(qy:RelV y' u):SeqAt.RcAt A s v u (eqB x y):=by
 cases x with
 |non=>
  cases rx
  cases qx
  cases y with
  |non=>cases ry;cases qy;exact .none_none
  |bl b=>cases ry;cases qy;exact .none_bool b
  |int b=>cases ry;obtain⟨t',rfl⟩:=qy;exact .none_int b t'
  |str b=>cases ry;obtain⟨t',rfl⟩:=qy;exact .none_str b t'
  |tup ys=>obtain⟨b,ws,rfl,sb,rb⟩:=ry;cases qy;obtain⟨_,_,p,_⟩:=I.tuple sb;exact .none_tuple  p (by omega)
  |ty _=>simp[nrf]at hy
  |frl _=>simp[nrf]at hy
  |ref _=>simp[nrf]at hy
  |exc _=>simp[nrf]at hy
 |bl a=>
  cases rx
  cases qx
  cases y with
  |non=>cases ry;cases qy;exact .bool_none a
  |bl b=>cases ry;cases qy;exact .bool_bool a b
  |int b=>cases ry;obtain⟨t',rfl⟩:=qy;exact .bool_int a b t'
  |str b=>cases ry;obtain⟨t',rfl⟩:=qy;exact .bool_str a b t'
  |tup ys=>obtain⟨b,ws,rfl,sb,rb⟩:=ry;cases qy;obtain⟨_,_,p,_⟩:=I.tuple sb;exact .bool_tuple a p (by omega)
  |ty _=>simp[nrf]at hy
  |frl _=>simp[nrf]at hy
  |ref _=>simp[nrf]at hy
  |exc _=>simp[nrf]at hy
 |int a=>
  cases rx
  obtain⟨t,rfl⟩:=qx
  cases y with
  |non=>cases ry;cases qy;exact .int_none a t
  |bl b=>cases ry;cases qy;exact .int_bool a t b
  |int b=>cases ry;obtain⟨t',rfl⟩:=qy;exact .int_int a t b t'
  |str b=>cases ry;obtain⟨t',rfl⟩:=qy;exact .int_str a t b t'
  |tup ys=>obtain⟨b,ws,rfl,sb,rb⟩:=ry;cases qy;obtain⟨_,_,p,_⟩:=I.tuple sb;exact .int_tuple a t p (by omega)
  |ty _=>simp[nrf]at hy
  |frl _=>simp[nrf]at hy
  |ref _=>simp[nrf]at hy
  |exc _=>simp[nrf]at hy
 |str a=>
  cases rx
  obtain⟨t,rfl⟩:=qx
  cases y with
  |non=>cases ry;cases qy;exact .str_none a t
  |bl b=>cases ry;cases qy;exact .str_bool a t b
  |int b=>cases ry;obtain⟨t',rfl⟩:=qy;exact .str_int a t b t'
  |str b=>cases ry;obtain⟨t',rfl⟩:=qy;exact .str_str a t b t'
  |tup ys=>obtain⟨b,ws,rfl,sb,rb⟩:=ry;cases qy;obtain⟨_,_,p,_⟩:=I.tuple sb;exact .str_tuple a t p (by omega)
  |ty _=>simp[nrf]at hy
  |frl _=>simp[nrf]at hy
  |ref _=>simp[nrf]at hy
  |exc _=>simp[nrf]at hy
 |ty _=>simp[nrf]at hx
 |frl _=>simp[nrf]at hx
 |ref _=>simp[nrf]at hx
 |exc _=>simp[nrf]at hx
 |tup xs=>
  obtain⟨a,vs,rfl,sa,ra⟩:=id rx
  cases qx
  obtain⟨its,r1,p1,_⟩:=I.tuple sa
  cases y with
  |non=>cases ry;cases qy;exact .tuple_none p1 (by omega)
  |bl b=>cases ry;cases qy;exact .tuple_bool b p1 (by omega)
  |int b=>cases ry;obtain⟨t,rfl⟩:=qy;exact .tuple_int b t p1 (by omega)
  |str b=>cases ry;obtain⟨t,rfl⟩:=qy;exact .tuple_str b t p1 (by omega)
  |ty _=>simp[nrf]at hy
  |frl _=>simp[nrf]at hy
  |ref _=>simp[nrf]at hy
  |exc _=>simp[nrf]at hy
  |tup ys=>
   obtain⟨b,ws,rfl,sb,rb⟩:=id ry
   cases qy
   obtain⟨its2,r2,p2,_⟩:=I.tuple sb
   have e:eqB (.tup xs) (.tup ys)=((List.range (min its.toArray.size its2.toArray.size)).all (fun j=>eqB (xs.getD j .non) (ys.getD j .non))&&its.toArray.size==its2.toArray.size):=by
    simp only[eqB]
    rw[q4s,List.size_toArray,List.size_toArray,<-r1.length,<-r2.length,ra.length,rb.length]
   rw[e]
   have hd':=hd xs ys rfl rfl
   simp only[dep]at hd'
   refine .tuples p1 p2 (by omega) fun j h1 h2=>?_
   have hj1:j<xs.length:=by rw[ra.length,r1.length];simpa using h1
   have hj2:j<ys.length:=by rw[rb.length,r2.length];simpa using h2
   have e1:xs[j]?=some xs[j]:=List.getElem?_eq_getElem hj1
   have e2:ys[j]?=some ys[j]:=List.getElem?_eq_getElem hj2
   obtain⟨v1,g1,q1⟩:=ra.get e1
   obtain⟨v2,g2,q2⟩:=rb.get e2
   rw[getD_some e1,getD_some e2]
   have hdd:=q4n e1
   exact q9b I (d-1) A.in1 _ _ v1 v2 _ _ (q1m (by simpa[nrf]using hx) e1) (q1m (by simpa[nrf]using hy) e2) (by omega) (by rw[q4d];omega) q1 q2 (q4p r1 h1 g1) (q4p r2 h2 g2)
theorem z4j(I:Inv X pins σ H s)(d:Nat)(A:Around)(x y:PV)(x' y':V)(v u:Value)(hx:nrf x=true)(hy:nrf y=true)(hd:∀xs ys,x=.tup xs->y=.tup ys->dep x<=d)(hu:A.units+d<cLine)(rx:RV X.K H φ x x')(ry:RV X.K H φ y y')(qx:RelV x' v)(qy:RelV y' u):SeqAt.RcNeAt A s v u (!eqB x y):=by
 cases x with
 |non=>
  cases rx
  cases qx
  cases y with
  |non=>cases ry;cases qy;exact .none_none
  |bl b=>cases ry;cases qy;exact .none_bool b
  |int b=>cases ry;obtain⟨t',rfl⟩:=qy;exact .none_int b t'
  |str b=>cases ry;obtain⟨t',rfl⟩:=qy;exact .none_str b t'
  |tup ys=>obtain⟨b,ws,rfl,sb,rb⟩:=ry;cases qy;obtain⟨_,_,p,_⟩:=I.tuple sb;exact .none_tuple  p (by omega)
  |ty _=>simp[nrf]at hy
  |frl _=>simp[nrf]at hy
  |ref _=>simp[nrf]at hy
  |exc _=>simp[nrf]at hy
 |bl a=>
  cases rx
  cases qx
  cases y with
  |non=>cases ry;cases qy;exact .bool_none a
  |bl b=>cases ry;cases qy;exact .bool_bool a b
  |int b=>cases ry;obtain⟨t',rfl⟩:=qy;exact .bool_int a b t'
  |str b=>cases ry;obtain⟨t',rfl⟩:=qy;exact .bool_str a b t'
  |tup ys=>obtain⟨b,ws,rfl,sb,rb⟩:=ry;cases qy;obtain⟨_,_,p,_⟩:=I.tuple sb;exact .bool_tuple a p (by omega)
  |ty _=>simp[nrf]at hy
  |frl _=>simp[nrf]at hy
  |ref _=>simp[nrf]at hy
  |exc _=>simp[nrf]at hy
 |int a=>
  cases rx
  obtain⟨t,rfl⟩:=qx
  cases y with
  |non=>cases ry;cases qy;exact .int_none a t
  |bl b=>cases ry;cases qy;exact .int_bool a t b
  |int b=>cases ry;obtain⟨t',rfl⟩:=qy;exact .int_int a t b t'
  |str b=>cases ry;obtain⟨t',rfl⟩:=qy;exact .int_str a t b t'
  |tup ys=>obtain⟨b,ws,rfl,sb,rb⟩:=ry;cases qy;obtain⟨_,_,p,_⟩:=I.tuple sb;exact .int_tuple a t p (by omega)
  |ty _=>simp[nrf]at hy
  |frl _=>simp[nrf]at hy
  |ref _=>simp[nrf]at hy
  |exc _=>simp[nrf]at hy
 |str a=>
  cases rx
  obtain⟨t,rfl⟩:=qx
  cases y with
  |non=>cases ry;cases qy;exact .str_none a t
  |bl b=>cases ry;cases qy;exact .str_bool a t b
  |int b=>cases ry;obtain⟨t',rfl⟩:=qy;exact .str_int a t b t'
  |str b=>cases ry;obtain⟨t',rfl⟩:=qy;exact .str_str a t b t'
  |tup ys=>obtain⟨b,ws,rfl,sb,rb⟩:=ry;cases qy;obtain⟨_,_,p,_⟩:=I.tuple sb;exact .str_tuple a t p (by omega)
  |ty _=>simp[nrf]at hy
  |frl _=>simp[nrf]at hy
  |ref _=>simp[nrf]at hy
  |exc _=>simp[nrf]at hy
 |ty _=>simp[nrf]at hx
 |frl _=>simp[nrf]at hx
 |ref _=>simp[nrf]at hx
 |exc _=>simp[nrf]at hx
 |tup xs=>
  obtain⟨a,vs,rfl,sa,ra⟩:=id rx
  cases qx
  obtain⟨its,r1,p1,_⟩:=I.tuple sa
  cases y with
  |non=>cases ry;cases qy;exact .tuple_none p1 (by omega)
  |bl b=>cases ry;cases qy;exact .tuple_bool b p1 (by omega)
  |int b=>cases ry;obtain⟨t,rfl⟩:=qy;exact .tuple_int b t p1 (by omega)
  |str b=>cases ry;obtain⟨t,rfl⟩:=qy;exact .tuple_str b t p1 (by omega)
  |ty _=>simp[nrf]at hy
  |frl _=>simp[nrf]at hy
  |ref _=>simp[nrf]at hy
  |exc _=>simp[nrf]at hy
  |tup ys=>
   obtain⟨b,ws,rfl,sb,rb⟩:=id ry
   cases qy
   obtain⟨its2,r2,p2,_⟩:=I.tuple sb
   have e:eqB (.tup xs) (.tup ys)=((List.range (min its.toArray.size its2.toArray.size)).all (fun j=>eqB (xs.getD j .non) (ys.getD j .non))&&its.toArray.size==its2.toArray.size):=by
    simp only[eqB]
    rw[q4s,List.size_toArray,List.size_toArray,<-r1.length,<-r2.length,ra.length,rb.length]
   rw[e]
   have hd':=hd xs ys rfl rfl
   simp only[dep]at hd'
   refine .tuples p1 p2 (by omega) fun j h1 h2=>?_
   have hj1:j<xs.length:=by rw[ra.length,r1.length];simpa using h1
   have hj2:j<ys.length:=by rw[rb.length,r2.length];simpa using h2
   have e1:xs[j]?=some xs[j]:=List.getElem?_eq_getElem hj1
   have e2:ys[j]?=some ys[j]:=List.getElem?_eq_getElem hj2
   obtain⟨v1,g1,q1⟩:=ra.get e1
   obtain⟨v2,g2,q2⟩:=rb.get e2
   rw[getD_some e1,getD_some e2]
   have hdd:=q4n e1
   exact q9b I (d-1) A.in1 _ _ v1 v2 _ _ (q1m (by simpa[nrf]using hx) e1) (q1m (by simpa[nrf]using hy) e2) (by omega) (by rw[q4d];omega) q1 q2 (q4p r1 h1 g1) (q4p r2 h2 g2)
theorem z5d{f:PV->Bool}{e:Value->Bool}:∀{its:List Value}{ys:List PV},its.length=ys.length->(∀(j:Nat) u y,its[j]?=some u->ys[j]?=some y->e u=f y)->its.any e=ys.any f
 |[],[],_,_=>rfl
 |u::its,y::ys,hl,he=>by
  rw[List.any_cons,List.any_cons,he 0 u y rfl rfl,z5d (by simpa using hl) fun j u y h1 h2=>he (j+1) u y (by simpa using h1) (by simpa using h2)]
 |[],_::_,hl,_=>by simp at hl
 |_::_,[],hl,_=>by simp at hl
end
def okEq(x:PV):Prop:=nrf x=true/\dep x<=190
def q3x(xs:List PV):Prop:=nrfs xs=true/\deps xs<=190
def cEqG(neg:Bool):F2:=fun x y S Q=>match x,y with
 |.tup xs,.tup ys=>(okEq (.tup xs)/\okEq (.tup ys))/\Q (.bl (neg ^^ eqBs xs ys)) S
 |.ref m,.ref n=>match q2w S m,q2w S n with
  |some xs,some ys=>(q3x xs/\q3x ys)/\Q (.bl (neg ^^ eqBs xs ys)) S
  |_,_=>False
 |.ref _,_=>False
 |_,.ref _=>False
 |x,y=>(nrf x=true/\nrf y=true)/\Q (.bl (neg ^^ eqB x y)) S
def cEq:F2:=cEqG false
def cNe:F2:=cEqG true
theorem z9u:∀{xs ys:List PV},xs.length≠ys.length->eqBs xs ys=false:=fun {xs ys} h=>by
 cases e:eqBs xs ys with
 |false=>rfl
 |true=>exact absurd (z4v e) h
theorem z9v{xs ys:List PV}(h:xs.length=ys.length):eqBs xs ys=(List.range xs.length).all (fun j=>eqB (xs.getD j .non) (ys.getD j .non)):=by
 rw[q4s,<-h,Nat.min_self];simp
section
variable{X:Cx}
theorem q4z(b:Bool):(false ^^ b)=b:=by cases b<;>rfl
theorem q4y(b:Bool):(true ^^ b)=!b:=by cases b<;>rfl
theorem q6a{pins:List (Addr×Obj)}{s:Shared}{σ:St}{H:Hp}{φ:List Addr}{S:q0h}{Q0:VC}{Q:VK}{b b':Bool}(I:Inv X pins σ H s)(k:KE X.K φ H Q0 Q)(R:Rel X.K φ S H)(q:Q0 (.bl b) S)(e:b=b'):EP X pins σ Q (.bool b') s:=by
 subst e
 exact⟨.bl b,H,I,rfl,k _ S φ H _ q (List.prefix_refl _) (.refl _) R rfl⟩
theorem z9n{x y:PV}(h:∀xs ys,x=.tup xs->y=.tup ys->False)(d:Nat):∀xs ys,x=.tup xs->y=.tup ys->dep x<=d:=fun xs ys a b=>(h xs ys a b).elim
theorem q1j(hu:X.A.units+200<cLine):OpR X (compareOp .Eq) (q3g X.K cEq):=by
 rintro pins s σ H x y v u Q I rx ry ⟨φ,S,px,py,Q0,R,hx,hy,h,k⟩
 unfold cEq cEqG at h
 split at h
 ·rename_i xs ys
  obtain⟨⟨o1,o2⟩,h⟩:=h
  rw[q4z]at h
  exact y4e I 190 X.A _ _ x y v u o1.1 o2.1 (fun _ _ _ _=>o1.2) (by omega) hx hy rx ry X.prog X.w X.xe _ (q6a I k R h (by simp only[eqB]))
 ·rename_i m n
  split at h
  ·rename_i xs ys e1 e2
   obtain⟨⟨o1,o2⟩,h⟩:=h
   rw[q4z]at h
   obtain⟨a,rfl,qa⟩:=hx
   obtain⟨b,rfl,qb⟩:=hy
   obtain⟨vs,sa,ra⟩:=R.seq qa e1
   obtain⟨ws,sb,rb⟩:=R.seq qb e2
   cases rx
   cases ry
   obtain⟨its,r1,p1,_⟩:=I.list sa
   obtain⟨its2,r2,p2,_⟩:=I.list sb
   by_cases hl:xs.length=ys.length
   ·rw[z9v hl]at h
    have hz:its.toArray.size=its2.toArray.size:=by rw[List.size_toArray,List.size_toArray,<-r1.length,<-r2.length,<-ra.length,<-rb.length,hl]
    refine SeqAt.eq_listAt (e:=fun j=>eqB (xs.getD j .non) (ys.getD j .non)) p1.isList p2.isList hz (by omega) (fun j h1 h2=>?_) (q6a I k R h (by rw[List.size_toArray,<-r1.length,<-ra.length]))
    have hj1:j<xs.length:=by rw[ra.length,r1.length];simpa using h1
    have hj2:j<ys.length:=by omega
    have e1:xs[j]?=some xs[j]:=List.getElem?_eq_getElem hj1
    have e2:ys[j]?=some ys[j]:=List.getElem?_eq_getElem hj2
    obtain⟨v1,g1,q1⟩:=ra.get e1
    obtain⟨v2,g2,q2⟩:=rb.get e2
    rw[getD_some e1,getD_some e2]
    have hdd:=q4n e1
    have:=o1.2
    exact q9b I 190 X.A.in1 _ _ v1 v2 _ _ (q1m o1.1 e1) (q1m o2.1 e2) (by omega) (by rw[q4d];omega) q1 q2 (q4p r1 h1 g1) (q4p r2 h2 g2)
   ·rw[z9u hl]at h
    have hz:(its.toArray.size != its2.toArray.size)=true:=by rw[List.size_toArray,List.size_toArray,<-r1.length,<-r2.length,<-ra.length,<-rb.length];simpa using hl
    exact SeqAt.eq_list_lengthsAt p1.isList p2.isList hz (by omega) (q6a I k R h rfl)
  ·exact h.elim
 ·exact h.elim
 ·exact h.elim
 ·rename_i h1 h2 h3 h4
  obtain⟨⟨o1,o2⟩,h⟩:=h
  rw[q4z]at h
  exact y4e I 0 X.A _ _ x y v u o1 o2 (z9n (by assumption) _) (by omega) hx hy rx ry X.prog X.w X.xe _ (q6a I k R h rfl)
theorem q7o(hu:X.A.units+200<cLine):OpR X (compareOp .NotEq) (q3g X.K cNe):=by
 rintro pins s σ H x y v u Q I rx ry ⟨φ,S,px,py,Q0,R,hx,hy,h,k⟩
 unfold cNe cEqG at h
 split at h
 ·rename_i xs ys
  obtain⟨⟨o1,o2⟩,h⟩:=h
  rw[q4y]at h
  exact z4j I 190 X.A _ _ x y v u o1.1 o2.1 (fun _ _ _ _=>o1.2) (by omega) hx hy rx ry X.prog X.w X.xe _ (q6a I k R h (by simp only[eqB]))
 ·rename_i m n
  split at h
  ·rename_i xs ys e1 e2
   obtain⟨⟨o1,o2⟩,h⟩:=h
   rw[q4y]at h
   obtain⟨a,rfl,qa⟩:=hx
   obtain⟨b,rfl,qb⟩:=hy
   obtain⟨vs,sa,ra⟩:=R.seq qa e1
   obtain⟨ws,sb,rb⟩:=R.seq qb e2
   cases rx
   cases ry
   obtain⟨its,r1,p1,_⟩:=I.list sa
   obtain⟨its2,r2,p2,_⟩:=I.list sb
   by_cases hl:xs.length=ys.length
   ·rw[z9v hl]at h
    have hz:its.toArray.size=its2.toArray.size:=by rw[List.size_toArray,List.size_toArray,<-r1.length,<-r2.length,<-ra.length,<-rb.length,hl]
    refine SeqAt.RcNeAt.lists (e:=fun j=>eqB (xs.getD j .non) (ys.getD j .non)) p1.isList p2.isList hz (by omega) (fun j h1 h2=>?_) X.prog X.w X.xe _ (q6a I k R h (by rw[List.size_toArray,<-r1.length,<-ra.length]))
    have hj1:j<xs.length:=by rw[ra.length,r1.length];simpa using h1
    have hj2:j<ys.length:=by omega
    have e1:xs[j]?=some xs[j]:=List.getElem?_eq_getElem hj1
    have e2:ys[j]?=some ys[j]:=List.getElem?_eq_getElem hj2
    obtain⟨v1,g1,q1⟩:=ra.get e1
    obtain⟨v2,g2,q2⟩:=rb.get e2
    rw[getD_some e1,getD_some e2]
    have hdd:=q4n e1
    have:=o1.2
    exact q9b I 190 X.A.in1 _ _ v1 v2 _ _ (q1m o1.1 e1) (q1m o2.1 e2) (by omega) (by rw[q4d];omega) q1 q2 (q4p r1 h1 g1) (q4p r2 h2 g2)
   ·rw[z9u hl]at h
    have hz:(its.toArray.size != its2.toArray.size)=true:=by rw[List.size_toArray,List.size_toArray,<-r1.length,<-r2.length,<-ra.length,<-rb.length];simpa using hl
    exact SeqAt.RcNeAt.lists_lengths p1.isList p2.isList hz (by omega) X.prog X.w X.xe _ (q6a I k R h rfl)
  ·exact h.elim
 ·exact h.elim
 ·exact h.elim
 ·rename_i h1 h2 h3 h4
  obtain⟨⟨o1,o2⟩,h⟩:=h
  rw[q4y]at h
  exact z4j I 0 X.A _ _ x y v u o1 o2 (z9n (by assumption) _) (by omega) hx hy rx ry X.prog X.w X.xe _ (q6a I k R h rfl)
def inS(i j:Str):Bool:=!(Builtin.Str.occurrences j i 0 j.length 1).isEmpty
def cInG(neg:Bool):F2:=fun x y S Q=>match x,y with
 |.str i,.str j=>Q (.bl (neg ^^ inS i j)) S
 |x,.tup ys=>(okEq x/\q3x ys)/\Q (.bl (neg ^^ ys.any fun y=>eqB y x)) S
 |x,.ref n=>match q2w S n with
  |some ys=>(okEq x/\q3x ys)/\Q (.bl (neg ^^ ys.any fun y=>eqB y x)) S
  |none=>False
 |_,_=>False
def cIn:F2:=cInG false
def q4o:F2:=cInG true
open Classical in
theorem q7d{pins:List (Addr×Obj)}{s:Shared}{σ:St}{H:Hp}{φ:List Addr}(hu:X.A.units+200<cLine)(I:Inv X pins σ H s){x:PV}{x':V}{v:Value}{ys:List PV}{vs:List V}{its:List Value}(ox:okEq x)(oy:q3x ys)(rx:RV X.K H φ x x')(qx:RelV x' v)(ry:RVs X.K H φ ys vs)(r:Vals vs its) :
  ∃e:Value->Bool,(∀u,u∈its.toArray->SeqAt.EqAt X.A.in1 s u v (e u))/\its.toArray.any e=ys.any fun y=>eqB y x:=by
 have key:∀(j:Nat) u y,its[j]?=some u->ys[j]?=some y->∃y',RV X.K H φ y y'/\RelV y' u:=fun j u y h1 h2=>by
  obtain⟨y',g,q⟩:=ry.get h2
  obtain⟨u',g',q'⟩:=r.get g
  rw[h1]at g'
  cases g'
  exact⟨y',q,q'⟩
 refine⟨fun u=>decide (∃(j:Nat)(y:PV),its[j]?=some u/\ys[j]?=some y/\eqB y x=true),?_,?_⟩
 ·intro u hu'
  have hm:u∈its:=by simpa using hu'
  obtain⟨j,hj,e⟩:=List.mem_iff_getElem.mp hm
  have hjy:j<ys.length:=by rw[ry.length,r.length];exact hj
  have e1:its[j]?=some u:=by rw[List.getElem?_eq_getElem hj,e]
  have e2:ys[j]?=some ys[j]:=List.getElem?_eq_getElem hjy
  obtain⟨y',q,q'⟩:=key j u _ e1 e2
  have hdd:=q4n e2
  have o2:=oy.2
  have base:=q9b I 190 X.A.in1 _ x y' x' u v (q1m oy.1 e2) ox.1 (by omega) (by rw[q4d];omega) q rx q' qx
  have:decide (∃(j:Nat)(y:PV),its[j]?=some u/\ys[j]?=some y/\eqB y x=true)=eqB ys[j] x:=by
   cases hb:eqB ys[j] x with
   |true=>exact decide_eq_true ⟨j,_,e1,e2,hb⟩
   |false=>
    refine decide_eq_false ?_
    rintro⟨i,y,h1,h2,h3⟩
    obtain⟨y2,g,g'⟩:=key i u y h1 h2
    have:=g'.inj q'
    subst this
    have:=RV.inj I _ _ _ (q1m oy.1 h2) (q1m oy.1 e2) g q
    rw[this,hb]at h3
    cases h3
  dsimp only
  rw[this]
  exact base
 ·rw[List.any_toArray]
  refine z5d (by rw[<-r.length,ry.length]) fun j u y h1 h2=>?_
  obtain⟨y',q,q'⟩:=key j u y h1 h2
  cases hb:eqB y x with
  |true=>exact decide_eq_true ⟨j,_,h1,h2,hb⟩
  |false=>
   refine decide_eq_false ?_
   rintro⟨i,z,g1,g2,g3⟩
   obtain⟨y2,g,g'⟩:=key i u z g1 g2
   have:=g'.inj q'
   subst this
   have:=RV.inj I _ _ _ (q1m oy.1 g2) (q1m oy.1 h2) g q
   rw[this,hb]at g3
   cases g3
theorem z8f(hu:X.A.units+200<cLine):OpR X (compareOp .In) (q3g X.K cIn):=by
 rintro pins s σ H x y v u Q I rx ry ⟨φ,S,px,py,Q0,R,hx,hy,h,k⟩
 unfold cIn cInG at h
 split at h
 ·rename_i i j
  rw[q4z]at h
  exact z8h pins s σ H x y v u Q I rx ry ⟨i,j,hx,hy,k _ S φ H _ h (List.prefix_refl _) (.refl _) R rfl⟩
 ·rename_i ys _
  obtain⟨⟨o1,o2⟩,h⟩:=h
  rw[q4z]at h
  obtain⟨a,vs,rfl,sa,ra⟩:=hy
  cases ry
  obtain⟨its,r1,p1,_⟩:=I.tuple sa
  obtain⟨e,h1,h2⟩:=q7d hu I o1 o2 hx rx ra r1
  exact SeqAt.in_tupleAt e p1 h1 (q6a I k R h (by rw[h2]))
 ·rename_i n _
  split at h
  ·rename_i ys es
   obtain⟨⟨o1,o2⟩,h⟩:=h
   rw[q4z]at h
   obtain⟨a,rfl,qa⟩:=hy
   cases ry
   obtain⟨vs,sa,ra⟩:=R.seq qa es
   obtain⟨its,r1,p1,_⟩:=I.list sa
   obtain⟨e,h1,h2⟩:=q7d hu I o1 o2 hx rx ra r1
   exact SeqAt.in_listAt e p1.isList h1 (q6a I k R h (by rw[h2]))
  ·exact h.elim
 ·exact h.elim
theorem q4a(hu:X.A.units+200<cLine):OpR X (compareOp .NotIn) (q3g X.K q4o):=by
 rintro pins s σ H x y v u Q I rx ry ⟨φ,S,px,py,Q0,R,hx,hy,h,k⟩
 unfold q4o cInG at h
 split at h
 ·rename_i i j
  rw[q4y]at h
  exact z1e pins s σ H x y v u Q I rx ry ⟨i,j,hx,hy,k _ S φ H _ h (List.prefix_refl _) (.refl _) R rfl⟩
 ·rename_i ys _
  obtain⟨⟨o1,o2⟩,h⟩:=h
  rw[q4y]at h
  obtain⟨a,vs,rfl,sa,ra⟩:=hy
  cases ry
  obtain⟨its,r1,p1,_⟩:=I.tuple sa
  obtain⟨e,h1,h2⟩:=q7d hu I o1 o2 hx rx ra r1
  exact SeqAt.notIn_tupleAt e p1 h1 (q6a I k R h (by rw[h2]))
 ·rename_i n _
  split at h
  ·rename_i ys es
   obtain⟨⟨o1,o2⟩,h⟩:=h
   rw[q4y]at h
   obtain⟨a,rfl,qa⟩:=hy
   cases ry
   obtain⟨vs,sa,ra⟩:=R.seq qa es
   obtain⟨its,r1,p1,_⟩:=I.list sa
   obtain⟨e,h1,h2⟩:=q7d hu I o1 o2 hx rx ra r1
   exact SeqAt.notIn_listAt e p1.isList h1 (q6a I k R h (by rw[h2]))
  ·exact h.elim
 ·exact h.elim
def y2w:PV->Bool
 |.non=>true
 |_=>false
def cIs:F2:=fun x y S Q=>match y with
 |.non=>Q (.bl (y2w x)) S
 |_=>False
def z5a:F2:=fun x y S Q=>match x,y with
 |x,.non=>Q (.bl (!y2w x)) S
 |.bl a,.bl b=>Q (.bl (!decide (a=b))) S
 |_,_=>False
theorem z2a{K:Frag}{H:Hp}{φ:List Addr}{x:PV}{x':V}(r:RV K H φ x x'):decide (x'=.non)=y2w x:=by
 cases x with
 |non=>cases r;rfl
 |bl b=>cases r;exact decide_eq_false (fun z=>nomatch z)
 |int b=>cases r;exact decide_eq_false (fun z=>nomatch z)
 |str b=>cases r;exact decide_eq_false (fun z=>nomatch z)
 |ty b=>cases r;exact decide_eq_false (fun z=>nomatch z)
 |tup b=>obtain⟨a,vs,rfl,_⟩:=r;exact decide_eq_false (fun z=>nomatch z)
 |frl b=>obtain⟨a,vs,rfl,_⟩:=r;exact decide_eq_false (fun z=>nomatch z)
 |ref b=>obtain⟨a,rfl,_⟩:=r;exact decide_eq_false (fun z=>nomatch z)
 |exc b=>obtain⟨a,rfl,_⟩:=r;exact decide_eq_false (fun z=>nomatch z)
theorem x0h:OpR X (compareOp .Is) (q3g X.K cIs):=by
 rintro pins s σ H x y v u Q I rx ry ⟨φ,S,px,py,Q0,R,hx,hy,h,k⟩
 unfold cIs at h
 split at h
 ·exact x0o pins s σ H x y v u Q I rx ry ⟨hy,k _ S φ H _ h (List.prefix_refl _) (.refl _) R (by rw[z2a hx];rfl)⟩
 ·exact h.elim
theorem z8e:OpR X (compareOp .IsNot) (q3g X.K z5a):=by
 rintro pins s σ H x y v u Q I rx ry ⟨φ,S,px,py,Q0,R,hx,hy,h,k⟩
 unfold z5a at h
 split at h
 ·exact y6s pins s σ H x y v u Q I rx ry ⟨hy,k _ S φ H _ h (List.prefix_refl _) (.refl _) R (by rw[z2a hx];rfl)⟩
 ·exact z8g pins s σ H x y v u Q I rx ry ⟨_,_,hx,hy,k _ S φ H _ h (List.prefix_refl _) (.refl _) R rfl⟩
 ·exact h.elim
end
theorem z3y{K:Frag}{H:Hp}{φ:List Addr}{xs:List PV}{vs:List V}{i:Int}{v:PV}(r:RVs K H φ xs vs)(e:atI xs i=some v):∃x,atI vs i=some x/\RV K H φ v x:=by
 unfold atI at e ⊢
 rw[<-r.length]
 cases h:ixN xs.length i with
 |none=>rw[h]at e;cases e
 |some j=>
  rw[h]at e
  obtain⟨x,h1,h2⟩:=r.get (i:=j) e
  exact⟨x,h1,h2⟩
def valP(kvs:List (Key×PV))(k:Key):Option PV:=(kvs.find? fun kv=>decide (kv.1=k)).map (·.2)
def putP(kvs:List (Key×PV))(k:Key)(v:PV):List (Key×PV):=
 if kvs.any (fun kv=>decide (kv.1=k))then kvs.map fun kv=>if kv.1=k then(kv.1,v)else kv else kvs++[(k,v)]
def z0a:PV->Option Key
 |.int i=>some (.inl i)
 |.str x=>some (.inr x)
 |_=>none
theorem q9z{K:Frag}{H:Hp}{φ:List Addr}{y:PV}{y':V}{k:Key}(r:RV K H φ y y')(e:z0a y=some k):y'=kV k:=by
 cases y with
 |int i=>cases e;exact r
 |str i=>cases e;exact r
 |_=>cases e
theorem RKs.val{K:Frag}{H:Hp}{φ:List Addr}{xs:List (Key×PV)}{ys:List (Key×V)}(h:RKs K H φ xs ys)(k:Key):(∀v,valP xs k=some v->∃x,valV ys k=some x/\RV K H φ v x)/\(valP xs k=none->valV ys k=none):=by
 unfold RKs at h
 induction h with
 |nil=>exact⟨fun v e=>by simp[valP]at e,fun _=>rfl⟩
 |@cons p q ps qs hd t ih=>
  by_cases e:p.1=k
  ·have e1:valP (p::ps) k=some p.2:=by simp[valP,List.find?_cons,e]
   rw[e1,q6x (hd.1.symm.trans e)]
   exact⟨fun v z=>by cases z;exact⟨_,rfl,hd.2⟩,fun z=>by cases z⟩
  ·have e1:valP (p::ps) k=valP ps k:=by simp[valP,List.find?_cons,e]
   rw[e1,q6y (fun z=>e (hd.1.trans z))]
   exact ih
theorem RKs.any{K:Frag}{H:Hp}{φ:List Addr}{xs:List (Key×PV)}{ys:List (Key×V)}(h:RKs K H φ xs ys)(k:Key):(xs.any fun kv=>decide (kv.1=k))=ys.any fun kv=>decide (kv.1=k):=by
 unfold RKs at h
 induction h with
 |nil=>rfl
 |@cons p q ps qs hd t ih=>rw[List.any_cons,List.any_cons,ih,hd.1]
theorem RKs.repl{K:Frag}{H:Hp}{φ:List Addr}{xs:List (Key×PV)}{ys:List (Key×V)}(h:RKs K H φ xs ys)(k:Key){v:PV}{x:V}(r:RV K H φ v x):RKs K H φ (xs.map fun kv=>if kv.1=k then(kv.1,v)else kv) (ys.map fun kv=>if kv.1=k then(kv.1,x)else kv):=by
 unfold RKs at h ⊢
 induction h with
 |nil=>exact .nil
 |@cons p q ps qs hd t ih=>
  rw[List.map_cons,List.map_cons]
  refine .cons ?_ ih
  by_cases e:p.1=k
  ·rw[if_pos e,if_pos (hd.1.symm.trans e)]
   exact⟨hd.1,r⟩
  ·rw[if_neg e,if_neg (fun z=>e (hd.1.trans z))]
   exact hd
theorem RKs.snoc{K:Frag}{H:Hp}{φ:List Addr}{xs:List (Key×PV)}{ys:List (Key×V)}(h:RKs K H φ xs ys)(k:Key){v:PV}{x:V}(r:RV K H φ v x):RKs K H φ (xs++[(k,v)]) (ys++[(k,x)]):=by
 unfold RKs at h ⊢
 induction h with
 |nil=>exact .cons ⟨rfl,r⟩ .nil
 |cons hd t ih=>exact .cons hd ih
theorem RKs.put{K:Frag}{H:Hp}{φ:List Addr}{xs:List (Key×PV)}{ys:List (Key×V)}(h:RKs K H φ xs ys)(k:Key){v:PV}{x:V}(r:RV K H φ v x):RKs K H φ (putP xs k v) (putK ys k x):=by
 unfold putP putK
 rw[h.any]
 split
 ·exact h.repl k r
 ·exact h.snoc k r
theorem RKs.length{K:Frag}{H:Hp}{φ:List Addr}{xs:List (Key×PV)}{ys:List (Key×V)}(h:RKs K H φ xs ys):xs.length=ys.length:=Paired.length h
def bIx:F2:=fun x y S Q=>match x,y with
 |.tup xs,.int i=>match atI xs i with
  |some v=>Q v S
  |none=>False
 |.str z,.int i=>z.length<=sizeLine/\match atI z.cps.toList i with
  |some c=>Q (.str ⟨#[c]⟩) S
  |none=>False
 |.frl xs,.int i=>match atI xs i with
  |some v=>Q v S
  |none=>False
 |.ref n,y=>match S[n]? with
  |some (.lst xs)=>match y with
   |.int i=>match atI xs i with
    |some v=>Q v S
    |none=>False
   |_=>False
  |some (.dK kvs)=>match z0a y with
   |some k=>match valP kvs k with
    |some v=>Q v S
    |none=>False
   |none=>False
  |_=>False
 |_,_=>False
theorem y7h{X:Cx}(hu:X.A.units+200<cLine):IxR X (fun x y H Q=>∃a v,x=.ref a/\DGet H a y (some v)/\Q v H):=by
 intro value slice pins s σ H x y v u Q I rx ry h hs
 obtain⟨a,w,rfl,g,q⟩:=h
 cases rx
 exact PyProof.Rows.tail_any (z3t I g) PySem.F.slot_dict_getitem.lookup (z2e (by omega) I g ry fun w' s3 I3 rw'=>⟨w,H,I3,rw',q⟩) hs
section
variable{X:Cx}{G:GX}{pos:Pos}
theorem y7g(hu:X.A.units+200<cLine):IxR X (q3g X.K bIx):=by
 rintro value slice pins s σ H x y v u Q I rx ry ⟨φ,S,px,py,Q0,R,hx,hy,h,k⟩ hs
 unfold bIx at h
 split at h
 ·rename_i xs i
  split at h
  ·rename_i w e
   obtain⟨a,vs,rfl,sa,ra⟩:=hx
   cases hy
   obtain⟨w',e',r'⟩:=z3y ra e
   exact x1p value slice pins s σ H _ _ v u Q I rx ry ⟨a,vs,i,w',rfl,rfl,sa,e',k _ S φ H _ h (List.prefix_refl _) (.refl _) R r'⟩ hs
  ·exact h.elim
 ·rename_i z i
  obtain⟨hz,h⟩:=h
  split at h
  ·rename_i c e
   cases hx
   cases hy
   exact x1q value slice pins s σ H _ _ v u Q I rx ry ⟨z,i,c,rfl,rfl,hz,e,k _ S φ H _ h (List.prefix_refl _) (.refl _) R rfl⟩ hs
  ·exact h.elim
 ·rename_i xs i
  split at h
  ·rename_i w e
   obtain⟨a,vs,rfl,sa,ra⟩:=hx
   cases hy
   obtain⟨w',e',r'⟩:=z3y ra e
   exact z9e value slice pins s σ H _ _ v u Q I rx ry ⟨a,vs,i,w',rfl,rfl,sa.sq,e',k _ S φ H _ h (List.prefix_refl _) (.refl _) R r'⟩ hs
  ·exact h.elim
 ·rename_i n
  obtain⟨a,rfl,qa⟩:=hx
  split at h
  ·rename_i xs es
   split at h
   ·rename_i i
    split at h
    ·rename_i w e
     cases hy
     obtain⟨vs,sa,ra⟩:=R.obj n a _ qa es
     obtain⟨w',e',r'⟩:=z3y ra e
     exact z9e value slice pins s σ H _ _ v u Q I rx ry ⟨a,vs,i,w',rfl,rfl,SqL.of sa,e',k _ S φ H _ h (List.prefix_refl _) (.refl _) R r'⟩ hs
    ·exact h.elim
   ·exact h.elim
  ·rename_i kvs es
   split at h
   ·rename_i kk ek
    split at h
    ·rename_i w e
     have hk:=q9z hy ek
     subst hk
     obtain⟨ws,sa,ra⟩:=R.obj n a _ qa es
     obtain⟨w',e',r'⟩:=(ra.val kk).1 w e
     refine y7h hu value slice pins s σ H _ _ v u Q I rx ry ⟨a,w',rfl,?_,k _ S φ H _ h (List.prefix_refl _) (.refl _) R r'⟩ hs
     rw[<-e']
     exact DGet.k sa
    ·exact h.elim
   ·exact h.elim
  ·exact h.elim
 ·exact h.elim
variable{a b:Expr}{wa wb:WE}
theorem q0i(hu:X.A.units+200<cLine)(ha:SimE X G a wa)(hb:SimE X G b wb)(hs:z4a b:=by exact fun _ _=>rfl):SimE X G (.Subscript a b pos) (wBin bIx wa wb):=(x0b (y7g hu) ha hb hs).imp fun _ _ _ h=>q5y h
def cutP{α:Type}(xs:List α)(lo hi:Option Int):List α:=(xs.drop (HT.sIx xs.length 0 lo)).take (HT.sIx xs.length xs.length hi-HT.sIx xs.length 0 lo)
theorem z3v{K:Frag}{H:Hp}{φ:List Addr}{xs:List PV}{vs:List V}(lo hi:Option Int)(r:RVs K H φ xs vs):RVs K H φ (cutP xs lo hi) (cutV vs lo hi):=by
 unfold cutP cutV
 rw[<-r.length]
 exact(r.drop _).take _
abbrev F3:=PV->Option Int->Option Int->q0h->VC->Prop
def bSl:F3:=fun x lo hi S Q=>match x with
 |.str z=>z.length<=sizeLine/\Q (.str (Txt.slice z lo hi)) S
 |.tup xs=>¬(HT.sIx xs.length 0 lo=0/\HT.sIx xs.length xs.length hi=xs.length)/\Q (.tup (cutP xs lo hi)) S
 |.frl xs=>Q (.ref S.length) (S++[.lst (cutP xs lo hi)])
 |.ref n=>match q2w S n with
  |some xs=>Q (.ref S.length) (S++[.lst (cutP xs lo hi)])
  |none=>False
 |_=>False
def x1c(K:Frag)(f:F3):V->Option Int->Option Int->Hp->VK->Prop:=fun x' lo hi H Q=>∃φ S x Q0,Rel K φ S H/\RV K H φ x x'/\f x lo hi S Q0/\KE K φ H Q0 Q
theorem sls:SlR X (x1c X.K bSl):=by
 rintro pins s σ H x v vl vu lo hi sl Q I rx hs pl pu ⟨φ,S,px,Q0,R,hx,h,k⟩
 unfold bSl at h
 split at h
 ·rename_i z
  cases hx
  exact y8v pins s σ H _ v vl vu lo hi sl Q I rx hs pl pu ⟨z,rfl,h.1,k _ S φ H _ h.2 (List.prefix_refl _) (.refl _) R rfl⟩
 ·rename_i xs
  obtain⟨a,vs,rfl,sa,ra⟩:=hx
  exact y8u pins s σ H _ v vl vu lo hi sl Q I rx hs pl pu ⟨a,vs,rfl,sa,by rw[<-ra.length];exact h.1,k.tup h.2 R (z3v lo hi ra)⟩
 ·rename_i xs
  obtain⟨a,vs,rfl,sa,ra⟩:=hx
  exact z7g pins s σ H _ v vl vu lo hi sl Q I rx hs pl pu ⟨a,vs,rfl,sa.sq,k.lst h R (z3v lo hi ra)⟩
 ·rename_i n
  split at h
  ·rename_i xs es
   obtain⟨a,rfl,qa⟩:=hx
   obtain⟨vs,sa,ra⟩:=R.seq qa es
   exact z7g pins s σ H _ v vl vu lo hi sl Q I rx hs pl pu ⟨a,vs,rfl,sa,k.lst h R (z3v lo hi ra)⟩
  ·exact h.elim
 ·exact h.elim
abbrev WO:=Loc->q0h->EK->(Option Int->q0h->Prop)->Prop
def KO(K:Frag)(φ:List Addr)(H:Hp)(Q0:Option Int->q0h->Prop)(Q:Option Int->Hp->Prop):Prop:=∀v S' φ' H',Q0 v S'->φ <+: φ'->Mono H H'->Rel K φ' S' H'->Q v H'
def x4a(K:Frag)(G:GX)(w:WO):TO:=fun σV H Q=>∃φ σ S Q0,LRel K G H φ σ σV/\Rel K φ S H/\w σ S G.ek Q0/\KO K φ H Q0 Q
def SimO(X:Cx)(G:GX)(e:Option Expr)(w:WO):Prop:=PO X e (x4a X.K G w)
theorem PO.imp{e:Option Expr}{t t':TO}(h:PO X e t)(i:∀σ H Q,t' σ H Q->t σ H Q):PO X e t':=fun pins s σ H Q I q=>h pins s σ H Q I (i σ H Q q)
def q3n:WO:=fun _ S _ Q=>Q none S
def q6t(w:WE):WO:=fun σ S E Q=>w σ S E fun x S1=>match x with
 |.int i=>Q (some i) S1
 |_=>False
theorem q3f:SimO X G none q3n:=PO.imp y6g fun σV H Q hh1=>by obtain⟨φ,σ,S,Q0,L,R,h,k⟩:=hh1;exact(k none S φ H h (List.prefix_refl _) (.refl _) R)
theorem q3e{e:Expr}{w:WE}(h:SimE X G e w):SimO X G (some e) (q6t w):=
 PO.imp (z7t h) fun σV H Q hh1=>by obtain⟨φ,σ,S,Q0,L,R,h,k⟩:=hh1;exact(⟨φ,σ,S,_,L,R,h,fun v S1 φ1 H1 x q p1 m1 R1 r1=>by
  cases v with
  |int i=>exact ⟨i,r1,k _ S1 φ1 H1 q p1 m1 R1⟩
  |_=>exact q.elim⟩)
def wSl(w:WE)(wl wh:WO):WE:=fun σ S E Q=>w σ S E fun x S1=>wl σ S1 E fun lo S2=>wh σ S2 E fun hi S3=>bSl x lo hi S3 Q
theorem q3d{e:Expr}{w:WE}{lo hi:Option Expr}{wl wh:WO}{p2:Pos}(he:SimE X G e w)(hl:SimO X G lo wl)(hh:SimO X G hi wh):SimE X G (.Subscript e (.Slice lo hi none p2) pos) (wSl w wl wh):=
 (y1y sls he hl hh).imp fun σV H Q hh1=>by obtain⟨φ,σ,S,Q0,L,R,h,k⟩:=hh1;exact(⟨φ,σ,S,_,L,R,h,fun v S1 φ1 H1 x q p1 m1 R1 r1=>
  ⟨φ1,σ,S1,_,L.mono m1 p1,R1,q,fun l S2 φ2 H2 q2 p2 m2 R2=>
   ⟨φ2,σ,S2,_,(L.mono m1 p1).mono m2 p2,R2,q2,fun u S3 φ3 H3 q3 p3 m3 R3=>
    ⟨φ3,S3,v,Q0,R3,RV.mono m3 p3 _ _ (RV.mono m2 p2 _ _ r1),q3,k.up ((p1.trans p2).trans p3) ((m1.trans m2).trans m3)⟩⟩⟩⟩)
abbrev FL:=List PV->q0h->VC->Prop
def q8h(K:Frag)(f:FL):List V->Hp->VK->Prop:=fun xs' H Q=>∃φ S xs Q0,Rel K φ S H/\RVs K H φ xs xs'/\f xs S Q0/\KE K φ H Q0 Q
def wCB(f:FL)(wa:WA):WE:=fun σ S E Q=>wa σ S E fun xs S1=>f xs S1 Q
theorem z8u{f:FL}{wa:WA}{σV:St}{H:Hp}{Q:VK}(h:q5e X.K G (wCB f wa) σV H Q):tCB (q8h X.K f) (x1f X.K G wa) σV H Q:=by
 obtain⟨φ,σ,S,Q0,L,R,h,k⟩:=h
 exact⟨φ,σ,S,_,L,R,h,fun v S1 φ1 H1 x q p1 m1 R1 r1=>⟨φ1,S1,v,Q0,R1,r1,q,k.up p1 m1⟩⟩
theorem q0n{f:FL}{x:Str}{id:String}{p:Pos}{e:Expr}{es:List Expr}{wa:WA}(hc:q5a X (.builtin id) (q8h X.K f))(hm:X.mg x=none)(hv:bootBuiltins x=some (.builtin id))(ha:SimA X G (e::es) wa)(hg:Gl X x:=by rfl)(hn:x≠ "__name__" :=by decide)(hdb:(x==("__debug__" : Str))=false:=by decide)
  (he:starEach (e::es) X.env=(false,eval e X.env)::starEach es X.env:=by rfl) (hpl:(backTo pos (starEach es X.env)).any (·.1)=false:=by rfl):SimE X G (.Call (.Name x p) (e::es) [] pos) (wCB f wa):=
 (y2a hc hg hm hv ha hn hdb he hpl).imp fun _ _ _ h=>z8u h
theorem q3y{f:FL}{x:Str}{T:String}{p:Pos}{e:Expr}{es:List Expr}{wa:WA}(hc:q5a X (.type T) (q8h X.K f))(hm:X.mg x=none)(hv:bootBuiltins x=some (.type T))(ha:SimA X G (e::es) wa)(hg:Gl X x:=by rfl)(hn:x≠ "__name__" :=by decide)(hdb:(x==("__debug__" : Str))=false:=by decide)
  (he:starEach (e::es) X.env=(false,eval e X.env)::starEach es X.env:=by rfl) (hpl:(backTo pos (starEach es X.env)).any (·.1)=false:=by rfl):SimE X G (.Call (.Name x p) (e::es) [] pos) (wCB f wa):=
 (z7z hc hg hm hv ha hn hdb he hpl).imp fun _ _ _ h=>z8u h
theorem q1x{K:Frag}{H:Hp}{φ:List Addr}{x:PV}{vs:List V}(r:RVs K H φ [x] vs):∃v,vs=[v]/\RV K H φ x v:=by
 obtain⟨y,ys,rfl,r1,r2⟩:=r
 rw[show ys=[]from r2]
 exact⟨y,rfl,r1⟩
theorem q5o{K:Frag}{H:Hp}{φ:List Addr}{x y:PV}{vs:List V}(r:RVs K H φ [x,y] vs):∃v w,vs=[v,w]/\RV K H φ x v/\RV K H φ y w:=by
 obtain⟨a,as,rfl,r1,r2⟩:=r
 obtain⟨b,rfl,r3⟩:=q1x r2
 exact⟨a,b,rfl,r1,r3⟩
def fLen:FL:=fun xs S Q=>match xs with
 |[.str z]=>z.length<=sizeLine/\Q (.int z.length) S
 |[.tup xs]=>Q (.int xs.length) S
 |[.frl xs]=>Q (.int xs.length) S
 |[.ref n]=>match q2w S n with
  |some xs=>Q (.int xs.length) S
  |none=>False
 |_=>False
theorem q0z:q5a X (.builtin "len") (q8h X.K fLen):=by
 rintro pins s σ H xs us Q I r ⟨φ,S,pxs,Q0,R,hx,h,k⟩
 unfold fLen at h
 split at h
 ·rename_i z
  obtain⟨v,rfl,r1⟩:=q1x hx
  cases r1
  exact z2k pins s σ H _ us Q I r ⟨z,rfl,h.1,k _ S φ H _ h.2 (List.prefix_refl _) (.refl _) R rfl⟩
 ·rename_i ys
  obtain⟨v,rfl,a,vs,rfl,sa,ra⟩:=q1x hx
  exact q5g pins s σ H _ us Q I r ⟨a,vs,rfl,.inr sa,k _ S φ H _ h (List.prefix_refl _) (.refl _) R (by rw[<-ra.length];rfl)⟩
 ·rename_i ys
  obtain⟨v,rfl,a,vs,rfl,sa,ra⟩:=q1x hx
  exact q5g pins s σ H _ us Q I r ⟨a,vs,rfl,.inl sa.sq,k _ S φ H _ h (List.prefix_refl _) (.refl _) R (by rw[<-ra.length];rfl)⟩
 ·rename_i n
  split at h
  ·rename_i ys es
   obtain⟨v,rfl,a,rfl,qa⟩:=q1x hx
   obtain⟨vs,sa,ra⟩:=R.seq qa es
   exact q5g pins s σ H _ us Q I r ⟨a,vs,rfl,.inl sa,k _ S φ H _ h (List.prefix_refl _) (.refl _) R (by rw[<-ra.length];rfl)⟩
  ·exact h.elim
 ·exact h.elim
def tyP(x:PV)(S:q0h):Option String:=match x with
 |.non=>some "NoneType"
 |.bl _=>some "bool"
 |.int _=>some "int"
 |.str _=>some "str"
 |.tup _=>some "tuple"
 |.ref n=>match S[n]? with
  |some (.lst _)=>some "list"
  |some (.dK _)=>some "dict"
  |_=>none
 |.frl _=>some "list"
 |.ty _=>none
 |.exc _=>none
def isT(T C:String):Bool:=T==C||(T == "bool"&&C == "int")
def z8z:List String:=["NoneType", "bool", "int", "str", "tuple", "list", "dict"]
def q4r:List String:=["list", "tuple", "str", "int", "bool", "dict"]
theorem z3g(K:Frag):∀T∈z8z,∀C∈q4r,PySem.W.kitOne K (.type T) (.type C)=some (isT T C):=by
 intro T hT C hC
 simp only[z8z,List.mem_cons,List.not_mem_nil,or_false]at hT
 simp only[q4r,List.mem_cons,List.not_mem_nil,or_false]at hC
 rcases hT with rfl|rfl|rfl|rfl|rfl|rfl|rfl<;>rcases hC with rfl|rfl|rfl|rfl|rfl|rfl<;>kernel_rfl
theorem q9i {x : PV} {S : q0h} {T : String} (h : tyP x S = some T) : T ∈ z8z := by
 unfold tyP at h
 split at h
 all_goals first
  | (cases h; simp [z8z])
  | (split at h <;> first | (cases h; simp [z8z]) | cases h)
  | cases h
end
section
variable{X:Cx}{G:GX}{pos:Pos}
theorem y7o{pins:List (Addr×Obj)}{s:Shared}{σ:St}{H:Hp}{φ:List Addr}{S:q0h}{x:PV}{x':V}{u c:Value}{T:String}{b:Bool}{A:Around}{E:Value->Shared->Prop}{Q:Value->Shared->Prop}(I:Inv X pins σ H s)(R:Rel X.K φ S H)(rx:RV X.K H φ x x')(q:RelV x' u)
  (ht:tyP x S=some T) (e:PySem.W.kitOne X.K (.type T) c=some b) (h:∀tk,Q (.bool b) {s with toks:=tk}):wpAny (model X.prog X.w) A (call (.builtin "isinstance") [u,c]) Q E s:=by
 unfold tyP at ht
 split at ht
 ·cases ht;cases rx;cases(show u=Value.none from q);exact PySem.W.kia_one PySem.W.kitx_none I.kIn True.intro e (fun z=>nomatch z) h
 ·rename_i y;cases ht;cases rx;cases(show u=Value.bool y from q);exact PySem.W.kia_one PySem.W.kitx_bool I.kIn True.intro e (fun z=>nomatch z) h
 ·rename_i y;cases ht;cases rx;obtain⟨t,rfl⟩:=(show ∃t,u=Value.int y t from q);exact PySem.W.kia_one PySem.W.kitx_int I.kIn True.intro e (fun z=>nomatch z) h
 ·rename_i y;cases ht;cases rx;obtain⟨t,rfl⟩:=(show ∃t,u=Value.str y t from q);exact PySem.W.kia_one PySem.W.kitx_str I.kIn True.intro e (fun z=>nomatch z) h
 ·cases ht
  obtain⟨a,vs,rfl,sa,ra⟩:=rx
  cases q
  obtain⟨its,_,⟨o,h1,h2,_⟩,_⟩:=I.tuple sa
  exact PySem.W.kia_one PySem.W.kitx_tuple I.kIn ⟨o,h1,h2⟩ e (fun z=>nomatch z) h
 ·rename_i n
  obtain⟨a,rfl,qa⟩:=rx
  cases q
  split at ht
  ·rename_i xs es
   cases ht
   obtain⟨vs,e1,_⟩:=R.obj n a _ qa es
   exact z1y (x:=.ref a) I rfl (TyOf.lst (K:=X.K) e1) e h
  ·rename_i xs es
   cases ht
   obtain⟨vs,e1,_⟩:=R.obj n a _ qa es
   exact z1y (x:=.ref a) I rfl (TyOf.dK (K:=X.K) e1) e h
  ·cases ht
 ·cases ht
  obtain⟨a,vs,rfl,sa,ra⟩:=rx
  cases q
  obtain⟨its,_,p,_⟩:=I.list sa.sq
  obtain⟨o,h1,h2,_⟩:=p.isList
  exact PySem.W.kia_one PySem.W.kitx_list I.kIn ⟨o,h1,h2⟩ e (fun z=>nomatch z) h
 ·cases ht
 ·cases ht
theorem y7n{pins:List (Addr×Obj)}{s:Shared}{σ:St}{H:Hp}{φ:List Addr}{S:q0h}{x:PV}{x':V}{u:Value}{T:String}{p:Addr}{its:List Value}{b:Bool}{A:Around}{E:Value->Shared->Prop}{Q:Value->Shared->Prop}(I:Inv X pins σ H s)(R:Rel X.K φ S H)(rx:RV X.K H φ x x')(q:RelV x' u)
  (ht:tyP x S=some T) (ho:PyProof.Rows.IsTup s.heap p its.toArray) (e:PySem.W.kitAny X.K (.type T) its=some b) (h:∀tk,Q (.bool b) {s with toks:=tk}):wpAny (model X.prog X.w) A (call (.builtin "isinstance") [u,.ref p]) Q E s:=by
 obtain⟨⟨cls,dd,dat,sl⟩,ho,hc,n,hd⟩:=ho
 simp only at hc hd
 subst hc hd
 unfold tyP at ht
 split at ht
 ·cases ht;cases rx;cases(show u=Value.none from q);exact PySem.W.kia_tup PySem.W.kitx_none I.kIn True.intro ho e (fun z=>nomatch z) h
 ·rename_i y;cases ht;cases rx;cases(show u=Value.bool y from q);exact PySem.W.kia_tup PySem.W.kitx_bool I.kIn True.intro ho e (fun z=>nomatch z) h
 ·rename_i y;cases ht;cases rx;obtain⟨t,rfl⟩:=(show ∃t,u=Value.int y t from q);exact PySem.W.kia_tup PySem.W.kitx_int I.kIn True.intro ho e (fun z=>nomatch z) h
 ·rename_i y;cases ht;cases rx;obtain⟨t,rfl⟩:=(show ∃t,u=Value.str y t from q);exact PySem.W.kia_tup PySem.W.kitx_str I.kIn True.intro ho e (fun z=>nomatch z) h
 ·cases ht
  obtain⟨a,vs,rfl,sa,ra⟩:=rx
  cases q
  obtain⟨_,_,⟨o,h1,h2,_⟩,_⟩:=I.tuple sa
  exact PySem.W.kia_tup PySem.W.kitx_tuple I.kIn ⟨o,h1,h2⟩ ho e (fun z=>nomatch z) h
 ·rename_i m
  obtain⟨a,rfl,qa⟩:=rx
  cases q
  split at ht
  ·rename_i xs es
   cases ht
   obtain⟨vs,e1,_⟩:=R.obj m a _ qa es
   obtain⟨_,_,n,_,h1⟩:=(show q2a X.prog X.w H s.heap a (.lst vs)from I.hok a _ e1)
   exact PySem.W.kia_tup PySem.W.kitx_list I.kIn ⟨_,h1,rfl⟩ ho e (fun z=>nomatch z) h
  ·rename_i xs es
   cases ht
   obtain⟨vs,e1,_⟩:=R.obj m a _ qa es
   obtain⟨_,_,_,_,p⟩:=(show q2a X.prog X.w H s.heap a (.dK vs)from I.hok a _ e1)
   obtain⟨o,es,ep,h1,h2,_⟩:=p
   exact PySem.W.kia_tup PySem.W.kitx_dict I.kIn ⟨o,h1,h2.1⟩ ho e (fun z=>nomatch z) h
  ·cases ht
 ·cases ht
  obtain⟨a,vs,rfl,sa,ra⟩:=rx
  cases q
  obtain⟨_,_,p,_⟩:=I.list sa.sq
  obtain⟨o,h1,h2,_⟩:=p.isList
  exact PySem.W.kia_tup PySem.W.kitx_list I.kIn ⟨o,h1,h2⟩ ho e (fun z=>nomatch z) h
 ·cases ht
 ·cases ht
def fIsi:FL:=fun xs S Q=>match xs with
 |[x,.ty D]=>match tyP x S with
  |some T=>D∈q4r/\Q (.bl (isT T D)) S
  |none=>False
 |[x,.tup [.ty D,.ty D']]=>match tyP x S with
  |some T=>(D∈q4r/\D'∈q4r)/\Q (.bl (isT T D||isT T D')) S
  |none=>False
 |_=>False
theorem q2k:q5a X (.builtin "isinstance") (q8h X.K fIsi):=by
 rintro pins s σ H xs us Q I r ⟨φ,S,pxs,Q0,R,hx,h,k⟩
 unfold fIsi at h
 split at h
 ·rename_i x D
  split at h
  ·rename_i T ht
   obtain⟨v,w,rfl,r1,r2⟩:=q5o hx
   cases r2
   obtain⟨u,c,rfl,ru,rc⟩:=y0x r
   cases(show c=Value.type D from rc)
   exact y7o I R r1 ru ht (z3g X.K T (q9i ht) D h.1) fun tk=>⟨.bl _,H,I.tok tk,rfl,k _ S φ H _ h.2 (List.prefix_refl _) (.refl _) R rfl⟩
  ·exact h.elim
 ·rename_i x D D'
  split at h
  ·rename_i T ht
   obtain⟨v,w,rfl,r1,a,vs,rfl,sa,ra⟩:=q5o hx
   obtain⟨d1,d2,rfl,q1,q2⟩:=q5o ra
   cases q1
   cases q2
   obtain⟨u,c,rfl,ru,rc⟩:=y0x r
   cases(show c=Value.ref a from rc)
   obtain⟨its,rv,p,_⟩:=I.tuple sa
   obtain⟨v1,v2,rfl,g1,g2⟩:=y0x rv
   cases(show v1=Value.type D from g1)
   cases(show v2=Value.type D' from g2)
   exact y7n I R r1 ru ht p (y2p (z3g X.K T (q9i ht) D h.1.1) (z3g X.K T (q9i ht) D' h.1.2)) fun tk=>⟨.bl _,H,I.tok tk,rfl,k _ S φ H _ h.2 (List.prefix_refl _) (.refl _) R rfl⟩
  ·exact h.elim
 ·exact h.elim
def z2o:List PV->Option (List Bool)
 |[]=>some []
 |.bl i::r=>(z2o r).map (i::·)
 |_=>none
theorem z5b:∀{xs:List PV}{ns:List Bool},z2o xs=some ns->xs=ns.map PV.bl
 |[],ns,h=>by simp[z2o]at h;subst h;rfl
 |x::r,ns,h=>by
  cases x with
  |bl i=>
   simp only[z2o,Option.map_eq_some_iff]at h
   obtain⟨ms,h1,rfl⟩:=h
   rw[z5b h1];rfl
  |_=>simp[z2o]at h
theorem y0i(ns:List Bool):z2o (ns.map PV.bl)=some ns:=by induction ns with
 |nil=>rfl
 |cons a r ih=>simp[z2o,ih]
def fAll:FL:=fun xs S Q=>match xs with
 |[.ref n]=>match (q2w S n).bind z2o with
  |some ns=>Q (.bl (ns.all id)) S
  |none=>False
 |_=>False
theorem y0e(hc:X.calm=true):q5a X (.builtin "all") (q8h X.K fAll):=by
 rintro pins s σ H xs us Q I r ⟨φ,S,pxs,Q0,R,hx,h,k⟩
 unfold fAll at h
 split at h
 ·rename_i n
  split at h
  ·rename_i ns e
   obtain⟨ys,e1,e2⟩:=Option.bind_eq_some_iff.mp e
   have:=z5b e2
   subst this
   obtain⟨v,rfl,a,rfl,qa⟩:=q1x hx
   obtain⟨vs,sa,ra⟩:=R.seq qa e1
   rw[ra.bls]at sa
   exact y3h hc pins s σ H _ us Q I r ⟨a,ns,rfl,sa,k _ S φ H _ h (List.prefix_refl _) (.refl _) R rfl⟩
  ·exact h.elim
 ·exact h.elim
def z9t:FL:=fun xs S Q=>match xs with
 |[.frl ys]=>Q (.ref S.length) (S++[.lst ys])
 |[.tup ys]=>Q (.ref S.length) (S++[.lst ys])
 |[.ref n]=>match q2w S n with
  |some ys=>Q (.ref S.length) (S++[.lst ys])
  |none=>False
 |_=>False
def q6p:FL:=fun xs S Q=>match xs with
 |[.tup ys]=>Q (.tup ys) S
 |[.ref n]=>match q2w S n with
  |some ys=>Q (.tup ys) S
  |none=>False
 |_=>False
theorem z6l:q5a X (.type "list") (q8h X.K z9t):=by
 rintro pins s σ H xs us Q I r ⟨φ,S,pxs,Q0,R,hx,h,k⟩
 unfold z9t at h
 split at h
 ·obtain⟨v,rfl,a,vs,rfl,sa,ra⟩:=q1x hx
  exact q5f pins s σ H _ us Q I r ⟨a,vs,rfl,.inl sa.sq,k.lst h R ra⟩
 ·obtain⟨v,rfl,a,vs,rfl,sa,ra⟩:=q1x hx
  exact q5f pins s σ H _ us Q I r ⟨a,vs,rfl,.inr sa,k.lst h R ra⟩
 ·rename_i n
  split at h
  ·rename_i ys e
   obtain⟨v,rfl,a,rfl,qa⟩:=q1x hx
   obtain⟨vs,sa,ra⟩:=R.seq qa e
   exact q5f pins s σ H _ us Q I r ⟨a,vs,rfl,.inl sa,k.lst h R ra⟩
  ·exact h.elim
 ·exact h.elim
theorem q4w:q5a X (.type "tuple") (q8h X.K q6p):=by
 rintro pins s σ H xs us Q I r ⟨φ,S,pxs,Q0,R,hx,h,k⟩
 unfold q6p at h
 split at h
 ·obtain⟨v,rfl,a,vs,rfl,sa,ra⟩:=q1x hx
  exact q6d pins s σ H _ us Q I r ⟨a,vs,rfl,.inr ⟨sa,k _ S φ H _ h (List.prefix_refl _) (.refl _) R ⟨a,vs,rfl,sa,ra⟩⟩⟩
 ·rename_i n
  split at h
  ·rename_i ys e
   obtain⟨v,rfl,a,rfl,qa⟩:=q1x hx
   obtain⟨vs,sa,ra⟩:=R.seq qa e
   exact q6d pins s σ H _ us Q I r ⟨a,vs,rfl,.inl ⟨sa,k.tup h R ra⟩⟩
  ·exact h.elim
 ·exact h.elim
def fInt:FL:=fun xs S Q=>match xs with
 |[.int i]=>Q (.int i) S
 |[.bl b]=>Q (.int (if b then 1 else 0)) S
 |_=>False
theorem y0d:q5a X (.type "int") (q8h X.K fInt):=by
 rintro pins s σ H xs us Q I r ⟨φ,S,pxs,Q0,R,hx,h,k⟩
 unfold fInt at h
 split at h
 ·obtain⟨v,rfl,r1⟩:=q1x hx
  cases r1
  exact z2l pins s σ H _ us Q I r (.inl ⟨_,rfl,k _ S φ H _ h (List.prefix_refl _) (.refl _) R rfl⟩)
 ·obtain⟨v,rfl,r1⟩:=q1x hx
  cases r1
  exact z2l pins s σ H _ us Q I r (.inr ⟨_,rfl,k _ S φ H _ h (List.prefix_refl _) (.refl _) R rfl⟩)
 ·exact h.elim
def fStr:FL:=fun xs S Q=>match xs with
 |[.int i]=>i.natAbs.log2<1920/\Q (.str (toString i)) S
 |_=>False
abbrev FM:=PV->List PV->q0h->VC->Prop
def q8g(K:Frag)(f:FM):V->List V->Hp->VK->Prop:=fun x' xs' H Q=>∃φ S x xs Q0,Rel K φ S H/\RV K H φ x x'/\RVs K H φ xs xs'/\f x xs S Q0/\KE K φ H Q0 Q
def wBM(T:String)(f:FM)(wo:WE)(wa:WA):WE:=fun σ S E Q=>wo σ S E fun x S1=>tyP x S1=some T/\wa σ S1 E fun xs S2=>f x xs S2 Q
def wBM0(T:String)(f:FM)(wo:WE):WE:=fun σ S E Q=>wo σ S E fun x S1=>tyP x S1=some T/\f x [] S1 Q
theorem y3w{K:Frag}{H:Hp}{φ:List Addr}{S:q0h}{x:PV}{x':V}{T:String}(R:Rel K φ S H)(r:RV K H φ x x')(h:tyP x S=some T)(hT:T = "str" \/T = "list" \/T = "dict"):tyV K T x' H:=by
 unfold tyP at h
 split at h
 ·cases h;simp at hT
 ·cases h;simp at hT
 ·cases h;simp at hT
 ·cases h;cases r;rfl
 ·cases h;simp at hT
 ·rename_i n
  obtain⟨a,rfl,qa⟩:=r
  split at h
  ·rename_i xs es
   cases h
   obtain⟨vs,e1,_⟩:=R.obj n a _ qa es
   exact .inl ⟨rfl,vs,SqL.of e1⟩
  ·rename_i xs es
   cases h
   obtain⟨vs,e1,_⟩:=R.obj n a _ qa es
   exact .inr (.inr (.inl ⟨rfl,.inl ⟨vs,e1⟩⟩))
  ·cases h
 ·cases h
  obtain⟨a,vs,rfl,sa,ra⟩:=r
  exact .inl ⟨rfl,vs,sa.sq⟩
 ·cases h
 ·cases h
theorem q2n{f:FM}{T id:String}{name:Str}{o e:Expr}{es:List Expr}{apos cpos:Pos}{wo:WE}{wa:WA}(pa:PlainAttrs T)(slot:Slot T name id)(hty:typeOf (.builtin id)=pure (.type "method_descriptor"))(hm:MtR X id (q8g X.K f))(ho:SimE X G o wo)(ha:SimA X G (e::es) wa)
  (hT:T = "str" \/T = "list" \/T = "dict" :=by first|exact Or.inl rfl|exact Or.inr (Or.inl rfl)|exact Or.inr (Or.inr rfl))
  (hbase:attributeBase o name X.env (eval o X.env)=eval o X.env:=by rfl)
  (hfew:((backTo cpos (starEach (e::es) X.env)).all (fun x=>!x.1)&&(backToKw cpos (keywordEach [] X.env)).all (fun x=>x.1.isSome)
   && decide ((e::es).length+([]:List Keyword).length+(if ([]:List Keyword).isEmpty then 0 else 1)<30))=true:=by rfl)
  (hline:(apos.endLine==cpos.line)=true:=by rfl) (hs:starEach (e::es) X.env=(false,eval e X.env)::starEach es X.env:=by rfl) (hplain:(backTo cpos (starEach es X.env)).any (·.1)=false:=by rfl) :
  SimE X G (.Call (.Attribute o name apos) (e::es) [] cpos) (wBM T f wo wa):=
 (x3p pa slot hty hm ho ha hbase hfew hline hs hplain).imp fun σV H Q hh1=>by obtain⟨φ,σ,S,Q0,L,R,h,k⟩:=hh1;exact(⟨φ,σ,S,_,L,R,h,fun v S1 φ1 H1 x hh2 p1 m1 R1 r1=>by obtain⟨ht,q⟩:=hh2;exact(⟨y3w R1 r1 ht hT,
  ⟨φ1,σ,S1,_,L.mono m1 p1,R1,q,fun vs S2 φ2 H2 xs q2 p2 m2 R2 r2=>⟨φ2,S2,v,vs,Q0,R2,RV.mono m2 p2 _ _ r1,r2,q2,k.up (p1.trans p2) (m1.trans m2)⟩⟩⟩)⟩)
theorem q7k{f:FM}{T id:String}{name:Str}{o:Expr}{apos cpos:Pos}{wo:WE}(pa:PlainAttrs T)(slot:Slot T name id)(hty:typeOf (.builtin id)=pure (.type "method_descriptor"))(hm:MtR X id (q8g X.K f))(ho:SimE X G o wo)
  (hT:T = "str" \/T = "list" \/T = "dict" :=by first|exact Or.inl rfl|exact Or.inr (Or.inl rfl)|exact Or.inr (Or.inr rfl))
  (hbase:attributeBase o name X.env (eval o X.env)=eval o X.env:=by rfl) (hline:(apos.endLine==cpos.line)=true:=by rfl) :
  SimE X G (.Call (.Attribute o name apos) [] [] cpos) (wBM0 T f wo):=
 (x0d pa slot hty hm ho hbase hline).imp fun σV H Q hh1=>by obtain⟨φ,σ,S,Q0,L,R,h,k⟩:=hh1;exact(⟨φ,σ,S,_,L,R,h,fun v S1 φ1 H1 x hh2 p1 m1 R1 r1=>by obtain⟨ht,q⟩:=hh2;exact(⟨y3w R1 r1 ht hT,⟨φ1,S1,v,[],Q0,R1,r1,rfl,q,k.up p1 m1⟩⟩)⟩)
theorem KE.put{K:Frag}{φ:List Addr}{H:Hp}{Q0:VC}{Q:VK}{S:q0h}{n:Nat}{a:Addr}{old:List V}{xs:List PV}{vs:List V}{y:PV}{y':V}(k:KE K φ H Q0 Q)(R:Rel K φ S H)(qa:φ[n]?=some a)(e:H a=some (.lst old))(r:RVs K H φ xs vs)(ry:RV K H φ y y')(q:Q0 y (S.set n (.lst xs))):Q y' (upd H a (.lst vs)):=
 k _ _ φ _ _ q (List.prefix_refl _) (.lst e) (R.put (o:=.lst xs) qa (.lst e) ⟨vs,q2d,RVs.mono (.lst e) (List.prefix_refl _) _ _ r⟩) (RV.mono (.lst e) (List.prefix_refl _) _ _ ry)
def q1t:FM:=fun x xs S Q=>match x,xs with
 |.ref n,[y]=>match q5l S n with
  |some ys=>ys.length<sizeLine/\Q .non (S.set n (.lst (ys++[y])))
  |none=>False
 |_,_=>False
theorem q1o:MtR X "list.append" (q8g X.K q1t):=by
 rintro pins s σ H x xs v us Q I rx rs ⟨φ,S,px,pxs,Q0,R,hx,hxs,h,k⟩
 unfold q1t at h
 split at h
 ·rename_i n y
  split at h
  ·rename_i ys e
   obtain⟨a,rfl,qa⟩:=hx
   obtain⟨y',rfl,ry⟩:=q1x hxs
   obtain⟨vs,ea,ra⟩:=R.lst qa e
   exact z8n pins s σ H _ _ v us Q I rx rs ⟨a,vs,y',rfl,rfl,ea,by rw[<-ra.length];exact h.1,k.put R qa ea (ra.append (.one ry)) (show RV X.K H φ .non .non from rfl) h.2⟩
  ·exact h.elim
 ·exact h.elim
def mPop:FM:=fun x xs S Q=>match x,xs with
 |.ref n,[]=>match q5l S n with
  |some ys=>match ys.getLast? with
   |some y=>Q y (S.set n (.lst ys.dropLast))
   |none=>False
  |none=>False
 |_,_=>False
theorem q7t:MtR X "list.pop" (q8g X.K mPop):=by
 rintro pins s σ H x xs v us Q I rx rs ⟨φ,S,px,pxs,Q0,R,hx,hxs,h,k⟩
 unfold mPop at h
 split at h
 ·rename_i n
  split at h
  ·rename_i ys e
   split at h
   ·rename_i y ey
    obtain⟨a,rfl,qa⟩:=hx
    have hxs':xs=[]:=hxs
    subst hxs'
    obtain⟨vs,ea,ra⟩:=R.lst qa e
    rw[List.getLast?_eq_getElem?]at ey
    obtain⟨y',e',r'⟩:=ra.get ey
    rw[ra.length]at e'
    exact x0w pins s σ H _ _ v us Q I rx rs ⟨a,vs,y',rfl,rfl,ea,e',k.put R qa ea ra.dropLast r' h⟩
   ·exact h.elim
  ·exact h.elim
 ·exact h.elim
def z1k:FM:=fun x xs S Q=>match x,xs with
 |.ref n,[.int i]=>match q5l S n with
  |some ys=>match ixN ys.length i with
   |some j=>match ys[j]? with
    |some y=>(-(2 ^ 63)<=i/\i<2 ^ 63)/\Q y (S.set n (.lst (ys.eraseIdx j)))
    |none=>False
   |none=>False
  |none=>False
 |_,_=>False
def q6k:FM:=fun x xs S Q=>match x,xs with
 |.ref n,[.ref m]=>match q5l S n,q5l S m with
  |some ys,some zs=>ys.length+zs.length<=sizeLine/\Q .non (S.set n (.lst (ys++zs)))
  |_,_=>False
 |.ref n,[.tup zs]=>match q5l S n with
  |some ys=>ys.length+zs.length<=sizeLine/\Q .non (S.set n (.lst (ys++zs)))
  |none=>False
 |_,_=>False
theorem y7u:MtM X "list.extend" (fun x vs H Q=>∃l b xs zs,x=.ref l/\vs=[.ref b]/\H l=some (.lst xs)/\SqT X.K H b zs/\xs.length+zs.length<=sizeLine/\Q .non (upd H l (.lst (xs++zs)))):=by
 intro pins s σ H x vs v us Q I rx rv h
 obtain⟨l,b,xs,zs,rfl,rfl,hH,hB,hz,q⟩:=h
 cases rx
 obtain⟨u,rfl,ru⟩:=rv.one
 cases ru
 obtain⟨z,its,n,r,hl,e⟩:=I.lstM hH
 obtain⟨its2,r2,⟨⟨cls,dd,dat,sl⟩,h1,h2,n2,h3⟩,z2⟩:=I.tuple hB
 simp only at h2 h3
 subst h2 h3
 have hl2:=r2.length
 have hss:its.toArray.size+its2.toArray.size<=sizeLine:=by simp only[List.size_toArray];omega
 have hlong:¬(!its.toArray.isEmpty&&Builtin.List.listTooLong (its.toArray.size+its2.toArray.size))=true:=by rw[q9u hss,Bool.and_false];exact Bool.false_ne_true
 refine call_meets F.slot_list_extend ⟨_,e,rfl⟩ F.entry_list_extend (F.args_list_extend_2 _ _) (extT l its.toArray n b its2.toArray n2 dd sl hlong (by rw[List.size_toArray];omega) (by omega)) ⟨e,h1,?_⟩
 exact⟨.non,_,I.lset (its':=its++its2) hH e (by simp) (r.append r2) (by rw[List.length_append];omega),rfl,q⟩
theorem q8r:MtR X "list.extend" (q8g X.K q6k):=by
 rintro pins s σ H x xs v us Q I rx rs ⟨φ,S,px,pxs,Q0,R,hx,hxs,h,k⟩
 unfold q6k at h
 split at h
 ·rename_i n m
  split at h
  ·rename_i ys zs e1 e2
   obtain⟨a,rfl,qa⟩:=hx
   obtain⟨y',rfl,b,rfl,qb⟩:=q1x hxs
   obtain⟨vs,ea,ra⟩:=R.lst qa e1
   obtain⟨ws,eb,rb⟩:=R.lst qb e2
   exact z8m pins s σ H _ _ v us Q I rx rs ⟨a,b,vs,ws,rfl,rfl,ea,eb,by rw[<-ra.length,<-rb.length];exact h.1,k.put (y:=.non) R qa ea (ra.append rb) rfl h.2⟩
  ·exact h.elim
 ·rename_i n zs
  split at h
  ·rename_i ys e1
   obtain⟨a,rfl,qa⟩:=hx
   obtain⟨y',rfl,b,ws,rfl,sb,rb⟩:=q1x hxs
   obtain⟨vs,ea,ra⟩:=R.lst qa e1
   exact y7u pins s σ H _ _ v us Q I rx rs ⟨a,b,vs,ws,rfl,rfl,ea,sb,by rw[<-ra.length,<-rb.length];exact h.1,k.put (y:=.non) R qa ea (ra.append rb) rfl h.2⟩
  ·exact h.elim
 ·exact h.elim
theorem z8k:MtR X "list.pop" (q8g X.K z1k):=by
 rintro pins s σ H x xs v us Q I rx rs ⟨φ,S,px,pxs,Q0,R,hx,hxs,h,k⟩
 unfold z1k at h
 split at h
 ·rename_i n i
  split at h
  ·rename_i ys e
   split at h
   ·rename_i j ej
    split at h
    ·rename_i y ey
     obtain⟨a,rfl,qa⟩:=hx
     obtain⟨y',rfl,ry⟩:=q1x hxs
     cases ry
     obtain⟨vs,ea,ra⟩:=R.lst qa e
     obtain⟨y',e',r'⟩:=ra.get ey
     rw[ra.length]at ej
     exact y2h pins s σ H _ _ v us Q I rx rs ⟨a,vs,i,j,y',rfl,rfl,ea,h.1.1,h.1.2,(z9f ej).1,e',k.put R qa ea (ra.eraseIdx _) r' h.2⟩
    ·exact h.elim
   ·exact h.elim
  ·exact h.elim
 ·exact h.elim
def z1l:FM:=fun x xs S Q=>match x,xs with
 |.str z,[.str y]=>0<=Txt.find z y/\Q (.int (Txt.find z y)) S
 |_,_=>False
theorem z8l(hc:X.calm=true):MtR X "str.index" (q8g X.K z1l):=by
 rintro pins s σ H x xs v us Q I rx rs ⟨φ,S,px,pxs,Q0,R,hx,hxs,h,k⟩
 unfold z1l at h
 split at h
 ·rename_i z y
  cases hx
  obtain⟨y',rfl,ry⟩:=q1x hxs
  cases ry
  exact y2i hc pins s σ H _ _ v us Q I rx rs ⟨z,y,rfl,rfl,h.1,k _ S φ H _ h.2 (List.prefix_refl _) (.refl _) R rfl⟩
 ·exact h.elim
abbrev WJ:=Loc->q0h->EK->Str->(Str->q0h->Prop)->Prop
def KJ(K:Frag)(φ:List Addr)(H:Hp)(Q0:Str->q0h->Prop)(Q:Str->Hp->Prop):Prop:=∀v S' φ' H',Q0 v S'->φ <+: φ'->Mono H H'->Rel K φ' S' H'->Q v H'
def x4b(K:Frag)(G:GX)(w:WJ):TJ:=fun σV H acc Q=>∃φ σ S Q0,LRel K G H φ σ σV/\Rel K φ S H/\w σ S G.ek acc Q0/\KJ K φ H Q0 Q
def SimJ(X:Cx)(G:GX)(es:List Expr)(w:WJ):Prop:=PJ X es (x4b X.K G w)
theorem PJ.imp{e:List Expr}{t t':TJ}(h:PJ X e t)(i:∀σ H a Q,t' σ H a Q->t σ H a Q):PJ X e t':=fun pins s σ H acc Q I q=>h pins s σ H acc Q I (i σ H acc Q q)
def y0q:WJ:=fun _ S _ acc Q=>Q acc S
def z6r(x:Str)(w:WJ):WJ:=fun σ S E acc Q=>(acc++x).length<=sizeLine/\w σ S E (acc++x) Q
def y0p(we:WE)(w:WJ):WJ:=fun σ S E acc Q=>we σ S E fun v S1=>match v with
 |.str x=>(x.length<=sizeLine/\(acc++x).length<=sizeLine)/\w σ S1 E (acc++x) Q
 |_=>False
theorem y1k:SimJ X G [] y0q:=PJ.imp y9p fun σV H acc Q hh1=>by obtain⟨φ,σ,S,Q0,L,R,h,k⟩:=hh1;exact(k _ S φ H h (List.prefix_refl _) (.refl _) R)
theorem z4g{x:Str} {j} {es:List Expr} {w:WJ} (hr:SimJ X G es w) (he:evalEach (.Constant (.str x) j pos::es) X.env=eval (.Constant (.str x) j pos) X.env::evalEach es X.env:=by rfl):SimJ X G (.Constant (.str x) j pos::es) (z6r x w):=
 PJ.imp (y9o hr he) fun σV H acc Q hh1=>by obtain⟨φ,σ,S,Q0,L,R,h,k⟩:=hh1;exact(⟨h.1,φ,σ,S,Q0,L,R,h.2,k⟩)
theorem y1j{e:Expr}{es:List Expr}{we:WE}{w:WJ}(h1:SimE X G e we)(hr:SimJ X G es w)(he:evalEach (.FormattedValue e (-1) none pos::es) X.env=eval (.FormattedValue e (-1) none pos) X.env::evalEach es X.env:=by rfl):SimJ X G (.FormattedValue e (-1) none pos::es) (y0p we w):=
 PJ.imp (y9n h1 hr he) fun σV H acc Q hh1=>by obtain⟨φ,σ,S,Q0,L,R,h,k⟩:=hh1;exact(⟨φ,σ,S,_,L,R,h,fun v S1 φ1 H1 x q p1 m1 R1 r1=>by
  cases v with
  |str y=>exact ⟨y,r1,q.1.1,q.1.2,φ1,σ,S1,Q0,L.mono m1 p1,R1,q.2,fun o S2 φ2 H2 q2 p2 m2 R2=>k o S2 φ2 H2 q2 (p1.trans p2) (m1.trans m2) R2⟩
  |_=>exact q.elim⟩)
def q9h(w:WJ):WE:=fun σ S E Q=>w σ S E Str.empty fun out S1=>out.length<=sizeLine/\Q (.str out) S1
theorem z5p{v₁ v₂:Expr}{es:List Expr}{w:WJ}(h:SimJ X G (v₁::v₂::es) w):SimE X G (.JoinedStr (v₁::v₂::es) pos) (q9h w):=
 (z7y h).imp fun σV H Q hh1=>by obtain⟨φ,σ,S,Q0,L,R,h,k⟩:=hh1;exact(⟨φ,σ,S,_,L,R,h,fun o S1 φ1 H1 q p1 m1 R1=>⟨q.1,k _ S1 φ1 H1 _ q.2 p1 m1 R1 rfl⟩⟩)
end
structure PEnds where
 nx:Loc->q0h->Prop
 rt:VC
 bk:Loc->q0h->Prop:=fun _ _=>False
 ct:Loc->q0h->Prop:=fun _ _=>False
abbrev WS:=PEnds->EK->Loc->q0h->Prop
def KN(K:Frag)(G:GX)(φ:List Addr)(H:Hp)(Q0:Loc->q0h->Prop)(Q:St->Hp->Prop):Prop:=∀σ' S' φ' H' σV',Q0 σ' S'->φ <+: φ'->Mono H H'->Rel K φ' S' H'->LRel K G H' φ' σ' σV'->Q σV' H'
theorem KN.up{K:Frag}{G:GX}{φ φ1:List Addr}{H H1:Hp}{Q0:Loc->q0h->Prop}{Q:St->Hp->Prop}(k:KN K G φ H Q0 Q)(p:φ <+: φ1)(m:Mono H H1):KN K G φ1 H1 Q0 Q:=fun σ' S' φ' H' σV' q p' m'=>k σ' S' φ' H' σV' q (p.trans p') (m.trans m')
structure KS(K:Frag)(G:GX)(φ:List Addr)(H:Hp)(D0:PEnds)(D:Ends):Prop where
 nx:KN K G φ H D0.nx D.nx
 rt:KE K φ H D0.rt D.rt
 bk:KN K G φ H D0.bk D.bk
 ct:KN K G φ H D0.ct D.ct
theorem KS.up{K:Frag}{G:GX}{φ φ1:List Addr}{H H1:Hp}{D0:PEnds}{D:Ends}(k:KS K G φ H D0 D)(p:φ <+: φ1)(m:Mono H H1):KS K G φ1 H1 D0 D:=⟨k.nx.up p m,k.rt.up p m,k.bk.up p m,k.ct.up p m⟩
def y2k(K:Frag)(G:GX)(w:WS):TS:=fun D σV H=>∃φ σ S D0,LRel K G H φ σ σV/\Rel K φ S H/\w D0 G.ek σ S/\KS K G φ H D0 D
def SimS(X:Cx)(G:GX)(st:Stmt)(w:WS):Prop:=PS X st (y2k X.K G w)
def q8e(X:Cx)(G:GX)(st:List Stmt)(w:WS):Prop:=PSs X st (y2k X.K G w)
theorem _root_.L2.PS.imp{X:Cx}{e:Stmt}{t t':TS}(h:PS X e t)(i:∀D σ H,t' D σ H->t D σ H):PS X e t':=fun pins s σ H D I q=>h pins s σ H D I (i D σ H q)
theorem _root_.L2.PSs.imp{X:Cx}{e:List Stmt}{t t':TS}(h:PSs X e t)(i:∀D σ H,t' D σ H->t D σ H):PSs X e t':=fun pins s σ H D I q=>h pins s σ H D I (i D σ H q)
section
variable{X:Cx}{G:GX}{pos:Pos}
def q1k:WS:=fun D _ σ S=>D.nx σ S
def wSeq(w1 w2:WS):WS:=fun D E σ S=>w1 {D with nx:=w2 D E} E σ S
theorem q0r:q8e X G [] q1k:=y6d.imp fun D σV H hh1=>by obtain⟨φ,σ,S,D0,L,R,h,k⟩:=hh1;exact(k.nx σ S φ H σV h (List.prefix_refl _) (.refl _) R L)
theorem q0g{st:Stmt}{w:WS}(h:SimS X G st w):q8e X G [st] w:=y6c h
theorem q0f{st:Stmt}{rest:List Stmt}{w1 w2:WS}(h1:SimS X G st w1)(h2:q8e X G rest w2):q8e X G (st::rest) (wSeq w1 w2):=
 (y1r h1 h2).imp fun D σV H hh1=>by obtain⟨φ,σ,S,D0,L,R,h,k⟩:=hh1;exact(⟨φ,σ,S,_,L,R,h,⟨fun σ' S' φ' H' σV' q p m R' L'=>⟨φ',σ',S',D0,L',R',q,k.up p m⟩,k.rt,k.bk,k.ct⟩⟩)
def z0n:WS:=fun _ _ _ _=>False
theorem z0x{st:Stmt}:SimS X G st z0n:=(y1u (X:=X)).imp fun D σV H hh1=>by obtain⟨φ,σ,S,D0,L,R,h,k⟩:=hh1;exact(h)
def q3v(w:WE):WS:=fun D E σ S=>w σ S E fun _ S1=>D.nx σ S1
theorem q1w{e:Expr}{w:WE}(he:SimE X G e w)(hs:swapsWith e none pos.line X.env=pure false:=by rfl):SimS X G (.Expr e pos) (q3v w):=
 (y6f he hs).imp fun D σV H hh1=>by obtain⟨φ,σ,S,D0,L,R,h,k⟩:=hh1;exact(⟨φ,σ,S,_,L,R,h,fun v S1 φ1 H1 x q p1 m1 R1 r1=>k.nx σ S1 φ1 H1 σV q p1 m1 R1 (L.mono m1 p1)⟩)
def wRet(w:WE):WS:=fun D E σ S=>w σ S E D.rt
theorem q0s{e:Expr}{w:WE}(he:SimE X G e w):SimS X G (.Return (some e) pos) (wRet w):=
 (y9h he).imp fun D σV H hh1=>by obtain⟨φ,σ,S,D0,L,R,h,k⟩:=hh1;exact(⟨φ,σ,S,_,L,R,h,k.rt⟩)
def wIfS(c:WT)(t u:WS):WS:=fun D E σ S=>c σ S E fun b S1=>if b=true then t D E σ S1 else u D E σ S1
theorem q1f{c:Expr}{a b:List Stmt}{wc:WT}{t u:WS}(hc:SimT X G c wc)(ha:q8e X G a t)(hb:q8e X G b u):SimS X G (.If c a b pos) (wIfS wc t u):=
 (x3n hc ha hb).imp fun D σV H hh1=>by obtain⟨φ,σ,S,D0,L,R,h,k⟩:=hh1;exact(⟨φ,σ,S,_,L,R,h,fun c S1 φ1 H1 q p1 m1 R1=>by
  cases c with
  |true=>exact ⟨φ1,σ,S1,D0,L.mono m1 p1,R1,q,k.up p1 m1⟩
  |false=>exact ⟨φ1,σ,S1,D0,L.mono m1 p1,R1,q,k.up p1 m1⟩⟩)
abbrev WG:=PV->Loc->q0h->EK->(Loc->q0h->Prop)->Prop
abbrev WGs:=List PV->Loc->q0h->EK->(Loc->q0h->Prop)->Prop
def z5z(K:Frag)(G:GX)(w:WG):TG:=fun v' σV H Q=>∃φ v σ S Q0,LRel K G H φ σ σV/\Rel K φ S H/\RV K H φ v v'/\w v σ S G.ek Q0/\KN K G φ H Q0 Q
def x1d(K:Frag)(G:GX)(w:WGs):TGs:=fun v' σV H Q=>∃φ v σ S Q0,LRel K G H φ σ σV/\Rel K φ S H/\RVs K H φ v v'/\w v σ S G.ek Q0/\KN K G φ H Q0 Q
def SimG(X:Cx)(G:GX)(tg:Expr)(w:WG):Prop:=PG X tg (z5z X.K G w)
def y3q(X:Cx)(G:GX)(tg:List Expr)(w:WGs):Prop:=PGs X tg (x1d X.K G w)
theorem PG.imp{e:Expr}{t t':TG}(h:PG X e t)(i:∀v σ H Q,t' v σ H Q->t v σ H Q):PG X e t':=fun pins s σ H v u Q I r q=>h pins s σ H v u Q I r (i v σ H Q q)
theorem PGs.imp{e:List Expr}{t t':TGs}(h:PGs X e t)(i:∀v σ H Q,t' v σ H Q->t v σ H Q):PGs X e t':=fun pins s σ H v u Q I r q=>h pins s σ H v u Q I r (i v σ H Q q)
def q1b(i:Nat):WG:=fun v σ S _ Q=>Q (σ.set i (some v)) S
theorem q0m{i:Nat}{x:Str}(hN:X.N.Nodup)(hi:X.N[i]?=some x:=by rfl)(hx:L2.Loc X.env.scope x:=by first|exact Or.inl rfl|exact Or.inr rfl)(hf:X.fn x=true\/X.env.scope.names.lookup x=some .local:=by first|exact .inl rfl|exact .inr rfl|assumption):SimG X G (.Name x pos) (q1b i):=
 PG.imp (y6l (i:=i) hN hi hx hf) fun v' σV H Q hh1=>by obtain⟨φ,v,σ,S,Q0,L,R,r,h,k⟩:=hh1;exact(k _ S φ H _ h (List.prefix_refl _) (.refl _) R (L.set i r))
def q6s:WGs:=fun vs σ S _ Q=>match vs with
 |[]=>Q σ S
 |_=>False
def q2b(w:WG)(ws:WGs):WGs:=fun vs σ S E Q=>match vs with
 |v::r=>w v σ S E fun σ' S'=>ws r σ' S' E Q
 |_=>False
theorem q3m:y3q X G [] q6s:=PGs.imp y6k fun v' σV H Q hh1=>by
 obtain⟨φ,v,σ,S,Q0,L,R,r,h,k⟩:=hh1
 cases v with
 |nil=>exact⟨r,k _ S φ H _ h (List.prefix_refl _) (.refl _) R L⟩
 |cons _ _=>exact h.elim
theorem q1c{e:Expr}{es:List Expr}{w:WG}{ws:WGs}(h1:SimG X G e w)(h2:y3q X G es ws)(hs:(assignEach (e::es) X.env).map (·.2)=assign e X.env::(assignEach es X.env).map (·.2):=by rfl):y3q X G (e::es) (q2b w ws):=
 PGs.imp (y1w h1 h2 hs) fun v' σV H Q hh1=>by
  obtain⟨φ,v,σ,S,Q0,L,R,r,h,k⟩:=hh1
  cases v with
  |nil=>exact h.elim
  |cons a b=>
   obtain⟨y,ys,rfl,r1,r2⟩:=r
   exact⟨y,ys,rfl,φ,a,σ,S,_,L,R,r1,h,fun σ' S' φ' H' σV' q p m R' L'=>⟨φ',b,σ',S',Q0,L',R',RVs.mono m p _ _ r2,q,k.up p m⟩⟩
def q6r(n:Nat)(ws:WGs):WG:=fun v σ S E Q=>match v with
 |.tup xs=>xs.length=n/\ws xs σ S E Q
 |_=>False
theorem q4m{es:List Expr}{kk:Nat}{ws:WGs}(n:Nat)(hc:X.calm=true)(h:y3q X G es ws)(hn:(assignEach es X.env).length=n:=by rfl)(hst:(assignEach es X.env).findIdx? (·.1)=none:=by rfl):SimG X G (.Tuple es kk pos) (q6r n ws):=
 PG.imp (y9s hc h hn hst) fun v' σV H Q hh1=>by
  obtain⟨φ,v,σ,S,Q0,L,R,r,h,k⟩:=hh1
  cases v with
  |tup xs=>
   obtain⟨a,vs,rfl,sa,ra⟩:=r
   exact⟨a,vs,rfl,sa,by rw[<-ra.length];exact h.1,φ,xs,σ,S,Q0,L,R,ra,h.2,k⟩
  |_=>exact h.elim
def wAsg(w:WE)(g:WG):WS:=fun D E σ S=>w σ S E fun v S1=>g v σ S1 E D.nx
theorem q9p{tg e:Expr}{w:WE}{g:WG}(he:SimE X G e w)(hg:SimG X G tg g)(hs:swapsWithSole [tg] e pos.line X.env=pure false:=by rfl)(hw:swappedStores [tg] e X.env=pure none:=by rfl)
  (h1:(assignEach [tg] X.env).map (·.2)=[assign tg X.env]:=by rfl):SimS X G (.Assign [tg] e pos) (wAsg w g):=
 (y9k he hg hs hw h1).imp fun D σV H hh1=>by obtain⟨φ,σ,S,D0,L,R,h,k⟩:=hh1;exact(⟨φ,σ,S,_,L,R,h,fun v S1 φ1 H1 x q p1 m1 R1 r1=>⟨φ1,v,σ,S1,D0.nx,L.mono m1 p1,R1,r1,q,k.nx.up p1 m1⟩⟩)
def wSet(i:Nat)(w:WE):WS:=fun D E σ S=>w σ S E fun v S1=>D.nx (σ.set i (some v)) S1
theorem q0l(i:Nat){x:Str}{e:Expr}{w:WE}{pos':Pos}(hN:X.N.Nodup)(he:SimE X G e w)(hi:X.N[i]?=some x:=by rfl)(hx:L2.Loc X.env.scope x:=by first|exact Or.inl rfl|exact Or.inr rfl)(hs:swapsWith e (some (.Name x pos')) pos.line X.env=pure false:=by rfl)(hf:X.fn x=true\/X.env.scope.names.lookup x=some .local:=by first|exact .inl rfl|exact .inr rfl|assumption) :
  SimS X G (.Assign [.Name x pos'] e pos) (wSet i w):=
 (y9g (i:=i) hN hi hx he hs hf).imp fun D σV H hh1=>by obtain⟨φ,σ,S,D0,L,R,h,k⟩:=hh1;exact(⟨φ,σ,S,_,L,R,h,fun v S1 φ1 H1 x q p1 m1 R1 r1=>k.nx _ S1 φ1 H1 _ q p1 m1 R1 ((L.mono m1 p1).set i r1)⟩)
def wAug(i:Nat)(f:F2)(w:WE):WS:=fun D E σ S=>match σ[i]? with
 |some (some x)=>w σ S E fun y S1=>f x y S1 fun z S2=>D.nx (σ.set i (some z)) S2
 |_=>False
theorem z7l(i:Nat){x:Str}{e:Expr}{w:WE}{pos':Pos}(hN:X.N.Nodup)(he:SimE X G e w)(hi:X.N[i]?=some x:=by rfl)(hx:L2.Loc X.env.scope x:=by first|exact Or.inl rfl|exact Or.inr rfl)(hf:X.fn x=true\/X.env.scope.names.lookup x=some .local:=by first|exact .inl rfl|exact .inr rfl|assumption) :
  SimS X G (.AugAssign (.Name x pos') .Add e pos) (wAug i z3x w):=
 (y9j (i:=i) hN hi hx he y7q hf).imp fun D σV H hh1=>by
  obtain⟨φ,σ,S,D0,L,R,h,k⟩:=hh1
  unfold wAug at h
  split at h
  ·rename_i v ev
   obtain⟨x',e',r'⟩:=L.at' i v ev
   refine⟨x',e',φ,σ,S,_,L,R,h,fun u S1 φ1 H1 y q p1 m1 R1 r1=>?_⟩
   exact⟨φ1,S1,v,u,_,R1,RV.mono m1 p1 _ _ r',r1,q,fun z S2 φ2 H2 z' q2 p2 m2 R2 r2=>k.nx _ S2 φ2 H2 _ q2 (p1.trans p2) (m1.trans m2) R2 (((L.mono m1 p1).mono m2 p2).set i r2)⟩
  ·exact h.elim
abbrev FS:=PV->PV->PV->q0h->(q0h->Prop)->Prop
def sSet:FS:=fun o i v S Q=>match o with
 |.ref n=>match S[n]? with
  |some (.lst xs)=>match i with
   |.int k=>match ixN xs.length k with
    |some j=>Q (S.set n (.lst (xs.set j v)))
    |none=>False
   |_=>False
  |some (.dK kvs)=>match z0a i with
   |some k=>kvs.length<sizeLine/\Q (S.set n (.dK (putP kvs k v)))
   |none=>False
  |_=>False
 |_=>False
def z0l(c:WT)(b:WS):WS:=fun D E σ S=>∃W:Nat->Loc->q0h->Prop,(∃m,W m σ S)/\∀m σ S,W m σ S->
 c σ S E fun bo S1=>if bo=true then ∃N:Loc->q0h->Prop,(∀σ' S',N σ' S'->∃m',m'<m/\W m' σ' S')/\b {D with nx:=N,ct:=N,bk:=D.nx} E σ S1 else D.nx σ S1
theorem q7i{c:Expr}{body:List Stmt}{wc:WT}{wb:WS}(hp:PassesOwn (model X.prog X.w) X.A X.env X.xe)(hc:SimT X G c wc)(hb:q8e X G body wb):SimS X G (.While c body [] pos) (z0l wc wb):=
 (y1s hp hc hb).imp fun D σV H hh1=>by
  obtain⟨φ,σ,S,D0,L,R,h,k⟩:=hh1
  obtain⟨W,⟨m0,w0⟩,st⟩:=h
  refine⟨fun m σV' H'=>∃φ' σ' S',φ <+: φ'/\Mono H H'/\LRel X.K G H' φ' σ' σV'/\Rel X.K φ' S' H'/\W m σ' S',⟨m0,φ,σ,S,List.prefix_refl _,.refl _,L,R,w0⟩,?_⟩
  rintro m σV' H' ⟨φ',σ',S',p,mo,L',R',hw⟩
  refine⟨φ',σ',S',_,L',R',st m σ' S' hw,fun bo S1 φ1 H1 q p1 m1 R1=>?_⟩
  cases bo with
  |true=>
   obtain⟨N,hN,hb⟩:=q
   refine⟨fun σ2V H2=>∃φ2 σ2 S2,φ1 <+: φ2/\Mono H1 H2/\LRel X.K G H2 φ2 σ2 σ2V/\Rel X.K φ2 S2 H2/\N σ2 S2,?_,?_⟩
   ·rintro σ2V H2 ⟨φ2,σ2,S2,p2,m2,L2,R2,hn⟩
    obtain⟨m',hm,hw'⟩:=hN σ2 S2 hn
    exact⟨m',hm,φ2,σ2,S2,(p.trans p1).trans p2,(mo.trans m1).trans m2,L2,R2,hw'⟩
   ·exact⟨φ1,σ',S1,_,L'.mono m1 p1,R1,hb,⟨fun σ2 S2 φ2 H2 σ2V q p2 m2 R2 L2=>⟨φ2,σ2,S2,p2,m2,L2,R2,q⟩,k.rt.up (p.trans p1) (mo.trans m1),k.nx.up (p.trans p1) (mo.trans m1),fun σ2 S2 φ2 H2 σ2V q p2 m2 R2 L2=>⟨φ2,σ2,S2,p2,m2,L2,R2,q⟩⟩⟩
  |false=>exact k.nx σ' S1 φ1 H1 σV' q (p.trans p1) (mo.trans m1) R1 (L'.mono m1 p1)
structure PIt where
 xs:List PV
 chk:q0h->Prop
structure ItR(K:Frag)(φ0:List Addr)(H0:Hp)(J:It)(it:PIt):Prop where
 go:∀φ H S,φ0 <+: φ->Mono H0 H->Rel K φ S H->it.chk S->∀(i:Nat) x,it.xs[i]?=some x->J.go i H/\∀y H',J.yld i H y H'->∃φ',φ <+: φ'/\Mono H H'/\Rel K φ' S H'/\RV K H' φ' x y
 stop:∀φ H S,φ0 <+: φ->Mono H0 H->Rel K φ S H->it.chk S->∀i:Nat,it.xs.length<=i->J.stop i H
abbrev WI:=Loc->q0h->EK->(PIt->q0h->Prop)->Prop
def KI(K:Frag)(φ:List Addr)(H:Hp)(Q0:PIt->q0h->Prop)(R:It->Hp->Prop):Prop:=∀it S' φ' H' J,Q0 it S'->φ <+: φ'->Mono H H'->Rel K φ' S' H'->ItR K φ' H' J it->R J H'
def y2l(K:Frag)(G:GX)(w:WI):TI:=fun σV H R=>∃φ σ S Q0,LRel K G H φ σ σV/\Rel K φ S H/\w σ S G.ek Q0/\KI K φ H Q0 R
def SimI(X:Cx)(G:GX)(tg iter:Expr)(w:WI):Prop:=PI X tg iter (y2l X.K G w)
theorem PI.imp{tg e:Expr}{t t':TI}(h:PI X tg e t)(i:∀σ H Q,t' σ H Q->t σ H Q):PI X tg e t':=fun pins s σ H R I q=>h pins s σ H R I (i σ H R q)
def iAny(K:Frag)(tl:TE):TI:=fun σ H R=>tl σ H fun x H1=>(∃a,x=.ref a/\(∃xs,SqL K H1 a xs)/\R (Itl K a) H1)\/(∃a,x=.ref a/\(∃xs,SqT K H1 a xs)/\R (Itt K a) H1)\/∃z,x=.str z/\R (Its z) H1
theorem y9r{tg l:Expr}{tl:TE}(hl:PE X l tl):PI X tg l (iAny X.K tl):=by
 intro pins s σ H R I h
 refine thn (hl pins s σ H _ I h) fun v s1 hh1=>?_
 obtain⟨x,H1,I1,r1,q1⟩:=hh1
 rcases q1 with⟨a,e,⟨xs,hq⟩,q⟩|⟨a,e,⟨xs,hq⟩,q⟩|⟨z,rfl,q⟩
 ·subst e
  cases r1
  obtain⟨its,rv,p,hz⟩:=I1.list hq
  refine wpAny_pyIter_list p.isList ?_
  refine⟨s1.heap.objs.size,[s1.heap.objs.size],_,_,H1,rfl,I1.kept (t':=s1.toks) fun b o e=>Heap.get?_push_of_some _ e,z6y a _,⟨_,Heap.get?_push_size _ rfl,rfl,rfl⟩,fun b hb=>?_,q⟩
  have e:b=s1.heap.objs.size:=by simpa using hb
  subst e
  exact I1.fpOk (Nat.le_refl _) (I1.hok.fresh (Nat.le_refl _))
 ·subst e
  cases r1
  obtain⟨its,rv,p,hz⟩:=I1.tuple hq
  refine wpAny_pyIter_tuple (show s1.heap.IsTuple a its.toArray from p) ?_
  refine⟨s1.heap.objs.size,[s1.heap.objs.size],_,_,H1,rfl,I1.kept (t':=s1.toks) fun b o e=>Heap.get?_push_of_some _ e,z5i a _,⟨_,Heap.get?_push_size _ rfl,rfl,rfl⟩,fun b hb=>?_,q⟩
  have e:b=s1.heap.objs.size:=by simpa using hb
  subst e
  exact I1.fpOk (Nat.le_refl _) (I1.hok.fresh (Nat.le_refl _))
 ·obtain⟨t,rfl⟩:=r1
  refine wpAny_pyIter_strU ?_
  refine⟨s1.heap.objs.size,[s1.heap.objs.size],_,_,H1,rfl,I1.kept (t':=s1.toks) fun b o e=>Heap.get?_push_of_some _ e,y0y _ z t,⟨Nat.zero_le _,_,Heap.get?_push_size _ rfl,rfl,rfl⟩,fun b hb=>?_,q⟩
  obtain rfl:=List.mem_singleton.mp hb
  exact I1.fpOk (Nat.le_refl _) I1.fresh
def chr1(c:Nat):PV:=.str ⟨#[c]⟩
def q5k(w:WE):WI:=fun σ S E Q=>w σ S E fun x S1=>match x with
 |.ref n=>match q2w S1 n with
  |some xs=>Q ⟨xs,fun S=>q2w S n=some xs⟩ S1
  |none=>False
 |.tup xs=>Q ⟨xs,fun _=>True⟩ S1
 |.frl xs=>Q ⟨xs,fun _=>True⟩ S1
 |.str z=>Q ⟨z.cps.toList.map chr1,fun _=>True⟩ S1
 |_=>False
theorem y2u{K:Frag}{φ:List Addr}{H:Hp}{n:Nat}{a:Addr}{xs:List PV}(qa:φ[n]?=some a):ItR K φ H (Itl K a) ⟨xs,fun S=>q2w S n=some xs⟩ where
 go:=fun φ1 H1 S1 p m R e i x hx=>by
  obtain⟨vs,sa,ra⟩:=R.seq (q9q p qa) e
  obtain⟨y,ey,ry⟩:=ra.get hx
  refine⟨⟨vs,y,sa,ey⟩,fun y' H' hh1=>?_⟩
  obtain⟨e1,e2⟩:=hh1
  subst e1
  have:=e2 vs sa
  rw[ey]at this
  cases this
  exact⟨φ1,List.prefix_refl _,.refl _,R,ry⟩
 stop:=fun φ1 H1 S1 p m R e i hi=>by
  obtain⟨vs,sa,ra⟩:=R.seq (q9q p qa) e
  exact⟨vs,sa,by rw[<-ra.length];exact hi⟩
theorem y7j{K:Frag}{φ:List Addr}{H:Hp}{a:Addr}{xs:List PV}{vs:List V}(sa:SqT K H a vs)(ra:RVs K H φ xs vs):ItR K φ H (Itt K a) ⟨xs,fun _=>True⟩ where
 go:=fun φ1 H1 S1 p m R e i x hx=>by
  have sa1:=m.sqT sa
  obtain⟨y,ey,ry⟩:=(RVs.mono m p _ _ ra).get hx
  refine⟨⟨vs,y,sa1,ey⟩,fun y' H' hh1=>?_⟩
  obtain⟨e1,e2⟩:=hh1
  subst e1
  have:=e2 vs sa1
  rw[ey]at this
  cases this
  exact⟨φ1,List.prefix_refl _,.refl _,R,ry⟩
 stop:=fun φ1 H1 S1 p m R e i hi=>⟨vs,m.sqT sa,by rw[<-ra.length];exact hi⟩
theorem y7m{K:Frag}{φ:List Addr}{H:Hp}{a:Addr}{xs:List PV}{vs:List V}(sa:SqF K H a vs)(ra:RVs K H φ xs vs):ItR K φ H (Itl K a) ⟨xs,fun _=>True⟩ where
 go:=fun φ1 H1 S1 p m R e i x hx=>by
  have sa1:=(m.sqF sa).sq
  obtain⟨y,ey,ry⟩:=(RVs.mono m p _ _ ra).get hx
  refine⟨⟨vs,y,sa1,ey⟩,fun y' H' hh1=>?_⟩
  obtain⟨e1,e2⟩:=hh1
  subst e1
  have:=e2 vs sa1
  rw[ey]at this
  cases this
  exact⟨φ1,List.prefix_refl _,.refl _,R,ry⟩
 stop:=fun φ1 H1 S1 p m R e i hi=>⟨vs,(m.sqF sa).sq,by rw[<-ra.length];exact hi⟩
theorem y7k{K:Frag}{φ:List Addr}{H:Hp}{z:Str}:ItR K φ H (Its z) ⟨z.cps.toList.map chr1,fun _=>True⟩ where
 go:=fun φ1 H1 S1 p m R e i x hx=>by
  have hx':(z.cps.toList.map chr1)[i]?=some x:=hx
  rw[List.getElem?_map]at hx'
  obtain⟨c,hc,rfl⟩:=Option.map_eq_some_iff.mp hx'
  have hc':z.cps[i]?=some c:=by simpa using hc
  refine⟨(Array.getElem?_eq_some_iff.mp hc').1,fun y' H' ⟨e1,c',e2,e3⟩=>?_⟩
  subst e1
  rw[hc']at e2
  cases e2
  exact⟨φ1,List.prefix_refl _,.refl _,R,e3⟩
 stop:=fun φ1 H1 S1 p m R e i hi=>by
  have:(z.cps.toList.map chr1).length<=i:=hi
  show z.cps.size<=i
  simpa using this
theorem q2s{tg l:Expr}{w:WE}(hl:SimE X G l w):SimI X G tg l (q5k w):=
 PI.imp (y9r hl) fun σV H Q hh1=>by obtain⟨φ,σ,S,Q0,L,R,h,k⟩:=hh1;exact(⟨φ,σ,S,_,L,R,h,fun v S1 φ1 H1 x q p1 m1 R1 r1=>by
  split at q
  ·rename_i n
   split at q
   ·rename_i xs e
    obtain ⟨a,rfl,qa⟩:=r1
    obtain ⟨vs,sa,ra⟩:=R1.seq qa e
    exact .inl ⟨a,rfl,⟨vs,sa⟩,k _ S1 φ1 H1 _ q p1 m1 R1 (y2u qa)⟩
   ·exact q.elim
  ·rename_i xs
   obtain ⟨a,vs,rfl,sa,ra⟩:=r1
   exact .inr (.inl ⟨a,rfl,⟨vs,sa⟩,k _ S1 φ1 H1 _ q p1 m1 R1 (y7j sa ra)⟩)
  ·rename_i xs
   obtain ⟨a,vs,rfl,sa,ra⟩:=r1
   exact .inl ⟨a,rfl,⟨vs,sa.sq⟩,k _ S1 φ1 H1 _ q p1 m1 R1 (y7m sa ra)⟩
  ·rename_i z
   cases r1
   exact .inr (.inr ⟨z,rfl,k _ S1 φ1 H1 _ q p1 m1 R1 y7k⟩)
  ·exact q.elim⟩)
def rngP(lo:Int)(n:Nat):List PV:=(List.range n).map fun i=>.int (lo+(i:Nat))
def q2t(wa:WA):WI:=fun σ S E Q=>wa σ S E fun xs S1=>match xs with
 |[.int j]=>(-(2 ^ 62)<=j/\j<2 ^ 62)/\Q ⟨rngP 0 j.toNat,fun _=>True⟩ S1
 |_=>False
theorem z9g{K:Frag}{φ:List Addr}{H:Hp}{lo:Int}{n:Nat}:ItR K φ H (Itr lo n) ⟨rngP lo n,fun _=>True⟩ where
 go:=fun φ1 H1 S1 p m R e i x hx=>by
  have hx':(rngP lo n)[i]?=some x:=hx
  unfold rngP at hx'
  rw[List.getElem?_map]at hx'
  obtain⟨c,hc,rfl⟩:=Option.map_eq_some_iff.mp hx'
  obtain⟨hl,rfl⟩:=List.getElem?_eq_some_iff.mp hc
  rw[List.getElem_range]
  refine⟨by show i<n;simpa using hl,fun y' H' hh1=>?_⟩
  obtain⟨e1,e2⟩:=hh1
  subst e1
  exact⟨φ1,List.prefix_refl _,.refl _,R,e2⟩
 stop:=fun φ1 H1 S1 p m R e i hi=>by
  have:(rngP lo n).length<=i:=hi
  unfold rngP at this
  show n<=i
  simpa using this
theorem q1q{tg a:Expr}{wa:WA}{p:Pos}(hm:X.mg "range" = none)(ha:SimA X G [a] wa)(hg:Gl X "range" :=by rfl)(hs:starEach [a] X.env=[(false,eval a X.env)]:=by rfl):SimI X G tg (.Call (.Name "range" p) [a] [] pos) (q2t wa):=
 PI.imp (z7x hg hm ha hs) fun σV H Q hh1=>by obtain⟨φ,σ,S,Q0,L,R,h,k⟩:=hh1;exact(⟨φ,σ,S,_,L,R,h,fun v S1 φ1 H1 x q p1 m1 R1 r1=>by
  split at q
  ·rename_i j
   obtain ⟨y,rfl,r⟩:=q1x r1
   cases r
   exact ⟨j,rfl,q.1.1,q.1.2,k _ S1 φ1 H1 _ q.2 p1 m1 R1 z9g⟩
  ·exact q.elim⟩)
def z6h(chk:q0h->Prop)(g:WG)(wb:WS)(D:PEnds)(E:EK):List PV->Loc->q0h->Prop
 |[],σ,S=>chk S/\D.nx σ S
 |x::r,σ,S=>chk S/\∃N:Loc->q0h->Prop,(∀σ' S',N σ' S'->z6h chk g wb D E r σ' S')/\g x σ S E fun σ2 S2=>wb {nx:=N,rt:=D.rt,ct:=N,bk:=D.nx} E σ2 S2
def wFor(wi:WI)(g:WG)(wb:WS):WS:=fun D E σ S=>wi σ S E fun it S1=>z6h it.chk g wb D E it.xs σ S1
theorem q2i{tg iter:Expr}{body:List Stmt}{wi:WI}{g:WG}{wb:WS}(hp:PassesOwn (model X.prog X.w) X.A X.env X.xe)(hc:X.calm=true)(hi:SimI X G tg iter wi)(hg:SimG X G tg g)(hb:q8e X G body wb)(hs:∀x,foldedSetIterable iter X.env x=pure x:=by intro _;rfl):SimS X G (.For tg iter body [] pos) (wFor wi g wb):=
 (y9i hp hc hi hg hb hs).imp fun D σV H hh1=>by obtain⟨φ,σ,S,D0,L,R,h,k⟩:=hh1;exact(⟨φ,σ,S,_,L,R,h,fun it S1 φ1 H1 J q p1 m1 R1 hj=>by
  refine ⟨fun i m σV' H'=>m=it.xs.length-i/\i<=it.xs.length/\∃φ' σ' S',φ1 <+: φ'/\Mono H1 H'/\LRel X.K G H' φ' σ' σV'/\Rel X.K φ' S' H'/\z6h it.chk g wb D0 G.ek (it.xs.drop i) σ' S',⟨it.xs.length,by simp,Nat.zero_le _,φ1,σ,S1,List.prefix_refl _,.refl _,L.mono m1 p1,R1,by simpa using q⟩,?_⟩
  rintro i m σV' H' ⟨rfl,hi,φ',σ',S',p',m',L',R',hf⟩
  by_cases hlt:i<it.xs.length
  ·rw [List.drop_eq_getElem_cons hlt]at hf
   obtain ⟨hch,N,hN,hb⟩:=hf
   obtain ⟨jg,jy⟩:=hj.go φ' H' S' p' m' R' hch i _ (List.getElem?_eq_getElem hlt)
   refine .inr ⟨jg,fun σ2V H2=>∃φ2 σ2 S2,φ' <+: φ2/\Mono H' H2/\LRel X.K G H2 φ2 σ2 σ2V/\Rel X.K φ2 S2 H2/\N σ2 S2,?_,?_⟩
   ·rintro σ2V H2 ⟨φ2,σ2,S2,p2,m2,L2,R2,hn⟩
    exact ⟨it.xs.length-(i+1),by omega,rfl,hlt,φ2,σ2,S2,p'.trans p2,m'.trans m2,L2,R2,hN σ2 S2 hn⟩
   ·intro y H2 hy
    obtain ⟨φ2,p2,m2,R2,r2⟩:=jy y H2 hy
    refine ⟨φ2,_,σ',S',_,L'.mono m2 p2,R2,r2,hb,fun σ3 S3 φ3 H3 σ3V q3 p3 m3 R3 L3=>?_⟩
    refine ⟨φ3,σ3,S3,_,L3,R3,q3,⟨?_,k.rt.up (((p1.trans p').trans p2).trans p3) (((m1.trans m').trans m2).trans m3),k.nx.up (((p1.trans p').trans p2).trans p3) (((m1.trans m').trans m2).trans m3),?_⟩⟩
    ·exact fun σ4 S4 φ4 H4 σ4V q4 p4 m4 R4 L4=>⟨φ4,σ4,S4,(p2.trans p3).trans p4,(m2.trans m3).trans m4,L4,R4,q4⟩
    ·exact fun σ4 S4 φ4 H4 σ4V q4 p4 m4 R4 L4=>⟨φ4,σ4,S4,(p2.trans p3).trans p4,(m2.trans m3).trans m4,L4,R4,q4⟩
  ·have e:i=it.xs.length:=by omega
   subst e
   rw [List.drop_length]at hf
   exact .inl ⟨hj.stop φ' H' S' p' m' R' hf.1 _ (Nat.le_refl _),k.nx σ' S' φ' H' σV' hf.2 (p1.trans p') (m1.trans m') R' L'⟩⟩)
def q8y(ix:List (Option Nat))(σ:Loc):Loc:=ix.map fun o=>match o with
 |none=>none
 |some j=>match σ[j]? with
  |some v=>v
  |none=>none
abbrev NoX:EK:=fun _ _=>False
abbrev NoG:GX:=⟨NoX,fun _ _=>False⟩
def q9d(chk:q0h->Prop)(g:WG)(wc:WT)(we:WE)(Q:VC):List PV->List PV->Loc->q0h->Prop
 |[],ys,_,S=>chk S/\Q (.ref S.length) (S++[.lst ys])
 |x::r,ys,σ,S=>chk S/\∃N:List PV->Loc->q0h->Prop,(∀ys' σ' S',N ys' σ' S'->q9d chk g wc we Q r ys' σ' S')/\g x σ S NoX fun σ2 S2=>wc σ2 S2 NoX fun b S3=>if b=true then we σ2 S3 NoX (fun y S4=>N (ys++[y]) σ2 S4)else N ys σ2 S3
def q4f:WT:=fun _ S _ Q=>Q true S
def q5b(wi:WI)(ix:List (Option Nat))(g:WG)(wc:WT)(we:WE):WE:=fun σ S E Q=>wi σ S E fun it S1=>it.xs.length<=sizeLine/\q9d it.chk g wc we Q it.xs [] (q8y ix σ) S1
theorem z9j{K:Frag}{H:Hp}{φ:List Addr}{σ:Loc}{σV:St}(ix:List (Option Nat))(L:LRel K G H φ σ σV):LRel K NoG H φ (q8y ix σ) (q3o ix σV):=by
 refine⟨by simp[q8y,q3o],fun i v e=>?_,fun _ _ _ _ q=>q.elim⟩
 unfold q8y at e
 rw[List.getElem?_map]at e
 obtain⟨o,ho,e'⟩:=Option.map_eq_some_iff.mp e
 cases o with
 |none=>cases e'
 |some j=>
  dsimp only at e'
  cases hj:σ[j]? with
  |none=>rw[hj]at e';cases e'
  |some w=>
   rw[hj]at e'
   dsimp only at e'
   subst e'
   obtain⟨x,hx,r⟩:=L.at' j v hj
   refine⟨x,?_,r⟩
   unfold q3o
   rw[List.getElem?_map,ho]
   simp[hx]
end
end Ev
namespace Ev
open PySem L2 PySem.Spec PyProof.Rows
section
variable{X:Cx}{G:GX}{pos:Pos}
def zipP(xs ys:List PV):List PV:=(xs.zip ys).map fun p=>.tup [p.1,p.2]
end
abbrev Den:=List PV->q0h->EK->VC->Prop
def ClsP(K:Frag)(v:PV)(cls:Value):Prop:=∃c C,v=.exc c/\cls=.ref C/\PySem.W.nsIn K mainGlobals (Str.ofString c)=some (some (.ref C))
def xkOf(K:Frag)(f:PV->Hp->Prop):XK:=fun cls _ H'=>∃v,ClsP K v cls/\f v H'
def KX(K:Frag)(φ:List Addr)(H:Hp)(E0:EK)(f:PV->Hp->Prop):Prop:=∀v S' φ' H',E0 v S'->φ <+: φ'->Mono H H'->Rel K φ' S' H'->f v H'
theorem z8c{P:Program}{w:World}{X:Cx}{K:Frag}:q4t (CXE P w) X (xkOf K NoG.xh):=x0f.imp fun _ _ _ hh1=>by obtain⟨_,_,q⟩:=hh1;exact(q)
def q1h(K:Frag)(sp:Den):Sp:=fun vs H Q E=>∃φ args S Q0 E0 f,RVs K H φ args vs/\Rel K φ S H/\sp args S E0 Q0/\KE K φ H Q0 Q/\KX K φ H E0 f/\∀cls d H',xkOf K f cls d H'->E cls d H'
def q0y(sp:Den)(wa:WA):WE:=fun σ S E Q=>wa σ S E fun xs S1=>sp xs S1 E Q
theorem q0j{X:Cx}{G:GX}{pos:Pos}{k:Nat}{f:Addr}{fd:FuncData}{ps:List Str}{sp:Den}{x:Str}{p:Pos}{e:Expr}{es:List Expr}{wa:WA}(C:Cal X.prog X.w X.K X.mg X.base k x ps (q1h X.K sp) f fd)(hr:Room k X.A)(hx:q4t (CXE X.prog X.w) X (xkOf X.K G.xh))(ha:SimA X G (e::es) wa)(hg:Gl X x:=by rfl)
  (hdb:(x==("__debug__" : Str))=false:=by decide) (he:starEach (e::es) X.env=(false,eval e X.env)::starEach es X.env:=by rfl) (hpl:(backTo pos (starEach es X.env)).any (·.1)=false:=by rfl) :
  SimE X G (.Call (.Name x p) (e::es) [] pos) (q0y sp wa):=
 (y6p C.G hr hg C.m C.kp C.b .nil hx ha hdb he hpl).imp fun σV H Q hh1=>by obtain⟨φ,σ,S,Q0,L,R,h,k⟩:=hh1;exact(⟨φ,σ,S,_,L,R,h,fun v S1 φ1 H1 x q p1 m1 R1 r1=>
  ⟨φ1,v,S1,Q0,G.ek,G.xh,by rw [List.append_nil];exact r1,R1,q,k.up p1 m1,(L.mono m1 p1).kx,fun _ _ _ z=>z⟩⟩)
def fnP(np nl:Nat)(w:WS):Den:=fun args S E Q=>args.length=np/\w {nx:=fun _ S'=>Q .non S',rt:=Q} E (args.map some++List.replicate (nl-np) none) S
theorem z7d{K:Frag}{G:GX}{H:Hp}{φ:List Addr}{args:List PV}{vs:List V}(N:List Str)(r:RVs K H φ args vs)(kx:KX K φ H G.ek G.xh):LRel K G H φ (args.map some++List.replicate (N.length-args.length) none) (L2.q7h N vs):=by
 refine⟨by unfold L2.q7h;simp[r.length],fun i v e=>?_,kx⟩
 by_cases hi:i<args.length
 ·rw[List.getElem?_append_left (by simpa using hi),List.getElem?_map]at e
  obtain⟨u,hu,e'⟩:=Option.map_eq_some_iff.mp e
  cases e'
  obtain⟨x,hx,rx⟩:=r.get hu
  refine⟨x,?_,rx⟩
  unfold L2.q7h
  rw[List.getElem?_append_left (by simpa[<-r.length]using hi),List.getElem?_map,hx]
  rfl
 ·rw[List.getElem?_append_right (by simpa using hi),List.getElem?_replicate]at e
  split at e<;>cases e
theorem x2d{P:Program}{w:World}{K:Frag}{mg:Str->Option Value}{base:Heap}{x qual:Str}{st:Stmt}{f:Addr}{fd:FuncData}{N ps:List Str}{k:Nat}{wb:WS}(F:Fun K x qual st f fd)(Sc:FnScope N ps (q1n st))
  (sim:∀(cdv:Value)(A:Around)(outer:List Env)(s:Shared)(H:Hp)(E:XK)(G:GX),RoomW k (A.deeper (envOfC qual (q1n st) s.heap.objs.size f cdv))->q4t (CXE P w) (cxOf (CXE P w) P w K mg base N qual (q1n st) f cdv A outer s H E) (xkOf K G.xh)->
   q8e (cxOf (CXE P w) P w K mg base N qual (q1n st) f cdv A outer s H E) G (q4v st) wb) :
  FnOk P w K mg base (CXE P w) (k+1) f fd ps (q1h K (fnP ps.length N.length wb)):=by
 refine F.okX Sc (fun vs H Q E h=>?_) (fun cdv A outer s H vs Q E hr h=>?_)
 ·obtain⟨φ,args,S,Q0,E0,g,r,_,⟨h,_⟩,_⟩:=h
  rw[<-r.length,h]
 ·obtain⟨φ,args,S,Q0,E0,g,r,R,⟨hl,h⟩,kk,kx,hE⟩:=h
  refine⟨_,sim cdv A outer s H E ⟨E0,g⟩ hr (x3r.imp hE),φ,_,S,{nx:=fun _ S'=>Q0 .non S',rt:=Q0},?_,R,h,⟨fun σ' S' φ' H' σV' q p m R' L'=>kk _ S' φ' H' _ q p m R' rfl,kk,fun _ _ _ _ _ q=>q.elim,fun _ _ _ _ _ q=>q.elim⟩⟩
  have:=z7d (G:=⟨E0,g⟩) N r kx
  rw[hl]at this
  exact this
theorem q2v{P:Program}{w:World}{K:Frag}{mg:Str->Option Value}{base:Heap}{k:Nat}{f:Addr}{fd:FuncData}{ps:List Str}:FnOk P w K mg base (CXE P w) k f fd ps (q1h K fun _ _ _ _=>False):=
 ⟨fun vs H Q E hh1=>by obtain⟨_,_,_,_,_,_,_,_,h,_⟩:=hh1;exact(h.elim),fun A outer s H args us vs Q E _ _ _ _ hh2=>by obtain⟨_,_,_,_,_,_,_,_,h,_⟩:=hh2;exact(h.elim)⟩
def LawP(sp:Den):Prop:=∀ns:List Int,ns.length<=63->sp [.frl (ns.map .int)] [] NoX fun v _=>v=.bl true
theorem x1h{K:Frag}{sp:Den}(h:LawP sp):∀(H:Hp)(a:Addr)(ns:List Int),ns.length<=63->Only H->SqL K H a (ns.map V.int)->q1h K sp [.ref a] H (fun v _=>v=.bl true) fun _ _ _=>False:=by
 intro H a ns hl hO hS
 refine⟨[],[.frl (ns.map .int)],[],_,NoX,fun _ _=>False,⟨_,_,rfl,⟨a,_,rfl,?_,RVs.of_ints ns⟩,rfl⟩,⟨rfl,by simp,fun n a o e=>by simp at e⟩,h ns hl,fun v S' φ' H' x q p m R r=>?_,fun _ _ _ _ q=>q.elim,fun _ _ _ hh1=>by obtain⟨_,_,q⟩:=hh1;exact(q)⟩
 ·rcases hS with hS|hS
  ·rcases hS with z|⟨o,z⟩
   ·rcases hO a with w|⟨o,xs,w⟩
    ·rw[z]at w;cases w
    ·rw[z]at w;cases w
   ·exact .inl ⟨o,z⟩
  ·exact .inr hS
 ·subst q
  exact r
end Ev
namespace L2
open PySem PySem.Spec PyProof.Rows
section
variable{prog:Program}{w:World}{A:Around}{E:Value->Shared->Prop}{s:Shared}
end
end L2
namespace Ev
open PySem L2
section
variable{X:Cx}{G:GX}{pos:Pos}
def z0o(f g:F2)(wa wb wc:WE):WE:=fun σ S E Q=>wa σ S E fun x S1=>wb σ S1 E fun y S2=>f x y S2 fun z S3=>match z with
 |.bl c=>if c=true then wc σ S3 E fun u S4=>g y u S4 Q else Q (.bl false) S3
 |_=>False
theorem z5y{f g:F2}{wa wb wc:WE}{σV:St}{H:Hp}{Q:VK}(h:q5e X.K G (z0o f g wa wb wc) σV H Q):y3y (q3g X.K f) (q3g X.K g) (q5e X.K G wa) (q5e X.K G wb) (q5e X.K G wc) σV H Q:=by
 obtain⟨φ,σ,S,Q0,L,R,h,k⟩:=h
 refine⟨φ,σ,S,_,L,R,h,fun v S1 φ1 H1 x q p1 m1 R1 r1=>⟨φ1,σ,S1,_,L.mono m1 p1,R1,q,fun u S2 φ2 H2 y q2 p2 m2 R2 r2=>?_⟩⟩
 refine⟨φ2,S2,v,u,_,R2,RV.mono m2 p2 _ _ r1,r2,q2,fun z S3 φ3 H3 z' q3 p3 m3 R3 r3=>?_⟩
 cases z with
 |bl c=>
  refine⟨c,r3,?_⟩
  cases c with
  |true=>exact⟨φ3,σ,S3,_,((L.mono m1 p1).mono m2 p2).mono m3 p3,R3,q3,fun t S4 φ4 H4 t' q4 p4 m4 R4 r4=>⟨φ4,S4,u,t,Q0,R4,RV.mono m4 p4 _ _ (RV.mono m3 p3 _ _ r2),r4,q4,k.up (((p1.trans p2).trans p3).trans p4) (((m1.trans m2).trans m3).trans m4)⟩⟩
  |false=>exact k _ S3 φ3 H3 _ q3 ((p1.trans p2).trans p3) ((m1.trans m2).trans m3) R3 rfl
 |_=>exact q3.elim
theorem z5q{op op':CmpOp}{f g:F2}{a b c:Expr}{wa wb wc:WE}(ho:OpR X (compareOp op) (q3g X.K f))(ho':OpR X (compareOp op') (q3g X.K g))(ha:SimE X G a wa)(hb:SimE X G b wb)(hc:SimE X G c wc)
  (hm:lastMarks [op,op'] [b,c]=false:=by with_unfolding_all rfl):SimT X G (.Compare a [op,op'] [b,c] pos) (q1d (z0o f g wa wb wc)):=(y1p ho ho' ha hb hc hm).imp fun _ _ _ h=>z1m (fun _ _ _ h=>z5y h) h
end
section
variable{X:Cx}{G:GX}{pos:Pos}
theorem q5j{K:Frag}{w:WI}(σ:St)(H:Hp)(R R':It->Hp->Prop)(h:∀J H1,R J H1->R' J H1)(q:y2l K G w σ H R):y2l K G w σ H R':=by
 obtain⟨φ,σ,S,Q0,L,R,hw,k⟩:=q
 exact⟨φ,σ,S,Q0,L,R,hw,fun it S' φ' H' J q p m R hj=>h _ _ (k it S' φ' H' J q p m R hj)⟩
theorem q6c{tg iter elt c:Expr}{scope:Scope}{wi:WI}{g:WG}{wc:WT}{we:WE}{ix:List (Option Nat)}{σV:St}{H:Hp}{Q:VK}(h:q5e X.K G (q5b wi ix g wc we) σV H Q):z2w (y2l X.K G wi) ix (z5z X.K NoG g) (q9w X.K NoG wc) (q5e X.K NoG we) σV H Q:=by
 obtain⟨φ,σ,S,Q0,L,R,h,k⟩:=h
 refine⟨φ,σ,S,_,L,R,h,fun it S1 φ1 H1 J hh1 p1 m1 R1 hj=>?_⟩
 obtain⟨hz,q⟩:=hh1
 refine⟨fun i ys σV' H'=>∃φ' σ' S' pys,φ1 <+: φ'/\Mono H1 H'/\LRel X.K NoG H' φ' σ' σV'/\Rel X.K φ' S' H'/\RVs X.K H' φ' pys ys/\q9d it.chk g wc we Q0 (it.xs.drop i) pys σ' S',it.xs.length,hz,⟨φ1,_,S1,[],List.prefix_refl _,.refl _,z9j ix (L.mono m1 p1),R1,rfl,by simpa using q⟩,?_⟩
 rintro i ys σV' H' hi ⟨φ',σ',S',pys,p',m',L',R',rys,hf⟩
 by_cases hlt:i<it.xs.length
 ·rw[List.drop_eq_getElem_cons hlt]at hf
  obtain⟨hch,N,hN,hb⟩:=hf
  obtain⟨jg,jy⟩:=hj.go φ' H' S' p' m' R' hch i _ (List.getElem?_eq_getElem hlt)
  refine .inr ⟨hlt,jg,fun y H2 hy=>?_⟩
  obtain⟨φ2,p2,m2,R2,r2⟩:=jy y H2 hy
  refine⟨φ2,_,σ',S',_,L'.mono m2 p2,R2,r2,hb,fun σ3 S3 φ3 H3 σ3V q3 p3 m3 R3 L3=>?_⟩
  refine⟨φ3,σ3,S3,_,L3,R3,q3,fun b S4 φ4 H4 q4 p4 m4 R4=>?_⟩
  cases b with
  |true=>
   have hw:we σ3 S4 NoX (fun y S4=>N (pys++[y]) σ3 S4):=q4
   refine⟨φ4,σ3,S4,_,L3.mono m4 p4,R4,hw,fun z S5 φ5 H5 z' q5 p5 m5 R5 r5=>?_⟩
   exact⟨φ5,σ3,S5,pys++[z],(((p'.trans p2).trans p3).trans p4).trans p5,(((m'.trans m2).trans m3).trans m4).trans m5,(L3.mono m4 p4).mono m5 p5,R5,(RVs.mono (((m2.trans m3).trans m4).trans m5) (((p2.trans p3).trans p4).trans p5) _ _ rys).append (.one r5),hN _ _ _ q5⟩
  |false=>exact⟨φ4,σ3,S4,pys,((p'.trans p2).trans p3).trans p4,((m'.trans m2).trans m3).trans m4,L3.mono m4 p4,R4,RVs.mono ((m2.trans m3).trans m4) ((p2.trans p3).trans p4) _ _ rys,hN _ _ _ q4⟩
 ·have e:i=it.xs.length:=by omega
  subst e
  rw[List.drop_length]at hf
  exact .inl ⟨hj.stop φ' H' S' p' m' R' hf.1 _ (Nat.le_refl _),(k.up (p1.trans p') (m1.trans m')).lst hf.2 R' rys⟩
theorem z4h{D:Ends}{σV:St}{H:Hp}{i:Nat}{w:WE}(h:y2k X.K G (wSet i w) D σV H):q5e X.K G w σV H fun v H1=>D.nx (σV.set i (some v)) H1:=by
 obtain⟨φ,σ,S,D0,L,R,h,k⟩:=h
 exact⟨φ,σ,S,_,L,R,h,fun v S1 φ1 H1 x q p1 m1 R1 r1=>k.nx _ S1 φ1 H1 _ q p1 m1 R1 ((L.mono m1 p1).set i r1)⟩
theorem z0s{K:Frag}(σ:St)(H:Hp)(Q:Bool->Hp->Prop)(h:q9w K NoG q4f σ H Q):Q true H:=by
 obtain⟨φ,σ,S,Q0,L,R,h,k⟩:=h
 exact k true S φ H h (List.prefix_refl _) (.refl _) R
theorem q7b{tg iter elt:Expr}{scope:Scope}{wi:WI}{g:WG}{we:WE}(N':List Str)(ix:List (Option Nat))(hc:X.calm=true)(co:CompOk X scope N' ix)(hi:SimI X G tg iter wi)(hg:∀cl C s H fp,SimG (X.comp scope N' cl C s H fp) NoG tg g)(he:∀cl C s H fp,SimE (X.comp scope N' cl C s H fp) NoG elt we)
  (hs:∀x,foldedSetIterable iter X.env x=pure x:=by intro _;rfl):SimE X G (.ListComp elt [⟨tg,iter,[],0⟩] scope pos) (q5b wi ix g q4f we):=
 (z4m (g:=z5z X.K NoG g) (tc:=q9w X.K NoG q4f) (te:=q5e X.K NoG we) hc co hi q5j hg (fun _ _ _ _ _=>z7q z0s) he hs).imp fun σV H Q h=>q6c (tg:=tg) (iter:=iter) (elt:=elt) (c:=elt) (scope:=scope) h
theorem q8o{tg iter elt c:Expr}{scope:Scope}{wi:WI}{g:WG}{wc:WT}{we:WE}(N':List Str)(ix:List (Option Nat))(hc:X.calm=true)(co:CompOk X scope N' ix)(hi:SimI X G tg iter wi)(hg:∀cl C s H fp,SimG (X.comp scope N' cl C s H fp) NoG tg g)(ht:∀cl C s H fp,SimT (X.comp scope N' cl C s H fp) NoG c wc)(he:∀cl C s H fp,SimE (X.comp scope N' cl C s H fp) NoG elt we)
  (hs:∀x,foldedSetIterable iter X.env x=pure x:=by intro _;rfl):SimE X G (.ListComp elt [⟨tg,iter,[c],0⟩] scope pos) (q5b wi ix g wc we):=
 (z4m (g:=z5z X.K NoG g) (tc:=q9w X.K NoG wc) (te:=q5e X.K NoG we) hc co hi q5j hg (fun cl C s H fp=>z7p (ht cl C s H fp)) he hs).imp fun σV H Q h=>q6c (tg:=tg) (iter:=iter) (elt:=elt) (c:=c) (scope:=scope) h
theorem q5q(i:Nat){x:Str}{px sp:Pos}{tg iter elt:Expr}{scope:Scope}{wi:WI}{g:WG}{we:WE}(N':List Str)(ix:List (Option Nat))(hN:X.N.Nodup)(hc:X.calm=true)(co:CompOk X scope N' ix)(hi:SimI X G tg iter wi)(hg:∀cl C s H fp,SimG (X.comp scope N' cl C s H fp) NoG tg g)(he:∀cl C s H fp,SimE (X.comp scope N' cl C s H fp) NoG elt we)
  (hsw:swapsWith (.ListComp elt [⟨tg,iter,[],0⟩] scope pos) (some (.Name x px)) sp.line X.env=pure true:=by rfl) (hii:X.N[i]?=some x:=by rfl) (hx:L2.Loc X.env.scope x:=by first|exact Or.inl rfl|exact Or.inr rfl)
  (hs:∀x,foldedSetIterable iter X.env x=pure x:=by intro _;rfl) (hf:X.fn x=true\/X.env.scope.names.lookup x=some .local:=by first|exact .inl rfl|exact .inr rfl|assumption) :
  SimS X G (.Assign [.Name x px] (.ListComp elt [⟨tg,iter,[],0⟩] scope pos) sp) (wSet i (q5b wi ix g q4f we)):=
 (q7m (g:=z5z X.K NoG g) (tc:=q9w X.K NoG q4f) (te:=q5e X.K NoG we) hsw hN hii hx hc co hi q5j hg (fun _ _ _ _ _=>z7q z0s) he hs hf).imp fun D σV H h=>q6c (tg:=tg) (iter:=iter) (elt:=elt) (c:=elt) (scope:=scope) (z4h h)
theorem q9l(i:Nat){x:Str}{px sp:Pos}{tg iter elt c:Expr}{scope:Scope}{wi:WI}{g:WG}{wc:WT}{we:WE}(N':List Str)(ix:List (Option Nat))(hN:X.N.Nodup)(hc:X.calm=true)(co:CompOk X scope N' ix)(hi:SimI X G tg iter wi)(hg:∀cl C s H fp,SimG (X.comp scope N' cl C s H fp) NoG tg g)(ht:∀cl C s H fp,SimT (X.comp scope N' cl C s H fp) NoG c wc)(he:∀cl C s H fp,SimE (X.comp scope N' cl C s H fp) NoG elt we)
  (hsw:swapsWith (.ListComp elt [⟨tg,iter,[c],0⟩] scope pos) (some (.Name x px)) sp.line X.env=pure true:=by rfl) (hii:X.N[i]?=some x:=by rfl) (hx:L2.Loc X.env.scope x:=by first|exact Or.inl rfl|exact Or.inr rfl)
  (hs:∀x,foldedSetIterable iter X.env x=pure x:=by intro _;rfl) (hf:X.fn x=true\/X.env.scope.names.lookup x=some .local:=by first|exact .inl rfl|exact .inr rfl|assumption) :
  SimS X G (.Assign [.Name x px] (.ListComp elt [⟨tg,iter,[c],0⟩] scope pos) sp) (wSet i (q5b wi ix g wc we)):=
 (q7m (g:=z5z X.K NoG g) (tc:=q9w X.K NoG wc) (te:=q5e X.K NoG we) hsw hN hii hx hc co hi q5j hg (fun cl C s H fp=>z7p (ht cl C s H fp)) he hs hf).imp fun D σV H h=>q6c (tg:=tg) (iter:=iter) (elt:=elt) (c:=c) (scope:=scope) (z4h h)
end
end Ev
namespace My
open PySem L2 Ev
def Ex(D:List Nat)(S S':q0h):Prop:=S.length<=S'.length/\∀i,i<S.length->i∉D->S'[i]?=S[i]?
theorem Ex.refl(D:List Nat)(S:q0h):Ex D S S:=⟨Nat.le_refl _,fun _ _ _=>rfl⟩
theorem Ex.trans{D:List Nat}{S S1 S2:q0h}(a:Ex D S S1)(b:Ex D S1 S2):Ex D S S2:=⟨Nat.le_trans a.1 b.1,fun i h n=>(b.2 i (Nat.lt_of_lt_of_le h a.1) n).trans (a.2 i h n)⟩
theorem Ex.weak{D D':List Nat}{S S':q0h}(a:Ex D S S')(h:∀i∈D,i∈D'):Ex D' S S':=⟨a.1,fun i l n=>a.2 i l fun z=>n (h i z)⟩
theorem Ex.nil{D:List Nat}{S S':q0h}(a:Ex [] S S'):Ex D S S':=a.weak fun i h=>by cases h
theorem Ex.app{D:List Nat}{S S':q0h}(a:Ex D S S')(xs:List SO):Ex D S (S'++xs):=⟨by rw[List.length_append];exact Nat.le_trans a.1 (Nat.le_add_right _ _),fun i h n=>by rw[List.getElem?_append_left (Nat.lt_of_lt_of_le h a.1)];exact a.2 i h n⟩
theorem Ex.set{D:List Nat}{S S':q0h}(a:Ex D S S'){i:Nat}{o:SO}(hi:i∈D\/S.length<=i):Ex D S (S'.set i o):=⟨by rw[List.length_set];exact a.1,fun j h n=>by
 rw [List.getElem?_set_ne]
 ·exact a.2 j h n
 ·rintro rfl
  rcases hi with z|z
  ·exact n z
  ·omega⟩
theorem Ex.get{D:List Nat}{S S':q0h}(a:Ex D S S'){i:Nat}{o:SO}(e:S[i]?=some o)(n:i∉D):S'[i]?=some o:=by
 rw[a.2 i (List.getElem?_eq_some_iff.mp e).1 n];exact e
theorem Ex.new(D:List Nat)(S:q0h)(xs:List SO):Ex D S (S++xs):=(Ex.refl D S).app xs
theorem q0t(S:q0h)(o:SO):(S++[o])[S.length]?=some o:=by simp
theorem q1a{S:q0h}{i:Nat}{o:SO}(e:S[i]?=some o)(xs:List SO):(S++xs)[i]?=some o:=by
 rw[List.getElem?_append_left (List.getElem?_eq_some_iff.mp e).1];exact e
theorem q2f{S:q0h}{i:Nat}{o:SO}(u:SO)(e:S[i]?=some o):(S.set i u)[i]?=some u:=List.getElem?_set_self (List.getElem?_eq_some_iff.mp e).1
theorem q1z{S:q0h}{i j:Nat}{o:SO}(u:SO)(e:S[i]?=some o)(h:j≠i):(S.set j u)[i]?=some o:=by rw[List.getElem?_set_ne h];exact e
theorem q0u{S:q0h}{i:Nat}{o:SO}(e:S[i]?=some o):i<S.length:=(List.getElem?_eq_some_iff.mp e).1
theorem q1i{S:q0h}{n:Nat}{xs:List PV}(e:S[n]?=some (.lst xs)):q5l S n=some xs:=by unfold q5l;rw[e]
theorem q0q{S:q0h}{n:Nat}{xs:List PV}(e:S[n]?=some (.lst xs)):q2w S n=some xs:=by unfold q2w;rw[e]
theorem y5s(S:q0h)(xs:List PV):q2w (S++[.lst xs]) S.length=some xs:=q0q (q0t _ _)
theorem y7a(S:q0h)(xs:List PV):q5l (S++[.lst xs]) S.length=some xs:=q1i (q0t _ _)
theorem seqI{a b:WS}{D:PEnds}{E:EK}{σ:Ev.Loc}{S:q0h}(h:∀K:Ev.Loc->q0h->Prop,(∀σ S,b D E σ S->K σ S)->a {D with nx:=K} E σ S):wSeq a b D E σ S:=h _ fun _ _ z=>z
theorem forI{chk:q0h->Prop}{g:WG}{wb:WS}{D:PEnds}{E:EK}(P:List PV->Ev.Loc->q0h->Prop)(hn:∀σ S,P [] σ S->chk S/\D.nx σ S)
  (hc:∀x r σ S,P (x::r) σ S->∀N:Ev.Loc->q0h->Prop,(∀σ S,P r σ S->N σ S)->chk S/\g x σ S E fun σ2 S2=>wb {nx:=N,rt:=D.rt,ct:=N,bk:=D.nx} E σ2 S2):∀(xs:List PV)(σ:Ev.Loc)(S:q0h),P xs σ S->z6h chk g wb D E xs σ S
 |[],σ,S,h=>hn σ S h
 |x::r,σ,S,h=>⟨(hc x r σ S h (P r) fun _ _ z=>z).1,P r,fun σ' S' q=>forI P hn hc r σ' S' q,(hc x r σ S h (P r) fun _ _ z=>z).2⟩
theorem y3g{chk:q0h->Prop}{g:WG}{wc:WT}{we:WE}{Q:VC}(P:List PV->List PV->Ev.Loc->q0h->Prop)(hn:∀ys σ S,P [] ys σ S->chk S/\Q (.ref S.length) (S++[.lst ys]))
  (hc:∀x r ys σ S,P (x::r) ys σ S->∀N:List PV->Ev.Loc->q0h->Prop,(∀ys σ S,P r ys σ S->N ys σ S)->chk S/\g x σ S NoX fun σ2 S2=>wc σ2 S2 NoX fun b S3=>if b=true then we σ2 S3 NoX (fun y S4=>N (ys++[y]) σ2 S4)else N ys σ2 S3):∀(xs ys:List PV)(σ:Ev.Loc)(S:q0h),P xs ys σ S->q9d chk g wc we Q xs ys σ S
 |[],ys,σ,S,h=>hn ys σ S h
 |x::r,ys,σ,S,h=>⟨(hc x r ys σ S h (P r) fun _ _ _ z=>z).1,P r,fun ys' σ' S' q=>y3g P hn hc r ys' σ' S' q,(hc x r ys σ S h (P r) fun _ _ _ z=>z).2⟩
theorem z6u{c:WT}{b:WS}{D:PEnds}{E:EK}{σ:Ev.Loc}{S:q0h}(P:Nat->Ev.Loc->q0h->Prop)(m:Nat)(h0:P m σ S)
  (hs:∀m σ S,P m σ S->∀T F:Ev.Loc->q0h->Prop,(∀S1,(∀N:Ev.Loc->q0h->Prop,(∀m' σ' S',m'<m->P m' σ' S'->N σ' S')->b {D with nx:=N,ct:=N,bk:=D.nx} E σ S1)->T σ S1)->(∀S1,D.nx σ S1->F σ S1)->c σ S E fun bo S1=>if bo=true then T σ S1 else F σ S1):z0l c b D E σ S:=by
 refine⟨P,⟨m,h0⟩,fun m σ S p=>?_⟩
 exact hs m σ S p (fun σ S1=>∃N:Ev.Loc->q0h->Prop,(∀σ' S',N σ' S'->∃m',m'<m/\P m' σ' S')/\b {D with nx:=N,ct:=N,bk:=D.nx} E σ S1) D.nx (fun S1 h=>⟨fun σ' S'=>∃m',m'<m/\P m' σ' S',fun σ' S' n=>n,h _ fun m' σ' S' a b=>⟨m',a,b⟩⟩) fun S1 h=>h
theorem y2s:("tuple" ∈q4r)=True:=by simp[q4r]
theorem x1n:("str" ∈q4r)=True:=by simp[q4r]
theorem x1o:("int" ∈q4r)=True:=by simp[q4r]
theorem y7d:("bool" ∈q4r)=True:=by simp[q4r]
theorem q6v:isT "NoneType" "list" = false:=rfl
theorem q6l:isT "NoneType" "tuple" = false:=rfl
theorem q8a:isT "NoneType" "str" = false:=rfl
theorem q8b:isT "NoneType" "int" = false:=rfl
theorem q6w:isT "NoneType" "bool" = false:=rfl
theorem z1w:isT "bool" "list" = false:=rfl
theorem z0e:isT "bool" "tuple" = false:=rfl
theorem z3p:isT "bool" "str" = false:=rfl
theorem z3q:isT "bool" "int" = true:=rfl
theorem z1x:isT "bool" "bool" = true:=rfl
theorem z3n:isT "int" "list" = false:=rfl
theorem z1v:isT "int" "tuple" = false:=rfl
theorem z6c:isT "int" "str" = false:=rfl
theorem z6d:isT "int" "int" = true:=rfl
theorem z3o:isT "int" "bool" = false:=rfl
theorem z3j:isT "str" "list" = false:=rfl
theorem z1s:isT "str" "tuple" = false:=rfl
theorem z6a:isT "str" "str" = true:=rfl
theorem z6b:isT "str" "int" = false:=rfl
theorem z3k:isT "str" "bool" = false:=rfl
theorem z0b:isT "tuple" "list" = false:=rfl
theorem q8j:isT "tuple" "tuple" = true:=rfl
theorem z1q:isT "tuple" "str" = false:=rfl
theorem z1r:isT "tuple" "int" = false:=rfl
theorem z0c:isT "tuple" "bool" = false:=rfl
theorem z1t:isT "list" "list" = true:=rfl
theorem z0d:isT "list" "tuple" = false:=rfl
theorem z3l:isT "list" "str" = false:=rfl
theorem z3m:isT "list" "int" = false:=rfl
theorem z1u:isT "list" "bool" = false:=rfl
theorem y6x:nrf .non=true:=rfl
theorem x0t(b:Bool):nrf (.bl b)=true:=rfl
theorem y6y(b:Int):nrf (.int b)=true:=rfl
theorem y6w(b:Str):nrf (.str b)=true:=rfl
theorem z8i(b:List PV):nrf (.tup b)=nrfs b:=by simp only[nrf]
theorem z9w(a b:Int):eqB (.int a) (.int b)=decide (a=b):=by simp only[eqB];exact Bool.beq_eq_decide_eq a b
theorem q4x(a b:Str):eqB (.str a) (.str b)=decide (a=b):=by
 simp only[eqB]
 by_cases h:a=b
 ·subst h;simp
 ·rw[decide_eq_false h];exact beq_eq_false_iff_ne.mpr h
theorem y4m(a:Str)(b:List PV):eqB (.str a) (.tup b)=false:=by simp only[eqB]
theorem y4l(a:List PV)(b:Str):eqB (.tup a) (.str b)=false:=by simp only[eqB]
theorem q6q(a b:List PV):eqB (.tup a) (.tup b)=eqBs a b:=by simp only[eqB]
theorem y2e(a:Str):okEq (.str a)=True:=by simp[okEq,nrf,dep]
theorem q6j(l:List Str):q3x (l.map PV.str):=by
 refine⟨?_,?_⟩
 ·induction l with
  |nil=>rfl
  |cons a r ih=>simp only[List.map_cons,nrfs,nrf,ih,Bool.and_self]
 ·induction l with
  |nil=>simp[deps]
  |cons a r ih=>simp only[List.map_cons,deps,dep];omega
theorem z1g:q3x []=True:=by simp[q3x,nrfs,deps]
theorem x2p(a b:Int)(S:q0h)(Q:VC):cEq (.int a) (.int b) S Q=(Q (.bl (decide (a=b))) S):=by simp only[cEq,cEqG,nrf,z9w,q4z,q4y,true_and,and_self]
theorem x2n(a b:Str)(S:q0h)(Q:VC):cEq (.str a) (.str b) S Q=(Q (.bl (decide (a=b))) S):=by simp only[cEq,cEqG,nrf,q4x,q4z,q4y,true_and,and_self]
theorem y4q(a b:List PV)(S:q0h)(Q:VC):cEq (.tup a) (.tup b) S Q=((okEq (.tup a)/\okEq (.tup b))/\Q (.bl (eqBs a b)) S):=by simp only[cEq,cEqG,q4z,q4y]
theorem x2o(m n:Nat)(S:q0h)(Q:VC):cEq (.ref m) (.ref n) S Q=(match q2w S m,q2w S n with
  |some xs,some ys=>(q3x xs/\q3x ys)/\Q (.bl (eqBs xs ys)) S
  |_,_=>False):=by simp only [cEq,cEqG,q4z,q4y];try rfl
theorem x2l(a b:Int)(S:q0h)(Q:VC):cNe (.int a) (.int b) S Q=(Q (.bl (!decide (a=b))) S):=by simp only[cNe,cEqG,nrf,z9w,q4z,q4y,true_and,and_self]
theorem x2j(a b:Str)(S:q0h)(Q:VC):cNe (.str a) (.str b) S Q=(Q (.bl (!decide (a=b))) S):=by simp only[cNe,cEqG,nrf,q4x,q4z,q4y,true_and,and_self]
theorem x2i(a b:List PV)(S:q0h)(Q:VC):cNe (.tup a) (.tup b) S Q=((okEq (.tup a)/\okEq (.tup b))/\Q (.bl (!eqBs a b)) S):=by simp only[cNe,cEqG,q4z,q4y]
theorem x2k(m n:Nat)(S:q0h)(Q:VC):cNe (.ref m) (.ref n) S Q=(match q2w S m,q2w S n with
  |some xs,some ys=>(q3x xs/\q3x ys)/\Q (.bl (!eqBs xs ys)) S
  |_,_=>False):=by simp only [cNe,cEqG,q4z,q4y];try rfl
theorem x2m(a b:Str)(S:q0h)(Q:VC):cIn (.str a) (.str b) S Q=(Q (.bl (inS a b)) S):=by simp only[cIn,cInG,q4z,q4y]
theorem x5e(x:PV)(b:List PV)(S:q0h)(Q:VC):cIn x (.tup b) S Q=((okEq x/\q3x b)/\Q (.bl (b.any fun y=>eqB y x)) S):=by cases x<;>simp only[cIn,cInG,q4z,q4y]
theorem z4z(x:PV)(n:Nat)(S:q0h)(Q:VC):q4o x (.ref n) S Q=(match q2w S n with
  |some ys=>(okEq x/\q3x ys)/\Q (.bl (!ys.any fun y=>eqB y x)) S
  |none=>False):=by cases x<;>(simp only [q4o,cInG,q4z,q4y];try rfl)
theorem big{n:Nat}(h:n<=1000000):n<=sizeLine:=Nat.le_trans h (by decide)
theorem bigl{n:Nat}(h:n<=1000000):n<sizeLine:=Nat.lt_of_le_of_lt h (by decide)
end My
namespace Ev
open PySem PySem.Spec PyProof.Rows L2
section
variable{X:Cx}{G:GX}{pos:Pos}
end
section
variable{X:Cx}{G:GX}{pos:Pos}
def Itv(K:Frag)(a:Addr)(n:Nat):It:=
 ⟨fun i H=>∃xs x,SqL K H a xs/\i<n/\xs[n-1-i]?=some x,fun i H x H'=>H'=H/\∀xs,SqL K H a xs->xs[n-1-i]?=some x,fun i _=>n<=i⟩
theorem y0z{P:Program}{w:World}{K:Frag}{tg:Expr}(a it:Addr)(n:Nat):Turn P w K tg (Itv K a n) [it] it (fun i h=>i<=n/\h.IsRevIter it a ((n:Int)-1-i)) where
 mem:=by simp
 obj:=fun i h st b hb=>by
  have e:b=it:=by simpa using hb
  subst e
  obtain⟨_,o,e,c,d⟩:=st
  exact⟨o,e,fun v z=>by rw[d]at z;cases z⟩
 keep:=fun i h h' st k=>⟨st.1,st.2.at fun o e=>k it (by simp) o e⟩
 item:=by
  intro X hP hw hK hc i pins s σ H E I hf st hg
  subst hP hw hK
  obtain⟨xs,x,hq,hi,hx⟩:=hg
  obtain⟨its,rv,p,hz⟩:=I.list hq
  obtain⟨u,hu,ru⟩:=rv.get hx
  obtain⟨f0,f1,f2,f3,f4,f5⟩:=hf it (by simp)
  have st2:=st.2
  rw[show(n:Int)-1-i=((n-1-i:Nat):Int) by omega]at st2
  refine wpAny_pyNext_rev_item st2 p.isList (x:=u) (by simpa using hu) fun h' st' sb=>?_
  have I1:Inv X pins σ H {s with heap:=h' }:=I.turned (t':=s.toks) (fun b o hb e=>(sb.2 b hb).trans e) f0 f1 f3 f4 f5
  rw[show((n-1-i:Nat):Int)-1=(n:Int)-1-((i+1:Nat):Int) by omega]at st'
  obtain⟨o,e,c,d⟩:=id st'
  exact⟨u,rfl,z6g (s:={s with heap:=h' }) e c d (by decide) ⟨x,H,I1,ru,⟨rfl,fun ys hy=>by rw[I.list_inj hy hq];exact hx⟩,⟨hi,st'⟩,fun b hb=>(hf b hb).1⟩⟩
 done:=by
  intro X hP hw hK hc i pins s σ H E I hf st hg
  subst hP hw hK
  obtain⟨f0,f1,f2,f3,f4,f5⟩:=hf it (by simp)
  have hg:n<=i:=hg
  have st2:=st.2
  have h1:=st.1
  rw[show(n:Int)-1-i=-1 by omega]at st2
  exact wpAny_pyNext_rev_end (I.ok.hd hc) st2 fun h' eb=>⟨rfl,I.turned (t':=s.toks) (fun b o hb e=>eb b o hb e) f0 f1 f3 f4 f5⟩
 self:=fun _ _ _ _ _ st h=>wpAny_pyIter_revIter st.2 h
def iRev(K:Frag)(tl:TE):TI:=fun σ H R=>tl σ H fun x H1=>∃a xs,x=.ref a/\SqL K H1 a xs/\R (Itv K a xs.length) H1
theorem y3j:bootBuiltins (Str.ofString "reversed")=some (.type "reversed"):=by with_unfolding_all rfl
theorem y9q{tg l:Expr}{tl:TE}{p:Pos}(hl:PE X l tl)(hm:X.mg "reversed" = none)(hg:Gl X "reversed" :=by rfl)(he:starEach [l] X.env=(false,eval l X.env)::starEach [] X.env:=by rfl):PI X tg (.Call (.Name "reversed" p) [l] [] pos) (iRev X.K tl):=by
 intro pins s σ H R I h
 refine wpAny_Call_Name_kw (q6o I hg hm y3j ?_)
 refine PyProof.Rows.callWith_type1 ?_ he rfl
 rw[he]
 show wpAny _ _ (spliced ((false,eval l X.env)::backTo pos (starEach [] X.env))) _ _ s
 refine Calls.spliced_cons (thn (hl pins s σ H _ I h) ?_)
 rintro v s1 ⟨x,H1,I1,r1,a,xs,rfl,hq,q⟩
 refine Calls.spliced_nil ?_
 cases r1
 obtain⟨its,rv,p,hz⟩:=I1.list hq
 refine call_reversed_list p.isList ?_
 have e0:(its.toArray.size:Int)-1=(xs.length:Int)-1-((0:Nat):Int):=by have:=rv.length;simp;omega
 refine wpAny_pyIter_revIter (l:=a) (i:=(its.toArray.size:Int)-1) ⟨_,Heap.get?_push_size _ rfl,rfl,rfl⟩ ?_
 refine⟨s1.heap.objs.size,[s1.heap.objs.size],_,_,H1,rfl,I1.kept (t':=s1.toks) fun b o e=>Heap.get?_push_of_some _ e,y0z a _ xs.length,⟨Nat.zero_le _,_,Heap.get?_push_size _ rfl,rfl,by rw[e0];rfl⟩,fun b hb=>?_,q⟩
 have e:b=s1.heap.objs.size:=by simpa using hb
 subst e
 exact I1.fpOk (Nat.le_refl _) (I1.hok.fresh (Nat.le_refl _))
theorem y7l{K:Frag}{φ:List Addr}{H:Hp}{n k:Nat}{a:Addr}{xs:List PV}(qa:φ[n]?=some a)(hk:k=xs.length):ItR K φ H (Itv K a k) ⟨xs.reverse,fun S=>q2w S n=some xs⟩ where
 go:=fun φ1 H1 S1 p m R e i x hx=>by
  subst hk
  obtain⟨vs,sa,ra⟩:=R.seq (q9q p qa) e
  have hi:i<xs.length:=by have:=(List.getElem?_eq_some_iff.mp hx).1;simpa using this
  have hx':xs[xs.length-1-i]?=some x:=by rw[<-List.getElem?_reverse hi];exact hx
  obtain⟨y,ey,ry⟩:=ra.get hx'
  refine⟨⟨vs,y,sa,hi,ey⟩,fun y' H' hh1=>?_⟩
  obtain⟨e1,e2⟩:=hh1
  subst e1
  have:=e2 vs sa
  rw[ey]at this
  cases this
  exact⟨φ1,List.prefix_refl _,.refl _,R,ry⟩
 stop:=fun φ1 H1 S1 p m R e i hi=>by
  subst hk
  have:xs.reverse.length<=i:=hi
  rw[List.length_reverse]at this
  exact this
def y0r(w:WE):WI:=fun σ S E Q=>w σ S E fun x S1=>match x with
 |.ref n=>match q2w S1 n with
  |some xs=>Q ⟨xs.reverse,fun S=>q2w S n=some xs⟩ S1
  |none=>False
 |_=>False
theorem y1l{tg l:Expr}{w:WE}{p:Pos}(hm:X.mg "reversed" = none)(hl:SimE X G l w)(hg:Gl X "reversed" :=by rfl)(he:starEach [l] X.env=(false,eval l X.env)::starEach [] X.env:=by rfl):SimI X G tg (.Call (.Name "reversed" p) [l] [] pos) (y0r w):=
 PI.imp (y9q hl hm hg he) fun σV H Q hh1=>by obtain⟨φ,σ,S,Q0,L,R,h,k⟩:=hh1;exact(⟨φ,σ,S,_,L,R,h,fun v S1 φ1 H1 x q p1 m1 R1 r1=>by
  split at q
  ·rename_i n
   split at q
   ·rename_i xs e
    obtain ⟨a,rfl,qa⟩:=r1
    obtain ⟨vs,sa,ra⟩:=R1.seq qa e
    exact ⟨a,vs,rfl,sa,k _ S1 φ1 H1 _ q p1 m1 R1 (y7l qa ra.length.symm)⟩
   ·exact q.elim
  ·exact q.elim⟩)
end
section
variable{X:Cx}{G:GX}{pos:Pos}
def x3a(K:Frag)(te:TE):TE:=fun σ H Q=>te σ H fun x H1=>∃a xs,x=.ref a/\SqL K H1 a xs/\∀p,H1 p=none->Q (.ref p) (upd H1 p (.lst xs.reverse))
theorem y6m{e:Expr}{te:TE}{k:Nat}{p2 p3 p4:Pos}(he:PE X e te):PE X (.Subscript e (.Slice none none (some (.UnaryOp .USub (.Constant (.int 1) k p3) p4)) p2) pos) (x3a X.K te):=by
 intro pins s σ H Q I h
 refine Subscript_ (thn (he pins s σ H _ I h) fun v s1 hh1=>?_)
 obtain⟨x,H1,I1,r1,q1⟩:=hh1
 refine wpAny_Slice ?_
 rw[evalPart_none]
 refine wpAny_pure ?_
 refine wpAny_pure ?_
 refine thn (z7t (y9u y3v y4f) pins s1 σ H1 (fun i H2=>i=some (-1)/\H2=H1) I1 ⟨1,rfl,-1,rfl,rfl,rfl⟩) fun vk s4 hh2=>?_
 obtain⟨i,H2,I2,pk,e1,e2⟩:=hh2
 subst e1 e2
 obtain⟨a,xs,rfl,hx,q⟩:=q1
 cases r1
 have I4:Inv X pins σ H2 {s4 with heap:=s4.heap.push {cls:=.type "slice",data:=.fields #[.none,.none,vk]}}:=I2.kept (t':=s4.toks) fun b ob q=>Heap.get?_push_of_some _ q
 obtain⟨its,r,ht,hz⟩:=I4.list hx
 have hlen:=r.length
 show wpAny (model X.prog X.w) X.A (subscriptTail e (.Slice none none _ p2) (.ref a) (.ref s4.heap.objs.size)) (EP X pins σ Q) X.xe {s4 with heap:=s4.heap.push {cls:=.type "slice",data:=.fields #[.none,.none,vk]}}
 refine tail_any (T:= "list") (ops:=[.ref a,.ref s4.heap.objs.size]) ht.isList.typeIs slot_list_getitem.lookup ?_ (by with_unfolding_all rfl)
 refine wpAny_getItem_list_slice ht.isList (Heap.IsSliceOf.new ..) .none .none pk (by simp) ?_ (by rw[List.size_toArray]<;>omega)
 rw[PySem.W.krv_pick]
 refine⟨.ref _,_,I4.laid (t':=s4.toks) (o:=.lst xs.reverse) (fun b ob q=>Heap.get?_push_of_some _ q) (Nat.le_refl _) ?_,rfl,q _ (I4.hok.fresh (Nat.le_refl _))⟩
 exact⟨by rw[List.length_reverse];exact hz,_,0,r.reverse,Heap.get?_push_size _ rfl⟩
def z0m(w:WE):WE:=fun σ S E Q=>w σ S E fun x S1=>match x with
 |.ref n=>match q5l S1 n with
  |some xs=>Q (.ref S1.length) (S1++[.lst xs.reverse])
  |none=>False
 |_=>False
theorem q9m{e:Expr}{w:WE}{k:Nat}{p2 p3 p4:Pos}(he:SimE X G e w):SimE X G (.Subscript e (.Slice none none (some (.UnaryOp .USub (.Constant (.int 1) k p3) p4)) p2) pos) (z0m w):=
 (y6m he).imp fun σV H Q hh1=>by obtain⟨φ,σ,S,Q0,L,R,h,k⟩:=hh1;exact(⟨φ,σ,S,_,L,R,h,fun v S1 φ1 H1 x q p1 m1 R1 r1=>by
  split at q
  ·rename_i n
   split at q
   ·rename_i xs e1
    obtain ⟨a,rfl,qa⟩:=r1
    obtain ⟨vs,ea,r⟩:=R1.lst qa e1
    exact ⟨a,vs,rfl,SqL.of ea,(k.up p1 m1).lst q R1 r.reverse⟩
   ·exact q.elim
  ·exact q.elim⟩)
end
end Ev
namespace My
open PySem L2 Ev
theorem ix_t(xs:List PV)(i:Int)(S:q0h)(Q:VC):bIx (.tup xs) (.int i) S Q=match atI xs i with
  |some v=>Q v S
  |none=>False:=rfl
theorem ix_s(z:Str)(i:Int)(S:q0h)(Q:VC):bIx (.str z) (.int i) S Q=(z.length<=sizeLine/\match atI z.cps.toList i with
  |some c=>Q (.str ⟨#[c]⟩) S
  |none=>False):=rfl
theorem ix_f(xs:List PV)(i:Int)(S:q0h)(Q:VC):bIx (.frl xs) (.int i) S Q=match atI xs i with
  |some v=>Q v S
  |none=>False:=rfl
theorem ix_r(n:Nat)(y:PV)(S:q0h)(Q:VC):bIx (.ref n) y S Q=match S[n]? with
  |some (.lst xs)=>match y with
   |.int i=>match atI xs i with
    |some v=>Q v S
    |none=>False
   |_=>False
  |some (.dK kvs)=>match z0a y with
   |some k=>match valP kvs k with
    |some v=>Q v S
    |none=>False
   |none=>False
  |_=>False:=rfl
end My
namespace L2
open PySem PySem.Spec PyProof.Rows
def Cx.nx(X:Cx):Cx:={X with xe:=fun _ _=>False}
def Cx.hd(X:Cx)(e:Addr):Cx:={X with A:=X.A.mark (some (.ref e)),calm:=false,xe:=fun _ _=>False}
section
variable{X:Cx}{pins:List (Addr×Obj)}{σ:St}{H H':Hp}{s:Shared}
theorem Inv.nx(I:Inv X pins σ H s):Inv X.nx pins σ H s:=
 ⟨⟨I.ok.mod,I.ok.kind,I.ok.glob,I.ok.blt,I.ok.above,I.ok.inj,I.ok.has,I.ok.cab,I.ok.hd,I.ok.frames,I.ok.stk,I.ok.exf,I.ok.bs,I.ok.bsz,I.ok.noex,I.ok.exfs,I.ok.funs,I.ok.frf⟩,I.os,I.bare,I.base,I.loc,I.cell,I.free,I.freeC,I.pin,I.hok,I.len⟩
theorem Inv.ofnx(o:X.Ok)(I:Inv X.nx pins σ H s):Inv X pins σ H s:=⟨o,I.os,I.bare,I.base,I.loc,I.cell,I.free,I.freeC,I.pin,I.hok,I.len⟩
theorem Inv.hd{e:Addr}(I:Inv X pins σ H s):Inv (X.hd e) pins σ H s:=
 ⟨⟨I.ok.mod,I.ok.kind,I.ok.glob,I.ok.blt,I.ok.above,I.ok.inj,I.ok.has,I.ok.cab,fun z=>(Bool.false_ne_true z).elim,I.ok.frames,I.ok.stk,I.ok.exf,I.ok.bs,I.ok.bsz,I.ok.noex,I.ok.exfs,I.ok.funs,I.ok.frf⟩,I.os,I.bare,I.base,I.loc,I.cell,I.free,I.freeC,I.pin,I.hok,I.len⟩
theorem Inv.ofhd{e:Addr}(o:X.Ok)(I:Inv (X.hd e) pins σ H s):Inv X pins σ H s:=⟨o,I.os,I.bare,I.base,I.loc,I.cell,I.free,I.freeC,I.pin,I.hok,I.len⟩
theorem SP.imp{Y:Cx}{D:Ends}{f:Flow}(i:∀σ H s,Inv Y pins σ H s->Inv X pins σ H s)(h:SP Y pins D f s):SP X pins D f s:=by
 unfold SP at *
 cases f with
 |next=>obtain⟨a,b,c,d⟩:=h;exact⟨a,b,i _ _ _ c,d⟩
 |brk=>obtain⟨a,b,c,d⟩:=h;exact⟨a,b,i _ _ _ c,d⟩
 |cont=>obtain⟨a,b,c,d⟩:=h;exact⟨a,b,i _ _ _ c,d⟩
 |ret u=>obtain⟨v,a,b,c,d⟩:=h;exact⟨v,a,b,i _ _ _ c,d⟩
end
def EXE(X:Cx)(pins:List (Addr×Obj))(σ:St)(E:XK):Value->Shared->Prop:=fun e s'=>∃H1 s1,Inv X pins σ H1 s1/\CXE X.prog X.w X.stack H1 s1 E e s'
abbrev TEX:=St->Hp->VK->XK->Prop
def PEX(X:Cx)(e:Expr)(t:TEX):Prop:=
 ∀(pins:List (Addr×Obj))(s:Shared)(σ:St)(H:Hp)(Q:VK)(E:XK),Inv X pins σ H s->t σ H Q E->wpAny (model X.prog X.w) X.A (eval e X.env) (EP X pins σ Q) (EXE X pins σ E) s
abbrev XC:=Value->St->Hp->Prop
abbrev TSX:=Ends->XC->St->Hp->Prop
def XEnd(X:Cx)(pins:List (Addr×Obj))(E:XC):Value->Shared->Prop:=fun e s'=>∃σ,EXE X pins σ (fun cls _ H'=>E cls σ H') e s'
def PSX(X:Cx)(st:Stmt)(t:TSX):Prop:=
 ∀(pins:List (Addr×Obj))(s:Shared)(σ:St)(H:Hp)(D:Ends)(E:XC),Inv X pins σ H s->t D E σ H->wpAny (model X.prog X.w) X.A (exec st X.env) (SP X pins D) (XEnd X pins E) s
def PSXs(X:Cx)(st:List Stmt)(t:TSX):Prop:=
 ∀(pins:List (Addr×Obj))(s:Shared)(σ:St)(H:Hp)(D:Ends)(E:XC),Inv X pins σ H s->t D E σ H->wpAny (model X.prog X.w) X.A (execs st X.env) (SP X pins D) (XEnd X pins E) s
section
variable{X:Cx}{k:Nat}{f:Addr}{fd:FuncData}{ps:List Str}{sp:Sp}{dvs:List V}{ds:List Value}{x:Str}{p pos:Pos}{e:Expr}{es:List Expr}{t:TA}
theorem y5t{pins:List (Addr×Obj)}{σ:St}{H:Hp}{s:Shared}{Q:VK}{E:XK}{us:List Value}{vs:List V}(F:FnOk X.prog X.w X.K X.mg X.base (CXE X.prog X.w) k f fd ps sp)(hr:Room k X.A)(hb:z0j X.K fd ps ds)(hd:Vals dvs ds)
  (I:Inv X pins σ H s) (r:Vals vs us) (h:sp (vs++dvs) H Q E):wpAny (model X.prog X.w) X.A (call (.ref f) us) (EP X pins σ Q) (EXE X pins σ E) s:=by
 have r2:Vals (vs++dvs) (us++ds):=r.append hd
 have hl:(us++ds).length=ps.length:=by rw[<-r2.length];exact F.len _ _ _ _ h
 refine wpAny_call (codeAny_mono (F.run X.A X.stack s H ⟨us,[]⟩ (us++ds) (vs++dvs) Q E hr I.env0 (hb s us I.kIn hl) r2 h) fun r s' hq=>?_)
 cases r with
 |error e=>exact⟨H,s,I,hq⟩
 |ok fl=>
  cases fl with
  |ret u=>exact I.after hq
  |next=>exact False.elim hq
  |brk=>exact False.elim hq
  |cont=>exact False.elim hq
theorem y1x(F:FnOk X.prog X.w X.K X.mg X.base (CXE X.prog X.w) k f fd ps sp)(hr:Room k X.A)(hg:Gl X x)(hm:X.mg x=some (.ref f))(hk:PySem.W.keepIn X.K (.ref f)=true)(hb:z0j X.K fd ps ds)(hd:Vals dvs ds)
  (ha:PA X.nx (e::es) t) (hdb:(x==("__debug__" : Str))=false:=by decide) (he:starEach (e::es) X.env=(false,eval e X.env)::starEach es X.env:=by rfl) (hpl:(backTo pos (starEach es X.env)).any (·.1)=false:=by rfl) :
  PEX X (.Call (.Name x p) (e::es) [] pos) (fun σ H Q E=>t σ H fun vs H1=>sp (vs++dvs) H1 Q E):=by
 intro pins s σ H Q E I h
 refine wpAny_Call_Name_kw (q7y I hg hm ?_ hdb)
 refine PySem.W.callWith_K (h₀:=X.base) I.ok.mod.kin hk (wpAny_mono (ha pos pins s σ H _ I.nx h) (fun us s1 ⟨vs,H1,I1,r,q⟩=>⟨(I1.ofnx I.ok).kIn,?_⟩) fun _ _ z=>z.elim) he hpl
 exact y5t F hr hb hd (I1.ofnx I.ok) r q
end
section
variable{X:Cx}{e:Expr}{te:TEX}{pos:Pos}
theorem y6b{i:Nat}{x:Str}{pos':Pos}(hN:X.N.Nodup)(hi:X.N[i]?=some x)(hx:Loc X.env.scope x)(he:PEX X e te)(hs:swapsWith e (some (.Name x pos')) pos.line X.env=pure false:=by rfl)(hf:X.fn x=true\/X.env.scope.names.lookup x=some .local:=by first|exact .inl rfl|exact .inr rfl|assumption) :
  PSX X (.Assign [.Name x pos'] e pos) (fun D E σ H=>te σ H (fun v H1=>D.nx (σ.set i (some v)) H1) fun cls _ H'=>E cls σ H'):=by
 intro pins s σ H D E I h
 refine wpAny_Assign_Name (wpAny_mono (he pins s σ H _ _ I h) (fun v s1 ⟨y,H1,I1,r1,q1⟩=>?_) fun _ _ z=>⟨σ,z⟩) hs
 exact q6z I1 hN hi hx r1 (fun s2 I2=>⟨_,H1,I2,q1⟩) hf
theorem y1q:PSXs X [] (fun D _ σ H=>D.nx σ H):=by
 intro pins s σ H D E I h
 exact wpAny_execs_nil ⟨σ,H,I,h⟩
theorem z7r{st:Stmt}{sts:List Stmt}{t u:TSX}(a:PSX X st t)(b:PSXs X sts u):PSXs X (st::sts) (fun D E σ H=>t {D with nx:=fun σ1 H1=>u D E σ1 H1} E σ H):=by
 intro pins s σ H D E I h
 refine wpAny_execs_cons (wpAny_mono (a pins s σ H _ E I h) (fun f s1 q=>?_) fun _ _ z=>z)
 cases f with
 |next=>obtain⟨σ1,H1,I1,q1⟩:=q;exact b pins s1 σ1 H1 D E I1 q1
 |ret u=>exact q
 |brk=>exact q
 |cont=>exact q
end
section
variable{X:Cx}{pins:List (Addr×Obj)}{σ:St}{H H':Hp}{s:Shared}
theorem Inv.gone{i:Nat}{x:Str}{h':Heap}{t':Nat}{m:Str->Option Value}{v:Option Value}(I:Inv X pins σ H s)(hN:X.N.Nodup)(hi:X.N[i]?=some x)(hm:s.heap.Ns X.env.locals m)(hn':h'.Ns X.env.locals (fun y=>if y=x then v else m y))(hs:Heap.SameBut X.env.locals s.heap h') :
  Inv X pins (σ.set i none) H {s with heap:=h',toks:=t' }:=by
 obtain⟨m0,hn,hl⟩:=id I.loc
 have em:m0=m:=by rw[hn.eq_nsMap,hm.eq_nsMap]
 subst em
 have cne:=I.cne
 have tracked:HOk X.prog X.w H h':=fun b ob e=>by
  refine(I.hok b ob e).stay (fun c w' hc q=>(hs.2 c ?_).trans q) (fun _ q=>q) fun _ _ q=>q
  rintro rfl
  rcases hc with rfl|hc
  ·rw[I.free]at e;cases e
  ·rw[I.free]at hc;cases hc
 refine⟨I.ok,I.os,I.bare,⟨fun b o e n hb hx=>?_,fun b o e n hb hx=>?_,I.base.free,fun b o e hx=>?_,I.base.tups,I.base.frzs,I.base.tbls⟩,⟨_,hn',fun j y v' e1 e2 e3=>?_⟩,fun y c e=>?_,I.free,I.freeC,fun p hp=>?_,tracked,by simpa using I.len⟩
 ·exact(hs.2 b (Nat.ne_of_lt (Nat.lt_of_lt_of_le (Heap.lt_size e) I.ok.above))).trans (I.base.keep b o e n hb hx)
 ·obtain⟨sl,e1⟩:=I.base.slot b o e n hb hx
  exact⟨sl,(hs.2 b (Nat.ne_of_lt (Nat.lt_of_lt_of_le (Heap.lt_size e) I.ok.above))).trans e1⟩
 ·obtain⟨o',e1⟩:=I.base.there b o e hx
  exact⟨o',(hs.2 b (Nat.ne_of_lt (Nat.lt_of_lt_of_le (Heap.lt_size e) I.ok.above))).trans e1⟩
 ·have hj:j≠i:=by
   rintro rfl
   by_cases hlt:j<σ.length
   ·rw[List.getElem?_set_self hlt]at e2;cases e2
   ·rw[List.getElem?_eq_none (by simpa using hlt)]at e2;cases e2
  rw[List.getElem?_set_ne (Ne.symm hj)]at e2
  obtain⟨u',r',q⟩:=hl j y v' e1 e2 e3
  refine⟨u',r',?_⟩
  rcases q with⟨k,e⟩|⟨k,c,e,z⟩
  ·refine .inl ⟨k,?_⟩
   have:y≠x:=fun e=>hj (q9v hN e1 (e▸hi))
   simp[this,e]
  ·exact .inr ⟨k,c,e,z.sameBut hs (cne y c e)⟩
 ·obtain⟨w',z⟩:=I.cell y c e
  exact⟨w',z.sameBut hs (cne y c e)⟩
 ·obtain⟨e,n,ne,nf,d⟩:=I.pin p hp
  exact⟨(hs.2 p.1 ne).trans e,n,ne,nf,d⟩
theorem Inv.news{b:Addr}(I:Inv X pins σ H s)(n:s.heap.get? b=none):(b∈X.ex\/X.s₀.heap.get? b=none)/\b≠X.env.locals/\(∀x c,X.env.cells.lookup x=some c->c≠b)/\∀p∈X.pn++pins,p.1≠b:=by
 refine⟨?_,?_,fun x c e z=>?_,fun p hp z=>?_⟩
 ·by_cases hb:b∈X.ex
  ·exact .inl hb
  ·refine .inr ?_
   cases q:X.s₀.heap.get? b with
   |none=>rfl
   |some o=>
    obtain⟨o',e1⟩:=I.base.there b o q hb
    rw[n]at e1;cases e1
 ·rintro rfl
  obtain⟨m,⟨o,_,_,ho,_⟩,_⟩:=I.loc
  rw[n]at ho;cases ho
 ·subst z
  obtain⟨v,o,ho,_⟩:=I.cell x c e
  rw[n]at ho;cases ho
 ·subst z
  obtain⟨e,_⟩:=I.pin p hp
  rw[n]at e;cases e
theorem y2f{h h':Heap}{L:Addr}{m:Str->Option Value}(hn:h.Ns L m)(k:∀o,h.get? L=some o->∃sl,h'.get? L=some {o with slots:=sl}):h'.Ns L m:=by
 obtain⟨o,es,ep,ho,r⟩:=hn
 obtain⟨sl,e⟩:=k o ho
 exact⟨_,es,ep,e,r⟩
theorem Inv.past{h':Heap}{own:List Addr}(I:Inv X pins σ H s)(hst:X.stack=X.env::X.outer)(hf:X.env.frame=some X.env.locals)(nw:∀b∈own,((b∈X.ex\/X.s₀.heap.get? b=none)/\b≠X.env.locals/\(∀x c,X.env.cells.lookup x=some c->c≠b)/\∀p∈X.pn++pins,p.1≠b)/\H b=none)
  (p:Past (frs X.stack) own s.heap h'):Inv X pins σ H {s with heap:=h' }:=by
 have efs:frs X.stack=X.env.locals::X.fs:=by rw[hst];show frs (X.env::X.outer)=_;unfold frs;rw[List.filterMap_cons,hf];rfl
 refine I.stepX (ch:=own) (g':=s.gens) (d':=s.drawn) (t':=s.toks) (fun b hb=>(nw b hb).1) (fun b o n1 n2 n3 e _=>?_) (fun b o n1 n2 n3 e _=>?_) (fun b o _ _ z=>z) (fun b o _ e=>p.there b o e) (fun b xs z=>z) (fun b o u z=>z) (fun b ps z=>⟨#[],by rw[Array.append_empty];exact z⟩) (fun m hn=>?_) (HOk.past I.hok p I.stkFree fun b hb=>(nw b hb).2) I.bare
 ·exact p.keep b o e n3 (by rw[efs];exact fun z=>(List.mem_cons.mp z).elim n1 n2)
 ·exact p.slot b o e n3 (by rw[efs];exact List.mem_cons_of_mem _ n2)
 ·refine y2f hn fun o ho=>p.slot _ o ho (fun z=>(nw _ z).1.2.1 rfl) (by rw[efs];exact List.mem_cons_self)
end
def y4t(a:Addr)(cls:Value)(h:Heap):Prop:=∃o vs,h.get? a=some o/\o.cls=cls/\o.data=.fields vs
theorem y4t.ok{P:Program}{w:World}{H:Hp}{a T:Addr}{cls:Value}{h:Heap}(F:Fly a cls [T] h):q2a P w H h a (.ext (y4t a cls)):=by
 obtain⟨oe,vs,hd,he,hc,hdt,h1,hh⟩:=F.is
 refine⟨⟨oe,vs,he,hc,hdt⟩,⟨oe,he⟩,fun h1 h2 hh1 k=>by obtain⟨o,vs,q,c,d⟩:=hh1;exact(⟨o,vs,k o q,c,d⟩)⟩
section
variable{X:Cx}{i:Nat}{y n:Str}{yp hpos pos:Pos}{cv:Value}{body suite:List Stmt}{b₀:Stmt}{tb:TSX}{ts:TS}
theorem x2h{pins:List (Addr×Obj)}{E:XC}{e:Value}{s':Shared}{Q:Flow->Shared->Prop}{hs:List ExceptHandler}(hst:X.stack=X.env::X.outer)(hf:X.env.frame=some X.env.locals)(h:XEnd X pins E e s')
  (go:∀a T cls σ H h',e=.ref a->Inv X pins σ H {s' with heap:=h' }->Fly a cls [T] h'->(∀b∈[a,T],((b∈X.ex\/X.s₀.heap.get? b=none)/\b≠X.env.locals/\(∀x c,X.env.cells.lookup x=some c->c≠b)/\∀p∈X.pn++pins,p.1≠b)/\H b=none)->E cls σ H->wpAny (model X.prog X.w) X.A (handleBy (.ref a) X.env hs) Q X.xe {s' with heap:=h' }) :
  wpAny (model X.prog X.w) X.A (noteFrame e X.env) (fun _ s₂=>wpAny (model X.prog X.w) X.A (setFlight e none) (fun _ s₃=>wpAny (model X.prog X.w) X.A (handleBy e X.env hs) Q X.xe s₃) X.xe s₂) X.xe s':=by
 obtain⟨σ,H1,s1,I1,a,cls,own,H2,rfl,os,bare,un,hok,F,new,q⟩:=h
 have I2:Inv X pins σ H2 s':=I1.call' os un hok bare (fun b z=>absurd z (by simp))
 refine z4o (base:=X.base) (outer:=X.outer) (by rw[I2.ok.frames,hst]) (by have:=I2.stack;rw[hst]at this;exact this) hf F fun h' T nT P' F'=>?_
 have nw:∀b∈a::own,((b∈X.ex\/X.s₀.heap.get? b=none)/\b≠X.env.locals/\(∀x c,X.env.cells.lookup x=some c->c≠b)/\∀p∈X.pn++pins,p.1≠b)/\H2 b=none:=fun b hb=>⟨I1.news (new b hb).1,(new b hb).2⟩
 refine go a T cls σ H2 h' rfl (I2.past hst hf nw (by rw[hst];exact P')) F' (fun b hb=>?_) q
 simp only[List.mem_cons,List.not_mem_nil,or_false]at hb
 rcases hb with rfl|rfl
 ·exact nw b (by simp)
 ·exact⟨I2.news nT,HOk.none_of I2.hok nT⟩
end
theorem y6e{X:Cx}{y:Str}{yp hpos pos:Pos}{cv:Value}{body suite:List Stmt}{b₀:Stmt}{tb:TSX}{ts:TS}(hst:X.stack=X.env::X.outer)(hf:X.env.frame=some X.env.locals)(hB:PSXs X body tb)(hg:Gl X y)(hm:X.mg y=some cv)(hS:∀a,PSs (X.hd a) (b₀::suite) ts)
  (hd:(y==("__debug__" : Str))=false:=by decide) :
  PS X (.Try body [.ExceptHandler (some (.Name y yp)) none (b₀::suite) hpos] [] [] pos) (fun D σ H=>tb D (fun cls σ' H'=>PySem.W.exmOne X.K cls cv=some true/\ts D σ' H') σ H):=by
 intro pins s σ H D I h
 have ok:=I.ok
 refine wpAny_Try_except (wpAny_mono (hB pins s σ H _ _ I h) (fun f s1 q=>?_) fun e s1 q=>?_)
 ·cases f with
  |next=>exact wpAny_execs_nil q
  |ret u=>exact q
  |brk=>exact q
  |cont=>exact q
 ·refine x2h hst hf q fun a T cls σ1 H1 h1 _ I1 F1 nw hh1=>?_
  obtain⟨em,hq⟩:=hh1
  refine wpAny_handleBy_cons (codeAny_handlers_test ?_) (by intro z;cases z)
  refine q7y (X:=X.hd a) (I1.hd (e:=a)) hg hm ?_ hd
  obtain⟨oe,vs,hdv,he,hc,hdt,h1',hh⟩:=id F1.is
  subst hc
  have LT:PySem.W.Looks (model X.prog X.w) h1 (typeOf (.ref a)) oe.cls:=by
   unfold typeOf
   exact(PySem.W.Looks.ld he).andThen .now
  refine PySem.W.exm_one I1.kIn LT em _ _ _ _ (fun _ _ z=>z) ?_
  show codeAny _ _ _ _ _
  refine codeAny_handlers_suite ?_
  refine y2n (fs:=frs X.stack) F1 fun h2 P2 F2=>?_
  have I2:Inv X pins σ1 H1 {s1 with heap:=h2}:=I1.past (s:={s1 with heap:=h1}) (h':=h2) hst hf (own:=[T]) (fun b hb=>nw b (by simp only[List.mem_singleton]at hb;subst hb;simp)) P2
  refine wpAny_mono (hS a pins _ _ _ _ (I2.hd (e:=a)) hq) (fun f s4 q4=>?_) fun _ _ z=>z.elim
  exact q4.imp fun _ _ _=>Inv.ofhd ok
end L2
namespace L2
open PySem PySem.Spec PySem.W PySem.Calls PyProof.Rows Builtin Builtin.ObjectAttr Builtin.Getset_descriptor
structure ExcK(K:Frag)(D:Addr):Prop where
 c:(clsIn K D).isSome=true
 ga:findIn K (.ref D) "__getattribute__" = some (some (.builtin "BaseException.__getattribute__"))
 nga:findIn K (.ref D) "__getattr__" = some none
 cl:findIn K (.ref D) "__class__" = some (some (.builtin "object.__class__"))
 gt:specialIn K (.builtin "object.__class__") "__get__" = some (some (.builtin "getset_descriptor.__get__"))
 tk:takesIn K (.builtin "object.__class__")=some true
 mo:mroIn K D (.type "object")=some true
 mb:mroIn K D (.type "BaseException")=some true
section
variable{K:Frag}{D x:Addr}{prog:Program}{w:World}{A:Around}{E:Value->Shared->Prop}{s:Shared}
end
end L2
namespace Ev
open PySem L2 PySem.Spec PyProof.Rows
theorem LRel.nog{K:Frag}{G:GX}{H:Hp}{φ:List Addr}{σ:Loc}{σV:L2.St}(L:LRel K G H φ σ σV):LRel K NoG H φ σ σV:=⟨L.len,L.at',fun _ _ _ _ q=>q.elim⟩
structure ExcC(K:Frag)(mg:Str->Option Value)(c:String):Prop where
 is:∃C,PySem.W.nsIn K mainGlobals (Str.ofString c)=some (some (.ref C))/\mg (Str.ofString c)=some (.ref C)/\PySem.W.excIn K C vErr "ValueError.__new__" = true
def q5r(c:String)(wa:WA):WS:=fun _ E σ S=>wa σ S E fun xs S1=>xs.length<=sizeLine/\E (.exc c) S1
section
variable{X:Cx}{G:GX}{pos:Pos}
theorem q4q{c:String}{x:Str}{np cpos:Pos}{e0:Expr}{wa:WA}(C:ExcC X.K X.mg c)(hx:q4t (CXE X.prog X.w) X (xkOf X.K G.xh))(hc:X.calm=true)(ha:SimA X G [e0] wa)(ex:x=Str.ofString c:=by rfl)(hg:Gl X x:=by rfl)
  (hd:(x==("__debug__" : Str))=false:=by decide) (he:starEach [e0] X.env=(false,eval e0 X.env)::starEach [] X.env:=by rfl):SimS X G (.Raise (some (.Call (.Name x np) [e0] [] cpos)) none pos) (q5r c wa):=by
 obtain⟨C,h1,h2,h3⟩:=C.is
 subst ex
 exact(y1t hx hc hg h2 h3 ha hd he).imp fun D σV H hh1=>by obtain⟨φ,σ,S,D0,L,R,h,k⟩:=hh1;exact(⟨φ,σ,S,_,L,R,h,fun v S1 φ1 H1 x hh2 p1 m1 R1 r1=>by obtain⟨hl,q⟩:=hh2;exact(⟨by rw[<-r1.length];exact hl,.exc c,⟨c,C,rfl,rfl,h1⟩,(L.mono m1 p1).kx _ S1 φ1 H1 q (List.prefix_refl _) (.refl _) R1⟩)⟩)
end
abbrev XEK:=PV->Loc->q0h->Prop
abbrev WSX:=PEnds->XEK->Loc->q0h->Prop
def KXS(K:Frag)(G:GX)(φ:List Addr)(H:Hp)(E0:XEK)(E:XC):Prop:=∀v σ' S' φ' H' σV' cls,E0 v σ' S'->φ <+: φ'->Mono H H'->Rel K φ' S' H'->LRel K G H' φ' σ' σV'->ClsP K v cls->E cls σV' H'
theorem KXS.up{K:Frag}{G:GX}{φ φ1:List Addr}{H H1:Hp}{E0:XEK}{E:XC}(k:KXS K G φ H E0 E)(p:φ <+: φ1)(m:Mono H H1):KXS K G φ1 H1 E0 E:=fun v σ' S' φ' H' σV' cls q p' m'=>k v σ' S' φ' H' σV' cls q (p.trans p') (m.trans m')
def y4j(K:Frag)(G:GX)(w:WSX):TSX:=fun D E σV H=>∃φ σ S D0 E0,LRel K G H φ σ σV/\Rel K φ S H/\w D0 E0 σ S/\KS K G φ H D0 D/\KXS K G φ H E0 E
def y8g(X:Cx)(G:GX)(st:Stmt)(w:WSX):Prop:=PSX X st (y4j X.K G w)
def z2u(X:Cx)(G:GX)(st:List Stmt)(w:WSX):Prop:=PSXs X st (y4j X.K G w)
def x1e(K:Frag)(G:GX)(w:WE):TEX:=fun σV H Q E=>∃φ σ S Q0 E0,LRel K G H φ σ σV/\Rel K φ S H/\w σ S E0 Q0/\KE K φ H Q0 Q/\∀v S' φ' H' cls d,E0 v S'->φ <+: φ'->Mono H H'->Rel K φ' S' H'->ClsP K v cls->E cls d H'
def x2t(X:Cx)(G:GX)(e:Expr)(w:WE):Prop:=PEX X e (x1e X.K G w)
theorem _root_.L2.PEX.imp{X:Cx}{e:Expr}{t t':TEX}(h:PEX X e t)(i:∀σ H Q E,t' σ H Q E->t σ H Q E):PEX X e t':=fun pins s σ H Q E I q=>h pins s σ H Q E I (i σ H Q E q)
theorem _root_.L2.PSX.imp{X:Cx}{e:Stmt}{t t':TSX}(h:PSX X e t)(i:∀D E σ H,t' D E σ H->t D E σ H):PSX X e t':=fun pins s σ H D E I q=>h pins s σ H D E I (i D E σ H q)
theorem _root_.L2.PSXs.imp{X:Cx}{e:List Stmt}{t t':TSX}(h:PSXs X e t)(i:∀D E σ H,t' D E σ H->t D E σ H):PSXs X e t':=fun pins s σ H D E I q=>h pins s σ H D E I (i D E σ H q)
def z4d(sp:Den)(wa:WA):WE:=fun σ S E Q=>wa σ S NoX fun xs S1=>sp xs S1 E Q
def y0o(i:Nat)(w:WE):WSX:=fun D E σ S=>w σ S (fun v S'=>E v σ S') fun v S1=>D.nx (σ.set i (some v)) S1
def y5b:WSX:=fun D _ σ S=>D.nx σ S
def y5a(w1 w2:WSX):WSX:=fun D E σ S=>w1 {D with nx:=w2 D E} E σ S
section
variable{X:Cx}{G:GX}{pos:Pos}
theorem z7j{k:Nat}{f:Addr}{fd:FuncData}{ps:List Str}{sp:Den}{x:Str}{p:Pos}{e:Expr}{es:List Expr}{wa:WA}(C:Cal X.prog X.w X.K X.mg X.base k x ps (q1h X.K sp) f fd)(hr:Room k X.A)(ha:SimA X.nx NoG (e::es) wa)(hg:Gl X x:=by rfl)
  (hdb:(x==("__debug__" : Str))=false:=by decide) (he:starEach (e::es) X.env=(false,eval e X.env)::starEach es X.env:=by rfl) (hpl:(backTo pos (starEach es X.env)).any (·.1)=false:=by rfl) :
  x2t X G (.Call (.Name x p) (e::es) [] pos) (z4d sp wa):=
 (y1x (dvs:=[]) C.G hr hg C.m C.kp C.b .nil ha hdb he hpl).imp fun σV H Q E hh1=>by obtain⟨φ,σ,S,Q0,E0,L,R,h,k,kx⟩:=hh1;exact(⟨φ,σ,S,_,L.nog,R,h,fun v S1 φ1 H1 x q p1 m1 R1 r1=>
  ⟨φ1,v,S1,Q0,E0,fun v' H'=>∀cls d,ClsP X.K v' cls->E cls d H',by rw [List.append_nil];exact r1,R1,q,k.up p1 m1,fun v' S' φ' H' q' p' m' R' cls d hc=>kx v' S' φ' H' cls d q' (p1.trans p') (m1.trans m') R' hc,fun cls d H' hh2=>by obtain ⟨v',hc,q'⟩:=hh2;exact (q' cls d hc)⟩⟩)
theorem y1d(i:Nat){x:Str}{e:Expr}{w:WE}{pos':Pos}(hN:X.N.Nodup)(he:x2t X G e w)(hi:X.N[i]?=some x:=by rfl)(hx:L2.Loc X.env.scope x:=by first|exact Or.inl rfl|exact Or.inr rfl)(hs:swapsWith e (some (.Name x pos')) pos.line X.env=pure false:=by rfl)(hf:X.fn x=true\/X.env.scope.names.lookup x=some .local:=by first|exact .inl rfl|exact .inr rfl|assumption) :
  y8g X G (.Assign [.Name x pos'] e pos) (y0o i w):=
 (y6b (i:=i) hN hi hx he hs hf).imp fun D E σV H hh1=>by obtain⟨φ,σ,S,D0,E0,L,R,h,k,kx⟩:=hh1;exact(⟨φ,σ,S,_,_,L,R,h,fun v S1 φ1 H1 x q p1 m1 R1 r1=>k.nx _ S1 φ1 H1 _ q p1 m1 R1 ((L.mono m1 p1).set i r1),fun v S' φ' H' cls d q p m R' hc=>kx v σ S' φ' H' σV cls q p m R' (L.mono m p) hc⟩)
theorem y1f:z2u X G [] y5b:=y1q.imp fun D E σV H hh1=>by obtain⟨φ,σ,S,D0,E0,L,R,h,k,kx⟩:=hh1;exact(k.nx σ S φ H σV h (List.prefix_refl _) (.refl _) R L)
theorem z7i{st:Stmt}{rest:List Stmt}{w1 w2:WSX}(h1:y8g X G st w1)(h2:z2u X G rest w2):z2u X G (st::rest) (y5a w1 w2):=
 (z7r h1 h2).imp fun D E σV H hh1=>by obtain⟨φ,σ,S,D0,E0,L,R,h,k,kx⟩:=hh1;exact(⟨φ,σ,S,_,_,L,R,h,⟨fun σ' S' φ' H' σV' q p m R' L'=>⟨φ',σ',S',D0,E0,L',R',q,k.up p m,kx.up p m⟩,k.rt,k.bk,k.ct⟩,kx⟩)
theorem y1e{st:Stmt}{w:WSX}(h:y8g X G st w):z2u X G [st] w:=(z7i h y1f).imp fun D E σV H hh1=>by obtain⟨φ,σ,S,D0,E0,L,R,h,k,kx⟩:=hh1;exact(⟨φ,σ,S,D0,E0,L,R,h,k,kx⟩)
end
def y6q(i:Nat)(D:PEnds):PEnds:={nx:=fun σ S=>D.nx (σ.set i none) S,rt:=D.rt,bk:=fun σ S=>D.bk (σ.set i none) S,ct:=fun σ S=>D.ct (σ.set i none) S}
structure Cau(K:Frag)(mg:Str->Option Value)(y:Str)(cs:List String):Prop where
 is:∃cv,mg y=some cv/\∀c∈cs,∃C,PySem.W.nsIn K mainGlobals (Str.ofString c)=some (some (.ref C))/\PySem.W.exmOne K (.ref C) cv=some true
def wTry(i:Nat)(cs:List String)(wb:WSX)(ws:WS):WS:=fun D _ σ S=>wb D (fun v σ' S'=>match v with
 |.exc c=>c∈cs/\ws (y6q i D) NoX (σ'.set i (some v)) S'
 |_=>False) σ S
section
variable{X:Cx}{G:GX}{pos:Pos}
end
def cV:V->Value
 |.ref a=>.ref a
 |.ty T=>.type T
 |_=>.none
def IsCV(v:V):Prop:=(∃a,v=.ref a)\/∃T,v=.ty T
theorem IsCV.eq{v:V}{u:Value}(h:IsCV v)(r:RelV v u):u=cV v:=by
 rcases h with⟨a,rfl⟩|⟨T,rfl⟩
 ·exact r
 ·exact r
def x2w(X:Cx)(y:Str)(v:V):Prop:=IsCV v/\∃u,RelV v u/\((X.mg y=some u)\/(X.mg y=none/\bootBuiltins y=some u/\y≠ "__name__"))
section
variable{X:Cx}{G:GX}{pos:Pos}
theorem x0c{y:Str}{v:V}(h:x2w X y v)(hg:Gl X y)(hd:(y==("__debug__" : Str))=false):PE X (.Name y pos) (tC v):=by
 obtain⟨_,u,r,h|⟨h1,h2,h3⟩⟩:=h
 ·exact z3b hg h r hd
 ·exact z8a hg h1 h2 r h3 hd
def x3e(vs:List V):TA:=fun _ H Q=>Q vs H
inductive Names(X:Cx):List Expr->List V->Prop
 |nil:Names X [] []
 |cons {y:Str} {p:Pos} {v:V} {es:List Expr} {vs:List V} (h:x2w X y v) (hg:Gl X y) (hd:(y==("__debug__" : Str))=false) (r:Names X es vs):Names X (.Name y p::es) (v::vs)
theorem Names.pa{es:List Expr}{vs:List V}(h:Names X es vs):PA X es (x3e vs):=by
 induction h with
 |nil=>exact z8d
 |cons h hg hd r ih=>exact z3c (x0c h hg hd) ih
theorem Names.cv{es:List Expr}{vs:List V}(h:Names X es vs):∀v∈vs,IsCV v:=by
 induction h with
 |nil=>simp
 |cons h hg hd r ih=>intro v hv;rcases List.mem_cons.mp hv with rfl|hv;exact h.1;exact ih v hv
def ExcH(H:Hp)(a C:Addr):Prop:=∃f:Heap->Prop,H a=some (.ext f)/\∀h,f h->∃o,h.get? a=some o/\o.cls=.ref C
structure TabX1(K:Frag)(cv:Value)(tab:List (String×Bool)):Prop where
 is:∀c b,tab.lookup c=some b->∃C,PySem.W.nsIn K mainGlobals (Str.ofString c)=some (some (.ref C))/\ExcK K C/\PySem.W.kitOne K (.ref C) cv=some b
structure TabXT(K:Frag)(cvs:List Value)(tab:List (String×Bool)):Prop where
 is:∀c b,tab.lookup c=some b->∃C,PySem.W.nsIn K mainGlobals (Str.ofString c)=some (some (.ref C))/\ExcK K C/\PySem.W.kitAny K (.ref C) cvs=some b
theorem ExcH.upd{H:Hp}{a C p:Addr}{o:HO}(x:ExcH H a C)(hp:H p=none):ExcH (upd H p o) a C:=by
 obtain⟨f,e,k⟩:=x
 exact⟨f,by rw[q0w (fun z=>by subst z;rw[hp]at e;cases e)];exact e,k⟩
end
def YV(mg:Str->Option Value)(y:Str)(v:V):Prop:=IsCV v/\∃u,RelV v u/\((mg y=some u)\/(mg y=none/\bootBuiltins y=some u/\y≠ "__name__"))
theorem YV.own{mg:Str->Option Value}{y:Str}{C:Addr}(h:mg y=some (.ref C)):YV mg y (.ref C):=⟨.inl ⟨C,rfl⟩,_,rfl,.inl h⟩
theorem YV.ty{mg:Str->Option Value}{y:Str}{T:String}(h:mg y=none)(b:bootBuiltins y=some (.type T))(n:y≠ "__name__" :=by decide):YV mg y (.ty T):=⟨.inr ⟨T,rfl⟩,_,rfl,.inr ⟨h,b,n⟩⟩
structure HIs1(K:Frag)(mg:Str->Option Value)(y:Str)(tab:List (String×Bool)):Prop where
 is:∃v,YV mg y v/\TabX1 K (cV v) tab
def y4s(mg:Str->Option Value):List Str->List V->Prop
 |[],[]=>True
 |y::ys,v::vs=>YV mg y v/\y4s mg ys vs
 |_,_=>False
structure HIsT(K:Frag)(mg:Str->Option Value)(ys:List Str)(tab:List (String×Bool)):Prop where
 is:∃vs,y4s mg ys vs/\TabXT K (vs.map cV) tab
theorem TabX1.nil{K:Frag}{cv:Value}:TabX1 K cv []:=⟨fun _ _ h=>by cases h⟩
theorem TabX1.cons{K:Frag}{cv:Value}{c:String}{C:Addr}{b:Bool}{tab:List (String×Bool)}(h:PySem.W.nsIn K mainGlobals (Str.ofString c)=some (some (.ref C)))(k:ExcK K C)(e:PySem.W.kitOne K (.ref C) cv=some b)(r:TabX1 K cv tab):TabX1 K cv ((c,b)::tab):=⟨fun c' b' q=>by
 rw [List.lookup_cons]at q
 split at q
 ·rename_i z
  have z:=eq_of_beq z
  subst z
  cases q
  exact ⟨C,h,k,e⟩
 ·exact r.is c' b' q⟩
theorem TabXT.nil{K:Frag}{cv:List Value}:TabXT K cv []:=⟨fun _ _ h=>by cases h⟩
theorem TabXT.cons{K:Frag}{cv:List Value}{c:String}{C:Addr}{b:Bool}{tab:List (String×Bool)}(h:PySem.W.nsIn K mainGlobals (Str.ofString c)=some (some (.ref C)))(k:ExcK K C)(e:PySem.W.kitAny K (.ref C) cv=some b)(r:TabXT K cv tab):TabXT K cv ((c,b)::tab):=⟨fun c' b' q=>by
 rw [List.lookup_cons]at q
 split at q
 ·rename_i z
  have z:=eq_of_beq z
  subst z
  cases q
  exact ⟨C,h,k,e⟩
 ·exact r.is c' b' q⟩
def CauL(K:Frag)(cv:Value)(cs:List String):Prop:=∀c∈cs,∃C,PySem.W.nsIn K mainGlobals (Str.ofString c)=some (some (.ref C))/\PySem.W.exmOne K (.ref C) cv=some true
theorem CauL.nil{K:Frag}{cv:Value}:CauL K cv []:=fun _ h=>by cases h
theorem CauL.cons{K:Frag}{cv:Value}{c:String}{C:Addr}{cs:List String}(h:PySem.W.nsIn K mainGlobals (Str.ofString c)=some (some (.ref C)))(e:PySem.W.exmOne K (.ref C) cv=some true)(r:CauL K cv cs):CauL K cv (c::cs):=fun c' hc=>by
 rcases List.mem_cons.mp hc with rfl|hc
 ·exact⟨C,h,e⟩
 ·exact r c' hc
section
variable{X:Cx}{G:GX}{pos:Pos}
end
section
variable{X:Cx}{G:GX}{pos:Pos}
def y0t(cs:List String)(wb:WSX)(ws:WS):WS:=fun D _ σ S=>wb D (fun v σ' S'=>match v with
 |.exc c=>c∈cs/\ws D NoX σ' S'
 |_=>False) σ S
theorem y1g{y:Str}{yp hpos:Pos}{body suite:List Stmt}{b₀:Stmt}{wb:WSX}{ws:WS}{cs:List String}(C:Cau X.K X.mg y cs)(hB:z2u X G body wb)(hS:∀a,q8e (X.hd a) NoG (b₀::suite) ws)(hst:X.stack=X.env::X.outer:=by rfl)(hf:X.env.frame=some X.env.locals:=by rfl)
  (hg:Gl X y:=by rfl) (hd:(y==("__debug__" : Str))=false:=by decide) :
  SimS X G (.Try body [.ExceptHandler (some (.Name y yp)) none (b₀::suite) hpos] [] [] pos) (y0t cs wb ws):=by
 obtain⟨cv,hm,hc⟩:=C.is
 refine(y6e (ts:=y2k X.K NoG ws) hst hf hB hg hm hS hd).imp fun D σV H ⟨φ,σ,S,D0,L,R,h,k⟩=>⟨φ,σ,S,D0,_,L,R,h,k,fun v σ' S' φ' H' σV' cls q p m R' L' hcl=>?_⟩
 obtain⟨c,C',rfl,rfl,hn⟩:=hcl
 obtain⟨hcs,hw⟩:=q
 obtain⟨C2,hn2,hx⟩:=hc c hcs
 rw[hn]at hn2
 cases hn2
 refine⟨hx,φ',_,S',_,L'.nog,R',hw,?_⟩
 have kk:=k.up p m
 have up:∀{σ1 φ1 H1 σV1},φ' <+: φ1->Mono H' H1->LRel X.K NoG H1 φ1 σ1 σV1->LRel X.K G H1 φ1 σ1 σV1:=fun {σ1 φ1 H1 σV1} p1 m1 L1=>⟨L1.len,L1.at',(L'.mono m1 p1).kx⟩
 exact⟨fun σ1 S1 φ1 H1 σV1 q1 p1 m1 R1 L1=>kk.nx _ S1 φ1 H1 _ q1 p1 m1 R1 (up p1 m1 L1),kk.rt,fun σ1 S1 φ1 H1 σV1 q1 p1 m1 R1 L1=>kk.bk _ S1 φ1 H1 _ q1 p1 m1 R1 (up p1 m1 L1),fun σ1 S1 φ1 H1 σV1 q1 p1 m1 R1 L1=>kk.ct _ S1 φ1 H1 _ q1 p1 m1 R1 (up p1 m1 L1)⟩
end
end Ev
namespace Ev
open PySem PySem.Spec PyProof.Rows L2
open PySem.AutoSeq1 (wpAny_loadPart')
section
variable{X:Cx}
end
section
variable{prog:Program}{w:World}{A:Around}{E:Value->Shared->Prop}{s:Shared}{r:Addr}{n:Int}{t u v:Tok}{Q:Value->Shared->Prop}
end
section
variable{X:Cx}{G:GX}{pos:Pos}
end
section
variable{X:Cx}{G:GX}{pos:Pos}{a:Expr}{ta:TE}{wa:WE}
end
section
variable{X:Cx}
end
section
variable{X:Cx}
end
section
variable{X:Cx}{G:GX}{pos:Pos}
structure EAt(e it a:Addr)(i:Nat)(h:Heap):Prop where
 ge:∃old,IsEnum h e it i old
 gi:h.IsListIter it a i
end
end Ev
namespace L2
open PySem PySem.Spec PyProof.Rows
section
variable{X:Cx}{tg iter kx vx:Expr}{scope:Scope}{pos:Pos}{N':List Str}{ix:List (Option Nat)}{wi:TI}
end
end L2
namespace Ev
open PySem PySem.Spec PyProof.Rows L2
section
variable{X:Cx}{G:GX}{pos:Pos}
end
section
variable{X:Cx}
end
section
variable{P:Program}{w:World}{κ:Type} [DecidableEq κ] {knd:HeapKind P w κ} {A:Around} {E:Value->Shared->Prop} {s:Shared}
end
section
variable{X:Cx}{G:GX}{pos:Pos}{pins:List (Addr×Obj)}{σ:L2.St}{H:Hp}{s:Shared}{φ:List Addr}
theorem Paired.app{α β:Type}{F:α->β->Prop}{l:List α}{m:List β}{a:α}{b:β}(h:Paired F l m)(r:F a b):Paired F (l++[a]) (m++[b]):=by
 induction h with
 |nil=>exact .cons r .nil
 |cons r' _ ih=>exact .cons r' ih
end
end Ev
namespace L2
open PySem PySem.Spec PyProof.Rows
section
variable{X:Cx}{tg iter kx vx:Expr}{scope:Scope}{pos:Pos}{N':List Str}{ix:List (Option Nat)}{wi:TI}{g:TG}{tk tv:TE}
end
end L2
namespace Ev
open PySem PySem.Spec PyProof.Rows L2
section
variable{X:Cx}{G:GX}{pos:Pos}
end
section
variable{X:Cx}{G:GX}{pos:Pos}
def y0v:WE:=fun _ S _ Q=>Q (.ref S.length) (S++[.dK []])
theorem y1i:SimE X G (.Dict [] [] pos) y0v:=
 (y1z (X:=X) (pos:=pos)).imp fun σV H Q hh1=>by obtain⟨φ,σ,S,Q0,L,R,h,k⟩:=hh1;exact(fun p hp=>
  have R2:Rel X.K (φ++[p]) (S++[.dK []]) (upd H p (.dK [])):=R.new (o:=.dK []) hp ⟨[],q2d,.nil⟩
  k _ _ _ _ _ h (List.prefix_append _ _) (.new _ hp) R2 ⟨p,rfl,by rw [<-R.len,List.getElem?_append_right (Nat.le_refl _)];simp⟩)
end
end Ev
namespace L2
open PySem PySem.Spec PyProof.Rows
section
variable{X:Cx}{tg iter kx vx:Expr}{scope:Scope}{pos:Pos}{N':List Str}{ix:List (Option Nat)}{wi:TI}{g:TG}{tk tv:TE}
end
end L2
namespace Ev
open PySem PySem.Spec PyProof.Rows L2
section
variable{X:Cx}{G:GX}{pos:Pos}
end
section
variable{X:Cx}{G:GX}{pos:Pos}
end
section
variable{X:Cx}{G:GX}{pos:Pos}
theorem q5s:∀{its:List Value}{ns:List Int},IntsAre its ns->Vals (ns.map V.int) its
 |_,_,.nil=>.nil
 |_,_,.cons n t h=>.cons ⟨t,rfl⟩ (q5s h)
theorem z3w:bootBuiltins "sorted" = some (.builtin "sorted"):=by kernel_rfl
end
section
variable{P:Program}{w:World}{A:Around}{E:Value->Shared->Prop}{s:Shared}{it d:Addr}{i ep:Nat}{od:Obj}{es:Array DictEntry}
theorem y2v{Q:Value->Shared->Prop}(hd:(d==sysModules)=false)(hT:s.TypeIs (.ref d) "dict")(ho:s.heap.get? d=some od)(hdd:od.data=.dict es ep)
  (hQ:Q (.ref s.heap.objs.size) {s with heap:=s.heap.push {cls:=.type "dict_keyiterator",data:=.fields #[.ref d,.int 0 0,.int es.size 0,.int ep 0]}}):wpAny (model P w) A (pyIter (.ref d)) Q E s:=by
 refine wpAny_pyIter_slot hT PySem.F.slot_dict_iter (wpAny_call_entry PySem.F.slot_dict_iter hT PySem.F.entry_dict_iter ?_ (PySem.F.args_dict_iter_1 _))
 unfold Builtin.«dict.__iter__» Builtin.Dict.dictSlotNone
 refine wpAny_bind (wpAny_bind (wpAny_notOrdered_dict hT ?_))
 show wpAny _ _ (pure (Value.ref d)) _ _ s
 apply wpAny_pure
 show wpAny _ _ (Builtin.Dict.showsAll d >>= _) _ _ s
 rw[show Builtin.Dict.showsAll d=pure () by unfold Builtin.Dict.showsAll;rw[hd];rfl]
 refine wpAny_bind (wpAny_pure (wpAny_bind (wpAny_dictEntries ho hdd (wpAny_bind (wpAny_dictEpoch ho hdd ?_)))))
 exact wpAny_bind (wpAny_newObj_type (wpAny_pure ⟨_,rfl, "dict_keyiterator",_,⟨_,Heap.get?_push_size _ rfl,rfl⟩,PySem.F.slot_dict_keyiterator_next.lookup,hQ⟩))
theorem y2g{Q:Option Value->Shared->Prop}(hit:s.heap.IsKeyIter it d i es.size ep)(hod:s.heap.get? d=some od)(hdd:od.data=.dict es ep)(hi:i<es.size)
  (hQ:∀h',h'.IsKeyIter it d (i+1) es.size ep->Heap.SameBut it s.heap h'->Q (some es[i].key) {s with heap:=h' }):wpAny (model P w) A (pyNext (.ref it)) Q E s:=by
 have hT:=hit.typeIs
 obtain⟨o,ho,hc,hf⟩:=hit
 unfold pyNext
 refine wpAny_bind (wpAny_attempt (wpAny_callSpecial?_slot (name:= "__next__") hT PySem.F.slot_dict_keyiterator_next (wpAny_call_entry PySem.F.slot_dict_keyiterator_next hT PySem.F.entry_dict_keyiterator_next ?_ (PySem.F.args_dict_keyiterator_next_1 _))))
 refine wpAny_bind (wpAny_pure (wpAny_bind (wpAny_bind ?_)))
 first|refine wpAny_bind (wpAny_typeNameOfWhole_keyiter hT (wpAny_pure ?_))|refine wpAny_bind (wpAny_typeNameOf_keyiter hT (wpAny_pure ?_))
 refine wpAny_bind (wpAny_fieldsOf ho hf ?_)
 simp only[show Builtin.Dict_items.ownsTuple "dict_keyiterator" = false by decide,Bool.false_eq_true,if_false]
 show wpAny _ _ (if(Value.ref d==Value.none)=true then _ else _) _ _ s
 rw[if_neg (by exact Bool.false_ne_true)]
 refine wpAny_bind (wpAny_pure (wpAny_bind (wpAny_dictEntries hod hdd ?_)))
 rw[if_neg (by simp)]
 refine wpAny_bind (wpAny_pure (wpAny_bind (wpAny_dictEpoch hod hdd ?_)))
 rw[if_neg (by simp)]
 apply wpAny_pure
 simp only[show ¬((i:Int)<0) by omega,if_false,Int.toNat_natCast,Array.getElem?_eq_getElem hi]
 apply wpAny_bind
 first|refine wpAny_bind (wpAny_typeNameOfWhole_keyiter hT (wpAny_pure ?_))|refine wpAny_bind (wpAny_typeNameOf_keyiter hT (wpAny_pure ?_))
 refine wpAny_bind (wpAny_isOneOf_keyiter hT ?_)
 show wpAny _ _ (setField (.ref it) 1 (rawInt ((i:Int)+1)) >>= _) _ _ s
 refine wpAny_bind (wpAny_setField ho hf (by simp) ?_)
 have k:(s.heap.update it (Obj.mapFields (·.setIfInBounds 1 (rawInt ((i:Int)+1))))).IsKeyIter it d (i+1) es.size ep:=
  ⟨_,Heap.get?_update_self _ ho (Obj.isFreed_of_fields (Obj.data_mapFields hf _)),(Obj.cls_mapFields ..).trans hc,by rw[Obj.data_mapFields hf];simp[rawInt]⟩
 refine wpAny_bind (wpAny_holding (wpAny_bind (wpAny_isOneOf_keyiter (s:={s with heap:=s.heap.update it (Obj.mapFields (·.setIfInBounds 1 (rawInt ((i:Int)+1))))}) k.typeIs ?_)))
 show wpAny _ _ (pure es[i].key) _ _ _
 exact wpAny_pure (wpAny_pure ⟨_,rfl,wpAny_pure (hQ _ k (Heap.SameBut.update ..))⟩)
theorem y1c{Q:Option Value->Shared->Prop}(hh:A.handled=none)(hit:s.heap.IsKeyIter it d i es.size ep)(hod:s.heap.get? d=some od)(hdd:od.data=.dict es ep)(hi:es.size<=i)
  (hQ:∀h',Heap.ExtBut it s.heap h'->Q none {s with heap:=h' }):wpAny (model P w) A (pyNext (.ref it)) Q E s:=by
 have hT:=hit.typeIs
 obtain⟨o,ho,hc,hf⟩:=hit
 unfold pyNext
 refine wpAny_bind (wpAny_attempt (wpAny_callSpecial?_slot (name:= "__next__") hT PySem.F.slot_dict_keyiterator_next (wpAny_call_entry PySem.F.slot_dict_keyiterator_next hT PySem.F.entry_dict_keyiterator_next ?_ (PySem.F.args_dict_keyiterator_next_1 _))))
 refine wpAny_bind (wpAny_pure (wpAny_bind (wpAny_bind ?_)))
 first|refine wpAny_bind (wpAny_typeNameOfWhole_keyiter hT (wpAny_pure ?_))|refine wpAny_bind (wpAny_typeNameOf_keyiter hT (wpAny_pure ?_))
 refine wpAny_bind (wpAny_fieldsOf ho hf ?_)
 simp only[show Builtin.Dict_items.ownsTuple "dict_keyiterator" = false by decide,Bool.false_eq_true,if_false]
 show wpAny _ _ (if(Value.ref d==Value.none)=true then _ else _) _ _ s
 rw[if_neg (by exact Bool.false_ne_true)]
 refine wpAny_bind (wpAny_pure (wpAny_bind (wpAny_dictEntries hod hdd ?_)))
 rw[if_neg (by simp)]
 refine wpAny_bind (wpAny_pure (wpAny_bind (wpAny_dictEpoch hod hdd ?_)))
 rw[if_neg (by simp)]
 apply wpAny_pure
 simp only[show ¬((i:Int)<0) by omega,if_false,Int.toNat_natCast,Array.getElem?_eq_none hi]
 apply wpAny_bind
 first|refine wpAny_bind (wpAny_typeNameOfWhole_keyiter hT (wpAny_pure ?_))|refine wpAny_bind (wpAny_typeNameOf_keyiter hT (wpAny_pure ?_))
 show wpAny _ _ (setField (.ref it) 0 .none >>= _) _ _ s
 refine wpAny_bind (wpAny_setField ho hf (by simp) ?_)
 show wpAny _ _ (newExc (.type "StopIteration") [] >>= _) _ _ _
 apply wpAny_bind
 simp only[newExc,newTuple]
 refine wpAny_bind (wpAny_newObj_type ?_ (by size_fits))
 refine wpAny_bind (m:=firstArgMember _ _) (wpAny_of_eq (a:=Value.none) (by first|rfl|(simp only[firstArgMember];rfl)) (wpAny_newObj_type ?_ (by size_fits)))
 simp only[raiseNew]
 refine wpAny_bind (wpAny_handled ?_)
 rw[show A.in1.handled=none from hh]
 refine wpAny_bind (wpAny_pure (wpAny_throw ?_))
 refine wpAny_bind (wpAny_isInstance (T:= "StopIteration") (b:=true) ⟨_,Heap.get?_push_size _ rfl,rfl⟩ isSubtype_stop ?_)
 exact wpAny_pure (hQ _ (((Heap.SameBut.update ..).extBut.push _).push _))
end
section
variable{X:Cx}{G:GX}{pos:Pos}
end
end Ev
namespace L2
open PySem PySem.Spec PyProof.Rows
def Cx.in2(X:Cx):Cx:={X with A:=X.A.in1.in1,xe:=fun _ _=>False}
theorem Cx.Ok.in2{X:Cx}(o:X.Ok):X.in2.Ok:=⟨o.mod,o.kind,o.glob,o.blt,o.above,o.inj,o.has,o.cab,o.hd,o.frames,o.stk,o.exf,o.bs,o.bsz,o.noex,o.exfs,o.funs,o.frf⟩
section
variable{X:Cx}{pins:List (Addr×Obj)}{σ:St}{H:Hp}{s:Shared}
theorem Inv.in2(I:Inv X pins σ H s):Inv X.in2 pins σ H s:=⟨I.ok.in2,I.os,I.bare,I.base,I.loc,I.cell,I.free,I.freeC,I.pin,I.hok,I.len⟩
theorem Inv.out2(o:X.Ok)(I:Inv X.in2 pins σ H s):Inv X pins σ H s:=⟨o,I.os,I.bare,I.base,I.loc,I.cell,I.free,I.freeC,I.pin,I.hok,I.len⟩
theorem Inv.adopt{h':Heap}{t':Nat}{D kS:Addr}{ys:List V}(I:Inv X pins σ H s)(fD:FpOk X pins H D)(fk:FpOk X pins H kS)(k:∀b o,b≠D->b≠kS->s.heap.get? b=some o->h'.get? b=some o)
  (hk:∃o,h'.get? kS=some o) (new:q2a X.prog X.w (upd H D (.lst ys)) h' D (.lst ys)):Inv X pins σ (upd H D (.lst ys)) {s with heap:=h',toks:=t' }:=by
 have nD:∀b u,H b=some u->b≠D:=fun b u e z=>by rw[z,fD.1]at e;cases e
 have nk:∀b u,H b=some u->b≠kS:=fun b u e z=>by rw[z,fk.1]at e;cases e
 have cs:∀b,b∉[D,kS]->b≠D/\b≠kS:=fun b hb=>⟨fun z=>hb (by simp[z]),fun z=>hb (by simp[z])⟩
 refine I.step (g':=s.gens) (d':=s.drawn) (ch:=[D,kS]) (fun b hb=>?_) (fun b o _ _ hc e _=>k b o (cs b hc).1 (cs b hc).2 e) (fun b o _ _ hc e _=>⟨o.slots,k b o (cs b hc).1 (cs b hc).2 e⟩) (fun b o hc _ n=>by rw[q0w (cs b hc).1];exact n)
  (fun b o hc e=>⟨o,k b o (cs b hc).1 (cs b hc).2 e⟩) (fun b xs e=>by rw[q0w (nD _ _ e)];exact e) (fun b o u e=>by rw[q0w (nD _ _ e)];exact e) (fun b ps e=>⟨#[],by rw[q0w (nD _ _ e),e];simp⟩) (fun m hm=>?_) (fun b u e=>?_) I.bare
 ·rcases List.mem_cons.mp hb with e|hb
  ·subst e;exact⟨fD.2.2.2.1,fD.2.1,fD.2.2.2.2.1,fD.2.2.2.2.2⟩
  ·obtain rfl:=List.mem_singleton.mp hb;exact⟨fk.2.2.2.1,fk.2.1,fk.2.2.2.2.1,fk.2.2.2.2.2⟩
 ·obtain⟨o,es,ep,ho,r⟩:=hm
  exact⟨o,es,ep,k _ o (Ne.symm fD.2.1) (Ne.symm fk.2.1) ho,r⟩
 ·by_cases hb:b=D
  ·subst hb;rw[q2d]at e;cases e;exact new
  ·rw[q0w hb]at e
   refine(I.hok b u e).stay (fun c v hc q=>?_) (fun c q=>by rw[q0w (nD _ _ q)];exact q) fun c xs q=>by rw[q0w (nD _ _ q)];exact q
   rcases hc with z|z
   ·rw[z]at q ⊢;exact k b v hb (nk b u e) q
   ·exact k c v (nD c _ z) (nk c _ z) q
end
end L2
namespace Ev
open PySem PySem.Spec PyProof.Rows L2
def upS(ps:List (Str×V)):Prop:=ps.Pairwise fun p q=>¬q.1.cps.toList<p.1.cps.toList
theorem z0u{x:Str}{t:Tok}:∀{vs:List Value}{ns:List Str},StrsAre vs ns->StrsAre (vs++[.str x t]) (ns++[x])
 |_,_,.nil=>.cons x t .nil
 |_,_,.cons y u h=>.cons y u (z0u h)
theorem q9j:∀{vs:List Value}{ns:List Str},StrsAre vs ns->vs.length=ns.length
 |_,_,.nil=>rfl
 |_,_,.cons y u h=>by rw[List.length_cons,List.length_cons,q9j h]
theorem y0n{keys:List Value}{ks:List Str}{us:List Value}{xs:List V}(hk:StrsAre keys ks)(r:Vals xs us):∀p∈keys.zip us,∃(x:Str)(t:Tok)(v:V),p.1=.str x t/\RelV v p.2/\(x,v)∈ks.zip xs:=by
 induction hk generalizing us xs with
 |nil=>intro p hp;simp at hp
 |@cons y u vs ns h ih=>
  intro p hp
  cases r with
  |nil=>simp at hp
  |cons r1 r2=>
   rw[List.zip_cons_cons]at hp
   rcases List.mem_cons.mp hp with rfl|hp
   ·exact⟨y,u,_,rfl,r1,by simp⟩
   ·obtain⟨x,t,v,a,b,c⟩:=ih r2 p hp
    exact⟨x,t,v,a,b,by rw[List.zip_cons_cons];exact List.mem_cons_of_mem _ c⟩
theorem z1b{α β:Type}{F:α->β->Prop}{as cs:List α}{bs:List β}(p:cs.Perm as)(r:Paired F as bs):∃ds,ds.Perm bs/\Paired F cs ds:=by
 induction p generalizing bs with
 |nil=>cases r;exact⟨[],.refl _,.nil⟩
 |cons x _ ih=>
  cases r with
  |cons r1 r2=>obtain⟨ds,p1,q1⟩:=ih r2;exact⟨_::ds,.cons _ p1,.cons r1 q1⟩
 |swap x y l=>
  cases r with
  |cons r1 r2=>cases r2 with
   |cons r2 r3=>exact⟨_::_::_,.swap _ _ _,.cons r2 (.cons r1 r3)⟩
 |trans _ _ ih1 ih2=>
  obtain⟨ds,p1,q1⟩:=ih2 r
  obtain⟨es,p2,q2⟩:=ih1 q1
  exact⟨es,p2.trans p1,q2⟩
abbrev KP:Value×Value->Str×V->Prop:=fun a b=>(∃t,a.1=.str b.1 t)/\RelV b.2 a.2
theorem z5g{keys:List Value}{ks:List Str}{us:List Value}{xs:List V}(hk:StrsAre keys ks)(r:Vals xs us):Paired KP (keys.zip us) (ks.zip xs):=by
 induction hk generalizing us xs with
 |nil=>simp;exact .nil
 |@cons y u vs ns h ih=>
  cases r with
  |nil=>simp;exact .nil
  |cons r1 r2=>exact .cons ⟨⟨u,rfl⟩,r1⟩ (ih r2)
theorem q8q{α β:Type}{F:α->β->Prop}{as:List α}{bs:List β}(r:Paired F as bs){i:Nat}{b:β}(e:bs[i]?=some b):∃a,as[i]?=some a/\F a b:=by
 induction r generalizing i with
 |nil=>simp at e
 |cons h t ih=>cases i with
  |zero=>simp at e;subst e;exact⟨_,rfl,h⟩
  |succ j=>simp at e;simpa using ih e
theorem x0g{keys:Array Value}{ks:List Str}{us:List Value}{xs:List V}(hk:StrsAre keys.toList ks)(r:Vals xs us){ar:Array Keyed}(hp:ar.Perm (keys.zip us.toArray))(hs:SortedToK strKind ar ar.size) :
  ∃ps:List (Str×V),ps.Perm (ks.zip xs)/\upS ps/\Vals (ps.map (·.2)) (ar.map (·.2)).toList:=by
 have hl:ar.toList.Perm (keys.toList.zip us):=by rw[<-ksk_zip];exact Array.perm_iff_toList_perm.mp hp
 obtain⟨ps,p1,p2⟩:=z1b hl (z5g hk r)
 refine⟨ps,p1,?_,?_⟩
 ·unfold upS
  rw[List.pairwise_iff_getElem]
  intro i j hi hj hij
  have ln:ar.toList.length=ps.length:=Paired.length p2
  have hi':i<ar.size:=by rw[Array.length_toList]at ln;omega
  have hj':j<ar.size:=by rw[Array.length_toList]at ln;omega
  have q:=hs i j (Nat.le_of_lt hij) hj'
  have e:∀(n:Nat)(hn:n<ps.length)(hn':n<ar.size),KK strKind ar n=ps[n].1.cps.toList:=fun n hn hn'=>by
   obtain⟨a,ea,⟨t,et⟩,_⟩:=q8q p2 (List.getElem?_eq_getElem hn)
   have ha:ar[n]=a:=by
    have:ar.toList[n]?=some ar[n]:=by simp[hn']
    rw[this]at ea
    exact Option.some.inj ea
   exact KK_str hn' (x:=ps[n].1) (t:=t) (q:=a.2) (by rw[ha];exact Prod.ext et rfl)
  rw[e i hi hi',e j hj hj']at q
  have q':decide (ps[j].1.cps.toList<ps[i].1.cps.toList)=false:=q
  exact of_decide_eq_false q'
 ·rw[Array.toList_map]
  clear hs hp hl p1 hk r
  generalize ar.toList=l at p2
  induction p2 with
  |nil=>exact .nil
  |cons h t ih=>exact .cons h.2 ih
section
variable{X:Cx}{pins:List (Addr×Obj)}{σ:L2.St}{H:Hp}{s:Shared}
theorem y4i(c:String)(xs:Array Value)(n:Nat):∀v,(seqObj c xs n).data≠.cell v:=fun v z=>by cases(show Data.seq xs n=Data.cell v from z)
theorem y8w{Q:PySem.Fin->Shared->Prop}{D kS:Addr}{keys:Array Value}{us:List Value}{xs:List V}{ks:List Str}{e e1:Nat}{E:Value->Shared->Prop}(I:Inv X.in2 pins σ H s)(fD:FpOk X.in2 pins H D)(fk:FpOk X.in2 pins H kS)(hne:kS≠D)
  (nk:s.heap.get? kS=some (seqObj "list" keys e)) (na:s.heap.get? D=some (seqObj "list" #[] e1)) (hk:StrsAre keys.toList ks) (hlen:ks.length=us.length) (r:Vals xs us) (h64:us.length<64)
  (h:∀(ps:List (Str×V))(s':Shared),ps.Perm (ks.zip xs)->upS ps->Inv X.in2 pins σ (upd H D (.lst (ps.map (·.2)))) s'->Q (.done (.ret .none)) s'):wpAny (model X.prog X.w) X.in2.A (ksk_end D false us.toArray e1 (.ref kS) keys) Q E s:=by
 have hsz:keys.size=us.length:=by have:=q9j hk;rw[Array.length_toList]at this;omega
 have hzs:(keys.zip us.toArray).size=us.length:=by rw[Array.size_zip,hsz,List.size_toArray,Nat.min_self]
 have tail:∀st:SortSt,(arrOf st).Perm (keys.zip us.toArray)->failedOf st=none->SortedToK strKind (arrOf st) (arrOf st).size->wpAny (model X.prog X.w) X.in2.A (ksk_tail D false e1 (.ref kS) st) Q E s:=by
  intro st hp hf hs
  obtain⟨ps,p1,p2,p3⟩:=x0g hk r hp hs
  have hl:(arrOf st).size=us.length:=by rw[hp.size_eq,hzs]
  have pl:ps.length=us.length:=by
   have e:=p3.length
   simp only[List.length_map,Array.length_toList,Array.size_map]at e
   omega
  unfold ksk_tail
  try dsimp only
  have s1:=Heap.SameBut.update s.heap kS (Obj.mapSeq fun _=>(#[]:Array Value))
  have na1:=(s1.2 D hne.symm).trans na
  have s2:=Heap.SameBut.update (s.heap.update kS (Obj.mapSeq fun _=>(#[]:Array Value))) D (Obj.mapSeq fun _=>(arrOf st).map (·.2))
  refine wpAny_bind (listUpdate_at nk rfl ?_ (by rw[hsz,sizeLine_eq];omega) (Nat.zero_le _))
  refine wpAny_bind (wpAny_letGo (wpAny_bind (seqEpoch_at na1 rfl ?_)))
  simp only[Bool.false_eq_true,if_false]
  refine wpAny_bind (listUpdate_at na1 rfl ?_ (Nat.zero_le _) (by rw[Array.size_map,hl,sizeLine_eq];omega))
  rw[hf]
  simp only[bne_self_eq_false,Bool.false_eq_true,if_false]
  refine wpAny_pure (h ps _ p1 p2 (I.adopt (t':=s.toks) (D:=D) (kS:=kS) fD fk (fun b o hb hb' q=>(s2.2 b hb).trans ((s1.2 b hb').trans q)) ⟨_,(s2.2 kS hne).trans (get?_update_seq nk fun _=>#[])⟩ ?_))
  have e3:=get?_update_seq na1 fun _=>(arrOf st).map (·.2)
  exact⟨by rw[List.length_map,pl,sizeLine_eq];omega,((arrOf st).map (·.2)).toList,_,p3,by rw[Array.toArray_toList];exact e3⟩
 unfold ksk_end
 try dsimp only
 simp only[Bool.false_eq_true,if_false]
 by_cases h2:us.toArray.size<2
 ·rw[if_pos h2,if_pos h2]
  refine wpAny_bind (wpAny_pure ?_)
  rw[StateT.run_pure]
  refine wpAny_bind (wpAny_pure ?_)
  try dsimp only
  refine tail (SortSt.mk' general' (keys.zip us.toArray) #[] 7 none) (Array.Perm.refl _) rfl fun i j hij hj=>?_
  have hj2:j<(keys.zip us.toArray).size:=hj
  rw[hzs]at hj2
  rw[List.size_toArray]at h2
  obtain rfl:i=j:=by omega
  exact KeyOrd.kle_refl _
 ·rw[if_neg h2,if_neg h2]
  rw[List.size_toArray]at h2
  have hkk:keyKind' keys=pure oneType':=by
   obtain⟨v1,v2,rest,e⟩:∃v1 v2 rest,keys.toList=v1::v2::rest:=by
    have hl:2<=keys.toList.length:=by rw[Array.length_toList,hsz];omega
    match q:keys.toList with
    |[]=>rw[q]at hl;simp at hl
    |[_]=>rw[q]at hl;simp at hl
    |a::b::c=>exact⟨a,b,c,rfl⟩
   rw[show keys=(v1::v2::rest).toArray by rw[<-e,Array.toArray_toList]]
   rw[e]at hk
   exact keyKind_strs hk
  rw[hkk]
  refine wpAny_bind (wpAny_pure ?_)
  have hko:KeysOf strKind (keys.zip us.toArray):=by
   intro p hp
   rw[ksk_zip]at hp
   obtain⟨x,t,v,e,_⟩:=y0n hk r p hp
   exact⟨x.cps.toList,by rw[e]⟩
  refine wpAny_bind (wpAny_mono (wpS_sortRunsK (κ:=strKind) (a₀:=keys.zip us.toArray) (st:=SortSt.mk' oneType' (keys.zip us.toArray) #[] 7 none)
   (Q:=fun _ st'=>(arrOf st').Perm (keys.zip us.toArray)/\failedOf st'=none/\SortedToK strKind (arrOf st') (keys.zip us.toArray).size)
   strKind_oneLt hko ⟨Array.Perm.refl _,rfl,rfl,rfl⟩ (by rw [hzs];omega) (by rw [hzs];exact h64) fun st' a1 a2 a3=>⟨a1,a2,a3⟩) ?_ fun _ _ e=>e)
  rintro⟨⟨⟩,st'⟩ s' ⟨rfl,hp,hf,hs⟩
  try dsimp only
  exact tail st' hp hf (by rw[hp.size_eq];exact hs)
theorem y5q{Q:PySem.Fin->Shared->Prop}{D kS f:Addr}{us:List Value}{xs:List V}{ks:List Str}{e1:Nat}{E:Value->Shared->Prop}(R:Hp->Prop)(hR:R H)(I:Inv X.in2 pins σ H s)(fD:FpOk X.in2 pins H D)(fk:FpOk X.in2 pins H kS)(hne:kS≠D)
  (nk:s.heap.get? kS=some (seqObj "list" #[] 0)) (na:s.heap.get? D=some (seqObj "list" #[] e1)) (hlen:ks.length=us.length) (r:Vals xs us) (h64:us.length<64)
  (turn:∀(i:Nat)(x:V)(u:Value)(k:Str),xs[i]?=some x->RelV x u->ks[i]?=some k->∀(pins':List (Addr×Obj))(s':Shared)(H':Hp),Inv X.in2 pins' σ H' s'->R H'->
   wpAny (model X.prog X.w) X.in2.A (call (.ref f) [u]) (fun v s2=>(∃t,v=.str k t)/\∃H2,Inv X.in2 pins' σ H2 s2/\R H2) (fun _ _=>False) s')
  (h:∀(H':Hp)(ps:List (Str×V))(s':Shared),R H'->H' D=none->ps.Perm (ks.zip xs)->upS ps->Inv X.in2 pins σ (upd H' D (.lst (ps.map (·.2)))) s'->Q (.done (.ret .none)) s'):wpAny (model X.prog X.w) X.in2.A (ksk_rest D (.ref f) false us.toArray e1 (.ref kS)) Q E s:=by
 unfold ksk_rest
 refine wpAny_bind (wpAny_rule ?_)
 rw[<-Array.forIn_toList]
 have pk:∀{H':Hp}{s':Shared}{kA:Array Value}{e:Nat},Inv X.in2 (pins++[(kS,seqObj "list" kA e),(D,seqObj "list" #[] e1)]) σ H' s'->s'.heap.get? kS=some (seqObj "list" kA e)/\s'.heap.get? D=some (seqObj "list" #[] e1)/\H' kS=none/\H' D=none:=fun {H' s' kA e} J=>by
  have h1:=J.pin (kS,seqObj "list" kA e) (by simp)
  have h2:=J.pin (D,seqObj "list" #[] e1) (by simp)
  exact⟨h1.1,h2.1,h1.2.1,h2.2.1⟩
 have rep:∀{H':Hp}{s':Shared}{kA:Array Value}{e:Nat},Inv X.in2 pins σ H' s'->s'.heap.get? kS=some (seqObj "list" kA e)->s'.heap.get? D=some (seqObj "list" #[] e1)->H' kS=none->H' D=none->Inv X.in2 (pins++[(kS,seqObj "list" kA e),(D,seqObj "list" #[] e1)]) σ H' s':=fun J a b c d=>
  J.pins_of fun p hp=>by
   rcases List.mem_append.mp hp with hp|hp
   ·exact J.pin p (List.mem_append_right _ hp)
   ·rcases List.mem_cons.mp hp with rfl|hp
    ·exact⟨a,c,fk.2.1,fk.2.2.1,y4i _ _ _⟩
    ·obtain rfl:=List.mem_singleton.mp hp
     exact⟨b,d,fD.2.1,fD.2.2.1,y4i _ _ _⟩
 refine wpAny_bind (ksk_fold (fun i s'=>∃H' kA e,Inv X.in2 (pins++[(kS,seqObj "list" kA e),(D,seqObj "list" #[] e1)]) σ H' s'/\R H'/\StrsAre kA.toList (ks.take i)) us 0 s
  ⟨H,#[],0,rep I nk na fk.1 fD.1,hR,by simpa using StrsAre.nil⟩ ?step ?done)
 case step=>
  rintro j u s' hu ⟨H',kA,e,J,q,hk⟩
  rw[Nat.zero_add]at hk
  have hj:j<us.length:=(List.getElem?_eq_some_iff.mp hu).1
  have hkj:ks[j]?=some ks[j]:=List.getElem?_eq_getElem (by omega)
  obtain⟨x,hx,rx⟩:∃x,xs[j]?=some x/\RelV x u:=by
   have hl:=r.length
   obtain⟨u',e1,e2⟩:=r.get (List.getElem?_eq_getElem (show j<xs.length by omega))
   rw[hu]at e1
   cases e1
   exact⟨_,List.getElem?_eq_getElem (show j<xs.length by omega),e2⟩
  have hz:kA.size<=us.length:=by
   have:=q9j hk
   rw[Array.length_toList,List.length_take]at this
   omega
  refine wpAny_bind (wpAny_attempt (wpAny_mono (turn j x u _ hx rx hkj _ _ _ J q) (fun v s2 z=>?_) fun _ _ z=>z.elim))
  obtain⟨⟨t,rfl⟩,H2,J2,q2⟩:=z
  obtain⟨a1,a2,a3,a4⟩:=pk J2
  try dsimp only
  have s1:=Heap.SameBut.update s2.heap kS (Obj.mapSeq (·.push (.str ks[j] t)))
  refine wpAny_bind (listUpdate_at a1 rfl ?_ (by rw[sizeLine_eq];omega) (Nat.le_trans (Nat.le_of_eq (Array.size_push ..)) (by rw[sizeLine_eq];omega)))
  have J3:Inv X.in2 pins σ H2 {s2 with heap:=s2.heap.update kS (Obj.mapSeq (·.push (.str ks[j] t)))}:=J2.unpinned.turned (t':=s2.toks) (fun b o hb z=>(s1.2 b hb).trans z) a3 fk.2.1 fk.2.2.2.1 fk.2.2.2.2.1 fk.2.2.2.2.2
  have e3:=get?_update_seq a1 (·.push (.str ks[j] t))
  refine wpAny_pure ⟨rfl,H2,_,_,rep J3 e3 ((s1.2 D hne.symm).trans a2) a3 a4,q2,?_⟩
  rw[Nat.zero_add,List.take_add_one,hkj,Array.toList_push]
  exact z0u hk
 case done=>
  rintro s' ⟨H',kA,e,J,q,hk⟩
  rw[List.take_of_length_le (by omega)]at hk
  obtain⟨a1,a2,a3,a4⟩:=pk J
  refine wpAny_bind (listItems_at a1 rfl ?_)
  exact y8w J.unpinned ⟨a4,fD.2⟩ ⟨a3,fk.2⟩ hne a1 a2 hk hlen r h64 fun ps s2 p1 p2 J2=>h H' ps s2 q a4 p1 p2 J2
theorem z7h{Q:VK}{a f:Addr}{xs:List V}{ks:List Str}(R:Hp->Prop)(hR:R H)(I:Inv X pins σ H s)(sa:SqL X.K H a xs)(hlen:ks.length=xs.length)(h64:xs.length<64)
  (turn:∀(i:Nat)(x:V)(u:Value)(k:Str),xs[i]?=some x->RelV x u->ks[i]?=some k->∀(pins':List (Addr×Obj))(s':Shared)(H':Hp),Inv X.in2 pins' σ H' s'->R H'->
   wpAny (model X.prog X.w) X.in2.A (call (.ref f) [u]) (fun v s2=>(∃t,v=.str k t)/\∃H2,Inv X.in2 pins' σ H2 s2/\R H2) (fun _ _=>False) s')
  (h:∀(H':Hp)(ps:List (Str×V))(D:Addr),R H'->H' D=none->ps.Perm (ks.zip xs)->upS ps->Q (.ref D) (upd H' D (.lst (ps.map (·.2))))) :
  wpAny (model X.prog X.w) X.A (call (.builtin "sorted") [.ref a] [(Str.ofString "key",.ref f)]) (EP X pins σ Q) X.xe s:=by
 obtain⟨us,r,p,hz⟩:=I.list sa
 have hl:=r.length
 refine call_function_entry_kw kind_sorted plain_sorted entry_sorted (ksk_s1 _ _) ?_
 unfold Builtin.«sorted»
 refine wpAny_bind (m:=checkCount "sorted" 1 1 _) (wpAny_pure (wpAny_bind (collect_list p.isList ?_ (by rw[sizeLine_eq];omega))))
 refine wpAny_bind (wpAny_newList ?_ (by rw[sizeLine_eq];omega))
 generalize hh:(s.heap.push (seqObj "list" #[] 0)).update s.heap.objs.size (Obj.mapSeq (·++us.toArray))=h1
 have z1:h1.objs.size=s.heap.objs.size+1:=by rw[<-hh,Heap.size_update,size_push']
 have k1:∀b o,s.heap.get? b=some o->h1.get? b=some o:=fun b o q=>by
  have hlt:b<s.heap.objs.size:=Heap.lt_size q
  rw[<-hh,Heap.get?_update_ne _ _ _ _ (Nat.ne_of_lt hlt),Heap.get?_push_ne _ _ _ (Nat.ne_of_lt hlt)]
  exact q
 have oL:(h1.push (seqObj "list" us.toArray 0)).get? h1.objs.size=some (seqObj "list" us.toArray 0):=Heap.get?_push_size _ rfl
 refine wpAny_bind (wpAny_holding (wpAny_call_entry_kw slot_list_sort (T:= "list") (s:={s with heap:=h1.push (seqObj "list" us.toArray 0)}) ⟨_,oL,rfl⟩ entry_list_sort ?_ (ksk_l1 _ _)))
 show wpAny (model X.prog X.w) X.in2.A (Builtin.«list.sort» ⟨[.ref h1.objs.size],[(Str.ofString "key",.ref f)]⟩) _ _ _
 rw[ksk_t1]
 unfold ksk_tree
 generalize hD:h1.objs.size=D at oL ⊢
 refine wpAny_bind (listItems_at (s:={s with heap:=h1.push (seqObj "list" us.toArray 0)}) oL rfl ?_)
 refine wpAny_bind (listUpdate_at (s:={s with heap:=h1.push (seqObj "list" us.toArray 0)}) oL rfl ?_ (by rw[List.size_toArray,sizeLine_eq];omega) (Nat.zero_le _))
 have e1:=get?_update_seq oL fun _=>#[]
 generalize hh2:(h1.push (seqObj "list" us.toArray 0)).update D (Obj.mapSeq fun _=>(#[]:Array Value))=h2 at e1
 have z2:h2.objs.size=D+1:=by rw[<-hh2,Heap.size_update,size_push',hD]
 have k2:∀b o,s.heap.get? b=some o->h2.get? b=some o:=fun b o q=>by
  have hlt:b<s.heap.objs.size:=Heap.lt_size q
  have hb:b<D:=by rw[<-hD,z1];exact Nat.lt_succ_of_lt hlt
  rw[<-hh2,Heap.get?_update_ne _ _ _ _ (Nat.ne_of_lt hb),Heap.get?_push_ne _ _ _ (by rw[hD];exact Nat.ne_of_lt hb)]
  exact k1 b o q
 refine wpAny_bind (seqEpoch_at (s:={s with heap:=h2}) e1 rfl ?_)
 refine wpAny_bind (wpAny_newTuple (s:={s with heap:=h2}) ?_ (by show us.length<=_;rw[sizeLine_eq];omega))
 refine wpAny_bind (wpAny_newList ?_ (Nat.zero_le _))
 refine wpAny_holding ?_
 generalize hkS:(h2.push (seqObj "tuple" us.toArray 0)).objs.size=kS
 have z3:kS=D+2:=by rw[<-hkS,size_push',z2]
 have oK:((h2.push (seqObj "tuple" us.toArray 0)).push (seqObj "list" #[] 0)).get? kS=some (seqObj "list" #[] 0):=by rw[<-hkS];exact Heap.get?_push_size _ rfl
 have I1:Inv X pins σ H {s with heap:=(h2.push (seqObj "tuple" us.toArray 0)).push (seqObj "list" #[] 0)}:=I.kept (t':=s.toks) fun b o q=>Heap.get?_push_of_some _ (Heap.get?_push_of_some _ (k2 b o q))
 have fD:FpOk X pins H D:=I.fpOk (by omega) (I.hok.fresh (by omega))
 have fk:FpOk X pins H kS:=I.fpOk (by omega) (I.hok.fresh (by omega))
 refine y5q R hR I1.in2 fD fk (by rw[z3];exact Nat.ne_of_gt (Nat.lt_add_of_pos_right (by decide))) oK (Heap.get?_push_of_some _ (Heap.get?_push_of_some _ e1)) (by omega) r (by omega) turn fun H' ps s' q n p1 p2 J=>?_
 exact⟨_,rfl,wpAny_pure ⟨_,rfl,.ref D,_,J.out2 I.ok,rfl,h H' ps D q n p1 p2⟩⟩
end
def upP(ps:List (Str×PV)):Prop:=ps.Pairwise fun p q=>¬q.1.cps.toList<p.1.cps.toList
def z4c(sp:Den)(we:WE):WE:=fun σ S E Q=>we σ S E fun x S1=>∃(n:Nat)(xs:List PV)(ks:List Str),x=.ref n/\q2w S1 n=some xs/\xs.length<64/\ks.length=xs.length/\
 (∀(i:Nat)(v:PV)(k:Str),xs[i]?=some v->ks[i]?=some k->sp [v] S1 NoX fun u S2=>u=.str k/\S2=S1)/\∀ps:List (Str×PV),ps.Perm (ks.zip xs)->upP ps->Q (.ref S1.length) (S1++[.lst (ps.map (·.2))])
theorem z6p{K:Frag}{H:Hp}{φ:List Addr}:∀{ks:List Str}{xs:List PV}{vs:List V},RVs K H φ xs vs->Paired (fun(a:Str×V) (b:Str×PV)=>a.1=b.1/\RV K H φ b.2 a.2) (ks.zip vs) (ks.zip xs)
 |[],_,_,_=>by simp;exact .nil
 |_::_,[],vs,h=>by rw[show vs=[]from h];simp;exact .nil
 |k::ks,x::xs,vs,h=>by
  obtain⟨y,ys,rfl,r,t⟩:=h
  exact .cons ⟨rfl,r⟩ (z6p t)
theorem z5t{K:Frag}{H:Hp}{φ:List Addr}{as:List (Str×V)}{bs:List (Str×PV)}(h:Paired (fun(a:Str×V) (b:Str×PV)=>a.1=b.1/\RV K H φ b.2 a.2) as bs):RVs K H φ (bs.map (·.2)) (as.map (·.2))/\as.map (·.1)=bs.map (·.1):=by
 induction h with
 |nil=>exact⟨rfl,rfl⟩
 |cons h _ ih=>exact⟨⟨_,_,rfl,h.2,ih.1⟩,by rw[List.map_cons,List.map_cons,h.1,ih.2]⟩
section
variable{X:Cx}{G:GX}{pos:Pos}
theorem z7k {e : Expr} {we : WE} {p p' kpos : Pos} {x : Str} {k : Nat} {f : Addr} {fd : FuncData} {ps : List Str} {sp : Den} (hm : X.mg "sorted" = none) (C : Cal X.prog X.w X.K X.mg X.base k x ps (q1h X.K sp) f fd) (hr : Room k X.A.in1.in1) (he : SimE X G e we)
    (hg : Gl X "sorted" := by rfl) (hgx : Gl X x := by rfl) (hdb : (x == ("__debug__" : Str)) = false := by decide) (hst : starEach [e] X.env = (false, eval e X.env) :: starEach [] X.env := by rfl) : SimE X G (.Call (.Name "sorted" p) [e] [⟨some "key", .Name x p', kpos⟩] pos) (z4c sp we) := by
  rintro pins s σV H Q I ⟨φ, σ, S, Q0, L, R, h, kk⟩
  refine wpAny_Call_Name_kw (q6o I hg hm z3w ?_)
  have ha := z3c he z8d hst
  have hk := y6h (nm := some "key") (kpos := kpos) (z3b (pos := p') hgx C.m (show RelV (V.ref f) (Value.ref f) from rfl) hdb) y9m
  refine callWith_kw (thn (ha pos pins s σV H (fun vs H1 => ∃ (n : Nat) (xs : List PV) (ks : List Str) (φ1 : List Addr) (S1 : q0h) (a : Addr), vs = [.ref a] /\ φ1[n]? = some a /\ φ <+: φ1 /\ Mono H H1 /\ Rel X.K φ1 S1 H1 /\ q2w S1 n = some xs /\ xs.length < 64 /\ ks.length = xs.length /\
      (∀ (i : Nat) (v : PV) (k : Str), xs[i]? = some v -> ks[i]? = some k -> sp [v] S1 NoX fun u S2 => u = .str k /\ S2 = S1) /\ ∀ ps : List (Str × PV), ps.Perm (ks.zip xs) -> upP ps -> Q0 (.ref S1.length) (S1 ++ [.lst (ps.map (·.2))])) I
      ⟨φ, σ, S, _, L, R, h, fun v S1 φ1 H1 y q p1 m1 R1 r1 => ?_⟩) ?_) (by rw [hst]; rfl) (by rw [hst]; rfl)
  · obtain ⟨n, xs, ks, rfl, q⟩ := q
    obtain ⟨a, rfl, qa⟩ := r1
    exact ⟨n, xs, ks, φ1, S1, a, rfl, qa, p1, m1, R1, q⟩
  · rintro us s1 ⟨vs, H1, I1, r1, n, xs, ks, φ1, S1, a, rfl, qa, p1, m1, R1, e1, h64, hlen, ht, hq⟩
    refine thn (hk pos pins s1 σV H1 (fun zs H2 => zs = [.ref f] /\ H2 = H1) I1 ⟨rfl, rfl⟩) ?_
    rintro ws s2 ⟨zs, H2, I2, r2, rfl, rfl⟩
    cases r1 with
    | cons r1 r1' => cases r1'; cases r1; cases r2 with
      | cons r2 r2' => cases r2'; cases r2
                       obtain ⟨vs, sa, ra⟩ := R1.seq qa e1
                       have hl := ra.length
                       show wpAny (model X.prog X.w) X.A (call (.builtin "sorted") [.ref a] [(Str.ofString "key", .ref f)]) _ X.xe s2
                       refine z7h (ks := ks) (fun H' => ∃ φ', φ1 <+: φ' /\ Mono H2 H' /\ Rel X.K φ' S1 H') ⟨φ1, List.prefix_refl _, .refl _, R1⟩ I2 sa (by omega) (by omega) ?_ ?_
                       · rintro i y u kx hy ru hkx pins' s' H' I' ⟨φ', q1, q2, q3⟩
                         obtain ⟨pv, e2, rv⟩ := ra.getV hy
                         have rv' := RV.mono q2 q1 _ _ rv
                         refine wpAny_mono (y4c (X := X.in2) (vs := [y]) (Q := fun v H2' => v = .str kx /\ ∃ φ', φ1 <+: φ' /\ Mono H2 H' /\ Rel X.K φ' S1 H2' /\ Mono H2 H2') C.G hr C.b .nil (z8c (K := X.K)) I' (.cons ru .nil) ?_) ?_ fun _ _ z => z
                         · refine ⟨φ', [pv], S1, _, NoX, NoG.xh, ⟨_, _, rfl, rv', rfl⟩, q3, ht i pv kx e2 hkx, ?_, fun _ _ _ _ z => z.elim, fun _ _ _ z => z⟩
                           rintro v S2 φ2 H3 w' ⟨rfl, rfl⟩ p3 m3 R3 rfl
                           exact ⟨rfl, φ2, q1.trans p3, q2, R3, q2.trans m3⟩
                         · rintro v s3 ⟨w', H3, I3, r3, rfl, φ2, z1, z2, z3, z4⟩
                           exact ⟨r3, H3, I3, φ2, z1, z4, z3⟩
                       · rintro H' ps' D ⟨φ', q1, q2, q3⟩ n' p' up'
                         obtain ⟨bs, b1, b2⟩ := z1b p' (z6p (RVs.mono q2 q1 _ _ ra))
                         obtain ⟨c1, c2⟩ := z5t b2
                         have up2 : upP bs := by
                           have h1 : (ps'.map (·.1)).Pairwise fun a b => ¬ b.cps.toList < a.cps.toList := List.pairwise_map.mpr up'
                           rw [c2] at h1
                           exact List.pairwise_map.mp h1
                         exact ((kk.up p1 m1).up q1 q2).lst (hq bs b1 up2) q3 c1 D n'
end
section
variable{X:Cx}{G:GX}{pos:Pos}
theorem y4n{K:Frag}{H:Hp}{φ:List Addr}{S:q0h}{n:Nat}{a:Addr}{kvs:List (Key×PV)}(R:Rel K φ S H)(qa:φ[n]?=some a)(es:S[n]?=some (.dK kvs)\/S[n]?=some (.dF kvs)):∃ws,Rd H a (.dK ws)/\RKs K H φ kvs ws:=by
 rcases es with es|es
 ·obtain⟨ws,sa,ra⟩:=R.obj n a _ qa es;exact⟨ws,.inl sa,ra⟩
 ·obtain⟨o,ws,sa,ra⟩:=R.obj n a _ qa es;exact⟨ws,.inr ⟨o,sa⟩,ra⟩
def bIxD:F2:=fun x y S Q=>∃n kvs k v,x=.ref n/\(S[n]?=some (.dK kvs)\/S[n]?=some (.dF kvs))/\z0a y=some k/\valP kvs k=some v/\Q v S
theorem x4v(hu:X.A.units+200<cLine):IxR X (q3g X.K bIxD):=by
 rintro value slice pins s σ H x y v u Q I rx ry ⟨φ,S,px,py,Q0,R,hx,hy,h,k⟩ hs
 obtain⟨n,kvs,kk,pv,rfl,es,ek,ev,q⟩:=h
 obtain⟨a,rfl,qa⟩:=hx
 have hk:=q9z hy ek
 subst hk
 obtain⟨ws,sa,ra⟩:=y4n R qa es
 obtain⟨x',e',r'⟩:=(ra.val kk).1 pv ev
 cases rx
 obtain⟨z,hd,vs,rel,dd⟩:=z9y I.hok sa
 refine PyProof.Rows.tail_any dd.typeIs PySem.F.slot_dict_getitem.lookup (z2e (by omega) I (.inl ⟨ws,kk,sa,rfl,e'.symm⟩) ry fun w' s' I' rw'=>⟨x',H,I',rw',k _ S φ H _ q (List.prefix_refl _) (.refl _) R r'⟩) hs
theorem q9o{a b:Expr}{wa wb:WE}(hu:X.A.units+200<cLine)(ha:SimE X G a wa)(hb:SimE X G b wb)(hs:z4a b:=by exact fun _ _=>rfl):SimE X G (.Subscript a b pos) (wBin bIxD wa wb):=(x0b (x4v hu) ha hb hs).imp fun _ _ _ h=>q5y h
def z8r:FM:=fun x xs S Q=>∃n y d kvs k,x=.ref n/\xs=[y,d]/\(S[n]?=some (.dK kvs)\/S[n]?=some (.dF kvs))/\z0a y=some k/\Q ((valP kvs k).getD d) S
theorem z4q(hu:X.A.units+200<cLine):MtR X "dict.get" (q8g X.K z8r):=by
 rintro pins s σ H x xs v us Q I rx rs ⟨φ,S,px,pxs,Q0,R,hx,hxs,h,k⟩
 obtain⟨n,y,d,kvs,kk,rfl,rfl,es,ek,q⟩:=h
 obtain⟨a,rfl,qa⟩:=hx
 obtain⟨y',d',rfl,ry,rd⟩:=q5o hxs
 have hk:=q9z ry ek
 subst hk
 obtain⟨ws,sa,ra⟩:=y4n R qa es
 cases rx
 cases rs with
 |cons r1 r2=>cases r2 with
  |cons r2 r3=>
   cases r3
   refine x2g (by omega) I (.inl ⟨ws,kk,sa,rfl,rfl⟩) r1 r2 fun w' s' I' rw'=>⟨_,H,I',rw',k _ S φ H _ q (List.prefix_refl _) (.refl _) R ?_⟩
   cases e:valP kvs kk with
   |none=>rw[(ra.val kk).2 e];exact rd
   |some z=>obtain⟨w2,e',r'⟩:=(ra.val kk).1 z e;rw[e'];exact r'
def q7w:FM:=fun x xs S Q=>∃n y d kvs k,x=.ref n/\xs=[y,d]/\S[n]?=some (.dK kvs)/\z0a y=some k/\kvs.length<sizeLine/\(∀v,valP kvs k=some v->Q v S)/\(valP kvs k=none->Q d (S.set n (.dK (putP kvs k d))))
theorem z5w(hu:X.A.units+200<cLine):MtR X "dict.setdefault" (q8g X.K q7w):=by
 rintro pins s σ H x xs v us Q I rx rs ⟨φ,S,px,pxs,Q0,R,hx,hxs,h,k⟩
 obtain⟨n,y,d,kvs,kk,rfl,rfl,es,ek,hz,q1,q2⟩:=h
 obtain⟨a,rfl,qa⟩:=hx
 obtain⟨y',d',rfl,ry,rd⟩:=q5o hxs
 have hk:=q9z ry ek
 subst hk
 obtain⟨ws,sa,ra⟩:=R.obj n a _ qa es
 have hl:kvs.length=ws.length:=Paired.length ra
 cases rx
 cases rs with
 |cons r1 r2=>cases r2 with
  |cons r2 r3=>
   cases r3
   obtain⟨z,hd,vs,rel,dd⟩:=x5b I.hok sa
   have hz':vs.length<=sizeLine:=by rw[<-rel.length];exact z
   refine call_meetsIn PySem.F.slot_dict_setdefault dd.typeIs PySem.F.entry_dict_setdefault (PySem.F.args_dict_setdefault_3 _ _ _) (kt_meets_setdefault (q1s X.prog X.w) a (y2t r1) hd _) ⟨vs,dd,hz',fun w2 hw=>?_,fun hn h' dd' hs=>?_⟩
   ·have rv:=rel.val kk
    rw[hw]at rv
    cases ev:valV ws kk with
    |none=>rw[ev]at rv;exact rv.elim
    |some x=>
     rw[ev]at rv
     cases ep:valP kvs kk with
     |none=>rw[(ra.val kk).2 ep]at ev;cases ev
     |some v=>
      obtain⟨x',e',r'⟩:=(ra.val kk).1 v ep
      rw[ev]at e'
      cases e'
      exact⟨x,H,I.tok _,rv,k v S φ H x (q1 v ep) (List.prefix_refl _) (.refl _) R r'⟩
   ·have rv:=rel.val kk
    rw[hn]at rv
    have ep:valP kvs kk=none:=by
     cases ep:valP kvs kk with
     |none=>rfl
     |some v=>
      obtain⟨x',e',r'⟩:=(ra.val kk).1 v ep
      rw[e']at rv
      exact rv.elim
    have hl2:(putK ws kk d').length<=sizeLine:=by have:=z3f ws kk d';omega
    have he:∃q,h'.get? a=some q:=by obtain⟨q,_,_,hq,_⟩:=dd';exact⟨q,hq⟩
    have mo:Mono H (upd H a (.dK (putK ws kk d'))):=.dict sa
    exact⟨d',_,y7z I (by rw[sa];exact True.intro) hs he (x2f hl2 hd (rel.put kk r2) dd'),r2,k d _ φ _ d' (q2 ep) (List.prefix_refl _) mo (R.put (o:=.dK (putP kvs kk d)) qa mo ⟨_,q2d,RKs.mono mo (List.prefix_refl _) (ra.put kk rd)⟩) (RV.mono mo (List.prefix_refl _) _ _ rd)⟩
def z9s:FL:=fun xs S Q=>∃i j,xs=[.int i,.int j]/\Q (.int (if j<i then j else i)) S
theorem z6k(hc:X.calm=true):q5a X (.builtin "min") (q8h X.K z9s):=by
 rintro pins s σ H xs us Q I r ⟨φ,S,pxs,Q0,R,hx,h,k⟩
 obtain⟨i,j,rfl,q⟩:=h
 obtain⟨v,w',rfl,r1,r2⟩:=q5o hx
 cases r1
 cases r2
 exact y0f hc pins s σ H _ us Q I r ⟨i,j,rfl,k _ S φ H _ q (List.prefix_refl _) (.refl _) R rfl⟩
theorem y3k:bootBuiltins "min" = some (.builtin "min"):=by kernel_rfl
end
def Itk(o:Obj)(ws:List (Key×V))(a:Addr):It:=
 ⟨fun i H=>H a=some (.frz o (.dK ws))/\i<ws.length,fun i H x H'=>H'=H/\∃p,ws[i]?=some p/\x=kV p.1,fun i H=>H a=some (.frz o (.dK ws))/\ws.length<=i⟩
theorem x1i{k:Key}{v:Value}(h:z3i k v=true):RelV (kV k) v:=by
 rcases q1u h with⟨i,t,rfl,rfl⟩|⟨x,t,rfl,rfl⟩
 ·exact⟨t,rfl⟩
 ·exact⟨t,rfl⟩
theorem z4x{P:Program}{w:World}{H:Hp}{h:Heap}{a:Addr}{ws:List (Key×V)}(x:q2a P w H h a (.dK ws)) :
  ∃o es ep,h.get? a=some o/\o.ExactDict/\o.data=.dict es ep/\es.size=ws.length/\(a==sysModules)=false/\∀(i:Nat)(hi:i<es.size),∃p,ws[i]?=some p/\RelV (kV p.1) es[i].key:=by
 obtain⟨z,hd,vs,rel,o,es,ep,h1,h2,h3,h4,h5,h6⟩:=x
 have l1:ws.length=vs.length:=Paired.length rel
 have l2:es.size=vs.length:=by rw[<-h5.length];simp
 refine⟨o,es,ep,h1,h2,h3,by omega,hd,fun i hi=>?_⟩
 have hv:i<vs.length:=by omega
 obtain⟨p,hp,e1,_⟩:=q8q rel (List.getElem?_eq_getElem hv)
 refine⟨p,hp,?_⟩
 rw[e1]
 exact x1i ((h5.get? (e:=es[i]) (by simp[hi]) (List.getElem?_eq_getElem hv)).1)
theorem z6z{P:Program}{w:World}{K:Frag}{tg:Expr}{o:Obj}{es:Array DictEntry}{ep:Nat}(hd:o.data=.dict es ep)(ws:List (Key×V))(a it:Addr):Turn P w K tg (Itk o ws a) [it] it (fun i h=>h.IsKeyIter it a i es.size ep) where
 mem:=by simp
 obj:=fun i h st b hb=>by
  obtain rfl:b=it:=by simpa using hb
  obtain⟨o,e,c,d⟩:=st
  exact⟨o,e,fun v z=>by rw[d]at z;cases z⟩
 keep:=fun i h h' st k=>by
  obtain⟨o,e,r⟩:=st
  exact⟨o,k it (by simp) o e,r⟩
 item:=by
  intro X hP hw hK hc i pins s σ H E I hf st hg
  subst hP hw hK
  obtain⟨hH,hi⟩:=hg
  obtain⟨h0,hx⟩:=(show q2a X.prog X.w H s.heap a (.frz o (.dK ws))from I.hok a _ hH)
  obtain⟨o',es',ep',h1,h2,h3,h4,_,h5⟩:=z4x hx
  rw[h0]at h1
  cases h1
  rw[hd]at h3
  cases h3
  obtain⟨f0,f1,f2,f3,f4,f5⟩:=hf it (by simp)
  have hi':i<es.size:=by omega
  obtain⟨p,hp,hk⟩:=h5 i hi'
  refine y2g st h0 hd hi' fun h' st' sb=>?_
  have I1:Inv X pins σ H {s with heap:=h' }:=I.turned (t':=s.toks) (fun b o hb e=>(sb.2 b hb).trans e) f0 f1 f3 f4 f5
  obtain⟨o',e',c',d'⟩:=id st'
  exact⟨_,rfl,z6g (s:={s with heap:=h' }) e' c' d' (by decide) ⟨kV p.1,H,I1,hk,⟨rfl,p,hp,rfl⟩,st',fun b hb=>(hf b hb).1⟩⟩
 done:=by
  intro X hP hw hK hc i pins s σ H E I hf st hg
  subst hP hw hK
  obtain⟨hH,hi⟩:=hg
  obtain⟨h0,hx⟩:=(show q2a X.prog X.w H s.heap a (.frz o (.dK ws))from I.hok a _ hH)
  obtain⟨o',es',ep',h1,h2,h3,h4,_,h5⟩:=z4x hx
  rw[h0]at h1
  cases h1
  rw[hd]at h3
  cases h3
  obtain⟨f0,f1,f2,f3,f4,f5⟩:=hf it (by simp)
  exact y1c (I.ok.hd hc) st h0 hd (by omega) fun h' eb=>⟨rfl,I.turned (t':=s.toks) (fun b o hb e=>eb b o hb e) f0 f1 f3 f4 f5⟩
 self:=fun A i s Q E st h=>by
  have hT:=st.typeIs (s:=s)
  refine wpAny_pyIter_slot hT PySem.F.slot_dict_keyiterator_iter (wpAny_call_entry PySem.F.slot_dict_keyiterator_iter hT PySem.F.entry_dict_keyiterator_iter ?_ (PySem.F.args_dict_keyiterator_iter_1 _))
  show wpAny _ _ (ret (.ref it)) _ _ s
  exact wpAny_pure ⟨_,rfl, "dict_keyiterator",_,hT,PySem.F.slot_dict_keyiterator_next.lookup,h⟩
section
variable{X:Cx}{G:GX}{pos:Pos}
def x4x(tl:TE):TI:=fun σ H R=>tl σ H fun x H1=>∃a ws,x=.ref a/\((∃o,H1 a=some (.frz o (.dK ws))/\R (Itk o ws a) H1)\/(H1 a=some (.dK ws)/\∀o,R (Itk o ws a) (upd H1 a (.frz o (.dK ws)))))
theorem y6j{tg l:Expr}{tl:TE}(hl:PE X l tl):PI X tg l (x4x tl):=by
 intro pins s σ H R I h
 refine thn (hl pins s σ H _ I h) ?_
 rintro v s1 ⟨x,H1,I1,r1,a,ws,rfl,hq⟩
 cases r1
 have main:∀(o:Obj)(H2:Hp),H2 a=some (.frz o (.dK ws))->Inv X pins σ H2 s1->R (Itk o ws a) H2->wpAny (model X.prog X.w) X.A (pyIter (.ref a)) (PIE X pins σ tg R) X.xe s1:=by
  intro o H2 e I2 q
  obtain⟨h0,hx⟩:=(show q2a X.prog X.w H2 s1.heap a (.frz o (.dK ws))from I2.hok a _ e)
  obtain⟨o',es,ep,h1,h2,h3,h4,hy,h5⟩:=z4x hx
  rw[h0]at h1
  cases h1
  refine y2v hy ⟨o,h0,h2.1⟩ h0 h3 ?_
  refine⟨s1.heap.objs.size,[s1.heap.objs.size],_,_,H2,rfl,I2.kept (t':=s1.toks) fun b o e=>Heap.get?_push_of_some _ e,z6z h3 ws a _,⟨_,Heap.get?_push_size _ rfl,rfl,rfl⟩,fun b hb=>?_,q⟩
  obtain rfl:=List.mem_singleton.mp hb
  exact I2.fpOk (Nat.le_refl _) (I2.hok.fresh (Nat.le_refl _))
 rcases hq with⟨o,e,q⟩|⟨e,q⟩
 ·exact main o H1 e I1 q
 ·have hx:=(show q2a X.prog X.w H1 s1.heap a (.dK ws)from I1.hok a _ e)
  obtain⟨o,es,ep,h1,_⟩:=z4x hx
  refine main o _ q2d ?_ (q o)
  obtain⟨z,hd,vs,rel,dd⟩:=hx
  exact I1.write (t':=s1.toks) (h':=s1.heap) (by rw[e];exact True.intro) (.inl rfl) (fun b u _ q=>q) ⟨o,h1⟩ ⟨h1,z,hd,vs,rel,dd⟩
def keyP:Key->PV
 |.inl i=>.int i
 |.inr x=>.str x
def q8k(w:WE):WI:=fun σ S E Q=>w σ S E fun x S1=>∃n kvs,x=.ref n/\(S1[n]?=some (.dK kvs)\/S1[n]?=some (.dF kvs))/\Q ⟨kvs.map fun p=>keyP p.1,fun S=>S[n]?=some (.dF kvs)⟩ (S1.set n (.dF kvs))
theorem y2q{K:Frag}{H:Hp}{φ:List Addr}(k:Key):RV K H φ (keyP k) (kV k):=by cases k<;>rfl
theorem y5w{K:Frag}{H:Hp}{φ:List Addr}{kvs:List (Key×PV)}{ws:List (Key×V)}{i:Nat}{p:Key×PV}(r:RKs K H φ kvs ws)(h:kvs[i]?=some p):∃q,ws[i]?=some q/\q.1=p.1:=by
 induction r generalizing i with
 |nil=>simp at h
 |cons g t ih=>
  cases i with
  |zero=>simp at h;subst h;exact⟨_,rfl,g.1.symm⟩
  |succ j=>simp at h;simpa using ih h
theorem z4t{K:Frag}{φ:List Addr}{H:Hp}{n:Nat}{a:Addr}{o:Obj}{kvs:List (Key×PV)}{ws:List (Key×V)}(qa:φ[n]?=some a)(ea:H a=some (.frz o (.dK ws)))(ra:RKs K H φ kvs ws):ItR K φ H (Itk o ws a) ⟨kvs.map fun p=>keyP p.1,fun S=>S[n]?=some (.dF kvs)⟩ where
 go:=fun φ1 H1 S1 p m R e i x hx=>by
  have e1:=m.frz _ _ _ ea
  have hx':(kvs.map fun p=>keyP p.1)[i]?=some x:=hx
  rw[List.getElem?_map]at hx'
  obtain⟨q,hq,rfl⟩:=Option.map_eq_some_iff.mp hx'
  obtain⟨q',hq',eq'⟩:=y5w ra hq
  refine⟨⟨e1,(List.getElem?_eq_some_iff.mp hq').1⟩,fun y' H' ⟨f1,p2,g1,g2⟩=>?_⟩
  subst f1
  rw[hq']at g1
  cases g1
  subst g2
  exact⟨φ1,List.prefix_refl _,.refl _,R,by rw[eq'];exact y2q _⟩
 stop:=fun φ1 H1 S1 p m R e i hi=>by
  have e1:=m.frz _ _ _ ea
  have l1:kvs.length=ws.length:=Paired.length ra
  have hi':(kvs.map fun p=>keyP p.1).length<=i:=hi
  rw[List.length_map]at hi'
  exact⟨e1,by omega⟩
theorem z0y{tg l:Expr}{w:WE}(hl:SimE X G l w):SimI X G tg l (q8k w):=
 PI.imp (y6j hl) fun σV H Q hh1=>by obtain⟨φ,σ,S,Q0,L,R,h,k⟩:=hh1;exact(⟨φ,σ,S,_,L,R,h,fun v S1 φ1 H1 x q p1 m1 R1 r1=>by
  obtain ⟨n,kvs,rfl,e,q⟩:=q
  obtain ⟨a,rfl,qa⟩:=r1
  rcases e with e|e
  ·obtain ⟨ws,ea,ra⟩:=R1.obj n a _ qa e
   refine ⟨a,ws,rfl,.inr ⟨ea,fun o=>?_⟩⟩
   have mo:Mono H1 (upd H1 a (.frz o (.dK ws))):=.dict ea
   have ra':=RKs.mono mo (List.prefix_refl φ1) ra
   exact k _ _ φ1 _ _ q p1 (m1.trans mo) (R1.put (o:=.dF kvs) qa mo ⟨o,ws,q2d,ra'⟩) (z4t qa q2d ra')
  ·obtain ⟨o,ws,ea,ra⟩:=R1.obj n a _ qa e
   refine ⟨a,ws,rfl,.inl ⟨o,ea,?_⟩⟩
   have eS:S1.set n (.dF kvs)=S1:=by
    apply List.ext_getElem?
    intro i
    by_cases hi:n=i
    ·subst hi;rw [List.getElem?_set_self (List.getElem?_eq_some_iff.mp e).1,e]
    ·rw [List.getElem?_set_ne hi]
   rw [eS]at q
   exact k _ _ φ1 H1 _ q p1 m1 R1 (z4t qa ea ra)⟩)
end
def y8l(wa:WA):WE:=fun σ S E Q=>wa σ S E fun zs S1=>∃m n xs ys,zs=[.ref m,.ref n]/\q2w S1 m=some xs/\q2w S1 n=some ys/\xs.length<=100000/\Q (.ref S1.length) (S1++[.lst (zipP xs ys)])
theorem Mono.grow{H H2:Hp}(g:∀c o,H c=some o->H2 c=some o):Mono H H2:=⟨fun _ _ h=>g _ _ h,fun _ _ _ h=>g _ _ h,fun _ _ h=>g _ _ h,fun _ _ ws h=>⟨ws,g _ _ h⟩⟩
theorem Rel.grow{K:Frag}{φ:List Addr}{S:q0h}{H H2:Hp}(R:Rel K φ S H)(g:∀c o,H c=some o->H2 c=some o):Rel K φ S H2:=
 ⟨R.len,R.nd,fun n a o e q=>(R.obj n a o e q).mono (.grow g) (List.prefix_refl _) fun u z=>g _ _ z⟩
theorem z4r{K:Frag}{φ:List Addr}{H:Hp}:∀{xs ys:List PV}{vs ws:List V}(as:List Addr),RVs K H φ xs vs->RVs K H φ ys ws->as.length=min vs.length ws.length->(∀(j:Nat) c x y,as[j]?=some c->vs[j]?=some x->ws[j]?=some y->H c=some (.tup [x,y]))->RVs K H φ (zipP xs ys) (as.map V.ref)
 |[],ys,vs,ws,as,r1,r2,hl,h=>by
  obtain rfl:vs=[]:=r1
  obtain rfl:as=[]:=List.length_eq_zero_iff.mp (by simpa using hl)
  simp only[zipP,List.zip_nil_left,List.map_nil];exact rfl
 |x::xs,[],vs,ws,as,r1,r2,hl,h=>by
  obtain rfl:ws=[]:=r2
  obtain rfl:as=[]:=List.length_eq_zero_iff.mp (by simpa using hl)
  simp only[zipP,List.zip_nil_right,List.map_nil];exact rfl
 |x::xs,y::ys,_,_,as,⟨u,us,e1,ru,r1⟩,⟨v,vs,e2,rv,r2⟩,hl,h=>by
  subst e1 e2
  cases as with
  |nil=>simp at hl
  |cons c as=>
   refine⟨.ref c,as.map V.ref,rfl,⟨c,_,rfl,SqT.of (h 0 c u v rfl rfl rfl),.cons ru (.one rv)⟩,z4r as r1 r2 (by simp at hl ⊢;omega) fun j a b d h1 h2 h3=>h (j+1) a b d (by simpa using h1) (by simpa using h2) (by simpa using h3)⟩
theorem y1h{X:Cx}{G:GX}{pos:Pos}{a b:Expr}{wa:WA}{p p2 pos2:Pos}(hc:X.calm=true)(hm:X.mg "list" = none)(hm2:X.mg "zip" = none)(ha:SimA X G [a,b] wa)(hg:Gl X "list" :=by rfl)(hg2:Gl X "zip" :=by rfl)
  (he:starEach [.Call (.Name "zip" p2) [a,b] [] pos2] X.env=(false,eval (.Call (.Name "zip" p2) [a,b] [] pos2) X.env)::starEach [] X.env:=by rfl) (hs:starEach [a,b] X.env=[(false,eval a X.env),(false,eval b X.env)]:=by rfl) (hs2:starEach [b] X.env=[(false,eval b X.env)]:=by rfl) :
  SimE X G (.Call (.Name "list" p) [.Call (.Name "zip" p2) [a,b] [] pos2] [] pos) (y8l wa):=
 (y6n hc ha hm hm2 hg hg2 he hs hs2).imp fun σV H Q hh1=>by obtain⟨φ,σ,S,Q0,L,R,h,k⟩:=hh1;exact(⟨φ,σ,S,_,L,R,h,fun vs S1 φ1 H1 xs q p1 m1 R1 r1=>by
  obtain ⟨m,n,us,ws,rfl,e1,e2,_,q⟩:=q
  obtain ⟨y1,y2,rfl,g1,g2⟩:=q5o r1
  obtain ⟨c1,rfl,f1⟩:=g1
  obtain ⟨c2,rfl,f2⟩:=g2
  obtain ⟨us',ea,ra⟩:=R1.lst f1 e1
  obtain ⟨ws',eb,rb⟩:=R1.lst f2 e2
  refine ⟨false,false,c1,c2,us',ws',rfl,SqL.of ea,SqL.of eb,fun as H2 p0 hl gr hp fr=>?_⟩
  have mg:Mono H1 H2:=.grow gr
  exact ((k.up p1 m1).up (List.prefix_refl _) mg).lst q (R1.grow gr) (z4r as (RVs.mono mg (List.prefix_refl _) _ _ ra) (RVs.mono mg (List.prefix_refl _) _ _ rb) hl hp) p0 fr⟩)
section
variable{X:Cx}{G:GX}{pos:Pos}
def z8q:FM:=fun x xs S Q=>∃n y zs j,x=.ref n/\xs=[y]/\q2w S n=some zs/\(okEq y/\q3x zs)/\zs.length<=100000/\(∃z,zs[j]?=some z/\eqB z y=true)/\(∀i z,i<j->zs[i]?=some z->eqB z y=false)/\Q (.int (j:Nat)) S
open Classical in
theorem z5x(hu:X.A.units+200<cLine):MtR X "list.index" (q8g X.K z8q):=by
 rintro pins s σ H x xs v us Q I rx rs ⟨φ,S,px,pxs,Q0,R,hx,hxs,h,k⟩
 obtain⟨n,y,zs,j,rfl,rfl,es,⟨oy,oz⟩,hl,⟨z,hz,hzy⟩,hno,q⟩:=h
 obtain⟨a,rfl,qa⟩:=hx
 obtain⟨y',rfl,ry⟩:=q1x hxs
 obtain⟨vs,sa,ra⟩:=R.seq qa es
 cases rx
 obtain⟨its,r3,p3,_⟩:=I.list sa
 cases rs with
 |@cons _ u _ _ r1 r2=>
  cases r2
  have key:∀(i:Nat) w z,its[i]?=some w->zs[i]?=some z->∃z',RV X.K H φ z z'/\RelV z' w:=fun i w z h1 h2=>by
   obtain⟨z',g,q⟩:=ra.get h2
   obtain⟨w',g',q'⟩:=r3.get g
   rw[h1]at g'
   cases g'
   exact⟨z',q,q'⟩
  have ev:∀(i:Nat) w z,its[i]?=some w->zs[i]?=some z->decide (∃(i:Nat)(z:PV),its[i]?=some w/\zs[i]?=some z/\eqB z y=true)=eqB z y:=fun i w z e1 e2=>by
   obtain⟨z',q1,q2⟩:=key i w z e1 e2
   cases hb:eqB z y with
   |true=>exact decide_eq_true ⟨i,z,e1,e2,hb⟩
   |false=>
    refine decide_eq_false ?_
    rintro⟨i2,z2,h1,h2,h3⟩
    obtain⟨z2',g,g'⟩:=key i2 w z2 h1 h2
    have:=g'.inj q2
    subst this
    have:=RV.inj I _ _ _ (q1m oz.1 h2) (q1m oz.1 e2) g q1
    rw[this,hb]at h3
    cases h3
  have ll:zs.length=its.length:=by rw[ra.length,r3.length]
  have hj:j<its.length:=by rw[<-ll];exact(List.getElem?_eq_some_iff.mp hz).1
  obtain⟨o,n0,ho,hc,hdd,hdat⟩:=p3
  obtain⟨oc,od,odat,osl⟩:=o
  cases(show oc=.type "list" from hc)
  cases(show od=none from hdd)
  cases(show odat=.seq its.toArray n0 from hdat)
  have hT:s.TypeIs (.ref a) "list" :=⟨_,ho,rfl⟩
  refine call_meetsIn PySem.F.slot_list_index hT PySem.F.entry_list_index (PySem.F.args_list_index_2 _ _) ((SeqAt.list_indexAt a its.toArray n0 none osl u (fun w=>decide (∃(i:Nat)(z:PV),its[i]?=some w/\zs[i]?=some z/\eqB z y=true)) j (by simpa using hj) (by omega) ?_ ?_).inModel _ _) ⟨ho,fun w hw=>?_,⟨.int j,H,I.tok _,⟨_,rfl⟩,k _ S φ H _ q (List.prefix_refl _) (.refl _) R rfl⟩⟩
  ·rw[ev j _ z (by simp[hj]) hz]
   exact hzy
  ·intro m hm hmj
   have hm':m<its.length:=by simpa using hm
   have hz':zs[m]?=some (zs[m]'(by omega)):=List.getElem?_eq_getElem _
   rw[ev m _ _ (by simp[hm']) hz']
   exact hno m _ hmj hz'
  ·have hm:w∈its:=by simpa using hw
   obtain⟨i,hi,e⟩:=List.mem_iff_getElem.mp hm
   have e1:its[i]?=some w:=by rw[List.getElem?_eq_getElem hi,e]
   have e2:zs[i]?=some (zs[i]'(by omega)):=List.getElem?_eq_getElem _
   obtain⟨z',q1,q2⟩:=key i w _ e1 e2
   have hdd:=q4n e2
   have o2:=oz.2
   rw[ev i w _ e1 e2]
   exact q9b I 190 X.A.in1 _ y z' y' w u (q1m oz.1 e2) oy.1 (by omega) (by rw[q4d];omega) q1 ry q2 r1
end
section
variable{X:Cx}{G:GX}{pos:Pos}
end
end Ev
namespace Ev
open PySem PySem.Spec PyProof.Rows L2 PySem.Builtin.Str
section
variable{X:Cx}{G:GX}{pos:Pos}
end
end Ev
namespace Ev
open PySem PySem.Spec PyProof.Rows L2
section
variable{X:Cx}
def cEqE:F2:=fun x y S Q=>∃xs m,x=.frl xs/\y=.ref m/\q2w S m=some []/\Q (.bl xs.isEmpty) S
theorem y6r(hu:X.A.units+200<cLine):OpR X (compareOp .Eq) (q3g X.K cEqE):=by
 rintro pins s σ H x y v u Q I rx ry ⟨φ,S,px,py,Q0,R,hx,hy,h,k⟩
 obtain⟨xs,m,rfl,rfl,e2,h⟩:=h
 obtain⟨a,vs,rfl,sa,ra⟩:=hx
 obtain⟨b,rfl,qb⟩:=hy
 obtain⟨ws,sb,rb⟩:=R.seq qb e2
 cases rx
 cases ry
 obtain⟨its,r1,p1,_⟩:=I.list sa.sq
 obtain⟨its2,r2,p2,_⟩:=I.list sb
 have l2:its2.length=0:=by rw[<-r2.length,<-rb.length];rfl
 have l1:its.length=xs.length:=by rw[<-r1.length,<-ra.length]
 cases xs with
 |nil=>
  have hz:its.toArray.size=its2.toArray.size:=by rw[List.size_toArray,List.size_toArray,l1,l2];rfl
  refine SeqAt.eq_listAt (e:=fun _=>true) p1.isList p2.isList hz (by omega) (fun j h1 h2=>?_) (q6a I k R h (by rw[List.size_toArray,l1];rfl))
  rw[List.size_toArray,l1]at h1
  exact absurd h1 (Nat.not_lt_zero _)
 |cons z zs=>
  have hz:(its.toArray.size != its2.toArray.size)=true:=by rw[List.size_toArray,List.size_toArray,l1,l2];simp
  exact SeqAt.eq_list_lengthsAt p1.isList p2.isList hz (by omega) (q6a I k R h rfl)
end
abbrev SimF(P:Program)(w:World)(K:Frag)(mg:Str->Option Value)(base:Heap)(k:Nat)(x:Str)(N:List Str)(st:Stmt)(W:WS)(f:Addr):Prop:=∀{cdv:Value}{A:Around}{outer:List Env}{s:Shared}{H:Hp}{E:XK}{G:GX},RoomW k (A.deeper (envOfC x (q1n st) s.heap.objs.size f cdv))->Room k (A.deeper (envOfC x (q1n st) s.heap.objs.size f cdv))->q4t (CXE P w) (cxOf (CXE P w) P w K mg base N x (q1n st) f cdv A outer s H E) (xkOf K G.xh)->(A.deeper (envOfC x (q1n st) s.heap.objs.size f cdv)).units+200<cLine->N.Nodup->q8e (cxOf (CXE P w) P w K mg base N x (q1n st) f cdv A outer s H E) G (q4v st) W
section
variable{P:Program}{w:World}{K:Frag}{mg:Str->Option Value}{base h:Heap}{k:Nat}{x:Str}{N ps:List Str}{st:Stmt}{W:WS}{f:Addr}{fd:FuncData}
theorem sco{sc:Scope}(h1:sc.kind=.function)(h2:sc.isCoroutine=false)(h3:sc.isGenerator=false)(h:N.Nodup/\N.take ps.length=ps/\(∀x∈ps,sc.names.lookup x=some .local\/sc.names.lookup x=some .cell)/\∀y∈sc.names,y.2≠.free):FnScope N ps sc:=⟨h1,h2,h3,h.1,h.2.1,h.2.2.1,h.2.2.2⟩
theorem _root_.L2.Loc2.sim(l:Loc2 K mg x st ps f fd)(h:SimF P w K mg base k x N st W f)(sc:FnScope N ps (q1n st):=by exact sco rfl rfl rfl (by decide +kernel)):Cal P w K mg base (k+1) x ps (q1h K (fnP ps.length N.length W)) f fd:=
 l.cal (x2d l.F sc fun _ _ _ _ _ _ _ hr hx=>h hr hr.toRoom hx (by have:=hr.un;omega) sc.nd)
def FnIn(K:Frag)(x:Str)(st:Stmt)(f:Addr):Prop:=PySem.W.nsIn K mainGlobals x=some (some (.ref f))/\∃fd,Fun K x x st f fd
theorem FnIn.mk{oc:Value}{od an:Option Addr}{osl:Array (Option Value)}{kV doc pm cdv ct:Value}(a:PySem.W.nsIn K mainGlobals x=some (some (.ref f)))(l:K.lookup f=some ⟨oc,od,.func (PySem.W.fnOf x x (q6m st) (q4v st) (q1n st) .none kV doc pm an cdv ct),osl⟩)
  (c:PySem.W.codeIn K cdv x=true) (k:PySem.W.keepIn K (.ref f)=true):FnIn K x st f:=⟨a,_,x1z l c k⟩
theorem FnIn.gl(i:FnIn K x st f)(X:K.In h)(G:h.Ns mainGlobals mg):mg x=some (.ref f):=PySem.W.mg_of X G i.1
theorem FnIn.loc(i:FnIn K x st f)(X:K.In h)(G:h.Ns mainGlobals mg)
  (b:∀(kV doc pm:Value)(an:Option Addr)(cdv ct:Value)(us:List Value),us.length=ps.length->bindArgs (PySem.W.fnOf x x (q6m st) (q4v st) (q1n st) .none kV doc pm an cdv ct) ⟨us,[]⟩=pure (ps.zip us)) :
  ∃fd,Loc2 K mg x st ps f fd/\∀us,us.length=ps.length->bindArgs fd ⟨us,[]⟩=pure (ps.zip us):=by
 obtain⟨a,fd,F⟩:=i
 obtain⟨oc,od,kV,doc,pm,an,cdv,ct,osl,rfl,lk,hcd⟩:=id F.ex
 exact⟨_,⟨F,PySem.W.mg_of X G a,F.binds b⟩,b kV doc pm an cdv ct⟩
end
end Ev
namespace My
open PySem L2 Ev
def q3j:WS:=
 (wSeq (wIfS (wOr (wNot (wTru (wCB fIsi (q0d (wVar 0) (q0d (wC (.ty "str")) wNil))))) (wOr (q1d (wBin cEq (wCB fLen (q0d (wVar 0) wNil)) (wC (.int 0)))) (q1d (wBin cGt (wCB fLen (q0d (wVar 0) wNil)) (wC (.int 8))))))
 (wRet (wC (.bl false)))
 q1k)
 (wRet (wCB fAll (q0d (q5b (q5k (wVar 0)) [none] (q1b 0) q4f (wBin cIn (wVar 0) (wC (.str "abcdefghijklmnopqrstuvwxyz")))) wNil))))
local macro_rules | `(tactic| dsimp! [$xs,*]) => do
 let ns := (("wSet wAsg q1b q6r q2b q6s sSet wIfS q1d wTru truK wAnd wOr wNot z0p y0u wNeg wBin wVar wC wCB q0d wNil wTup wLst wRet q3v q0y wBM wBM0 wSl bSl q6t q3n q1k z0n wFor q5k q2t y0r q8k z4c z8r q7w bIxD z9s y0v q5b q4f q8y wAug z3x bAdd bI bSub z2t bMod bPow bMul cLt cLe cGt cGe x2p x2n y4q x2o x2l x2j x2i x2k x2m x5e z4z cIs z5a y2w q5r wTry y0t z4d y0o y5b y5a y6q z0m ix_t ix_s ix_f ix_r q0t z0a fLen fIsi tyP fAll z9t q6p fInt fStr q1t mPop z1k q6k z1l q9h y0q z6r y0p z0o List.getElem?_cons_zero List.getElem?_cons_succ List.set_cons_zero List.set_cons_succ List.map_cons List.map_nil List.replicate List.cons_append List.nil_append List.length_cons List.length_nil q4z q4y y5s y7a true_and if_true Bool.false_eq_true if_false Bool.not_true Bool.not_false y2s x1n x1o y7d q6v q6l q8a q8b q6w z1w z0e z3p z3q z1x z3n z1v z6c z6d z3o z3j z1s z6a z6b z3k z0b q8j z1q z1r z0c z1t z0d z3l z3m z1u y6x x0t y6y y6w z8i z9w q4x y4m y4l q6q y2e z1g decide_eq_true_eq and_self and_true decide_true decide_false not_true_eq_false not_false_eq_true Int.cast_ofNat_Int Int.reduceEq Int.reduceNeg Nat.reduceSub Nat.sub_self Bool.not_eq_true' decide_eq_false_iff_not Nat.reduceAdd".splitOn " ").map fun z => Lean.mkIdent z.toName).toArray
 let ds := (("wSet wAsg q1b q6r q2b q6s sSet wIfS q1d wTru truK wAnd wOr wNot z0p y0u wNeg wBin wVar wC wCB q0d wNil wTup wLst wRet q3v q0y wBM wBM0 wSl bSl q6t q3n q1k z0n wFor q5k q2t y0r q8k z4c z8r q7w bIxD z9s y0v q5b q4f q8y wAug z3x bAdd bI bSub z2t bMod bPow bMul cLt cLe cGt cGe cIs q5r wTry y0t z4d y0o y5b y5a y6q z0m ix_t ix_s ix_f ix_r z0a fLen fIsi tyP fAll z9t q6p fInt fStr q1t mPop z1k q6k z1l q9h y0q z6r y0p z0o true_and List.getElem?_cons_zero List.getElem?_cons_succ List.set_cons_zero List.set_cons_succ List.map_cons List.map_nil List.cons_append List.nil_append".splitOn " ").map fun z => Lean.mkIdent z.toName).toArray
 `(tactic| first|(dsimp only[$[$ds:ident],*];first|simp only[$[$ns:ident],*, $xs,*]|skip)|simp only[$[$ns:ident],*, $xs,*])
def mk(l:List Nat):Str:=⟨l.toArray⟩
theorem q4c(l:List Nat):(mk l).cps.toList=l:=rfl
theorem q5m(l:List Nat):(mk l).length=l.length:=by simp[mk,Str.length]
theorem z8p(a b:List Nat):mk a++mk b=mk (a++b):=by
 apply z2x
 rw[y3n,q4c,q4c,q4c]
theorem z8o{a b:List Nat}(h:mk a=mk b):a=b:=by rw[<-q4c a,h,q4c]
theorem z4s(z:Str):z.cps.toList.length=z.length:=by simp[Str.length]
theorem z0f:Str.ofString "" = mk []:=by decide +kernel
theorem y0c(c:Nat):(⟨#[c]⟩:Str)=mk [c]:=rfl
def isL(c:Nat):Bool:=inS ⟨#[c]⟩ (Str.ofString "abcdefghijklmnopqrstuvwxyz")
def q2j(z:Str):Bool:=!decide (z.length=0)&&!decide (8<z.length)&&z.cps.toList.all isL
theorem z3r{z:Str}{S:q0h}{E:EK}{Q:VC}(hz:z.length<=1000000)(h:∀S',Ex [] S S'->Q (.bl (q2j z)) S'):fnP 1 1 q3j [.str z] S E Q:=by
 refine⟨rfl,?_⟩
 unfold q3j
 refine seqI fun K hK=>?_
 dsimp![true_and]
 refine⟨big hz,ite2 (fun c=>?_) (fun c=>⟨big hz,ite2 (fun d=>?_) (fun d=>?_)⟩)⟩
 ·have:=h S (Ex.refl _ _)
  rw[show q2j z=false by unfold q2j;rw[decide_eq_true (show z.length=0 by omega)];rfl]at this
  exact this
 ·have:=h S (Ex.refl _ _)
  rw[show q2j z=false by unfold q2j;rw[decide_eq_true (show 8<z.length by omega),Bool.not_true,Bool.and_false,Bool.false_and]]at this
  exact this
 refine hK _ _ ?_
 dsimp![true_and]
 refine⟨by rw[List.length_map,z4s];exact big hz,?_⟩
 refine y3g (fun rest ys σ S1=>S1=S/\(∃v,σ=[v])/\∃done cs,z.cps.toList=done++cs/\rest=cs.map chr1/\ys=(done.map isL).map PV.bl) ?_ ?_ _ _ _ _ ⟨rfl,⟨none,rfl⟩,[],z.cps.toList,rfl,rfl,rfl⟩
 ·rintro ys σ S1 ⟨rfl,-,done,cs,e1,e2,rfl⟩
  have:cs=[]:=by
   cases cs with
   |nil=>rfl
   |cons a b=>simp at e2
  subst this
  rw[List.append_nil]at e1
  refine⟨trivial,?_⟩
  dsimp![Option.bind_some,y0i]
  have:=h _ (Ex.new [] S1 [.lst ((done.map isL).map PV.bl)])
  have e:q2j z=(done.map isL).all id:=by
   unfold q2j
   rw[decide_eq_false (show ¬z.length=0 by omega),decide_eq_false (show ¬8<z.length by omega),e1,List.all_map]
   rfl
  rw[e]at this
  exact this
 ·rintro x r ys σ S1 ⟨rfl,⟨v,rfl⟩,done,cs,e1,e2,rfl⟩ N hN
  cases cs with
  |nil=>simp at e2
  |cons c cs=>
   simp only[List.map_cons,List.cons.injEq]at e2
   obtain⟨rfl,rfl⟩:=e2
   dsimp![chr1]
   exact hN _ _ _ ⟨rfl,⟨_,rfl⟩,done++[c],cs,by simp[e1],rfl,by simp[isL]⟩
inductive Kd where
 |a (s:Str)|p (f t:Kd)
def Kd.pv:Kd->PV
 |.a s=>.str s
 |.p f t=>.tup [f.pv,t.pv]
def Kd.lv:Kd->Nat
 |.a _=>1
 |.p f t=>f.lv+t.lv
def Kd.dp:Kd->Nat
 |.a _=>0
 |.p f t=>max f.dp t.dp+1
def Kd.ok:Kd->Prop
 |.a s=>q2j s=true
 |.p f t=>f.ok/\t.ok
theorem q7s{s:Str}(h:q2j s=true):1<=s.length/\s.length<=8/\s.cps.toList.all isL=true:=by
 unfold q2j at h
 simp only[Bool.and_eq_true,Bool.not_eq_true',decide_eq_false_iff_not]at h
 exact⟨by omega,by omega,h.2⟩
theorem Kd.lv_pos:∀k:Kd,1<=k.lv
 |.a _=>Nat.le_refl _
 |.p f t=>Nat.le_trans (Kd.lv_pos f) (Nat.le_add_right _ _)
theorem Kd.dp_lv:∀k:Kd,k.dp+1<=k.lv
 |.a _=>Nat.le_refl _
 |.p f t=>by
  have h1:=Kd.dp_lv f
  have h2:=Kd.dp_lv t
  simp only[Kd.dp,Kd.lv]
  omega
theorem z4w:∀k:Kd,dep k.pv=k.dp
 |.a _=>rfl
 |.p f t=>by simp only[Kd.pv,dep,deps,z4w f,z4w t,Kd.dp];omega
theorem x0s(a b:Str):q3x [.str a,.str b]:=q6j [a,b]
theorem Ex.weak'{S0 S:q0h}{n:Nat}(h:Ex [n] S0 S)(hn:S0.length<=n):Ex [] S0 S:=⟨h.1,fun i hi _=>h.2 i hi (by simp;omega)⟩
structure ReadAt(S0:q0h)(z:Str)(np ns:Nat)(pcs:List Str)(st:List Kd)(σ:Ev.Loc)(S:q0h):Prop where
 loc:∃j,σ=[some (.str z),some (.ref np),some (.ref ns),j]
 pcs:S[np]?=some (.lst (pcs.map PV.str))
 stk:S[ns]?=some (.lst (st.map Kd.pv))
 ext:Ex [] S0 S
section
variable{spc spi:Den}{S0:q0h}{z:Str}{np ns:Nat}{pcs:List Str}{D:PEnds}{E:EK}
end
def x5c(c:Nat)(l a s:Int)(m:Bool):List (Key×PV):=[(.inr (Str.ofString "cells"),.ref c),(.inr (Str.ofString "left"),.int l),(.inr (Str.ofString "at"),.int a),(.inr (Str.ofString "seed"),.int s),(.inr (Str.ofString "mixed"),.bl m)]
structure Deck(d c:Nat)(S:q0h):Prop where
 is:∃(l a s:Int)(m:Bool)(x:Int)(xs:List Int),S[d]?=some (.dK (x5c c l a s m))/\S[c]?=some (.lst ((x::xs).map PV.int))/\xs.length<=100/\0<=s/\s<2147483647
 ne:d≠c
theorem Deck.ex{d c:Nat}{S S':q0h}(h:Deck d c S){D:List Nat}(e:Ex D S S')(h1:d∉D)(h2:c∉D):Deck d c S':=by
 obtain⟨⟨l,a,s,m,x,xs,g1,g2,r⟩,ne⟩:=h
 exact⟨⟨l,a,s,m,x,xs,e.get g1 h1,e.get g2 h2,r⟩,ne⟩
theorem q2m(x:PV)(xs:List PV):atI (x::xs) 0=some x:=by
 unfold atI ixN
 simp only[List.length_cons]
 rw[if_pos (by decide),if_pos (by omega)]
 rfl
theorem y8e{xs:List Int}{i:Int}(h:xs≠[]):∃y,atI (xs.map PV.int) (i % (xs.length:Int))=some (.int y):=by
 have hp:0<xs.length:=List.length_pos_iff.mpr h
 have h0:0<=i % (xs.length:Int):=Int.emod_nonneg _ (by omega)
 have h1:i % (xs.length:Int)<xs.length:=Int.emod_lt_of_pos _ (by omega)
 unfold atI ixN
 rw[List.length_map,if_pos h0,if_pos h1]
 have:(i % (xs.length:Int)).toNat<xs.length:=by omega
 exact⟨xs[(i % (xs.length:Int)).toNat],by simp[this]⟩
theorem y4o{i j:Int}(h:-(2 ^ 64)<j)(h':j<2 ^ 64):CMul i j:=.inr ⟨h,h'⟩
theorem y4p{i j:Int}(h:-(2 ^ 64)<i)(h':i<2 ^ 64):CMul i j:=.inl ⟨h,h'⟩
theorem x5d(ns:List Int)(h:ns.length<=63):cutP (ns.map PV.int) none (some 63)=ns.map PV.int:=by
 unfold cutP
 have:HT.sIx (ns.map PV.int).length (ns.map PV.int).length (some 63)=(ns.map PV.int).length:=by
  rw[show(63:Int)=((63:Nat):Int)from rfl,HT.sIx_nat,List.length_map]
  omega
 rw[this,HT.sIx_none,List.drop_zero,Nat.sub_zero,List.take_length]
def spl:Int->Nat->List Nat
 |_,0=>[]
 |n,k+1=>(97+(n % 26).toNat)::spl (n / 26) k
theorem q5p:∀(k:Nat)(n:Int),(spl n k).length=k
 |0,_=>rfl
 |k+1,n=>by rw[spl,List.length_cons,q5p k]
theorem z3a(lo:Int)(n:Nat):(rngP lo n).length=n:=by simp[rngP]
theorem z9h:∀m:Nat,m<26->isL (97+m)=true:=by decide +kernel
theorem z7f:∀(k:Nat)(n:Int),(spl n k).all isL=true
 |0,_=>rfl
 |k+1,n=>by
  have m0:0<=n % 26:=Int.emod_nonneg _ (by decide)
  have m1:n % 26<26:=Int.emod_lt_of_pos _ (by decide)
  rw[spl,List.all_cons,z7f k,Bool.and_true]
  exact z9h _ (by omega)
theorem z4p{l:List Nat}(h1:1<=l.length)(h8:l.length<=8)(h:l.all isL=true):q2j (mk l)=true:=by
 unfold q2j
 rw[q5m,q4c,h,decide_eq_false (by omega),decide_eq_false (by omega)]
 rfl
theorem q7c{α:Type} [DecidableEq α]:∀{l F:List α},l.Nodup->(∀x∈l,x∈F)->l.length<=F.length
 |[],_,_,_=>Nat.zero_le _
 |a::l,F,nd,h=>by
  obtain⟨h1,h2⟩:=List.nodup_cons.mp nd
  have ha:a∈F:=h a (by simp)
  have:=q7c (l:=l) (F:=F.erase a) h2 fun x hx=>(List.mem_erase_of_ne (by rintro rfl;exact h1 hx)).mpr (h x (List.mem_cons_of_mem _ hx))
  rw[List.length_erase_of_mem ha]at this
  have:0<F.length:=List.length_pos_of_mem ha
  simp only[List.length_cons]
  omega
def sAny:Str:=Str.ofString "any"
theorem y5o(z:Str)(k:Nat)(h:k<=z.length):Txt.slice z none (some (k:Int))=mk (z.cps.toList.take k):=by
 apply z2x
 rw[q8m,q4c,HT.sIx_none,HT.sIx_nat,List.drop_zero,Nat.sub_zero,Nat.min_eq_left h]
theorem y5p(z:Str)(k:Nat)(h:k<=z.length):Txt.slice z (some (k:Int)) none=mk (z.cps.toList.drop k):=by
 apply z2x
 rw[q8m,q4c,HT.sIx_none,HT.sIx_nat,Nat.min_eq_left h,List.take_of_length_le]
 rw[List.length_drop,z4s]
 exact Nat.le_refl _
theorem y4r(ws:List Str)(w:Str):((ws.map PV.str).any fun y=>eqB y (.str w))=decide (w∈ws):=by
 rw[List.any_map,Bool.eq_iff_iff,List.any_eq_true,decide_eq_true_eq]
 constructor
 ·rintro⟨x,hx,e⟩
  have e':eqB (.str x) (.str w)=true:=e
  rw[q4x,decide_eq_true_eq]at e'
  rw[<-e'];exact hx
 ·intro h
  exact⟨w,h,by show eqB (.str w) (.str w)=true;rw[q4x];simp⟩
theorem y3o{p:Nat->Bool}{l:List Nat}(k:Nat)(h:l.all p=true):(l.take k).all p=true:=List.all_eq_true.mpr fun x hx=>List.all_eq_true.mp h x (List.mem_of_mem_take hx)
theorem y3p{p:Nat->Bool}{l:List Nat}(k:Nat)(h:l.all p=true):(l.drop k).all p=true:=List.all_eq_true.mpr fun x hx=>List.all_eq_true.mp h x (List.mem_of_mem_drop hx)
theorem q2g{α:Type}(xs:List α)(j:Nat)(h:j<xs.length):atI xs (j:Int)=some xs[j]:=by
 unfold atI ixN
 rw[if_pos (by omega),if_pos (by omega)]
 simp[h]
theorem y0a(xs:List PV)(k:Nat)(h:k<=xs.length):cutP xs none (some (k:Int))=xs.take k:=by
 unfold cutP
 rw[HT.sIx_none,HT.sIx_nat,List.drop_zero,Nat.sub_zero,Nat.min_eq_left h]
theorem z3u(xs:List PV)(k:Nat)(h:k<=xs.length):cutP xs (some (k:Int)) none=xs.drop k:=by
 unfold cutP
 rw[HT.sIx_none,HT.sIx_nat,Nat.min_eq_left h,List.take_of_length_le]
 rw[List.length_drop]
 exact Nat.le_refl _
def q3q:WS:=
 (wRet (z0p (wCB fIsi (q0d (wVar 0) (q0d (wC (.ty "int")) wNil))) (y0u (wCB fIsi (q0d (wVar 0) (q0d (wC (.ty "bool")) wNil))))))
def q4u:WS:=
 (wSeq (wIfS (q1d (wBin cEq (wBin bIx (wVar 0) (wC (.int 0))) (wC (.str "/"))))
 (wSeq (wIfS (q1d (wBin cEq (wBin bIx (wVar 0) (wC (.int 2))) (wVar 1)))
 (wRet (wTup (q0d (wC (.str ">")) (q0d (wBin bIx (wVar 0) (wC (.int 1))) wNil))))
 q1k)
 (wIfS (wAnd (q1d (wBin cEq (wBin bIx (wVar 1) (wC (.int 0))) (wC (.str "/")))) (q1d (wBin cEq (wBin bIx (wVar 0) (wC (.int 2))) (wBin bIx (wVar 1) (wC (.int 1))))))
 (wRet (wTup (q0d (wC (.str ">>")) (q0d (wTup (q0d (wC (.str "/")) (q0d (wBin bIx (wVar 0) (wC (.int 1))) (q0d (wBin bIx (wVar 1) (wC (.int 2))) wNil)))) wNil))))
 q1k))
 q1k)
 (wSeq (wIfS (q1d (wBin cEq (wBin bIx (wVar 1) (wC (.int 0))) (wC (.str "\\"))))
 (wSeq (wIfS (q1d (wBin cEq (wBin bIx (wVar 1) (wC (.int 2))) (wVar 0)))
 (wRet (wTup (q0d (wC (.str "<")) (q0d (wBin bIx (wVar 1) (wC (.int 1))) wNil))))
 q1k)
 (wIfS (wAnd (q1d (wBin cEq (wBin bIx (wVar 0) (wC (.int 0))) (wC (.str "\\")))) (q1d (wBin cEq (wBin bIx (wVar 1) (wC (.int 2))) (wBin bIx (wVar 0) (wC (.int 1))))))
 (wRet (wTup (q0d (wC (.str "<<")) (q0d (wTup (q0d (wC (.str "\\")) (q0d (wBin bIx (wVar 1) (wC (.int 1))) (q0d (wBin bIx (wVar 0) (wC (.int 2))) wNil)))) wNil))))
 q1k))
 q1k)
 (wRet (wC .non))))
inductive Fm where
 |b (s:Str)|n (l:Bool) (x y:Fm)
deriving DecidableEq
def sSl:Bool->Str
 |false=>Str.ofString "/"
 |true=>Str.ofString "\\"
def Fm.pv:Fm->PV
 |.b s=>.tup [.str "basic",.str s]
 |.n l x y=>.tup [.str (sSl l),x.pv,y.pv]
def Fm.dp:Fm->Nat
 |.b _=>1
 |.n _ x y=>max x.dp y.dp+1
def Fm.lv:Fm->Nat
 |.b _=>1
 |.n _ x y=>x.lv+y.lv
def Fm.ov(ws:List Str):Fm->Prop
 |.b s=>s∈ws
 |.n _ x y=>x.ov ws/\y.ov ws
theorem Fm.lv_pos:∀f:Fm,1<=f.lv
 |.b _=>Nat.le_refl _
 |.n _ x y=>Nat.le_trans (Fm.lv_pos x) (Nat.le_add_right _ _)
theorem Fm.dp_lv:∀f:Fm,f.dp<=f.lv
 |.b _=>Nat.le_refl _
 |.n _ x y=>by have:=Fm.dp_lv x;have:=Fm.dp_lv y;have:=Fm.lv_pos x;have:=Fm.lv_pos y;simp only[Fm.dp,Fm.lv];omega
theorem Fm.pv_tup(f:Fm):∃xs,f.pv=.tup xs:=by cases f<;>exact⟨_,rfl⟩
theorem z1i:∀f:Fm,nrf f.pv=true
 |.b _=>rfl
 |.n _ x y=>by simp only[Fm.pv,nrf,nrfs,z1i x,z1i y,Bool.and_self]
theorem q9c:∀f:Fm,dep f.pv=f.dp
 |.b _=>rfl
 |.n _ x y=>by simp only[Fm.pv,dep,deps,q9c x,q9c y,Fm.dp];omega
theorem y4b:sSl false≠sSl true:=by decide +kernel
theorem z2c:∀f g:Fm,eqB f.pv g.pv=decide (f=g)
 |.b s,.b t=>by simp[Fm.pv,q6q,eqBs,q4x]
 |.b s,.n l x y=>by simp[Fm.pv,q6q,eqBs,q4x]
 |.n l x y,.b s=>by simp[Fm.pv,q6q,eqBs,q4x]
 |.n l x y,.n m u v=>by
  have h:(sSl l=sSl m)↔l=m:=by
   cases l<;>cases m<;>simp[y4b,y4b.symm]
  simp[Fm.pv,q6q,eqBs,q4x,z2c x u,z2c y v,h]
theorem z3e{f:Fm}(h:f.dp<=190):okEq f.pv:=⟨z1i f,by rw[q9c];exact h⟩
theorem x2q{f g:Fm}(hf:f.dp<=190)(hg:g.dp<=190)(S:q0h)(Q:VC):cEq f.pv g.pv S Q=Q (.bl (decide (f=g))) S:=by
 have h:=z2c f g
 have o1:=z3e hf
 have o2:=z3e hg
 obtain⟨xs,hx⟩:=f.pv_tup
 obtain⟨ys,hy⟩:=g.pv_tup
 rw[hx,hy]at h
 rw[hx]at o1 ⊢
 rw[hy]at o2 ⊢
 rw[y4q,<-q6q,h]
 simp only[o1,o2,and_self,true_and]
theorem fb0(s:Str)(S:q0h)(Q:VC):bIx (Fm.b s).pv (.int 0) S Q=Q (.str "basic") S:=rfl
theorem fb1(s:Str)(S:q0h)(Q:VC):bIx (Fm.b s).pv (.int 1) S Q=Q (.str s) S:=rfl
theorem fn0(l:Bool)(x y:Fm)(S:q0h)(Q:VC):bIx (Fm.n l x y).pv (.int 0) S Q=Q (.str (sSl l)) S:=rfl
theorem fn1(l:Bool)(x y:Fm)(S:q0h)(Q:VC):bIx (Fm.n l x y).pv (.int 1) S Q=Q x.pv S:=rfl
theorem fn2(l:Bool)(x y:Fm)(S:q0h)(Q:VC):bIx (Fm.n l x y).pv (.int 2) S Q=Q y.pv S:=rfl
theorem z5n:(sSl false=Str.ofString "/")=True:=by simp only[sSl]
theorem z5o:(sSl false=Str.ofString "\\")=False:=by simp only[eq_iff_iff,iff_false];decide +kernel
theorem z5l:(sSl true=Str.ofString "\\")=True:=by simp only[sSl]
theorem z5m:(sSl true=Str.ofString "/")=False:=by simp only[eq_iff_iff,iff_false];decide +kernel
theorem q7a(l:Bool):(sSl l=Str.ofString "basic")=False:=by cases l<;>(simp only[eq_iff_iff,iff_false];decide +kernel)
theorem ba_f:(Str.ofString "basic" = Str.ofString "/")=False:=by simp only[eq_iff_iff,iff_false];decide +kernel
theorem ba_b:(Str.ofString "basic" = Str.ofString "\\")=False:=by simp only[eq_iff_iff,iff_false];decide +kernel
mutual
theorem q7e:∀x:PV,nrf x=true->eqB x x=true
 |.non,_=>rfl
 |.bl b,_=>by simp[eqB]
 |.int i,_=>by simp[eqB]
 |.str s,_=>by rw[q4x];simp
 |.tup xs,h=>by rw[q6q];exact q4e xs (by rw[z8i]at h;exact h)
theorem q4e:∀xs:List PV,nrfs xs=true->eqBs xs xs=true
 |[],_=>rfl
 |x::xs,h=>by
  simp only[nrfs,Bool.and_eq_true]at h
  simp only[eqBs,q7e x h.1,q4e xs h.2,Bool.and_self]
end
theorem z5v(l:List Int):q3x (l.map PV.int):=by
 refine⟨?_,?_⟩
 ·induction l with
  |nil=>rfl
  |cons a r ih=>simp only[List.map_cons,nrfs,nrf,ih,Bool.and_self]
 ·induction l with
  |nil=>simp[deps]
  |cons a r ih=>simp only[List.map_cons,deps,dep];omega
theorem p12:(10:Int) ^ (12:Int).toNat=1000000000000:=by decide
theorem at2{a b:PV}(i:Int):atI [a,b] (i % 2)=some (if i % 2=0 then a else b):=by
 have h0:0<=i % 2:=Int.emod_nonneg _ (by decide)
 have h1:i % 2<2:=Int.emod_lt_of_pos _ (by decide)
 rcases(show i % 2=0\/i % 2=1 by omega)with z|z
 ·rw[z];rfl
 ·rw[z];rfl
def lt(m:Nat):Str:=mk [97+m]
def tx(w:List Nat):Str:=mk (w.map (97+·))
theorem y7i{n i:Nat}(h:i<n):ixN n (i:Int)=some i:=by
 unfold ixN
 rw[if_pos (by omega),if_pos (by omega)]
 simp
def mdL(a b:Fm):Option (Str×Fm):=match a with
 |.n false x y=>if y=b then some (Str.ofString ">",x)else match b with
  |.n false y' z=>if y=y' then some (Str.ofString ">>",.n false x z)else none
  |_=>none
 |_=>none
def mdR(a b:Fm):Option (Str×Fm):=match b with
 |.n true x y=>if y=a then some (Str.ofString "<",x)else match a with
  |.n true y' z=>if y=y' then some (Str.ofString "<<",.n true x z)else none
  |_=>none
 |_=>none
def md(a b:Fm):Option (Str×Fm):=(mdL a b).or (mdR a b)
def mdP:Option (Str×Fm)->PV
 |none=>.non
 |some (s,f)=>.tup [.str s,f.pv]
def y0l(sp:Den):Prop:=∀(a b:Fm)(S:q0h)(E:EK)(Q:VC),a.dp<=100->b.dp<=100->Q (mdP (md a b)) S->sp [a.pv,b.pv] S E Q
theorem Fm.ne_in{l:Bool}{x y:Fm}:x≠.n l x y:=by
 intro h
 have:=congrArg Fm.lv h
 simp only[Fm.lv]at this
 have:=Fm.lv_pos y
 omega
theorem q5h{f g:Fm}(hf:f.dp<=100)(hg:g.dp<=100)(S:q0h)(Q:VC):cEq f.pv g.pv S Q=Q (.bl (decide (f=g))) S:=x2q (by omega) (by omega) _ _
theorem y6z:y0l (fnP 2 2 q4u):=by
 intro a b S E Q ha hb h
 refine⟨rfl,?_⟩
 unfold q4u
 have p2:2<=sizeLine:=big (by decide)
 have p3:3<=sizeLine:=big (by decide)
 refine seqI fun K hK=>?_
 have hnon:mdL a b=none->K [some a.pv,some b.pv] S:=by
  intro hL
  refine hK _ _ ?_
  clear hK
  refine seqI fun K hK=>?_
  have hnon:mdR a b=none->K [some a.pv,some b.pv] S:=fun z=>hK _ _ (by
   rw [md,hL,z]at h
   exact h)
  have hsome:∀s f,mdR a b=some (s,f)->Q (.tup [.str s,f.pv]) S:=fun s f z=>by
   rw[md,hL,z]at h
   exact h
  clear h hK
  cases b with
  |b t=>dsimp![fb0,ba_b];exact hnon rfl
  |n m u v=>
   cases m with
   |false=>dsimp![fn0,z5o];exact hnon rfl
   |true=>
    simp only[Fm.dp]at hb
    dsimp![fn0,z5l]
    refine seqI fun K2 hK2=>?_
    dsimp![fn1,fn2,q5h (show v.dp<=100 by omega) ha]
    refine ite2 (fun z=>⟨p2,hsome _ _ (by simp only[mdR,if_pos z])⟩) (fun z=>hK2 _ _ ?_)
    cases a with
    |b t=>dsimp![fb0,ba_b];exact hnon (by simp only[mdR,if_neg z])
    |n l x y=>
     cases l with
     |false=>dsimp![fn0,z5o];exact hnon (by simp only[mdR,if_neg z])
     |true=>
      simp only[Fm.dp]at ha
      dsimp![fn0,fn1,fn2,z5l,q5h (show v.dp<=100 by omega) (show x.dp<=100 by omega)]
      exact ite2 (fun z2=>⟨p3,p2,hsome _ (.n true u y) (by simp only[mdR,if_neg z,if_pos z2])⟩) (fun z2=>hnon (by simp only[mdR,if_neg z,if_neg z2]))
 have hsome:∀s f,mdL a b=some (s,f)->Q (.tup [.str s,f.pv]) S:=fun s f z=>by
  rw[md,z]at h
  exact h
 clear h hK
 cases a with
 |b t=>dsimp![fb0,ba_f];exact hnon rfl
 |n l x y=>
  cases l with
  |true=>dsimp![fn0,z5m];exact hnon rfl
  |false=>
   simp only[Fm.dp]at ha
   dsimp![fn0,z5n]
   refine seqI fun K2 hK2=>?_
   dsimp![fn1,fn2,q5h (show y.dp<=100 by omega) hb]
   refine ite2 (fun z=>⟨p2,hsome _ _ (by simp only[mdL,if_pos z])⟩) (fun z=>hK2 _ _ ?_)
   cases b with
   |b t=>dsimp![fb0,ba_f];exact hnon (by simp only[mdL,if_neg z])
   |n m u v=>
    cases m with
    |true=>dsimp![fn0,z5m];exact hnon (by simp only[mdL,if_neg z])
    |false=>
     simp only[Fm.dp]at hb
     dsimp![fn0,fn1,fn2,z5n,q5h (show y.dp<=100 by omega) (show u.dp<=100 by omega)]
     exact ite2 (fun z2=>⟨p3,p2,hsome _ (.n false x v) (by simp only[mdL,if_neg z,if_pos z2])⟩) (fun z2=>hnon (by simp only[mdL,if_neg z,if_neg z2]))
theorem x1a {a b : Fm} {s : Str} {f : Fm} (h : mdL a b = some (s, f)) : f.dp <= max a.dp b.dp := by
 unfold mdL at h
 repeat' split at h
 all_goals first
  | (cases h; done)
  | (simp only [Option.some.injEq, Prod.mk.injEq] at h; obtain ⟨-, rfl⟩ := h; simp only [Fm.dp]; omega)
theorem x0y {a b : Fm} {s : Str} {f : Fm} (h : mdR a b = some (s, f)) : f.dp <= max a.dp b.dp := by
 unfold mdR at h
 repeat' split at h
 all_goals first
  | (cases h; done)
  | (simp only [Option.some.injEq, Prod.mk.injEq] at h; obtain ⟨-, rfl⟩ := h; simp only [Fm.dp]; omega)
theorem x0x{a b:Fm}{s:Str}{f:Fm}(h:md a b=some (s,f)):f.dp<=max a.dp b.dp:=by
 unfold md at h
 cases e:mdL a b with
 |none=>rw[e]at h;exact x0y h
 |some p=>rw[e]at h;cases h;exact x1a e
theorem Fm.dp_pos(f:Fm):1<=f.dp:=by cases f<;>simp[Fm.dp]
def q3l(spLkind:Den):WS:=
 (wSeq (wIfS (q1d (wBin cEq (wBin bIx (wVar 0) (wC (.int 0))) (wC (.str "basic"))))
 (wRet (wBin bIx (wVar 0) (wC (.int 1))))
 q1k)
 (wRet (wTup (q0d (q0y spLkind (q0d (wBin bIx (wVar 0) (wC (.int 2))) wNil)) (q0d (q0y spLkind (q0d (wBin bIx (wVar 0) (wC (.int 1))) wNil)) wNil)))))
set_option maxHeartbeats 1000000
def Fm.kd:Fm->PV
 |.b s=>.str s
 |.n _ x y=>.tup [y.kd,x.kd]
theorem z3h{T:Nat->Den}(hT:∀n,T (n+1)=fnP 1 1 (q3l (T n))):∀(n:Nat)(f:Fm),f.dp<=n->∀(S:q0h)(E:EK)(Q:VC),Q f.kd S->T n [f.pv] S E Q
 |0,f,hd,S,E,Q,h=>by have:=f.dp_pos;omega
 |n+1,.b s,hd,S,E,Q,h=>by
  rw[hT]
  refine⟨rfl,?_⟩
  unfold q3l
  dsimp![wSeq,fb0,fb1]
  exact h
 |n+1,.n l x y,hd,S,E,Q,h=>by
  simp only[Fm.dp]at hd
  rw[hT]
  refine⟨rfl,?_⟩
  unfold q3l
  dsimp![wSeq,fn0,fn1,fn2,q7a]
  refine z3h hT n y (by omega) _ _ _ ?_
  refine z3h hT n x (by omega) _ _ _ ?_
  exact⟨big (by decide),h⟩
def x2x(sp:Den)(d:Nat):Prop:=∀(f:Fm),f.dp<=d->∀(S:q0h)(E:EK)(Q:VC),Q f.kd S->sp [f.pv] S E Q
def jnP(z:Fm)(f g:PV):PV:=.tup [.str "fn",z.kd,.tup [.str "of",f,.tup [.str "of",g,.tup [.str "bound",.int 0]]]]
def ofP(f g:PV):PV:=.tup [.str "of",f,g]
structure MeantD(sp:Den)(d:Nat):Prop where
 a:∀(l r f g:PV)(S:q0h)(E:EK)(Q:VC),Q (ofP f g) S->sp [.str ">",l,r,f,g] S E Q
 b:∀(l r f g:PV)(S:q0h)(E:EK)(Q:VC),Q (ofP g f) S->sp [.str "<",l,r,f,g] S E Q
 c:∀(l:PV)(x z:Fm)(s:Bool)(f g:PV)(S:q0h)(E:EK)(Q:VC),z.dp<=d->Q (jnP z f g) S->sp [.str ">>",l,(Fm.n s x z).pv,f,g] S E Q
 d:∀(r:PV)(x z:Fm)(s:Bool)(f g:PV)(S:q0h)(E:EK)(Q:VC),z.dp<=d->Q (jnP z g f) S->sp [.str "<<",(Fm.n s x z).pv,r,f,g] S E Q
theorem md1(x y:Fm):md (.n false x y) y=some (Str.ofString ">",x):=by simp[md,mdL]
theorem x0z{x y:Fm}:mdL y (.n true x y)=none:=by
 unfold mdL
 split
 ·rename_i u v
  rw[if_neg]
  intro z
  have:=congrArg Fm.lv z
  simp only[Fm.lv]at this
  have:=u.lv_pos
  have:=x.lv_pos
  omega
 ·rfl
theorem md2(x y:Fm):md y (.n true x y)=some (Str.ofString "<",x):=by simp[md,x0z,mdR]
theorem md3(x y z:Fm):md (.n false x y) (.n false y z)=some (Str.ofString ">>",.n false x z):=by
 have h:¬y=.n false y z:=Fm.ne_in
 simp only[md,mdL,mdR,if_neg h,if_true,Option.or_none]
theorem md4(x y z:Fm):md (.n true y z) (.n true x y)=some (Str.ofString "<<",.n true x z):=by
 have h:¬y=.n true y z:=Fm.ne_in
 simp only[md,mdL,mdR,if_neg h,if_true,Option.none_or]
set_option maxHeartbeats 1000000
inductive Sg where
 |a|b|c|d
deriving DecidableEq
def Sg.st:Sg->Str
 |.a=>Str.ofString ">"
 |.b=>Str.ofString "<"
 |.c=>Str.ofString ">>"
 |.d=>Str.ofString "<<"
inductive Rd where
 |w (i:Int) (f:Fm)|n (s:Sg) (l r:Rd)
deriving DecidableEq
def z2z:Str:=Str.ofString "word"
def Rd.pv:Rd->PV
 |.w i f=>.tup [.str z2z,.int i,f.pv]
 |.n s l r=>.tup [.str s.st,l.pv,r.pv]
def Rd.lv:Rd->Nat
 |.w _ _=>1
 |.n _ l r=>l.lv+r.lv
def Rd.fd:Rd->Nat
 |.w _ f=>f.dp
 |.n _ l r=>max l.fd r.fd
def Rd.is:Rd->Int->Int->Fm->Prop
 |.w i f,a,b,g=>i=a/\b=a+1/\f=g
 |.n s l r,a,b,g=>∃k x y,l.is a k x/\r.is k b y/\md x y=some (s.st,g)
theorem Rd.lv_pos:∀r:Rd,1<=r.lv
 |.w _ _=>Nat.le_refl _
 |.n _ l r=>Nat.le_trans (Rd.lv_pos l) (Nat.le_add_right _ _)
theorem z2y(s:Sg):(s.st=z2z)=False:=by cases s<;>(simp only[eq_iff_iff,iff_false];decide +kernel)
theorem rw0(i:Int)(f:Fm)(S:q0h)(Q:VC):bIx (Rd.w i f).pv (.int 0) S Q=Q (.str z2z) S:=rfl
theorem rw1(i:Int)(f:Fm)(S:q0h)(Q:VC):bIx (Rd.w i f).pv (.int 1) S Q=Q (.int i) S:=rfl
theorem rw2(i:Int)(f:Fm)(S:q0h)(Q:VC):bIx (Rd.w i f).pv (.int 2) S Q=Q f.pv S:=rfl
theorem rn0(s:Sg)(l r:Rd)(S:q0h)(Q:VC):bIx (Rd.n s l r).pv (.int 0) S Q=Q (.str s.st) S:=rfl
theorem rn1(s:Sg)(l r:Rd)(S:q0h)(Q:VC):bIx (Rd.n s l r).pv (.int 1) S Q=Q l.pv S:=rfl
theorem rn2(s:Sg)(l r:Rd)(S:q0h)(Q:VC):bIx (Rd.n s l r).pv (.int 2) S Q=Q r.pv S:=rfl
set_option maxHeartbeats 1000000
set_option maxHeartbeats 1000000
def Rd.top:Rd->Option Rd
 |.n .a (.n .c x y) z=>some (.n .a x (.n .a y z))
 |.n .c (.n .c x y) z=>some (.n .c x (.n .c y z))
 |.n .b x (.n .d y z)=>some (.n .b (.n .b x y) z)
 |.n .d x (.n .d y z)=>some (.n .d (.n .d x y) z)
 |_=>none
def Rd.once:Rd->List Rd
 |.w _ _=>[]
 |.n s l r=>(Rd.top (.n s l r)).toList++l.once.map (fun x=>.n s x r)++r.once.map (fun x=>.n s l x)
def Rd.tn:Rd->Option Rd
 |.w _ _=>none
 |.n s l r=>match Rd.top (.n s l r)with
  |some t=>some t
  |none=>match l.tn with
   |some t=>some (.n s t r)
   |none=>match r.tn with
    |some t=>some (.n s l t)
    |none=>none
def Rd.ms:Rd->Nat
 |.w _ _=>0
 |.n s l r=>l.ms+r.ms+match s with
  |.a=>l.lv
  |.c=>l.lv
  |.b=>r.lv
  |.d=>r.lv
set_option maxHeartbeats 1000000
def Rd.hd:Rd->Str
 |.w _ _=>z2z
 |.n s _ _=>s.st
def Sg.ac:Sg->Bool
 |.a=>true
 |.c=>true
 |_=>false
theorem ok2(a b:Str):q3x [.str a,.str b]:=x0s a b
set_option maxHeartbeats 1000000
set_option maxHeartbeats 1000000
def Rd.wi:Rd->List Rd
 |.w i f=>[.w i f]
 |.n s l r=>.n s l r::(l.wi++r.wi)
theorem z4b:∀r:Rd,r.wi.length+1=r.lv+r.lv
 |.w _ _=>rfl
 |.n s l r=>by have:=z4b l;have:=z4b r;simp only[Rd.wi,Rd.lv,List.length_cons,List.length_append];omega
def Rd.sm:Rd->Prop
 |.w _ f=>f.lv<=5
 |.n _ l r=>l.sm/\r.sm
def Rd.ov(ws:List Str):Rd->Prop
 |.w _ f=>f.ov ws
 |.n _ l r=>l.ov ws/\r.ov ws
def q3i:WS:=
 (wSeq (wSet 2 (q5b (q5k (wBin bIx (wVar 0) (wC (.int 2)))) [none,none,none,some 1] (q6r 3 (q2b (q1b 0) (q2b (q1b 1) (q2b (q1b 2) q6s)))) (q1d (wBin cEq (wVar 0) (wVar 3))) (wTup (q0d (wVar 1) (q0d (wVar 2) wNil)))))
 (wSeq (wIfS (wNot (wTru (wVar 2)))
 z0n
 q1k)
 (wRet (wVar 2))))
def Fm.k:Fm->KTr
 |.b s=>.tup [.str "basic",.str s]
 |.n l x y=>.tup [.str (sSl l),x.k,y.k]
def wk(p:Int×Fm):KTr:=.tup [.int p.1,p.2.k]
def Fm.arg:Fm->Fm
 |.n _ _ z=>z
 |f=>f
def Fm.res:Fm->Fm
 |.n _ x _=>x
 |f=>f
def Rd.fm:Rd->Fm
 |.w _ f=>f
 |.n .a l _=>l.fm.res
 |.n .b _ r=>r.fm.res
 |.n .c l r=>.n false l.fm.res r.fm.arg
 |.n .d l r=>.n true r.fm.res l.fm.arg
def Rd.tm(L:Int×Fm->PV):Rd->PV
 |.w i f=>L (i,f)
 |.n .a l r=>ofP (l.tm L) (r.tm L)
 |.n .b l r=>ofP (r.tm L) (l.tm L)
 |.n .c l r=>jnP r.fm.arg (l.tm L) (r.tm L)
 |.n .d l r=>jnP l.fm.arg (r.tm L) (l.tm L)
def Rd.ws:Rd->List (Int×Fm)
 |.w i f=>[(i,f)]
 |.n _ l r=>l.ws++r.ws
theorem y5c:∀{r:Rd}{a b:Int}{g:Fm},r.is a b g->a<=b/\(∀p∈r.ws,a<=p.1/\p.1<b)/\(r.ws.map (·.1)).Nodup
 |.w i f,a,b,g,⟨e1,e2,_⟩=>by
  subst e1 e2
  simp only[Rd.ws,List.mem_singleton,List.map_cons,List.map_nil,List.nodup_cons,List.not_mem_nil,not_false_eq_true,List.nodup_nil,and_true]
  exact⟨by omega,by rintro p rfl;exact⟨Int.le_refl _,by show i<i+1;omega⟩⟩
 |.n s l r,a,b,g,⟨k,x,y,h1,h2,_⟩=>by
  obtain⟨a1,a2,a3⟩:=y5c h1
  obtain⟨b1,b2,b3⟩:=y5c h2
  simp only[Rd.ws,List.mem_append,List.map_append,List.nodup_append]
  refine⟨by omega,?_,a3,b3,?_⟩
  ·rintro p (h|h)
   ·have:=a2 p h;omega
   ·have:=b2 p h;omega
  ·intro i hi j hj e
   obtain⟨p,hp,rfl⟩:=List.mem_map.mp hi
   obtain⟨q,hq,rfl⟩:=List.mem_map.mp hj
   have:=a2 p hp
   have:=b2 q hq
   omega
theorem z6t:∀{r t:Rd},t∈r.wi->∀p∈t.ws,p∈r.ws
 |.w i f,t,ht=>by simp only[Rd.wi,List.mem_singleton]at ht;subst ht;exact fun p h=>h
 |.n s l r,t,ht=>by
  simp only[Rd.wi,List.mem_cons,List.mem_append]at ht
  rcases ht with rfl|ht|ht
  ·exact fun p h=>h
  ·exact fun p h=>List.mem_append_left _ (z6t ht p h)
  ·exact fun p h=>List.mem_append_right _ (z6t ht p h)
theorem z0r(p:Key×PV)(r:List (Key×PV))(k:Key):valP (p::r) k=if p.1=k then some p.2 else valP r k:=by
 unfold valP
 rw[List.find?_cons]
 by_cases h:p.1=k
 ·rw[if_pos h,decide_eq_true h];rfl
 ·rw[if_neg h,decide_eq_false h]
def Rd.one:Rd->Option (Int×Fm)
 |.w i f=>some (i,f)
 |_=>none
def Sg.ab:Sg->Bool
 |.a=>true
 |.b=>true
 |_=>false
mutual
def plV:PV->Bool
 |.str _=>true
 |.int _=>true
 |.tup xs=>plVs xs&&decide (xs.length<=10)
 |_=>false
def plVs:List PV->Bool
 |[]=>true
 |x::xs=>plV x&&plVs xs
end
theorem z7w:∀f:Fm,plV f.pv=true
 |.b s=>rfl
 |.n l x y=>by simp only[Fm.pv,plV,plVs,z7w x,z7w y,Bool.and_self,List.length_cons,List.length_nil];rfl
inductive Tm where
 |nm (w:Str)|lf (n:Int) (f:PV)|bd (k:Nat)|fn (k:PV) (t:Tm)|ap (f a:Tm)
def Tm.pv:Tm->PV
 |.nm w=>.tup [.str "name",.str w]
 |.lf n f=>.tup [.str "leaf",.int n,f]
 |.bd k=>.tup [.str "bound",.int k]
 |.fn k t=>.tup [.str "fn",k,t.pv]
 |.ap f a=>.tup [.str "of",f.pv,a.pv]
def Tm.sz:Tm->Nat
 |.fn _ t=>1+t.sz
 |.ap f a=>1+f.sz+a.sz
 |_=>1
def Tm.dp:Tm->Nat
 |.fn _ t=>t.dp+1
 |.ap f a=>max f.dp a.dp+1
 |_=>0
theorem y0j(x y:PV)(xs:List PV):atI (x::y::xs) 1=some y:=q2g (x::y::xs) 1 (by simp)
theorem x2r(x y z:PV)(xs:List PV):atI (x::y::z::xs) 2=some z:=q2g (x::y::z::xs) 2 (by simp)
theorem y0s(a:Int)(S:q0h)(E:EK)(Q:VC)(h:Q (.bl true) S):fnP 1 1 q3q [.int a] S E Q:=by
 refine⟨rfl,?_⟩
 unfold q3q
 dsimp![true_and]
 exact h
theorem y8c(xs:List PV)(k:Nat)(h:k<xs.length):atI xs (-1-(k:Int))=xs[xs.length-1-k]?:=by
 unfold atI ixN
 rw[if_neg (by omega),if_pos (by omega)]
 rw[Option.bind_some]
 congr 1
 omega
mutual
def q5d:PV->Bool
 |.str _=>true
 |.int _=>true
 |.tup xs=>q7n xs&&decide (xs.length<=10)
 |_=>false
def q7n:List PV->Bool
 |[]=>true
 |x::xs=>q5d x&&q7n xs
end
theorem q9r:∀k:Kd,q5d k.pv=true
 |.a s=>by simp only[Kd.pv,q5d]
 |.p f t=>by simp only[Kd.pv,q5d,q7n,List.length_cons,List.length_nil,Nat.reduceAdd,Nat.reduceLeDiff,decide_true,Bool.and_true,q9r f,q9r t,Bool.and_self]
def Tm.gd:Tm->Nat->Prop
 |.nm _,_=>True
 |.lf _ f,_=>q5d f=true/\dep f<=30
 |.bd k,n=>k<n
 |.fn k t,n=>(q5d k=true/\dep k<=30)/\t.gd (n+1)
 |.ap f a,n=>f.gd n/\a.gd n
def y3s(b m d:Nat)(u:Int):List (Key×PV):=[(.inr (Str.ofString "basics"),.ref b),(.inr (Str.ofString "names"),.ref m),(.inr (Str.ofString "deck"),.ref d),(.inr (Str.ofString "uses"),.int u),(.inr (Str.ofString "leaves"),.bl true)]
def encN(p:Str×Kd):PV:=.tup [.str p.1,p.2.pv]
structure Wd(w b m d c N:Nat)(S:q0h):Prop where
 dk:Deck d c S
 wd:∃u,S[w]?=some (.dK (y3s b m d u))
 bs:∃ws:List Str,S[b]?=some (.lst (ws.map PV.str))/\ws≠[]
 nm:∃ps:List (Str×Kd),S[m]?=some (.lst (ps.map encN))/\ps.length<=N/\∀p∈ps,q2j p.1=true/\p.2.dp<=20
 ne:(w≠d/\w≠c)/\(b≠d/\b≠c)/\(m≠d/\m≠c)/\w≠m/\b≠m
theorem Wd.ex{w b m d c N:Nat}{S S':q0h}(h:Wd w b m d c N S){D:List Nat}(e:Ex D S S')(hw:w∉D)(hb:b∉D)(hm:m∉D)(hd:d∉D)(hc:c∉D):Wd w b m d c N S':=by
 obtain⟨dk,⟨u,wd⟩,⟨ws,b1,b2⟩,⟨ps,p1,p2⟩,ne⟩:=h
 exact⟨dk.ex e hd hc,⟨u,e.get wd hw⟩,⟨ws,e.get b1 hb,b2⟩,⟨ps,e.get p1 hm,p2⟩,ne⟩
theorem Wd.nx{w b m d c N:Nat}{S S':q0h}(h:Wd w b m d c N S)(hd:Deck d c S')(e:Ex [d,c] S S'):Wd w b m d c N S':=by
 obtain⟨dk,⟨u,wd⟩,⟨ws,b1,b2⟩,⟨ps,p1,p2⟩,ne⟩:=h
 exact⟨hd,⟨u,e.get wd (by simp;exact ne.1)⟩,⟨ws,e.get b1 (by simp;exact ne.2.1),b2⟩,⟨ps,e.get p1 (by simp;exact ne.2.2.1),p2⟩,ne⟩
theorem Wd.le{w b m d c N N':Nat}{S:q0h}(h:Wd w b m d c N S)(l:N<=N'):Wd w b m d c N' S:=by
 obtain⟨dk,wd,bs,⟨ps,p1,p2,p3⟩,ne⟩:=h
 exact⟨dk,wd,bs,⟨ps,p1,Nat.le_trans p2 l,p3⟩,ne⟩
structure Ar(w b m d c a:Nat)(rs:List Nat)(S:q0h):Prop where
 at':S[a]?=some (.lst (rs.map PV.ref))
 rw':∀r∈rs,∃(k:Kd)(u:Int),S[r]?=some (.lst [k.pv,.int u])/\k.dp<=20
 ne:∀r∈a::rs,r≠w/\r≠b/\r≠m/\r≠d/\r≠c
 na:a∉rs
theorem Ar.ex{w b m d c a:Nat}{rs:List Nat}{S S':q0h}(h:Ar w b m d c a rs S)(e:Ex [m,d,c] S S'):Ar w b m d c a rs S':=by
 have g:∀r∈a::rs,r∉[m,d,c]:=fun r hr=>by have:=h.ne r hr;simp;exact⟨this.2.2.1,this.2.2.2.1,this.2.2.2.2⟩
 exact⟨e.get h.at' (g a (by simp)),fun r hr=>by obtain⟨k,u,h1,h2⟩:=h.rw' r hr;exact⟨k,u,e.get h1 (g r (by simp[hr])),h2⟩,h.ne,h.na⟩
theorem Ar.nx{w b m d c a:Nat}{rs:List Nat}{S S':q0h}(h:Ar w b m d c a rs S)(e:Ex [d,c] S S'):Ar w b m d c a rs S':=h.ex (e.weak (by simp))
def mb(F:Nat->Nat->Tm):Tm->Nat->Tm
 |.bd k,d=>F k d
 |.fn k t,d=>.fn k (mb F t (d+1))
 |.ap f a,d=>.ap (mb F f d) (mb F a d)
 |t,_=>t
def rsF(m:Nat)(k d:Nat):Tm:=.bd (if k<d then k else k+m)
def rs(t:Tm)(m d:Nat):Tm:=mb (rsF m) t d
def sbF(a:Tm)(k d:Nat):Tm:=if k<d then .bd k else if k=d then rs a d 0 else .bd (k-1)
def sb(t:Tm)(d:Nat)(a:Tm):Tm:=mb (sbF a) t d
def dn:Tm->List Nat->Tm
 |.ap (.fn _ b) a,[]=>sb b 0 a
 |t,[]=>t
 |.fn k t,_::p=>.fn k (dn t p)
 |.ap f a,0::p=>.ap (dn f p) a
 |.ap f a,_::p=>.ap f (dn a p)
 |t,_=>t
inductive Pl:Tm->List Nat->Prop
 |here (k:PV) (b a:Tm):Pl (.ap (.fn k b) a) []
 |fn (k:PV) (t:Tm) (p:List Nat):Pl t p->Pl (.fn k t) (0::p)
 |l (f a:Tm) (p:List Nat):Pl f p->Pl (.ap f a) (0::p)
 |r (f a:Tm) (p:List Nat):Pl a p->Pl (.ap f a) (1::p)
inductive Nt where
 |nm (w:Str)|lf (n:Int) (f:PV)|vr (i:Nat)|fn (k:PV) (o:Nat) (t:Nt)|ap (f a:Nt)
def nf:Tm->Nat
 |.fn _ t=>nf t+1
 |.ap f a=>nf f+nf a
 |_=>0
def oc:Tm->Nat->Nat
 |.bd k,j=>if k=j then 1 else 0
 |.fn _ t,j=>oc t (j+1)
 |.ap f a,j=>oc f j+oc a j
 |_,_=>0
def af(u:Nat):Tm->Prop
 |.fn _ t=>oc t 0<=u/\af u t
 |.ap f a=>af u f/\af u a
 |_=>True
def Tm.nd:Tm->Nat
 |.fn _ t=>1+t.nd
 |.ap f a=>1+f.nd+a.nd
 |_=>0
inductive R:Tm->Tm->Prop
 |be (k:PV) (b a:Tm):R (.ap (.fn k b) a) (sb b 0 a)
 |fn (k:PV) {t t':Tm}:R t t'->R (.fn k t) (.fn k t')
 |l (a:Tm) {f f':Tm}:R f f'->R (.ap f a) (.ap f' a)
 |r (f:Tm) {a a':Tm}:R a a'->R (.ap f a) (.ap f a')
inductive Rs:Tm->Tm->Prop
 |nil (t:Tm):Rs t t
 |cons {t u v:Tm}:R t u->Rs u v->Rs t v
theorem Rs.one{t u:Tm}(h:R t u):Rs t u:=.cons h (.nil _)
theorem Rs.trans{t u v:Tm}(h:Rs t u)(g:Rs u v):Rs t v:=by
 induction h with
 |nil=>exact g
 |cons h1 _ ih=>exact .cons h1 (ih g)
theorem Rs.fn(k:PV){t u:Tm}(h:Rs t u):Rs (.fn k t) (.fn k u):=by
 induction h with
 |nil=>exact .nil _
 |cons h1 _ ih=>exact .cons (.fn k h1) ih
theorem Rs.l(a:Tm){t u:Tm}(h:Rs t u):Rs (.ap t a) (.ap u a):=by
 induction h with
 |nil=>exact .nil _
 |cons h1 _ ih=>exact .cons (.l a h1) ih
theorem Rs.r(f:Tm){t u:Tm}(h:Rs t u):Rs (.ap f t) (.ap f u):=by
 induction h with
 |nil=>exact .nil _
 |cons h1 _ ih=>exact .cons (.r f h1) ih
theorem pl_R{t:Tm}{p:List Nat}(h:Pl t p):R t (dn t p):=by
 induction h with
 |here k b a=>exact .be k b a
 |fn k t p _ ih=>exact .fn k ih
 |l f a p _ ih=>rw[show dn (.ap f a) (0::p)=.ap (dn f p) a by simp only[dn]];exact .l a ih
 |r f a p _ ih=>rw[show dn (.ap f a) (1::p)=.ap f (dn a p) by simp only[dn]];exact .r f ih
theorem R_pl{t u:Tm}(h:R t u):∃p,Pl t p/\u=dn t p:=by
 induction h with
 |be k b a=>exact⟨[],.here k b a,rfl⟩
 |fn k _ ih=>obtain⟨p,h1,rfl⟩:=ih;exact⟨0::p,.fn k _ p h1,rfl⟩
 |l a _ ih=>obtain⟨p,h1,rfl⟩:=ih;exact⟨0::p,.l _ a p h1,by simp only[dn]⟩
 |r f _ ih=>obtain⟨p,h1,rfl⟩:=ih;exact⟨1::p,.r f _ p h1,by simp only[dn]⟩
def Nf(t:Tm):Prop:=∀u,¬R t u
def lfs:Tm->List (Int×PV)
 |.lf n f=>[(n,f)]
 |.fn _ t=>lfs t
 |.ap f a=>lfs f++lfs a
 |_=>[]
instance x5j:DecidableEq (Int×PV):=fun _ _=>Classical.propDecidable _
def fl(L:Int->PV->Tm):Tm->Tm
 |.lf n f=>L n f
 |.fn k t=>.fn k (fl L t)
 |.ap f a=>.ap (fl L f) (fl L a)
 |t=>t
section
variable{L:Int->PV->Tm}(hL:∀n f,(L n f).gd 0)
include hL
end
inductive FK:PV->Kd->Prop
 |b (s:Str):FK (.tup [.str "basic",.str s]) (.a s)
 |n (l:Bool) {x y:PV} {kx ky:Kd}:FK x kx->FK y ky->FK (.tup [.str (if l=true then Str.ofString "\\" else Str.ofString "/"),x,y]) (.p ky kx)
theorem FK.plain{f:PV}{k:Kd}(h:FK f k):q5d f=true/\dep f<=k.dp+1:=by
 induction h with
 |b s=>exact⟨by simp[q5d,q7n],by simp[dep,deps]⟩
 |n l _ _ h1 h2=>exact⟨by simp only[q5d,q7n,List.length_cons,List.length_nil,Nat.reduceAdd,Nat.reduceLeDiff,decide_true,Bool.and_true,h1.1,h2.1,Bool.and_self],by simp only[dep,deps,Kd.dp];omega⟩
def lkN(ps:List (Str×Kd))(w:Str):Option Kd:=(ps.find? fun p=>decide (p.1=w)).map (·.2)
theorem y7b{ps qs:List (Str×Kd)}{w:Str}{k:Kd}(h:lkN ps w=some k):lkN (ps++qs) w=some k:=by
 unfold lkN at h ⊢
 rw[List.find?_append]
 cases e:ps.find? fun p=>decide (p.1=w)with
 |none=>rw[e]at h;cases h
 |some p=>rw[e]at h;exact h
inductive Ty(ps:List (Str×Kd)):List Kd->Tm->Kd->Prop
 |nm {e:List Kd} {w:Str} {k:Kd}:lkN ps w=some k->Ty ps e (.nm w) k
 |lf {e:List Kd} (n:Int) {f:PV} {k:Kd}:FK f k->k.dp<=20->Ty ps e (.lf n f) k
 |bd {e:List Kd} {j:Nat} {k:Kd}:e[j]?=some k->Ty ps e (.bd j) k
 |fn {e:List Kd} {k k':Kd} {t:Tm}:k.dp<=20->Ty ps (k::e) t k'->Ty ps e (.fn k.pv t) (.p k k')
 |ap {e:List Kd} {k k':Kd} {f a:Tm}:Ty ps e f (.p k k')->Ty ps e a k->Ty ps e (.ap f a) k'
theorem Ty.mono{ps qs:List (Str×Kd)}{e:List Kd}{t:Tm}{k:Kd}(h:Ty ps e t k):Ty (ps++qs) e t k:=by
 induction h with
 |nm h=>exact .nm (y7b h)
 |lf n h g=>exact .lf n h g
 |bd h=>exact .bd h
 |fn h _ ih=>exact .fn h ih
 |ap _ _ i1 i2=>exact .ap i1 i2
theorem Ty.gd{ps:List (Str×Kd)}{e:List Kd}{t:Tm}{k:Kd}(h:Ty ps e t k):t.gd e.length:=by
 induction h with
 |nm h=>trivial
 |lf n h g=>exact⟨h.plain.1,by have:=h.plain.2;omega⟩
 |bd h=>exact(List.getElem?_eq_some_iff.mp h).1
 |fn h _ ih=>exact⟨⟨q9r _,by rw[z4w];omega⟩,ih⟩
 |ap _ _ i1 i2=>exact⟨i1,i2⟩
instance x5i:DecidableEq Kd:=fun _ _=>Classical.propDecidable _
theorem q9a:∀f g:Kd,eqB f.pv g.pv=decide (f=g)
 |.a s,.a t=>by simp[Kd.pv,q4x]
 |.a s,.p f t=>by simp[Kd.pv,y4m]
 |.p f t,.a s=>by simp[Kd.pv,y4l]
 |.p f t,.p f' t'=>by
  have h1:=q9a f f'
  have h2:=q9a t t'
  simp only[Kd.pv,q6q,eqBs,h1,h2,Bool.and_true,Kd.p.injEq]
  by_cases z1:f=f'<;>by_cases z2:t=t'<;>simp[z1,z2]
structure Wt(w b m d c u:Nat)(ps:List (Str×Kd))(S:q0h):Prop where
 dk:Deck d c S
 wd:S[w]?=some (.dK (y3s b m d (u:Nat)))
 bs:∃ws:List Str,S[b]?=some (.lst (ws.map PV.str))/\ws.length=3
 nm:S[m]?=some (.lst (ps.map encN))
 ok:∀p∈ps,q2j p.1=true/\p.2.dp<=20
 nd:(ps.map (·.1)).Nodup
 ne:(w≠d/\w≠c)/\(b≠d/\b≠c)/\(m≠d/\m≠c)/\w≠m/\b≠m
theorem Wt.ex{w b m d c u:Nat}{ps:List (Str×Kd)}{S S':q0h}(h:Wt w b m d c u ps S){D:List Nat}(e:Ex D S S')(hw:w∉D)(hb:b∉D)(hm:m∉D)(hd:d∉D)(hc:c∉D):Wt w b m d c u ps S':=by
 obtain⟨dk,wd,⟨ws,b1,b2⟩,p1,p2,p3,ne⟩:=h
 exact⟨dk.ex e hd hc,e.get wd hw,⟨ws,e.get b1 hb,b2⟩,e.get p1 hm,p2,p3,ne⟩
theorem Wt.nx{w b m d c u:Nat}{ps:List (Str×Kd)}{S S':q0h}(h:Wt w b m d c u ps S)(hd:Deck d c S')(e:Ex [d,c] S S'):Wt w b m d c u ps S':=by
 obtain⟨dk,wd,⟨ws,b1,b2⟩,p1,p2,p3,ne⟩:=h
 exact⟨hd,e.get wd (by simp;exact ne.1),⟨ws,e.get b1 (by simp;exact ne.2.1),b2⟩,e.get p1 (by simp;exact ne.2.2.1),p2,p3,ne⟩
theorem Wt.new{w b m d c u:Nat}{ps:List (Str×Kd)}{S:q0h}(h:Wt w b m d c u ps S)(xs:List SO):Wt w b m d c u ps (S++xs):=h.ex (Ex.new [] _ _) (by simp) (by simp) (by simp) (by simp) (by simp)
theorem Wt.lt{w b m d c u:Nat}{ps:List (Str×Kd)}{S:q0h}(h:Wt w b m d c u ps S):w<S.length/\b<S.length/\m<S.length/\d<S.length/\c<S.length:=by
 obtain⟨ws,g,_⟩:=h.bs
 have hd:=h.dk
 obtain⟨⟨_,_,_,_,_,_,g1,g2,_⟩,_⟩:=hd
 exact⟨q0u h.wd,q0u g,q0u h.nm,q0u g1,q0u g2⟩
def Fm.kk:Fm->Kd
 |.b s=>.a s
 |.n _ x y=>.p y.kk x.kk
theorem z8y:∀f:Fm,f.kk.pv=f.kd
 |.b s=>rfl
 |.n _ x y=>by simp only[Fm.kk,Kd.pv,Fm.kd,z8y x,z8y y]
theorem y2o:∀f:Fm,f.kk.dp<=f.dp
 |.b s=>Nat.zero_le _
 |.n _ x y=>by have:=y2o x;have:=y2o y;simp only[Fm.kk,Kd.dp,Fm.dp];omega
structure Bk2(a b n:Nat)(ps:List (Str×Kd))(S:q0h):Prop where
 is:∃ws:List Str,S[a]?=some (.lst (ps.map encN))/\S[b]?=some (.lst (ws.map PV.str))/\n<=ws.length/\ps.length+ws.length<=100/\(ps.map (·.1)++ws).Nodup
 dp:∀p∈ps,p.2.dp<=20
 ne:a≠b
theorem Bk2.ex{a b n:Nat}{ps:List (Str×Kd)}{S S':q0h}{D:List Nat}(h:Bk2 a b n ps S)(e:Ex D S S')(h1:a∉D)(h2:b∉D):Bk2 a b n ps S':=by
 obtain⟨⟨ws,g1,g2,r⟩,dp,ne⟩:=h
 exact⟨⟨ws,e.get g1 h1,e.get g2 h2,r⟩,dp,ne⟩
theorem Bk2.lt{a b n:Nat}{ps:List (Str×Kd)}{S:q0h}(h:Bk2 a b n ps S):a<S.length/\b<S.length:=by
 obtain⟨⟨ws,g1,g2,r⟩,_,ne⟩:=h
 exact⟨q0u g1,q0u g2⟩
theorem Bk2.le{a b n m:Nat}{ps:List (Str×Kd)}{S:q0h}(h:Bk2 a b n ps S)(k:m<=n):Bk2 a b m ps S:=by
 obtain⟨⟨ws,g1,g2,h1,r⟩,dp,ne⟩:=h
 exact⟨⟨ws,g1,g2,by omega,r⟩,dp,ne⟩
structure Ap2(d c a b:Nat):Prop where
 ad:a≠d
 ac:a≠c
 bd:b≠d
 bc:b≠c
structure Bd(ps:List (Str×Kd))(e:List Kd)(t:Tm)(k:Kd)(z:Nat):Prop where
 ty:Ty ps e t k
 oc:∀j,oc t j<=1
 af:af 1 t
 lf:lfs t=[]
 sz:t.sz<=z
 nd:t.nd+7<=z
structure Bt(ps:List (Str×Kd))(t:Tm)(k:Kd):Prop where
 ty:Ty ps [] t k
 af:af 1 t
 lf:lfs t=[]
 sz:t.sz<=30
 nd:t.nd<=19
theorem Bt.mono{ps qs:List (Str×Kd)}{t:Tm}{k:Kd}(h:Bt ps t k):Bt (ps++qs) t k:=⟨h.ty.mono,h.af,h.lf,h.sz,h.nd⟩
theorem Bd.le{ps:List (Str×Kd)}{e:List Kd}{t:Tm}{k:Kd}{z y:Nat}(h:Bd ps e t k z)(l:z<=y):Bd ps e t k y:=⟨h.ty,h.oc,h.af,h.lf,Nat.le_trans h.sz l,Nat.le_trans h.nd l⟩
theorem Bd.mono{ps qs:List (Str×Kd)}{e:List Kd}{t:Tm}{k:Kd}{z:Nat}(h:Bd ps e t k z):Bd (ps++qs) e t k z:=⟨h.ty.mono,h.oc,h.af,h.lf,h.sz,h.nd⟩
mutual
theorem z7u:∀v:PV,plV v=true->nrf v=true
 |.str _,_=>rfl
 |.int _,_=>rfl
 |.tup xs,h=>by
  simp only[plV,Bool.and_eq_true]at h
  simp only[nrf]
  exact z4k xs h.1
 |.non,h=>by simp[plV]at h
 |.bl _,h=>by simp[plV]at h
 |.ref _,h=>by simp[plV]at h
 |.frl _,h=>by simp[plV]at h
 |.ty _,h=>by simp[plV]at h
 |.exc _,h=>by simp[plV]at h
theorem z4k:∀xs:List PV,plVs xs=true->nrfs xs=true
 |[],_=>rfl
 |x::r,h=>by
  simp only[plVs,Bool.and_eq_true]at h
  simp only[nrfs,z7u x h.1,z4k r h.2,Bool.and_self]
end
def okP(n:Nat)(v:PV):Prop:=plV v=true/\dep v<=n
theorem okP.le{n m:Nat}{v:PV}(h:okP n v)(k:n<=m):okP m v:=⟨h.1,Nat.le_trans h.2 k⟩
theorem okP.eq{n:Nat}{v:PV}(h:okP n v)(k:n<=190):okEq v:=⟨z7u v h.1,Nat.le_trans h.2 k⟩
theorem q9t(n:Nat)(s:Str):okP n (.str s):=⟨rfl,Nat.zero_le _⟩
theorem x0r{n:Nat}{u v:PV}(hu:okP n u)(hv:okP n v):okP (n+1) (.tup [u,v]):=by
 refine⟨by simp only[plV,plVs,hu.1,hv.1,Bool.and_self,List.length_cons,List.length_nil];rfl,?_⟩
 have:=hu.2
 have:=hv.2
 simp only[dep,deps];omega
theorem x3w{n:Nat}{u v w:PV}(hu:okP n u)(hv:okP n v)(hw:okP n w):okP (n+1) (.tup [u,v,w]):=by
 refine⟨by simp only[plV,plVs,hu.1,hv.1,hw.1,Bool.and_self,List.length_cons,List.length_nil];rfl,?_⟩
 have:=hu.2
 have:=hv.2
 have:=hw.2
 simp only[dep,deps];omega
def trP(t:(Str×Fm)×PV):PV:=.tup [.str t.1.1,t.1.2.pv,t.2]
theorem y4h{f:Fm}{n:Nat}(h:f.dp<=n):okP n f.pv:=⟨z7w f,by rw[q9c];exact h⟩
theorem q5w:∀{xs:List PV},(∀x∈xs,okP 190 x)->q3x xs
 |[],_=>by rw[z1g];trivial
 |x::r,h=>by
  obtain⟨a,b⟩:=q5w (xs:=r) fun y hy=>h y (by simp[hy])
  have c:=(h x (by simp)).eq (Nat.le_refl _)
  exact⟨by simp only[nrfs,c.1,a,Bool.and_self],by have:=c.2;simp only[deps];omega⟩
def ky(ws:List Str)(p:Int×Fm):Str×Fm:=((ws[p.1.toNat]?).getD (mk []),p.2)
theorem x4d{ws:List Str}{p:Int×Fm}(h0:0<=p.1)(h1:p.1<(ws.length:Int)):atI (ws.map PV.str) p.1=some (.str (ky ws p).1):=by
 obtain⟨i,f⟩:=p
 obtain⟨n,rfl⟩:=Int.eq_ofNat_of_zero_le h0
 have hn:n<ws.length:=by simpa using h1
 show atI (ws.map PV.str) ((n:Nat):Int)=_
 rw[q2g _ n (by rw[List.length_map];exact hn),List.getElem_map]
 simp[ky,hn]
def bkP(x y:PV)(tr:List ((Str×Fm)×PV)):PV:=.tup [x,y,.tup (tr.map trP)]
theorem bk2(x y:PV)(tr:List ((Str×Fm)×PV))(S:q0h)(Q:VC):bIx (bkP x y tr) (.int 2) S Q=Q (.tup (tr.map trP)) S:=rfl
structure GB(tr:List ((Str×Fm)×PV))(ws:List Str)(r:Rd):Prop where
 nd:(tr.map (·.1)).Nodup
 len:tr.length<=10
 ok:∀t∈tr,t.1.2.lv<=5
 all:∀p∈r.ws,0<=p.1/\p.1<(ws.length:Int)/\ky ws p∈tr.map (·.1)/\p.2.lv<=5
def ftP(t:(Str×Fm)×PV):PV:=.tup [t.1.2.pv,t.2]
def x2u(sp:Den):Prop:=∀(x y:PV)(tr:List ((Str×Fm)×PV))(w:Str)(S:q0h)(E:EK)(Q:VC),tr.length<=100->(∃t∈tr,t.1.1=w)->
 (∀(q:Nat) S',S'[q]?=some (.lst ((tr.filter fun t=>decide (t.1.1=w)).map ftP))->Ex [] S S'->Q (.ref q) S')->sp [bkP x y tr,.str w] S E Q
theorem y5u:x2u (fnP 2 3 q3i):=by
 intro x y tr w S E Q hl hex h
 refine⟨rfl,?_⟩
 unfold q3i
 have p2:2<=sizeLine:=big (by decide)
 refine seqI fun K hK=>?_
 dsimp![bk2]
 refine⟨by rw[List.length_map];exact big (by omega),?_⟩
 refine y3g (fun rest ys σ S2=>∃(us vs:List ((Str×Fm)×PV))(j0 j1 j2:Option PV),rest=us.map trP/\σ=[j0,j1,j2,some (.str w)]/\S2=S/\ys=(vs.filter fun t=>decide (t.1.1=w)).map ftP/\vs++us=tr) ?_ ?_ _ _ _ _ ⟨tr,[],none,none,none,rfl,rfl,rfl,rfl,rfl⟩
 ·rintro ys σ S2 ⟨us,vs,j0,j1,j2,hr',rfl,rfl,rfl,e⟩
  obtain rfl:us=[]:=by cases us with
   |nil=>rfl
   |cons a b=>simp at hr'
  rw[List.append_nil]at e
  subst e
  refine⟨trivial,hK _ _ ?_⟩
  clear hK
  have gn:=q0t S2 (.lst ((vs.filter fun t=>decide (t.1.1=w)).map ftP))
  have hx:Ex [] S2 (S2++[SO.lst ((vs.filter fun t=>decide (t.1.1=w)).map ftP)]):=Ex.new [] _ _
  refine seqI fun K hK=>?_
  have hne:(vs.filter fun t=>decide (t.1.1=w)).map ftP≠[]:=by
   obtain⟨t,ht,e⟩:=hex
   have:t∈vs.filter fun t=>decide (t.1.1=w):=List.mem_filter.mpr ⟨ht,by simpa using e⟩
   intro z
   rw[List.map_eq_nil_iff]at z
   rw[z]at this
   cases this
  generalize S2.length=q at *
  generalize S2++[SO.lst ((vs.filter fun t=>decide (t.1.1=w)).map ftP)]=S3 at *
  dsimp![gn]
  refine ite2 (fun c=>absurd (List.isEmpty_iff.mp (by simpa using c)) hne) (fun _=>hK _ _ ?_)
  dsimp![true_and]
  exact h q S3 gn hx
 ·rintro z rest ys σ S2 ⟨us,vs,j0,j1,j2,hr',rfl,rfl,rfl,e⟩ N hN
  obtain⟨t,us,rfl⟩:∃p r,us=p::r:=by
   cases us with
   |nil=>simp at hr'
   |cons a b=>exact⟨a,b,rfl⟩
  simp only[List.map_cons,List.cons.injEq]at hr'
  obtain⟨rfl,rfl⟩:=hr'
  refine⟨trivial,?_⟩
  dsimp![trP]
  have e2:(vs++[t])++us=tr:=by simp[<-e]
  refine ite2 (fun c=>⟨p2,?_⟩) (fun c=>?_)
  ·have:=hN _ _ _ ⟨us,vs++[t],some (.str t.1.1),some t.1.2.pv,some t.2,rfl,rfl,rfl,rfl,e2⟩
   rw[List.filter_append,List.filter_cons_of_pos (by simpa using c),List.filter_nil,List.map_append]at this
   exact this
  ·have:=hN _ _ _ ⟨us,vs++[t],some (.str t.1.1),some t.1.2.pv,some t.2,rfl,rfl,rfl,rfl,e2⟩
   rw[List.filter_append,List.filter_cons_of_neg (by simpa using c),List.filter_nil,List.append_nil]at this
   exact this
structure TrsT(ks:List (Str×Fm))(tr:List ((Str×Fm)×Tm))(ps:List (Str×Kd)):Prop where
 nd:(tr.map (·.1)).Nodup
 all:∀p∈ks,p∈tr.map (·.1)
 ok:∀t∈tr,Bt ps t.2 t.1.2.kk/\t.1.2.lv<=5
 len:tr.length<=ks.length
structure At(w b m d c a:Nat)(V:List (Nat×Kd))(g:Nat->Nat)(S:q0h):Prop where
 at':S[a]?=some (.lst (V.reverse.map fun x=>PV.ref x.1))
 rw':∀x∈V,S[x.1]?=some (.lst [x.2.pv,.int (g x.1:Nat)])/\x.2.dp<=20
 ne:∀r∈a::V.map (·.1),r≠w/\r≠b/\r≠m/\r≠d/\r≠c
 na:a∉V.map (·.1)
 nd:(V.map (·.1)).Nodup
theorem At.ex{w b m d c a:Nat}{V:List (Nat×Kd)}{g:Nat->Nat}{S S':q0h}(h:At w b m d c a V g S)(e:Ex [m,d,c] S S'):At w b m d c a V g S':=by
 have k:∀r∈a::V.map (·.1),r∉[m,d,c]:=fun r hr=>by have:=h.ne r hr;simp;exact⟨this.2.2.1,this.2.2.2.1,this.2.2.2.2⟩
 exact⟨e.get h.at' (k a (by simp)),fun x hx=>by obtain⟨h1,h2⟩:=h.rw' x hx;exact⟨e.get h1 (k x.1 (List.mem_cons_of_mem _ (List.mem_map.mpr ⟨x,hx,rfl⟩))),h2⟩,h.ne,h.na,h.nd⟩
theorem At.nx{w b m d c a:Nat}{V:List (Nat×Kd)}{g:Nat->Nat}{S S':q0h}(h:At w b m d c a V g S)(e:Ex [d,c] S S'):At w b m d c a V g S':=h.ex (e.weak (by simp))
structure Got(u:Nat)(ps:List (Str×Kd))(V:List (Nat×Kd))(g g':Nat->Nat)(t:Tm)(k:Kd):Prop where
 ty:Ty ps (V.map (·.2)) t k
 af:af u t
 us:∀j x,V[j]?=some x->oc t j+g' x.1<=g x.1
def bo:Tm->Nat->List (Nat×Nat)
 |.bd k,d=>[(k,d)]
 |.fn _ b,d=>bo b (d+1)
 |.ap f a,d=>bo f d++bo a d
 |_,_=>[]
structure Wb(x0 x1:PV)(r tl rw:Nat)(rows:List PV)(S0:q0h)(R st:List Tm)(σ:Ev.Loc)(S:q0h):Prop where
 loc:∃j4 j5 j6:Option PV,σ=[some x0,some x1,some (.ref r),some (.ref tl),j4,j5,j6]
 gr:S[r]?=some (.lst (R.map Tm.pv))
 gt:S[tl]?=some (.lst (st.reverse.map Tm.pv))
 gw:S[rw]?=some (.lst rows)
 ex:Ex [] S0 S
def wi:Tm->Nat->Tm->Tm
 |.fn k _,_,x=>.fn k x
 |.ap _ a,0,x=>.ap x a
 |.ap f _,_,x=>.ap f x
 |t,_,_=>t
theorem q7g(xs:List PV)(y:PV):atI (xs++[y]) (-1)=some y:=by
 have:=y8c (xs++[y]) 0 (by simp)
 simp only[Int.natCast_zero,Int.sub_zero]at this
 have e:(-1-((0:Nat):Int))=-1:=by omega
 simpa using this
def Nt.pv:Nt->PV
 |.nm w=>.tup [.str "name",.str w]
 |.lf n f=>.tup [.str "leaf",.int n,f]
 |.vr i=>.tup [.str "var",.int (i:Nat)]
 |.fn k o t=>.tup [.str "fn",k,.int (o:Nat),t.pv]
 |.ap f a=>.tup [.str "of",f.pv,a.pv]
def Nt.dp:Nt->Nat
 |.fn _ _ t=>t.dp+1
 |.ap f a=>max f.dp a.dp+1
 |_=>0
def Nt.gp:Nt->Prop
 |.lf _ f=>q5d f=true/\dep f<=30
 |.fn k _ t=>(q5d k=true/\dep k<=30)/\t.gp
 |.ap f a=>f.gp/\a.gp
 |_=>True
def isFn:Tm->Bool
 |.fn _ _=>true
 |_=>false
def pls:Tm->List (List Int)
 |.fn _ b=>(pls b).map (0::·)
 |.ap f a=>(if isFn f=true then[[]]else[])++((pls f).map (0::·)++(pls a).map (1::·))
 |_=>[]
def pj(p:List Int):PV:=.tup (p.map PV.int)
def pr(x:Tm×List Int):PV:=.tup [x.1.pv,pj x.2]
def out(st:List (Tm×List Int)):List (List Int):=st.flatMap fun x=>(pls x.1).map (x.2++·)
def ci(p:List Nat):List Int:=p.map fun x:Nat=>(x:Int)
theorem y9l{t:Tm}{p:List Nat}(h:Pl t p):ci p∈pls t:=by
 induction h with
 |here k b a=>simp[pls,isFn,ci]
 |fn k t p _ ih=>simp only[pls];exact List.mem_map.mpr ⟨_,ih,rfl⟩
 |l f a p _ ih=>simp only[pls,List.mem_append];exact .inr (.inl (List.mem_map.mpr ⟨_,ih,rfl⟩))
 |r f a p _ ih=>simp only[pls,List.mem_append];exact .inr (.inr (List.mem_map.mpr ⟨_,ih,rfl⟩))
theorem x3x{t:Tm}(h:pls t=[]):Nf t:=fun u hu=>by
 obtain⟨p,hp,_⟩:=R_pl hu
 have:=y9l hp
 rw[h]at this
 cases this
inductive StepL:Tm->List Tm->Prop
 |stop {t:Tm}:pls t=[]->StepL t [t]
 |go {t:Tm} {p:List Nat} {qs:List (List Int)} {L:List Tm}:pls t=ci p::qs->Pl t p->StepL (dn t p) L->StepL t (t::L)
theorem StepL.last{t:Tm}{L:List Tm}(h:StepL t L):∃M u,L=M++[u]/\Rs t u/\Nf u:=by
 induction h with
 |stop h=>exact⟨[],_,rfl,.nil _,x3x h⟩
 |go h hp _ ih=>
  obtain⟨M,u,rfl,h1,h2⟩:=ih
  exact⟨_::M,u,rfl,.cons (pl_R hp) h1,h2⟩
def Rd.tt(L:Int×Fm->Tm):Rd->Tm
 |.w i f=>L (i,f)
 |.n .a l r=>.ap (l.tt L) (r.tt L)
 |.n .b l r=>.ap (r.tt L) (l.tt L)
 |.n .c l r=>.fn r.fm.arg.kd (.ap (l.tt L) (.ap (r.tt L) (.bd 0)))
 |.n .d l r=>.fn l.fm.arg.kd (.ap (r.tt L) (.ap (l.tt L) (.bd 0)))
theorem Fm.ne2{l:Bool}{x y:Fm}:y≠.n l x y:=by
 intro h
 have:=congrArg Fm.lv h
 simp only[Fm.lv]at this
 have:=Fm.lv_pos x
 omega
theorem md_a(x y:Fm):md (.n false x y) y=some (Sg.a.st,x):=by simp[md,mdL,Sg.st]
theorem md_c(x y z:Fm):md (.n false x y) (.n false y z)=some (Sg.c.st,.n false x z):=by
 have:y≠.n false y z:=Fm.ne_in
 simp[md,mdL,this,Sg.st]
theorem md_b(x y:Fm):md y (.n true x y)=some (Sg.b.st,x):=by
 have h:mdL y (.n true x y)=none:=by
  cases y with
  |b s=>rfl
  |n l u v=>
   cases l with
   |true=>rfl
   |false=>
    have hne:v≠.n true x (.n false u v):=fun e=>by
     have:=congrArg Fm.lv e
     simp only[Fm.lv]at this
     have:=Fm.lv_pos x
     omega
    simp[mdL,hne]
 simp[md,h,mdR,Sg.st]
theorem md_d(x y z:Fm):md (.n true y z) (.n true x y)=some (Sg.d.st,.n true x z):=by
 have:y≠.n true y z:=Fm.ne_in
 simp[md,mdL,mdR,this,Sg.st]
def Jn(t u:Tm):Prop:=∃w,Rs t w/\Rs u w
theorem Jn.refl(t:Tm):Jn t t:=⟨t,.nil _,.nil _⟩
theorem Jn.ap{f f' a a':Tm}(h:Jn f f')(g:Jn a a'):Jn (.ap f a) (.ap f' a'):=by
 obtain⟨w,h1,h2⟩:=h
 obtain⟨v,g1,g2⟩:=g
 exact⟨.ap w v,(h1.l a).trans (g1.r w),(h2.l a').trans (g2.r w)⟩
theorem Jn.fn(k:PV){t u:Tm}(h:Jn t u):Jn (.fn k t) (.fn k u):=by
 obtain⟨w,h1,h2⟩:=h
 exact⟨.fn k w,h1.fn k,h2.fn k⟩
set_option maxHeartbeats 1000000
set_option maxHeartbeats 1000000
def Rd.ap(s:Sg):Rd->Rd->Rd
 |.n .c u v,z=>.n s u (Rd.ap s v z)
 |x,z=>.n s x z
def Rd.pa(s:Sg):Rd->Rd->Rd
 |x,.n .d y z=>.n s (Rd.pa s x y) z
 |x,z=>.n s x z
def Rd.nf:Rd->Rd
 |.w i f=>.w i f
 |.n s l r=>if s.ac=true then Rd.ap s l.nf r.nf else Rd.pa s l.nf r.nf
def q2p:WS:=
 (wSeq (wIfS (wOr (wNot (wTru (wCB fIsi (q0d (wVar 0) (q0d (wC (.ty "tuple")) wNil))))) (q1d (wBin cNe (wCB fLen (q0d (wVar 0) wNil)) (wVar 2))))
 (wRet (wC (.bl false)))
 q1k)
 (wRet (z0p (wCB fIsi (q0d (wBin bIx (wVar 0) (wC (.int 0))) (q0d (wC (.ty "str")) wNil))) (wBin cIn (wBin bIx (wVar 0) (wC (.int 0))) (wVar 1)))))
def q2x(spis_headed:Den):WS:=
 (wSeq (wSet 2 (wLst wNil))
 (wSeq (wSet 3 (wLst (q0d (wVar 0) wNil)))
 (wSeq (wSet 4 (wC (.int 0)))
 (wSeq (z0l (wTru (wVar 3)) (wSeq (wIfS (q1d (wBin cGt (wBin bAdd (wVar 4) (wCB fLen (q0d (wVar 3) wNil))) (wVar 1)))
 (q5r "NoReading" (q0d (wC (.str "a reading has each word of the sentence once at most")) wNil))
 q1k)
 (wSeq (wSet 5 (wBM0 "list" mPop (wVar 3)))
 (wSeq (wIfS (wTru (q0y spis_headed (q0d (wVar 5) (q0d (wTup (q0d (wC (.str "word")) wNil)) (q0d (wC (.int 3)) wNil)))))
 (wAug 4 z3x (wC (.int 1)))
 (wIfS (wTru (q0y spis_headed (q0d (wVar 5) (q0d (wC (.tup [(.str ">"),(.str "<"),(.str ">>"),(.str "<<")])) (q0d (wC (.int 3)) wNil)))))
 (q3v (wBM "list" q6k (wVar 3) (q0d (wLst (q0d (wBin bIx (wVar 5) (wC (.int 2))) (q0d (wBin bIx (wVar 5) (wC (.int 1))) wNil))) wNil)))
 (q5r "NoReading" (q0d (wC (.str "a reading is a word by a form, or a rule's sign and two readings")) wNil))))
 (q3v (wBM "list" q1t (wVar 2) (q0d (wVar 5) wNil)))))))
 (wRet (wVar 2))))))
def q2o(spshow_form:Den):WS:=
 (wSeq (wIfS (q1d (wBin cEq (wBin bIx (wVar 0) (wC (.int 0))) (wC (.str "basic"))))
 (wRet (wBin bIx (wVar 0) (wC (.int 1))))
 q1k)
 (wSeq (wAsg (wVar 0) (q6r 3 (q2b (q1b 1) (q2b (q1b 2) (q2b (q1b 3) q6s)))))
 (wSeq (wSet 4 (q0y spshow_form (q0d (wVar 3) wNil)))
 (wSeq (wIfS (q1d (wBin cNe (wBin bIx (wVar 3) (wC (.int 0))) (wC (.str "basic"))))
 (wSet 4 (q9h (z6r (Str.ofString "(") (y0p (wVar 4) (z6r (Str.ofString ")") y0q)))))
 q1k)
 (wRet (wBin bAdd (wBin bAdd (q0y spshow_form (q0d (wVar 2) wNil)) (wVar 1)) (wVar 4)))))))
def q2y(sprows_of:Den)(spshow_form:Den):WS:=
 (wRet (z4c spshow_form (q5b (q5k (q0y sprows_of (q0d (wVar 0) (q0d (wVar 1) wNil)))) [none,none] (q6r 2 (q2b (q1b 0) (q2b (q1b 1) q6s))) q4f (wVar 0))))
def q3k(spis_headed:Den)(spis_name:Den):WS:=
 (wSeq (wSet 1 (wLst (q0d (wVar 0) wNil)))
 (wSeq (wSet 2 (wC (.int 0)))
 (wSeq (z0l (wTru (wVar 1)) (wSeq (wIfS (q1d (wBin cGt (wBin bAdd (wVar 2) (wCB fLen (q0d (wVar 1) wNil))) (wC (.int 12))))
 (wRet (wC (.bl false)))
 q1k)
 (wSeq (wSet 3 (wBM0 "list" mPop (wVar 1)))
 (wIfS (wAnd (wTru (q0y spis_headed (q0d (wVar 3) (q0d (wTup (q0d (wC (.str "basic")) wNil)) (q0d (wC (.int 2)) wNil))))) (wTru (q0y spis_name (q0d (wBin bIx (wVar 3) (wC (.int 1))) wNil))))
 (wAug 2 z3x (wC (.int 1)))
 (wIfS (wTru (q0y spis_headed (q0d (wVar 3) (q0d (wC (.tup [(.str "/"),(.str "\\")])) (q0d (wC (.int 3)) wNil)))))
 (q3v (wBM "list" q6k (wVar 1) (q0d (wLst (q0d (wBin bIx (wVar 3) (wC (.int 2))) (q0d (wBin bIx (wVar 3) (wC (.int 1))) wNil))) wNil)))
 (wRet (wC (.bl false))))))))
 (wRet (wC (.bl true))))))
def q1v(spmade:Den):WS:=
 (wSeq (wIfS (q1d (wBin cNe (wBin bIx (wVar 1) (wC (.int 1))) (wBin bIx (wVar 2) (wC (.int 0)))))
 (q5r "NoReading" (q0d (wC (.str "the left one does not end where the right one begins")) wNil))
 q1k)
 (wSeq (wSet 3 (q0y spmade (q0d (wBin bIx (wVar 1) (wC (.int 2))) (q0d (wBin bIx (wVar 2) (wC (.int 2))) wNil))))
 (wSeq (wIfS (wOr (q1d (wBin cIs (wVar 3) (wC .non))) (q1d (wBin cNe (wBin bIx (wVar 3) (wC (.int 0))) (wVar 0))))
 (q5r "NoReading" (q0d (wC (.str "the rule does not put these two forms together")) wNil))
 q1k)
 (wRet (wTup (q0d (wBin bIx (wVar 1) (wC (.int 0))) (q0d (wBin bIx (wVar 2) (wC (.int 1))) (q0d (wBin bIx (wVar 3) (wC (.int 1))) wNil))))))))
def q3p(spnodes_of:Den)(spformed_of_word:Den)(spformed_of_two:Den):WS:=
 (wSeq (wSet 3 (wLst wNil))
 (wSeq (wFor (y0r (q0y spnodes_of (q0d (wVar 2) (q0d (wCB fLen (q0d (wVar 1) wNil)) wNil)))) (q1b 4) (wIfS (q1d (wBin cEq (wBin bIx (wVar 4) (wC (.int 0))) (wC (.str "word"))))
 (q3v (wBM "list" q1t (wVar 3) (q0d (q0y spformed_of_word (q0d (wVar 0) (q0d (wVar 1) (q0d (wBin bIx (wVar 4) (wC (.int 1))) (q0d (wBin bIx (wVar 4) (wC (.int 2))) wNil))))) wNil)))
 (wSeq (wSet 5 (wBM0 "list" mPop (wVar 3)))
 (q3v (wBM "list" q1t (wVar 3) (q0d (q0y spformed_of_two (q0d (wBin bIx (wVar 4) (wC (.int 0))) (q0d (wVar 5) (q0d (wBM0 "list" mPop (wVar 3)) wNil)))) wNil))))))
 (wRet (wBin bIx (wVar 3) (wC (.int 0))))))
theorem Ex.wk{S0 S:q0h}{xs:List Nat}(h:Ex xs S0 S)(hn:∀n∈xs,S0.length<=n):Ex [] S0 S:=⟨h.1,fun i hi _=>h.2 i hi fun z=>by have:=hn i z;omega⟩
theorem q7q(ss:List Str):q3x (ss.map PV.str):=by
 induction ss with
 |nil=>exact⟨rfl,Nat.zero_le _⟩
 |cons s r ih=>
  obtain⟨h1,h2⟩:=ih
  exact⟨by simp[nrfs,nrf,h1],by simp only[List.map_cons,deps,dep];omega⟩
theorem z5c(ss:List Str)(z:Str):((ss.map PV.str).any fun y=>eqB y (.str z))=decide (z∈ss):=by
 induction ss with
 |nil=>rfl
 |cons s r ih=>
  rw[List.map_cons,List.any_cons,ih,q4x]
  by_cases h:s=z
  ·simp[h]
  ·have:¬z=s:=fun e=>h e.symm
   simp[h,this]
def HdD(sp:Den):Prop:=∀(z:Str)(xs:List PV)(hs:List Str)(n:Nat)(S:q0h)(E:EK)(Q:VC),Q (.bl (decide (xs.length+1=n)&&decide (z∈hs))) S->sp [.tup (.str z::xs),.tup (hs.map PV.str),.int n] S E Q
theorem x4y:HdD (fnP 3 3 q2p):=by
 intro z xs hs n S E Q h
 refine⟨rfl,?_⟩
 unfold q2p
 refine seqI fun K hK=>?_
 by_cases hl:xs.length+1=n
 ·rw[decide_eq_true hl,Bool.true_and]at h
  dsimp![Bool.true_eq_false,hl]
  refine hK _ _ ?_
  clear hK
  dsimp![q2m]
  refine⟨q7q hs,?_⟩
  rw[z5c]
  exact h
 ·rw[decide_eq_false hl,Bool.false_and]at h
  have hl':¬((xs.length+1:Nat):Int)=(n:Int):=by omega
  dsimp![Bool.true_eq_false,hl',hl]
  exact h
def Fm.nb:Fm->Prop
 |.b s=>q2j s=true
 |.n _ x y=>x.nb/\y.nb
theorem y2b{ws:List Str}(hw:∀w∈ws,q2j w=true):∀{f:Fm},f.ov ws->f.nb
 |.b s,h=>hw s h
 |.n _ x y,h=>⟨y2b hw h.1,y2b hw h.2⟩
def Fm.nod:Fm->Nat
 |.b _=>1
 |.n _ x y=>x.nod+y.nod+1
def fl2(fs:List Fm):Nat:=(fs.map Fm.lv).sum
def fn2'(fs:List Fm):Nat:=(fs.map Fm.nod).sum
theorem z9o(fs:List Fm):fs.length<=fl2 fs:=by
 induction fs with
 |nil=>exact Nat.le_refl _
 |cons f r ih=>have:=f.lv_pos;simp only[fl2,List.map_cons,List.sum_cons,List.length_cons]at ih ⊢;omega
theorem y3a(fs:List Fm)(g:Fm):fl2 (fs++[g])=fl2 fs+g.lv:=by simp[fl2]
theorem z4u(fs:List Fm)(g:Fm):fn2' (fs++[g])=fn2' fs+g.nod:=by simp[fn2']
def IsNm(sp:Den):Prop:=∀(z:Str)(S:q0h)(E:EK)(Q:VC),z.length<=1000000->(∀S',Ex [] S S'->Q (.bl (q2j z)) S')->sp [.str z] S E Q
def IsfD(sp:Den):Prop:=∀(f:Fm)(S:q0h)(E:EK)(Q:VC),f.nb->f.lv<=12->(∀S',Ex [] S S'->Q (.bl true) S')->sp [f.pv] S E Q
theorem y3z(l:Bool):sSl l∈[Str.ofString "/",Str.ofString "\\"]:=by cases l<;>simp[sSl]
theorem x1r{sh si:Den}(hh:HdD sh)(hi:IsNm si):IsfD (fnP 1 4 (q3k sh si)):=by
 intro f S E Q ho hl h
 refine⟨rfl,?_⟩
 unfold q3k
 refine seqI fun K hK=>?_
 dsimp![true_and]
 refine⟨by decide,hK _ _ ?_⟩
 clear hK K
 refine seqI fun K hK=>?_
 dsimp![true_and]
 refine hK _ _ ?_
 clear hK K
 refine seqI fun K hK=>?_
 refine z6u (fun m σ S1=>∃(fs:List Fm)(k:Nat)(v:Option PV),σ=[some f.pv,some (.ref S.length),some (.int (k:Int)),v]/\S1[S.length]?=some (.lst (fs.map Fm.pv))/\(∀g∈fs,g.nb)/\k+fl2 fs=f.lv/\m=fn2' fs/\Ex [S.length] S S1) (fn2' [f]) ⟨[f],0,none,rfl,q0t _ _,fun g hg=>by simp only[List.mem_singleton]at hg;subst hg;exact ho,by simp[fl2],rfl,(Ex.new _ S _)⟩ ?_
 rintro m σ S1 ⟨fs,k,v,rfl,g1,hf,hk,rfl,hx⟩ T F hT hF
 dsimp![g1]
 rcases List.eq_nil_or_concat fs with rfl|⟨gs,g,rfl⟩
 ·rw[if_neg (by simp)]
  refine hF _ (hK _ _ ?_)
  dsimp![true_and]
  exact h _ (hx.wk (by simp))
 ·rw[if_pos (by simp)]
  simp only[List.concat_eq_append]at g1 hf hk hT
  refine hT _ fun N hN=>?_
  clear hT hF
  have hlen:=z9o (gs++[g])
  rw[y3a]at hk hlen
  refine seqI fun K2 hK2=>?_
  dsimp![g1,q1i g1,q0q g1]
  rw[if_neg (by simp only[List.length_map];omega)]
  refine hK2 _ _ ?_
  clear hK2 K2
  have e:S1[S.length]?=some (.lst (gs.map Fm.pv++[g.pv])):=by rw[g1];simp
  refine seqI fun K2 hK2=>?_
  dsimp![e,q1i e,List.getLast?_append,List.getLast?_singleton,Option.some_or,List.dropLast_concat]
  refine hK2 _ _ ?_
  clear hK2 K2
  have e2:=q2f (.lst (gs.map Fm.pv)) e
  have x2:Ex [S.length] S (S1.set S.length (.lst (gs.map Fm.pv))):=hx.set (.inl (by simp))
  have og:=hf g (by simp)
  cases g with
  |b s=>
   dsimp![true_and]
   refine⟨by decide,hh (Str.ofString "basic") [.str s] [Str.ofString "basic"] 2 _ _ _ ?_⟩
   rw[show(decide (([PV.str s].length+1=2))&&decide (Str.ofString "basic" ∈[Str.ofString "basic"]))=true by simp]
   dsimp![fb1]
   refine hi s _ _ _ ?_ fun S2 x3=>?_
   ·have:=(q7s (show q2j s=true from og)).2.1
    omega
   rw[show q2j s=true from og]
   dsimp![true_and]
   have e4:S2[S.length]?=some (.lst (gs.map Fm.pv)):=by rw[x3.2 _ (q0u e2) (by simp)];exact e2
   refine hN (fn2' gs) _ _ (by rw[z4u];show fn2' gs<fn2' gs+1;omega) ⟨gs,k+1,some (Fm.b s).pv,by simp,e4,fun g hg=>hf g (by simp[hg]),?_,rfl,x2.trans x3.nil⟩
   simp only[Fm.lv]at hk
   omega
  |n l x y=>
   dsimp![true_and]
   refine⟨by decide,hh (sSl l) [x.pv,y.pv] [Str.ofString "basic"] 2 _ _ _ ?_⟩
   rw[show(decide (([x.pv,y.pv].length+1=2))&&decide (sSl l∈[Str.ofString "basic"]))=false by simp]
   dsimp![true_and]
   refine hh (sSl l) [x.pv,y.pv] [Str.ofString "/",Str.ofString "\\"] 3 _ _ _ ?_
   rw[show(decide (([x.pv,y.pv].length+1=3))&&decide (sSl l∈[Str.ofString "/",Str.ofString "\\"]))=true by rw[decide_eq_true (y3z l)];rfl]
   have e5:=q1a e2 [.lst [y.pv,x.pv]]
   dsimp![fn1,fn2,e2,q1i e5]
   refine⟨by decide,big ?_,?_⟩
   ·have:=z9o gs
    simp only[List.length_map]
    omega
   have tlx:fl2 (gs++[y,x])=fl2 gs+y.lv+x.lv:=by simp[fl2];omega
   have tnx:fn2' (gs++[y,x])=fn2' gs+y.nod+x.nod:=by simp[fn2'];omega
   refine hN (fn2' (gs++[y,x])) _ _ (by rw[z4u,tnx];show _<fn2' gs+(x.nod+y.nod+1);omega) ⟨gs++[y,x],k,_,rfl,?_,fun g hg=>?_,?_,rfl,(x2.trans (Ex.new _ _ _)).set (.inl (by simp))⟩
   ·rw[q2f _ e5];simp
   ·simp only[List.mem_append,List.mem_cons,List.not_mem_nil,or_false]at hg
    rcases hg with hg|rfl|rfl
    ·exact hf g (by simp[hg])
    ·exact og.2
    ·exact og.1
   ·simp only[Fm.lv]at hk
    omega
def rl2(ts:List Rd):Nat:=(ts.map Rd.lv).sum
def rw2'(ts:List Rd):Nat:=(ts.map fun t=>t.wi.length).sum
theorem y5v(fs:List Rd):fs.length<=rl2 fs:=by
 induction fs with
 |nil=>exact Nat.le_refl _
 |cons f r ih=>have:=f.lv_pos;simp only[rl2,List.map_cons,List.sum_cons,List.length_cons]at ih ⊢;omega
theorem y1m(fs:List Rd)(g:Rd):rl2 (fs++[g])=rl2 fs+g.lv:=by simp[rl2]
theorem z4i(fs:List Rd)(g:Rd):rw2' (fs++[g])=rw2' fs+g.wi.length:=by simp[rw2']
def sgs:List Str:=[Str.ofString ">",Str.ofString "<",Str.ofString ">>",Str.ofString "<<"]
theorem y8s(s:Sg):s.st∈sgs:=by cases s<;>simp[sgs,Sg.st]
theorem x3j(s:Sg):s.st∉[Str.ofString "word"]:=by
 rw[List.mem_singleton]
 intro e
 have:=z2y s
 exact this.mp e
def NodD(sp:Den):Prop:=∀(r:Rd)(m:Nat),r.lv<=m->m<=100->∀(S:q0h)(E:EK)(Q:VC),(∀(q:Nat) S',S.length<=q->S'[q]?=some (.lst (r.wi.map Rd.pv))->Ex [] S S'->Q (.ref q) S')->sp [r.pv,.int (m:Nat)] S E Q
theorem x0u{sh:Den}(hh:HdD sh):NodD (fnP 2 6 (q2x sh)):=by
 intro r m hr hm S E Q h
 refine⟨rfl,?_⟩
 unfold q2x
 have p1:1<=sizeLine:=big (by decide)
 have p2:2<=sizeLine:=big (by decide)
 have hwr:=z4b r
 refine seqI fun K hK=>?_
 dsimp![true_and]
 refine⟨Nat.zero_le _,hK _ _ ?_⟩
 clear hK K
 refine seqI fun K hK=>?_
 dsimp![true_and]
 refine⟨p1,hK _ _ ?_⟩
 clear hK K
 have g0:=q1a (q0t S (.lst [])) [SO.lst [r.pv]]
 have g0':=q0t (S++[SO.lst []]) (.lst [r.pv])
 have x0:Ex [S.length,S.length+1] S (S++[SO.lst []]++[SO.lst [r.pv]]):=(Ex.new _ S _).app _
 have dl:(S++[SO.lst []]).length=S.length+1:=by simp
 rw[dl]at g0' ⊢
 generalize S++[SO.lst []]++[SO.lst [r.pv]]=S0 at g0 g0' x0 ⊢
 refine seqI fun K hK=>?_
 dsimp![true_and]
 refine hK _ _ ?_
 clear hK K
 refine seqI fun K hK=>?_
 refine z6u (fun mm σ S1=>∃(ts ns:List Rd)(k:Nat)(v:Option PV),σ=[some r.pv,some (.int (m:Nat)),some (.ref S.length),some (.ref (S.length+1)),some (.int (k:Nat)),v]/\S1[S.length]?=some (.lst (ns.map Rd.pv))/\S1[S.length+1]?=some (.lst (ts.map Rd.pv))/\ns++ts.reverse.flatMap Rd.wi=r.wi/\k+rl2 ts=r.lv/\mm=rw2' ts/\Ex [S.length,S.length+1] S S1) (rw2' [r]) ⟨[r],[],0,none,rfl,g0,g0',by simp,by simp[rl2],rfl,x0⟩ ?_
 rintro mm σ S1 ⟨ts,ns,k,v,rfl,g1,g2,e1,e2,rfl,hx⟩ T F hT hF
 dsimp![g2]
 rcases List.eq_nil_or_concat ts with rfl|⟨gs,t,rfl⟩
 ·rw[if_neg (by simp)]
  refine hF _ (hK _ _ ?_)
  dsimp![true_and]
  rw[List.reverse_nil,List.flatMap_nil,List.append_nil]at e1
  subst e1
  exact h _ _ (Nat.le_refl _) g1 (hx.wk (by simp))
 ·rw[if_pos (by simp)]
  simp only[List.concat_eq_append]at g2 e1 e2 hT
  refine hT _ fun N hN=>?_
  clear hT hF
  have hlen:=y5v (gs++[t])
  rw[y1m]at e2 hlen
  have nl:=congrArg List.length e1
  simp only[List.length_append]at nl hlen
  have ne:S.length≠S.length+1:=by omega
  refine seqI fun K2 hK2=>?_
  dsimp![g2,q1i g2,q0q g2]
  rw[if_neg (by simp only[List.length_map,List.length_append];omega)]
  refine hK2 _ _ ?_
  clear hK2 K2
  have e:S1[S.length+1]?=some (.lst (gs.map Rd.pv++[t.pv])):=by rw[g2];simp
  refine seqI fun K2 hK2=>?_
  dsimp![e,q1i e,List.getLast?_append,List.getLast?_singleton,Option.some_or,List.dropLast_concat]
  refine hK2 _ _ ?_
  clear hK2 K2
  have k2:=q2f (.lst (gs.map Rd.pv)) e
  have k1:=q1z (.lst (gs.map Rd.pv)) g1 (j:=S.length+1) (by omega)
  have x2:Ex [S.length,S.length+1] S (S1.set (S.length+1) (.lst (gs.map Rd.pv))):=hx.set (.inl (by simp))
  generalize S1.set (S.length+1) (.lst (gs.map Rd.pv))=S2 at k1 k2 x2 ⊢
  rw[List.reverse_append,List.reverse_singleton,List.singleton_append,List.flatMap_cons]at e1
  have fin:∀(us:List Rd)(k':Nat)(S3:q0h),S3[S.length]?=some (.lst (ns.map Rd.pv))->S3[S.length+1]?=some (.lst (us.map Rd.pv))->Ex [S.length,S.length+1] S S3->k'+rl2 us=r.lv->t::us.reverse.flatMap Rd.wi=t.wi++gs.reverse.flatMap Rd.wi->rw2' us<rw2' (gs++[t])->
    q3v (wBM "list" q1t (wVar 2) (q0d (wVar 5) wNil)) {nx:=N,rt:=Q,bk:=K,ct:=N} E [some r.pv,some (.int (m:Nat)),some (.ref S.length),some (.ref (S.length+1)),some (.int (k':Nat)),some t.pv] S3:=by
   intro us k' S3 a1 a2 a3 a4 a5 a6
   dsimp![a1,q1i a1]
   refine⟨big (by simp only[List.length_map];omega),hN _ _ _ a6 ⟨us,ns++[t],k',_,rfl,?_,q1z _ a2 (by omega),?_,a4,rfl,a3.set (.inl (by simp))⟩⟩
   ·rw[q2f _ a1];simp
   ·rw[<-e1,<-a5];simp
  cases t with
  |w i f=>
   refine seqI fun K2 hK2=>?_
   dsimp![true_and]
   refine⟨p1,hh (Str.ofString "word") [.int i,f.pv] [Str.ofString "word"] 3 _ _ _ ?_⟩
   rw[show(decide (([PV.int i,f.pv].length+1=3))&&decide (Str.ofString "word" ∈[Str.ofString "word"]))=true by simp]
   dsimp![true_and]
   refine hK2 _ _ ?_
   rw[show(k:Int)+1=((k+1:Nat):Int) by omega]
   exact fin gs (k+1) S2 k1 k2 x2 (by simp only[Rd.lv]at e2;omega) (by simp[Rd.wi]) (by rw[z4i];simp[Rd.wi])
  |n s l q=>
   refine seqI fun K2 hK2=>?_
   dsimp![true_and]
   refine⟨p1,hh s.st [l.pv,q.pv] [Str.ofString "word"] 3 _ _ _ ?_⟩
   rw[show(decide (([l.pv,q.pv].length+1=3))&&decide (s.st∈[Str.ofString "word"]))=false by rw[decide_eq_false (x3j s)];rfl]
   dsimp![true_and]
   refine hh s.st [l.pv,q.pv] sgs 3 _ _ _ ?_
   rw[show(decide (([l.pv,q.pv].length+1=3))&&decide (s.st∈sgs))=true by rw[decide_eq_true (y8s s)];rfl]
   have e5:=q1a k2 [.lst [q.pv,l.pv]]
   dsimp![rn1,rn2,k2,q1i e5]
   refine⟨p2,big (by simp only[List.length_map,List.length_cons,List.length_nil];omega),hK2 _ _ ?_⟩
   refine fin (gs++[q,l]) k _ (q1z _ (q1a k1 _) (by omega)) (by rw[q2f _ e5];simp) ((x2.app _).set (.inl (by simp))) ?_ ?_ ?_
   ·simp only[Rd.lv]at e2;simp[rl2]at e2 ⊢;omega
   ·simp[Rd.wi]
   ·rw[z4i];simp[rw2',Rd.wi];omega
abbrev Tri:=Int×Int×Fm
def triP(t:Tri):PV:=.tup [.int t.1,.int t.2.1,t.2.2.pv]
def stp:Rd->List Tri->Option (List Tri)
 |.w i f,st=>some ((i,i+1,f)::st)
 |.n s _ _,(a,k,x)::(k',b,y)::st=>match md x y with
  |some (z,g)=>if k=k'/\z=s.st then some ((a,b,g)::st)else none
  |none=>none
 |.n _ _ _,_=>none
def run:List Rd->List Tri->Option (List Tri)
 |[],st=>some st
 |t::ts,st=>(stp t st).bind (run ts)
theorem z7n:∀{r:Rd}{a b:Int}{g:Fm}(ts:List Rd)(st:List Tri),r.is a b g->run (r.wi.reverse++ts) st=run ts ((a,b,g)::st)
 |.w i f,a,b,g,ts,st,⟨h1,h2,h3⟩=>by
  subst h1 h2 h3
  rfl
 |.n s l r,a,b,g,ts,st,⟨k,x,y,h1,h2,h3⟩=>by
  rw[Rd.wi,List.reverse_cons,List.reverse_append,List.append_assoc,List.append_assoc,z7n _ _ h2,z7n _ _ h1]
  simp[run,stp,h3]
structure GC(tr:List ((Str×Fm)×PV))(ws:List Str)(r:Rd):Prop where
 nd:(tr.map (·.1.1)).Nodup
 len:tr.length<=10
 all:∀p∈r.ws,0<=p.1/\p.1<(ws.length:Int)/\ky ws p∈tr.map (·.1)/\p.2.lv<=5/\p.2.nb
def FotD(sp:Den):Prop:=∀(s:Sg)(a k b:Int)(u v g:Fm)(S:q0h)(E:EK)(Q:VC),md u v=some (s.st,g)->u.dp<=100->v.dp<=100->Q (triP (a,b,g)) S->sp [.str s.st,triP (a,k,u),triP (k,b,v)] S E Q
theorem x2b{sm:Den}(hm:y0l sm):FotD (fnP 3 4 (q1v sm)):=by
 intro s a k b u v g S E Q hmd hu hv h
 refine⟨rfl,?_⟩
 unfold q1v
 have p3:3<=sizeLine:=big (by decide)
 have i0:∀(t:Tri)(S:q0h)(Q:VC),bIx (triP t) (.int 0) S Q=Q (.int t.1) S:=fun _ _ _=>rfl
 have i1:∀(t:Tri)(S:q0h)(Q:VC),bIx (triP t) (.int 1) S Q=Q (.int t.2.1) S:=fun _ _ _=>rfl
 have i2:∀(t:Tri)(S:q0h)(Q:VC),bIx (triP t) (.int 2) S Q=Q t.2.2.pv S:=fun _ _ _=>rfl
 refine seqI fun K hK=>?_
 dsimp![i0,i1]
 refine hK _ _ ?_
 clear hK
 refine seqI fun K hK=>?_
 dsimp![i2]
 refine hm u v _ _ _ hu hv (hK _ _ ?_)
 clear hK
 rw[hmd]
 refine seqI fun K hK=>?_
 dsimp![mdP,q2m]
 refine hK _ _ ?_
 clear hK
 dsimp![i0,i1,y0j]
 exact⟨p3,h⟩
theorem y5d{r t:Rd}{i:Int}{f:Fm}(h:t∈r.wi)(e:t=.w i f):(i,f)∈r.ws:=z6t h _ (by rw[e];simp[Rd.ws])
def q4k:WS:=
 (wSeq (wIfS (q1d (wBin cEq (wVar 0) (wLst wNil)))
 (wRet (wC (.int 0)))
 q1k)
 (wRet (wBin bMod (wBM0 "list" mPop (wVar 0)) (wVar 1))))
def q2l:WS:=
 (wSeq (wSet 3 (wC (.str "abcdefghijklmnopqrstuvwxyz")))
 (wSeq (wSet 4 (wC (.str "")))
 (wSeq (wFor (q2t (q0d (wBin bAdd (wCB fLen (q0d (wVar 2) wNil)) (wC (.int 1))) wNil)) (q1b 5) (wSeq (wSet 6 (wBin bAdd (wVar 1) (wVar 5)))
 (wSeq (wSet 7 (wC (.str "")))
 (wSeq (wFor (q2t (q0d (wVar 0) wNil)) (q1b 8) (wSeq (wSet 7 (wBin bAdd (wVar 7) (wBin bIx (wVar 3) (wBin bMod (wVar 6) (wC (.int 26))))))
 (wSet 6 (wBin z2t (wVar 6) (wC (.int 26))))))
 (wIfS (wAnd (q1d (wBin cEq (wVar 4) (wC (.str "")))) (q1d (wBin q4o (wVar 7) (wVar 2))))
 (wSet 4 (wVar 7))
 q1k)))))
 (wRet (wVar 4)))))
def q3t(spLdraw:Den)(spLfree_name:Den):WS:=
 (wSeq (wSet 3 (wC (.str "abcdefghijklmnopqrstuvwxyz")))
 (wSeq (wSet 4 (wLst wNil))
 (wSeq (wIfS (q1d (wBin cGt (q0y spLdraw (q0d (wVar 0) (q0d (wC (.int 3)) wNil))) (wC (.int 0))))
 (wSeq (wFor (q2t (q0d (wVar 1) wNil)) (q1b 5) (q3v (wBM "list" q1t (wVar 4) (q0d (q0y spLfree_name (q0d (wBin bAdd (wC (.int 1)) (q0y spLdraw (q0d (wVar 0) (q0d (wC (.int 8)) wNil)))) (q0d (q0y spLdraw (q0d (wVar 0) (q0d (wBin bPow (wC (.int 10)) (wC (.int 12))) wNil))) (q0d (wBin bAdd (wVar 4) (wVar 2)) wNil)))) wNil))))
 (wRet (wVar 4)))
 q1k)
 (wSeq (wSet 6 (q0y spLfree_name (q0d (wBin bAdd (wC (.int 1)) (q0y spLdraw (q0d (wVar 0) (q0d (wC (.int 8)) wNil)))) (q0d (q0y spLdraw (q0d (wVar 0) (q0d (wBin bPow (wC (.int 10)) (wC (.int 12))) wNil))) (q0d (wLst wNil) wNil)))))
 (wSeq (wSet 7 (q0y spLdraw (q0d (wVar 0) (q0d (wCB fLen (q0d (wVar 6) wNil)) wNil))))
 (wSeq (wSet 8 (wBM "str" z1l (wVar 3) (q0d (wBin bIx (wVar 6) (wVar 7)) wNil)))
 (wSeq (wSet 9 (q5b (q2t (q0d (wBin bAdd (wVar 1) (wC (.int 1))) wNil)) [none,some 6,some 3,some 7,some 8] (q1b 0) q4f (wBin bAdd (wBin bAdd (wSl (wVar 1) q3n (q6t (wVar 3))) (wBin bIx (wVar 2) (wBin bMod (wBin bAdd (wVar 4) (wVar 0)) (wC (.int 26))))) (wSl (wVar 1) (q6t (wBin bAdd (wVar 3) (wC (.int 1)))) q3n))))
 (wRet (wSl (q5b (q5k (wVar 9)) [none,some 2] (q1b 0) (q1d (wBin q4o (wVar 0) (wVar 1))) (wVar 0)) q3n (q6t (wVar 1)))))))))))
def q4j(spLdraw:Den)(spLform:Den):WS:=
 (wSeq (wIfS (q1d (wBin cLt (wVar 2) (wC (.int 2))))
 (wRet (wBin bIx (wVar 1) (q0y spLdraw (q0d (wVar 0) (q0d (wCB fLen (q0d (wVar 1) wNil)) wNil)))))
 q1k)
 (wSeq (wSet 3 (wBin bAdd (wC (.int 1)) (q0y spLdraw (q0d (wVar 0) (q0d (wBin bSub (wVar 2) (wC (.int 1))) wNil)))))
 (wSeq (wSet 4 (wBin bIx (wLst (q0d (wC (.str "/")) (q0d (wC (.str "\\")) wNil))) (q0y spLdraw (q0d (wVar 0) (q0d (wC (.int 2)) wNil)))))
 (wSeq (wSet 5 (q0y spLform (q0d (wVar 0) (q0d (wVar 1) (q0d (wVar 3) wNil)))))
 (wRet (wTup (q0d (wVar 4) (q0d (wVar 5) (q0d (q0y spLform (q0d (wVar 0) (q0d (wVar 1) (q0d (wBin bSub (wVar 2) (wVar 3)) wNil)))) wNil)))))))))
def q2z(spLwidth:Den):WS:=
 (wSeq (wIfS (q1d (wBin cEq (wBin bIx (wVar 0) (wC (.int 0))) (wC (.str "basic"))))
 (wRet (wC (.int 1)))
 q1k)
 (wRet (wBin bAdd (q0y spLwidth (q0d (wBin bIx (wVar 0) (wC (.int 1))) wNil)) (q0y spLwidth (q0d (wBin bIx (wVar 0) (wC (.int 2))) wNil)))))
def q3r(spLwidth:Den):WS:=
 (wSeq (wSet 3 (wBin bIx (wLst (q0d (wTup (q0d (wC (.str ">")) (q0d (wTup (q0d (wC (.str "/")) (q0d (wVar 0) (q0d (wVar 1) wNil)))) (q0d (wVar 1) wNil)))) (q0d (wTup (q0d (wC (.str "<")) (q0d (wVar 1) (q0d (wTup (q0d (wC (.str "\\")) (q0d (wVar 0) (q0d (wVar 1) wNil)))) wNil)))) wNil))) (wBin bMod (wVar 2) (wC (.int 2)))))
 (wSeq (wIfS (wAnd (q1d (wBin cGt (wVar 2) (wC (.int 1)))) (q1d (wBin cEq (wBin bIx (wVar 0) (wC (.int 0))) (wC (.str "/")))))
 (wSet 3 (wTup (q0d (wC (.str ">>")) (q0d (wTup (q0d (wC (.str "/")) (q0d (wBin bIx (wVar 0) (wC (.int 1))) (q0d (wVar 1) wNil)))) (q0d (wTup (q0d (wC (.str "/")) (q0d (wVar 1) (q0d (wBin bIx (wVar 0) (wC (.int 2))) wNil)))) wNil)))))
 q1k)
 (wSeq (wIfS (wAnd (q1d (wBin cGt (wVar 2) (wC (.int 1)))) (q1d (wBin cEq (wBin bIx (wVar 0) (wC (.int 0))) (wC (.str "\\")))))
 (wSet 3 (wTup (q0d (wC (.str "<<")) (q0d (wTup (q0d (wC (.str "\\")) (q0d (wVar 1) (q0d (wBin bIx (wVar 0) (wC (.int 2))) wNil)))) (q0d (wTup (q0d (wC (.str "\\")) (q0d (wBin bIx (wVar 0) (wC (.int 1))) (q0d (wVar 1) wNil)))) wNil)))))
 q1k)
 (wSeq (wIfS (wOr (q1d (wBin cGt (q0y spLwidth (q0d (wBin bIx (wVar 3) (wC (.int 1))) wNil)) (wC (.int 6)))) (q1d (wBin cGt (q0y spLwidth (q0d (wBin bIx (wVar 3) (wC (.int 2))) wNil)) (wC (.int 6)))))
 (wRet (wC .non))
 q1k)
 (wRet (wVar 3))))))
def q3u(spLdraw:Den)(spLform:Den)(spLsplit:Den):WS:=
 (wSeq (wSet 4 (wLst (q0d (wVar 2) wNil)))
 (wSeq (wSet 5 (wLst wNil))
 (wSeq (wFor (q2t (q0d (wBin bMul (wC (.int 2)) (wVar 3)) wNil)) (q1b 6) (wIfS (q1d (wBin cLt (wCB fLen (q0d (wVar 4) wNil)) (wVar 3)))
 (wSeq (wSet 7 (q0y spLdraw (q0d (wVar 0) (q0d (wCB fLen (q0d (wVar 4) wNil)) wNil))))
 (wSeq (wSet 8 (q0y spLform (q0d (wVar 0) (q0d (wVar 1) (q0d (wBin bIx (wLst (q0d (wC (.int 1)) (q0d (wC (.int 1)) (q0d (wC (.int 1)) (q0d (wC (.int 2)) (q0d (wC (.int 3)) wNil)))))) (q0y spLdraw (q0d (wVar 0) (q0d (wC (.int 5)) wNil)))) wNil)))))
 (wSeq (wSet 9 (q0y spLsplit (q0d (wBin bIx (wVar 4) (wVar 7)) (q0d (wVar 8) (q0d (q0y spLdraw (q0d (wVar 0) (q0d (wC (.int 4)) wNil))) wNil)))))
 (wIfS (q1d (wBin z5a (wVar 9) (wC .non)))
 (wSeq (wSet 4 (wBin bAdd (wBin bAdd (wSl (wVar 4) q3n (q6t (wVar 7))) (wLst (q0d (wBin bIx (wVar 9) (wC (.int 1))) (q0d (wBin bIx (wVar 9) (wC (.int 2))) wNil)))) (wSl (wVar 4) (q6t (wBin bAdd (wVar 7) (wC (.int 1)))) q3n)))
 (q3v (wBM "list" q1t (wVar 5) (q0d (wTup (q0d (wVar 7) (q0d (wBin bIx (wVar 9) (wC (.int 0))) wNil))) wNil))))
 q1k))))
 q1k))
 (wRet (wTup (q0d (wVar 4) (q0d (wVar 5) wNil)))))))
def q3a:WS:=
 (wSeq (wSet 2 (q5b (q2t (q0d (wCB fLen (q0d (wVar 0) wNil)) wNil)) [none,some 0] (q1b 0) q4f (wTup (q0d (wC (.str "word")) (q0d (wVar 0) (q0d (wBin bIx (wVar 1) (wVar 0)) wNil))))))
 (wSeq (wFor (q5k (z0m (wVar 1))) (q6r 2 (q2b (q1b 3) (q2b (q1b 4) q6s))) (wSet 2 (wBin bAdd (wBin bAdd (wSl (wVar 2) q3n (q6t (wVar 3))) (wLst (q0d (wTup (q0d (wVar 4) (q0d (wBin bIx (wVar 2) (wVar 3)) (q0d (wBin bIx (wVar 2) (wBin bAdd (wVar 3) (wC (.int 1)))) wNil)))) wNil))) (wSl (wVar 2) (q6t (wBin bAdd (wVar 3) (wC (.int 2)))) q3n))))
 (wRet (wBin bIx (wVar 2) (wC (.int 0))))))
def q2q(spLnames:Den)(spLdraw:Den):WS:=
 (wSeq (wSet 2 (q0y spLnames (q0d (wVar 0) (q0d (wCB fLen (q0d (wVar 1) wNil)) (q0d (wLst wNil) wNil)))))
 (wSeq (wSet 3 (q0y spLdraw (q0d (wVar 0) (q0d (wC (.int 3)) wNil))))
 (wSeq (wSet 4 y0v)
 (wSeq (wSet 5 (wLst wNil))
 (wSeq (wFor (q2t (q0d (wCB fLen (q0d (wVar 1) wNil)) wNil)) (q1b 6) (wSeq (wSet 7 (wBin bIx (wLst (q0d (wVar 6) (q0d (q0y spLdraw (q0d (wVar 0) (q0d (wCB fLen (q0d (wVar 1) wNil)) wNil))) (q0d (q0y spLdraw (q0d (wVar 0) (q0d (wCB z9s (q0d (wC (.int 2)) (q0d (wCB fLen (q0d (wVar 1) wNil)) wNil))) wNil))) wNil)))) (wVar 3)))
 (wSeq (wSet 8 (wBin bIx (wVar 2) (wVar 7)))
 (wSeq (wIfS (wAnd (q1d (wBin cGt (wCB fLen (q0d (wBM "dict" z8r (wVar 4) (q0d (wVar 8) (q0d (wLst wNil) wNil))) wNil)) (wC (.int 4)))) (q1d (wBin q4o (wBin bIx (wVar 1) (wVar 6)) (wBin bIxD (wVar 4) (wVar 8)))))
 (wSet 8 (wBin bIx (q5b (q5k (wVar 2)) [none,some 4] (q1b 0) (q1d (wBin cLt (wCB fLen (q0d (wBM "dict" z8r (wVar 1) (q0d (wVar 0) (q0d (wLst wNil) wNil))) wNil)) (wC (.int 5)))) (wVar 0)) (wC (.int 0))))
 q1k)
 (wSeq (q3v (wBM "list" q1t (wVar 5) (q0d (wVar 8) wNil)))
 (wSeq (wSet 9 (wBM "dict" q7w (wVar 4) (q0d (wVar 8) (q0d (wLst wNil) wNil))))
 (wIfS (q1d (wBin q4o (wBin bIx (wVar 1) (wVar 6)) (wVar 9)))
 (q3v (wBM "list" q1t (wVar 9) (q0d (wBin bIx (wVar 1) (wVar 6)) wNil)))
 q1k)))))))
 (wRet (wTup (q0d (wCB q6p (q0d (wVar 5) wNil)) (q0d (wVar 4) wNil)))))))))
def q3c(spLdraw:Den)(spLform:Den):WS:=
 (wFor (q2t (q0d (q0y spLdraw (q0d (wVar 0) (q0d (wC (.int 13)) wNil))) wNil)) (q1b 5) (wSeq (wSet 6 (wBin bIx (wVar 2) (q0y spLdraw (q0d (wVar 0) (q0d (wCB fLen (q0d (wVar 2) wNil)) wNil)))))
 (wSeq (wIfS (q1d (wBin cEq (q0y spLdraw (q0d (wVar 0) (q0d (wC (.int 2)) wNil))) (wC (.int 1))))
 (wSet 6 (q0y spLform (q0d (wVar 0) (q0d (wVar 1) (q0d (wBin bAdd (wC (.int 1)) (q0y spLdraw (q0d (wVar 0) (q0d (wC (.int 3)) wNil)))) wNil)))))
 q1k)
 (wSeq (wSet 7 (wBin bIxD (wVar 4) (wBin bIx (wVar 3) (q0y spLdraw (q0d (wVar 0) (q0d (wCB fLen (q0d (wVar 3) wNil)) wNil))))))
 (wIfS (wAnd (q1d (wBin q4o (wVar 6) (wVar 7))) (q1d (wBin cLt (wCB fLen (q0d (wVar 7) wNil)) (wC (.int 5)))))
 (q3v (wBM "list" q1t (wVar 7) (q0d (wVar 6) wNil)))
 q1k)))))
def q4g(spLdraw:Den):WS:=
 (wSeq (wSet 2 (wCB z9t (q0d (wVar 1) wNil)))
 (wSeq (wSet 3 (wLst wNil))
 (wSeq (z0l (q1d (wBin cNe (wVar 2) (wLst wNil))) (q3v (wBM "list" q1t (wVar 3) (q0d (wBM "list" z1k (wVar 2) (q0d (q0y spLdraw (q0d (wVar 0) (q0d (wCB fLen (q0d (wVar 2) wNil)) wNil))) wNil)) wNil))))
 (wRet (wVar 3)))))
def q4l(spLkind:Den)(spLnames:Den)(spLturn:Den):WS:=
 (wSeq (wSet 3 (wLst wNil))
 (wSeq (wFor (q8k (wVar 2)) (q1b 4) (wFor (q5k (wBin bIxD (wVar 2) (wVar 4))) (q1b 5) (wIfS (q1d (wBin q4o (q0y spLkind (q0d (wVar 5) wNil)) (wVar 3)))
 (q3v (wBM "list" q1t (wVar 3) (q0d (q0y spLkind (q0d (wVar 5) wNil)) wNil)))
 q1k)))
 (wSeq (wSet 6 (q0y spLnames (q0d (wVar 0) (q0d (wCB fLen (q0d (wVar 3) wNil)) (q0d (wLst wNil) wNil)))))
 (wSeq (wSet 7 (wLst wNil))
 (wSeq (wFor (q8k (wVar 2)) (q1b 4) (wFor (q5k (wBin bIxD (wVar 2) (wVar 4))) (q1b 5) (q3v (wBM "list" q1t (wVar 7) (q0d (wTup (q0d (wVar 4) (q0d (wVar 5) (q0d (wTup (q0d (wC (.str "name")) (q0d (wBin bIx (wVar 6) (wBM "list" z8q (wVar 3) (q0d (q0y spLkind (q0d (wVar 5) wNil)) wNil))) wNil))) wNil)))) wNil)))))
 (wSeq (wSet 8 (q0y spLturn (q0d (wVar 0) (q0d (y8l (q0d (wVar 6) (q0d (wVar 3) wNil))) wNil))))
 (wRet (wTup (q0d (wCB q6p (q0d (q5b (q5k (wVar 1)) [none] (q1b 0) q4f (wBin bIx (wVar 0) (wC (.int 1)))) wNil)) (q0d (wCB q6p (q0d (wVar 8) wNil)) (q0d (wCB q6p (q0d (q0y spLturn (q0d (wVar 0) (q0d (wVar 7) wNil))) wNil)) wNil)))))))))))
def q4i(spLnames:Den)(spLdraw:Den)(spLform:Den)(spLgrown:Den)(spLreading:Den)(spLsentence:Den)(spLfurther:Den)(spLbook:Den):WS:=
 (wSeq (wSet 3 (q5b (q5k (q0y spLnames (q0d (wVar 0) (q0d (wBin bIx (wLst (q0d (wC (.int 2)) (q0d (wC (.int 3)) (q0d (wC (.int 2)) (q0d (wC (.int 4)) wNil))))) (q0y spLdraw (q0d (wVar 0) (q0d (wC (.int 4)) wNil)))) (q0d (wLst (q0d (wC (.str "any")) wNil)) wNil))))) [none] (q1b 0) q4f (wTup (q0d (wC (.str "basic")) (q0d (wVar 0) wNil)))))
 (wSeq (wSet 4 (q0y spLform (q0d (wVar 0) (q0d (wVar 3) (q0d (wBin bIx (wLst (q0d (wC (.int 1)) (q0d (wC (.int 1)) (q0d (wC (.int 1)) (q0d (wC (.int 2)) wNil))))) (q0y spLdraw (q0d (wVar 0) (q0d (wC (.int 4)) wNil)))) wNil)))))
 (wSeq (wSet 5 (wBin bAdd (wC (.int 1)) (q0y spLdraw (q0d (wVar 0) (q0d (wVar 1) wNil)))))
 (wSeq (wAsg (q0y spLgrown (q0d (wVar 0) (q0d (wVar 3) (q0d (wVar 4) (q0d (wVar 5) wNil))))) (q6r 2 (q2b (q1b 6) (q2b (q1b 7) q6s))))
 (wSeq (wSet 8 (q0y spLreading (q0d (wVar 6) (q0d (wVar 7) wNil))))
 (wSeq (wIfS (q1d (wBin cEq (q0y spLdraw (q0d (wVar 0) (q0d (wC (.int 5)) wNil))) (wBin bSub (wC (.int 5)) (wVar 2))))
 (wSeq (wSet 6 (q5b (q2t (q0d (wVar 5) wNil)) [none,some 0,some 3] (q1b 0) q4f (q0y spLform (q0d (wVar 1) (q0d (wVar 2) (q0d (wBin bIx (wLst (q0d (wC (.int 1)) (q0d (wC (.int 1)) (q0d (wC (.int 2)) (q0d (wC (.int 2)) (q0d (wC (.int 3)) (q0d (wC (.int 4)) wNil))))))) (q0y spLdraw (q0d (wVar 1) (q0d (wC (.int 6)) wNil)))) wNil))))))
 (wSet 8 (wC .non)))
 q1k)
 (wSeq (wAsg (q0y spLsentence (q0d (wVar 0) (q0d (wVar 6) wNil))) (q6r 2 (q2b (q1b 9) (q2b (q1b 10) q6s))))
 (wSeq (q3v (q0y spLfurther (q0d (wVar 0) (q0d (wVar 3) (q0d (wVar 6) (q0d (wVar 9) (q0d (wVar 10) wNil)))))))
 (wRet (wTup (q0d (q0y spLbook (q0d (wVar 0) (q0d (wVar 3) (q0d (wVar 10) wNil)))) (q0d (wVar 9) (q0d (wVar 10) (q0d (wVar 8) (q0d (wVar 4) wNil)))))))))))))))
def q3b:WS:=
 (wSeq (wSet 1 (wBin bAdd (wSl (wVar 0) q3n (q6t (wC (.int 63)))) (wBin bMul (wLst (q0d (wC (.int 0)) wNil)) (wCB fInt (q0d (wBin cEqE (wVar 0) (wLst wNil)) wNil)))))
 (wSeq (wSet 2 (wLst wNil))
 (wSeq (wIfS (q1d (wBin cEq (wBin bMod (wBin bIx (wVar 1) (wC (.int 0))) (wC (.int 2))) (wC (.int 0))))
 (wSeq (wFor (q5k (wBin bAdd (wLst (q0d (wBin z2t (wBin bIx (wVar 1) (wC (.int 0))) (wC (.int 2))) wNil)) (wSl (wVar 1) (q6t (wC (.int 1))) q3n))) (q1b 3) (wFor (q2t (q0d (wC (.int 8)) wNil)) (q1b 4) (wSeq (q3v (wBM "list" q1t (wVar 2) (q0d (wBin bMod (wVar 3) (wBin bPow (wC (.int 10)) (wC (.int 12)))) wNil)))
 (wSet 3 (wBin z2t (wVar 3) (wBin bPow (wC (.int 10)) (wC (.int 12))))))))
 (wRet (z0m (wVar 2))))
 q1k)
 (wSeq (wSet 5 (wBin bMod (wBin z2t (wBin bIx (wVar 1) (wC (.int 0))) (wC (.int 2))) (wC (.int 2147483629))))
 (wSeq (wFor (q2t (q0d (wC (.int 504)) wNil)) (q1b 4) (wSeq (wSet 3 (wBin bMod (wBin bIx (wVar 1) (wBin bMod (wVar 4) (wCB fLen (q0d (wVar 1) wNil)))) (wC (.int 2147483647))))
 (wSeq (wSet 5 (wBin bMod (wBin bAdd (wBin bAdd (wBin bMul (wVar 5) (wVar 5)) (wBin bMul (wC (.int 69621)) (wVar 3))) (wVar 4)) (wC (.int 2147483629))))
 (q3v (wBM "list" q1t (wVar 2) (q0d (wBin z2t (wBin bMod (wBin bMul (wVar 5) (wBin bAdd (wVar 5) (wC (.int 48271)))) (wC (.int 2147483587))) (wC (.int 4))) wNil))))))
 (wRet (z0m (wVar 2))))))))
def q4h:WS:=
 (wSeq (wIfS (wAnd (q1d (wBin cEq (wBin bIx (wVar 0) (wC (.int 0))) (wC (.str "/")))) (q1d (wBin cEq (wBin bIx (wVar 0) (wC (.int 2))) (wVar 1))))
 (wRet (wTup (q0d (wC (.str ">")) (q0d (wBin bIx (wVar 0) (wC (.int 1))) wNil))))
 q1k)
 (wSeq (wIfS (wAnd (q1d (wBin cEq (wBin bIx (wVar 1) (wC (.int 0))) (wC (.str "\\")))) (q1d (wBin cEq (wBin bIx (wVar 1) (wC (.int 2))) (wVar 0))))
 (wRet (wTup (q0d (wC (.str "<")) (q0d (wBin bIx (wVar 1) (wC (.int 1))) wNil))))
 q1k)
 (wSeq (wIfS (wAnd (q1d (wBin cEq (wBin bIx (wVar 0) (wC (.int 0))) (wC (.str "/")))) (wAnd (q1d (wBin cEq (wBin bIx (wVar 1) (wC (.int 0))) (wC (.str "/")))) (q1d (wBin cEq (wBin bIx (wVar 0) (wC (.int 2))) (wBin bIx (wVar 1) (wC (.int 1)))))))
 (wRet (wTup (q0d (wC (.str ">>")) (q0d (wTup (q0d (wC (.str "/")) (q0d (wBin bIx (wVar 0) (wC (.int 1))) (q0d (wBin bIx (wVar 1) (wC (.int 2))) wNil)))) wNil))))
 q1k)
 (wSeq (wIfS (wAnd (q1d (wBin cEq (wBin bIx (wVar 0) (wC (.int 0))) (wC (.str "\\")))) (wAnd (q1d (wBin cEq (wBin bIx (wVar 1) (wC (.int 0))) (wC (.str "\\")))) (q1d (wBin cEq (wBin bIx (wVar 1) (wC (.int 2))) (wBin bIx (wVar 0) (wC (.int 1)))))))
 (wRet (wTup (q0d (wC (.str "<<")) (q0d (wTup (q0d (wC (.str "\\")) (q0d (wBin bIx (wVar 1) (wC (.int 1))) (q0d (wBin bIx (wVar 0) (wC (.int 2))) wNil)))) wNil))))
 q1k)
 (wRet (wC .non))))))
def q3s(spLnodes:Den)(spLrule:Den):WS:=
 (wSeq (wIfS (q1d (wBin cEq (wBin bIx (wVar 0) (wC (.int 0))) (wC (.str "word"))))
 (wRet (wLst (q0d (wTup (q0d (wVar 0) (q0d (wTup (q0d (wBin bIx (wVar 0) (wC (.int 1))) (q0d (wBin bAdd (wBin bIx (wVar 0) (wC (.int 1))) (wC (.int 1))) (q0d (wBin bIx (wVar 0) (wC (.int 2))) wNil)))) wNil))) wNil)))
 q1k)
 (wSeq (wSet 1 (q0y spLnodes (q0d (wBin bIx (wVar 0) (wC (.int 1))) wNil)))
 (wSeq (wSet 2 (q0y spLnodes (q0d (wBin bIx (wVar 0) (wC (.int 2))) wNil)))
 (wSeq (wSet 3 (q0y spLrule (q0d (wBin bIx (wBin bIx (wBin bIx (wVar 1) (wNeg (wC (.int 1)))) (wC (.int 1))) (wC (.int 2))) (q0d (wBin bIx (wBin bIx (wBin bIx (wVar 2) (wNeg (wC (.int 1)))) (wC (.int 1))) (wC (.int 2))) wNil))))
 (wRet (wBin bAdd (wBin bAdd (wVar 1) (wVar 2)) (wLst (q0d (wTup (q0d (wVar 0) (q0d (wTup (q0d (wBin bIx (wBin bIx (wBin bIx (wVar 1) (wNeg (wC (.int 1)))) (wC (.int 1))) (wC (.int 0))) (q0d (wBin bIx (wBin bIx (wBin bIx (wVar 2) (wNeg (wC (.int 1)))) (wC (.int 1))) (wC (.int 1))) (q0d (wBin bIx (wVar 3) (wC (.int 1))) wNil)))) wNil))) wNil))))))))
def q1r(spforms_of:Den)(spis_form:Den):WS:=
 (wSeq (wIfS (wOr (wNot (wTru (wCB fIsi (q0d (wVar 2) (q0d (wC (.ty "int")) wNil))))) (wOr (wTru (wCB fIsi (q0d (wVar 2) (q0d (wC (.ty "bool")) wNil)))) (wOr (q1d (wBin cLt (wVar 2) (wC (.int 0)))) (q1d (wBin cGe (wVar 2) (wCB fLen (q0d (wVar 1) wNil)))))))
 (q5r "NoReading" (q0d (wC (.str "the sentence has no such place")) wNil))
 q1k)
 (wSeq (y0t [] (y0o 4 (z4d spforms_of (q0d (wVar 0) (q0d (wBin bIx (wVar 1) (wVar 2)) wNil))))
 z0n)
 (wSeq (wIfS (wOr (wNot (wTru (q0y spis_form (q0d (wVar 3) wNil)))) (q1d (wBin q4o (wVar 3) (wVar 4))))
 (q5r "NoReading" (q0d (wC (.str "the word has not this form")) wNil))
 q1k)
 (wRet (wTup (q0d (wVar 2) (q0d (wBin bAdd (wVar 2) (wC (.int 1))) (q0d (wVar 3) wNil))))))))
def q2h(spLis_form:Den):WS:=
 (wSeq (wIfS (wOr (wNot (wTru (wCB fIsi (q0d (wVar 0) (q0d (wC (.ty "tuple")) wNil))))) (wOr (wNot (q1d (z0o cLe cLe (wC (.int 2)) (wCB fLen (q0d (wVar 0) wNil)) (wC (.int 3))))) (wNot (wTru (wCB fIsi (q0d (wBin bIx (wVar 0) (wC (.int 0))) (q0d (wC (.ty "str")) wNil)))))))
 (wRet (wC (.bl false)))
 q1k)
 (wSeq (wIfS (q1d (wBin cEq (wCB fLen (q0d (wVar 0) wNil)) (wC (.int 2))))
 (wRet (z0p (wBin cEq (wBin bIx (wVar 0) (wC (.int 0))) (wC (.str "basic"))) (wCB fIsi (q0d (wBin bIx (wVar 0) (wC (.int 1))) (q0d (wC (.ty "str")) wNil)))))
 q1k)
 (wRet (z0p (wBin cIn (wBin bIx (wVar 0) (wC (.int 0))) (wTup (q0d (wC (.str "/")) (q0d (wC (.str "\\")) wNil)))) (z0p (q0y spLis_form (q0d (wBin bIx (wVar 0) (wC (.int 1))) wNil)) (q0y spLis_form (q0d (wBin bIx (wVar 0) (wC (.int 2))) wNil)))))))
def q5i(spLmade:Den)(spLnumbers:Den)(spLnodes:Den)(spformed:Den)(spLis_form:Den)(spLwhole:Den):WS:=
 (wSeq (wAsg (q0y spLmade (q0d (q0y spLnumbers (q0d (wVar 0) wNil)) (q0d (wC (.int 6)) (q0d (wC (.int 0)) wNil)))) (q6r 5 (q2b (q1b 1) (q2b (q1b 2) (q2b (q1b 3) (q2b (q1b 4) (q2b (q1b 5) q6s)))))))
 (wSeq (wSet 6 (q0y spLnodes (q0d (wVar 4) wNil)))
 (wSeq (wFor (q2t (q0d (wC (.int 2)) wNil)) (q1b 7) (wFor (q5k (wVar 6)) (q6r 2 (q2b (q1b 8) (q2b (q1b 9) q6s))) (wSeq (wSet 10 (q0y spformed (q0d (wVar 1) (q0d (wVar 2) (q0d (wVar 8) wNil)))))
 (wSeq (wIfS (wOr (wNot (wTru (wCB fIsi (q0d (wVar 10) (q0d (wC (.ty "tuple")) wNil))))) (wOr (q1d (wBin cNe (wCB fLen (q0d (wVar 10) wNil)) (wC (.int 3)))) (wNot (wTru (q0y spLis_form (q0d (wBin bIx (wVar 10) (wC (.int 2))) wNil))))))
 (wRet (wC (.bl false)))
 q1k)
 (wIfS (wOr (wNot (wTru (q0y spLwhole (q0d (wBin bIx (wVar 10) (wC (.int 0))) wNil)))) (wOr (wNot (wTru (q0y spLwhole (q0d (wBin bIx (wVar 10) (wC (.int 1))) wNil)))) (q1d (wBin cNe (wVar 10) (wVar 9)))))
 (wRet (wC (.bl false)))
 q1k)))))
 (wRet (wBin cEq (wBin bIx (wBin bIx (wVar 6) (wNeg (wC (.int 1)))) (wC (.int 1))) (wTup (q0d (wC (.int 0)) (q0d (wCB fLen (q0d (wVar 2) wNil)) (q0d (wVar 5) wNil)))))))))
theorem forM{α:Type}{chk:q0h->Prop}{g:WG}{wb:WS}{D:PEnds}{E:EK}(f:α->PV)(l:List α)(P:List α->Ev.Loc->q0h->Prop)(hn:∀σ S,P l σ S->chk S/\D.nx σ S)
  (hc:∀a x b,l=a++x::b->∀σ S,P a σ S->∀N:Ev.Loc->q0h->Prop,(∀σ S,P (a++[x]) σ S->N σ S)->chk S/\g (f x) σ S E fun σ2 S2=>wb {nx:=N,rt:=D.rt,ct:=N,bk:=D.nx} E σ2 S2) (σ:Ev.Loc) (S:q0h) (h:P [] σ S):z6h chk g wb D E (l.map f) σ S:=by
 refine forI (fun rest σ S=>∃a b,l=a++b/\rest=b.map f/\P a σ S) ?_ ?_ _ _ _ ⟨[],l,rfl,rfl,h⟩
 ·rintro σ S ⟨a,b,e1,e2,p⟩
  obtain rfl:=List.map_eq_nil_iff.mp e2.symm
  rw[List.append_nil]at e1
  subst e1
  exact hn σ S p
 ·rintro y r σ S ⟨a,b,e1,e2,p⟩ N hN
  cases b with
  |nil=>cases e2
  |cons x b=>
   cases e2
   exact hc a x b e1 σ S p N fun σ S q=>hN σ S ⟨a++[x],b,by rw[e1];simp,rfl,q⟩
theorem z6j{α:Type}{chk:q0h->Prop}{g:WG}{wc:WT}{we:WE}{Q:VC}(f:α->PV)(l:List α)(P:List α->List PV->Ev.Loc->q0h->Prop)(hn:∀ys σ S,P l ys σ S->chk S/\Q (.ref S.length) (S++[.lst ys]))
  (hc:∀a x b,l=a++x::b->∀ys σ S,P a ys σ S->∀N:List PV->Ev.Loc->q0h->Prop,(∀ys σ S,P (a++[x]) ys σ S->N ys σ S)->chk S/\g (f x) σ S NoX fun σ2 S2=>wc σ2 S2 NoX fun b S3=>if b=true then we σ2 S3 NoX (fun y S4=>N (ys++[y]) σ2 S4)else N ys σ2 S3) (σ:Ev.Loc) (S:q0h) (h:P [] [] σ S):q9d chk g wc we Q (l.map f) [] σ S:=by
 refine y3g (fun rest ys σ S=>∃a b,l=a++b/\rest=b.map f/\P a ys σ S) ?_ ?_ _ _ _ _ ⟨[],l,rfl,rfl,h⟩
 ·rintro ys σ S ⟨a,b,e1,e2,p⟩
  obtain rfl:=List.map_eq_nil_iff.mp e2.symm
  rw[List.append_nil]at e1
  subst e1
  exact hn ys σ S p
 ·rintro y r ys σ S ⟨a,b,e1,e2,p⟩ N hN
  cases b with
  |nil=>cases e2
  |cons x b=>
   cases e2
   exact hc a x b e1 ys σ S p N fun ys σ S q=>hN ys σ S ⟨a++[x],b,by rw[e1];simp,rfl,q⟩
def iN(i:Nat):PV:=.int (i:Nat)
theorem y4d(n:Nat):rngP 0 n=(List.range n).map iN:=by
 unfold rngP iN
 exact List.map_congr_left fun i _=>by simp
theorem z1a{n:Nat}{a b:List Nat}{x:Nat}(h:List.range n=a++x::b):x=a.length/\a.length<n:=by
 have hl:=congrArg List.length h
 simp at hl
 have e:(List.range n)[a.length]?=some x:=by rw[h];simp
 rw[List.getElem?_range (by omega)]at e
 simp at e
 omega
theorem forR{chk:q0h->Prop}{g:WG}{wb:WS}{D:PEnds}{E:EK}(n:Nat)(P:Nat->Ev.Loc->q0h->Prop)(hn:∀σ S,P n σ S->chk S/\D.nx σ S)
  (hc:∀i,i<n->∀σ S,P i σ S->∀N:Ev.Loc->q0h->Prop,(∀σ S,P (i+1) σ S->N σ S)->chk S/\g (.int (i:Nat)) σ S E fun σ2 S2=>wb {nx:=N,rt:=D.rt,ct:=N,bk:=D.nx} E σ2 S2) (σ:Ev.Loc) (S:q0h) (h:P 0 σ S):z6h chk g wb D E (rngP 0 n) σ S:=by
 rw[y4d]
 refine forM iN _ (fun a σ S=>P a.length σ S) (fun σ S p=>hn σ S (by rwa [List.length_range]at p)) (fun a x b e σ S p N hN=>?_) σ S h
 obtain⟨rfl,lt⟩:=z1a e
 exact hc _ lt σ S p N fun σ S q=>hN σ S (by rw[List.length_append];exact q)
theorem y8a{chk:q0h->Prop}{g:WG}{wc:WT}{we:WE}{Q:VC}(n:Nat)(P:Nat->List PV->Ev.Loc->q0h->Prop)(hn:∀ys σ S,P n ys σ S->chk S/\Q (.ref S.length) (S++[.lst ys]))
  (hc:∀i,i<n->∀ys σ S,P i ys σ S->∀N:List PV->Ev.Loc->q0h->Prop,(∀ys σ S,P (i+1) ys σ S->N ys σ S)->chk S/\g (.int (i:Nat)) σ S NoX fun σ2 S2=>wc σ2 S2 NoX fun b S3=>if b=true then we σ2 S3 NoX (fun y S4=>N (ys++[y]) σ2 S4)else N ys σ2 S3) (σ:Ev.Loc) (S:q0h) (h:P 0 [] σ S):q9d chk g wc we Q (rngP 0 n) [] σ S:=by
 rw[y4d]
 refine z6j iN _ (fun a ys σ S=>P a.length ys σ S) (fun ys σ S p=>hn ys σ S (by rwa [List.length_range]at p)) (fun a x b e ys σ S p N hN=>?_) σ S h
 obtain⟨rfl,lt⟩:=z1a e
 exact hc _ lt ys σ S p N fun ys σ S q=>hN ys σ S (by rw[List.length_append];exact q)
def DkN(d:Nat)(S:q0h):Prop:=∃ns:List Int,S[d]?=some (.lst (ns.map PV.int))/\(∀n∈ns,0<=n)/\ns.length<=1000
theorem DkN.ex{d:Nat}{S S':q0h}{xs:List Nat}(h:DkN d S)(x:Ex xs S S')(hd:d∉xs):DkN d S':=by
 obtain⟨ns,a,b⟩:=h
 exact⟨ns,x.get a hd,b⟩
theorem DkN.lt{d:Nat}{S:q0h}(h:DkN d S):d<S.length:=by obtain⟨ns,a,_⟩:=h;exact q0u a
def z0i(sp:Den):Prop:=∀(d m:Nat)(S:q0h)(E:EK)(Q:VC),1<=m->DkN d S->(∀(r:Nat) S',r<m->DkN d S'->Ex [d] S S'->Q (.int (r:Nat)) S')->sp [.ref d,.int (m:Nat)] S E Q
theorem y7x:z0i (fnP 2 2 q4k):=by
 rintro d m S E Q hm ⟨ns,hd,h0,hl⟩ h
 refine⟨rfl,?_⟩
 unfold q4k
 have hd1:=q1a hd [SO.lst []]
 refine seqI fun K hK=>?_
 dsimp![q0q hd1]
 refine⟨Nat.zero_le _,z5v ns,?_⟩
 rcases List.eq_nil_or_concat ns with rfl|⟨ms,n,rfl⟩
 ·rw[if_pos (show eqBs (List.map PV.int []) []=true from rfl)]
  exact h 0 _ (by omega) ⟨[],hd1,by simp,Nat.zero_le _⟩ (Ex.new _ S _)
 ·rw[List.concat_eq_append]at hd1 hl h0
  rw[if_neg (by rw[List.concat_eq_append];cases ms<;>simp[eqBs])]
  refine hK _ _ ?_
  clear hK
  have e:(S++[SO.lst []])[d]?=some (.lst (ms.map PV.int++[.int n])):=by rw[hd1];simp
  dsimp![e,q1i e,List.getLast?_append,List.getLast?_singleton,Option.some_or,List.dropLast_concat]
  have hn0:=h0 n (by simp)
  have a1:=Int.emod_nonneg n (show(m:Int)≠0 by omega)
  have a2:=Int.emod_lt_of_pos n (show(0:Int)<m by omega)
  refine⟨by omega,?_⟩
  rw[show n % (m:Int)=(((n % (m:Int)).toNat:Nat):Int) by omega]
  refine h _ _ (by omega) ⟨ms,q2f _ e,fun k hk=>h0 k (by simp[hk]),by simp at hl;omega⟩ ((Ex.new _ S _).set (.inl (by simp)))
def x2v(sp:Den):Prop:=∀(ns:List Int)(S:q0h)(E:EK)(Q:VC),ns.length<=63->(∀d S',DkN d S'->Ex [] S S'->S.length<=d->Q (.ref d) S')->sp [.frl (ns.map .int)] S E Q
theorem y3c(ns:List Int):(ns.map PV.int).isEmpty=ns.isEmpty:=by cases ns<;>rfl
theorem y6v:x2v (fnP 1 6 q3b):=by
 intro ns S E Q hl h
 refine⟨rfl,?_⟩
 unfold q3b
 obtain⟨x,xs,hxs,hxl⟩:∃x xs,ns++(if ns.isEmpty then[0]else[])=x::xs/\xs.length<=63:=by
  cases ns with
  |nil=>exact⟨0,[],rfl,by simp⟩
  |cons a r=>exact⟨a,r,by simp,by simp at hl;omega⟩
 refine seqI fun K hK=>?_
 have e0:=q0t S (SO.lst (ns.map PV.int))
 have e1:=q1a e0 [SO.lst [PV.int 0]]
 have e2:=q0t (S++[SO.lst (ns.map PV.int)]) (.lst [PV.int 0])
 have e1':=q1a e1 [SO.lst []]
 have e2':=q1a e2 [SO.lst []]
 have e3:=q0t (S++[SO.lst (ns.map PV.int)]++[SO.lst [PV.int 0]]) (.lst [])
 dsimp![x5d ns hl,cEqE]
 refine⟨big (by decide),Nat.zero_le _,_,_,rfl,rfl,q0q e3,?_⟩
 rw[y3c]
 have lz:(List.replicate (if ns.isEmpty=true then(1:Int)else 0).toNat [PV.int 0]).flatten=(if ns.isEmpty=true then[0]else[]:List Int).map PV.int:=by split<;>rfl
 have z01:0<=(if ns.isEmpty=true then(1:Int)else 0)/\(if ns.isEmpty=true then(1:Int)else 0)<=1:=by split<;>omega
 have e4:=q1a e1' [SO.lst ((if ns.isEmpty=true then[0]else[]:List Int).map PV.int)]
 have cat:ns.map PV.int++(if ns.isEmpty=true then[0]else[]:List Int).map PV.int=(x::xs).map PV.int:=by rw[<-hxs];simp
 simp only[q1i e2',lz,q1i e4,cat]
 have cl:=congrArg List.length cat
 simp only[List.length_append,List.length_map,List.length_cons]at cl
 refine⟨⟨by omega,by omega,big (by simp only[List.length_cons,List.length_nil];omega)⟩,big (by simp only[List.length_map];omega),?_⟩
 have x0:Ex [] S (S++[SO.lst (ns.map PV.int)]++[SO.lst [PV.int 0]]++[SO.lst []]++[SO.lst ((if ns.isEmpty=true then[0]else[]:List Int).map PV.int)]):=(((Ex.new _ _ _).app _).app _).app _
 generalize S++[SO.lst (ns.map PV.int)]++[SO.lst [PV.int 0]]++[SO.lst []]++[SO.lst ((if ns.isEmpty=true then[0]else[]:List Int).map PV.int)]=S3 at x0 ⊢
 refine hK _ _ ?_
 clear hK K e0 e1 e2 e1' e2' e3 e4 lz z01 cat cl
 have g:=q0t S3 (.lst ((x::xs).map PV.int))
 have x1:Ex [] S (S3++[SO.lst ((x::xs).map PV.int)]):=x0.app _
 have lS3:=x0.1
 generalize S3++[SO.lst ((x::xs).map PV.int)]=S4 at g x1 ⊢
 generalize S3.length=c at g lS3 ⊢
 simp only[List.map_cons]at g
 refine seqI fun K hK=>?_
 dsimp![true_and]
 refine⟨Nat.zero_le _,hK _ _ ?_⟩
 clear hK K
 have g1:=q1a g [SO.lst []]
 have g2:=q0t S4 (.lst [])
 have x2:Ex [S4.length] S (S4++[SO.lst []]):=x1.nil.app _
 have ne:c≠S4.length:=by have:=q0u g;omega
 have l4:=x1.1
 generalize S4++[SO.lst []]=S5 at g1 g2 x2 ⊢
 generalize S4.length=r at g2 x2 ne l4 ⊢
 have last:∀(fs:List Int)(S6:q0h)(σ:Ev.Loc)(D:PEnds),S6[r]?=some (.lst (fs.map PV.int))->(∀n∈fs,0<=n)->fs.length<=1000->Ex [r] S S6->σ[2]?=some (some (.ref r))->D.rt=Q->wRet (z0m (wVar 2)) D E σ S6:=by
  intro fs S6 σ D a1 a2 a3 a4 a5 a6
  simp only[wRet,z0m,wVar,a5,q1i a1,a6]
  exact h S6.length _ ⟨fs.reverse,by rw[q0t];simp,fun n hn=>a2 n (by simpa using hn),by simpa using a3⟩ ((a4.app _).weak' l4) a4.1
 refine seqI fun K hK=>?_
 have em:∀i:Int,0<=i % 1000000000000:=fun i=>Int.emod_nonneg _ (by decide)
 dsimp![g1,q2m]
 refine⟨by decide,ite2 (fun z=>?_) (fun z=>?_)⟩
 ·refine seqI fun K2 hK2=>?_
  have ec:cutP (PV.int x::xs.map PV.int) (some 1) none=xs.map PV.int:=z3u (PV.int x::xs.map PV.int) 1 (by simp)
  have k1:=q1a g1 [SO.lst [PV.int (x / 2)]]
  dsimp![q0q k1,g1,q2m,ec]
  have k2:=q0t S5 (.lst [PV.int (x / 2)])
  have k3:=q1a k2 [SO.lst (xs.map PV.int)]
  have k4:=q0t (S5++[SO.lst [PV.int (x / 2)]]) (.lst (xs.map PV.int))
  dsimp![q1i k3,q1i k4]
  have x3:Ex [r] S (S5++[SO.lst [PV.int (x / 2)]]++[SO.lst (xs.map PV.int)]):=(x2.app _).app _
  have g3:=q1a (q1a g2 [SO.lst [PV.int (x / 2)]]) [SO.lst (xs.map PV.int)]
  generalize S5++[SO.lst [PV.int (x / 2)]]++[SO.lst (xs.map PV.int)]=S6 at x3 g3 ⊢
  refine⟨⟨by decide,by decide⟩,big (by decide),big (by simp;omega),?_⟩
  have nr:S6.length≠r:=by have:=q0u g3;omega
  obtain⟨ys,hys,yl⟩:∃ys:List Int,PV.int (x / 2)::xs.map PV.int=ys.map PV.int/\ys.length<=64:=⟨(x / 2)::xs,rfl,by simp;omega⟩
  rw[hys]
  have k5:=q0t S6 (.lst (ys.map PV.int))
  have g4:=q1a g3 [SO.lst (ys.map PV.int)]
  have x4:Ex [r] S (S6++[SO.lst (ys.map PV.int)]):=x3.app _
  generalize S6++[SO.lst (ys.map PV.int)]=S7 at k5 g4 x4 ⊢
  generalize S6.length=r2 at k5 nr ⊢
  dsimp![q0q k5]
  refine forM PV.int ys (fun a σ S8=>∃(fs:List Int)(j3 j4:Option PV),σ=[some (.frl (ns.map PV.int)),some (.ref c),some (.ref r),j3,j4,none]/\S8[r]?=some (.lst (fs.map PV.int))/\(∀n∈fs,0<=n)/\fs.length=8*a.length/\S8[r2]?=some (.lst (ys.map PV.int))/\Ex [r] S S8) ?_ ?_ _ _ ⟨[],none,none,rfl,g4,by simp,rfl,k5,x4⟩
  ·rintro σ S8 ⟨fs,j3,j4,rfl,a1,a2,a3,a4,a5⟩
   exact⟨q0q a4,hK2 _ _ (last fs S8 _ _ a1 a2 (by omega) a5 rfl rfl)⟩
  ·rintro a y b hab σ S8 ⟨fs,j3,j4,rfl,a1,a2,a3,a4,a5⟩ N hN
   have al:=congrArg List.length hab
   simp only[List.length_cons,List.length_append]at al
   refine⟨q0q a4,?_⟩
   dsimp![true_and]
   refine⟨⟨by decide,by decide⟩,?_⟩
   refine forR 8 (fun i σ S9=>∃(gs:List Int)(y:Int)(j4:Option PV),σ=[some (.frl (ns.map PV.int)),some (.ref c),some (.ref r),some (.int y),j4,none]/\S9[r]?=some (.lst (gs.map PV.int))/\(∀n∈gs,0<=n)/\gs.length=8*a.length+i/\S9[r2]?=some (.lst (ys.map PV.int))/\Ex [r] S S9) ?_ ?_ _ _ ⟨fs,y,j4,rfl,a1,a2,a3,a4,a5⟩
   ·rintro σ S9 ⟨gs,y,j4,rfl,b1,b2,b3,b4,b5⟩
    exact⟨trivial,hN _ _ ⟨gs,_,_,rfl,b1,b2,by simp;omega,b4,b5⟩⟩
   ·rintro i hi σ S9 ⟨gs,y,j4,rfl,b1,b2,b3,b4,b5⟩ N2 hN2
    refine⟨trivial,?_⟩
    dsimp![true_and]
    refine seqI fun K3 hK3=>?_
    dsimp![b1,q1i b1,p12]
    refine⟨⟨by decide,by decide,by decide⟩,by decide,bigl (by simp;omega),hK3 _ _ ?_⟩
    dsimp![p12]
    refine⟨⟨by decide,by decide,by decide⟩,⟨by decide,by decide⟩,hN2 _ _ ⟨gs++[y % 1000000000000],_,_,rfl,?_,?_,by simp;omega,q1z _ b4 (Ne.symm nr),b5.set (.inl (by simp))⟩⟩
    ·rw[q2f _ b1];simp
    ·intro n hn
     rcases List.mem_append.mp hn with q|q
     ·exact b2 n q
     ·rw[List.mem_singleton]at q;subst q;exact em y
 ·refine hK _ _ ?_
  clear hK K
  refine seqI fun K hK=>?_
  dsimp![g1,q2m]
  refine⟨⟨by decide,by decide⟩,by decide,hK _ _ ?_⟩
  clear hK K
  refine seqI fun K hK=>?_
  dsimp![true_and]
  refine⟨⟨by decide,by decide⟩,?_⟩
  obtain⟨cs,hcs,cp,cl⟩:∃cs:List Int,PV.int x::xs.map PV.int=cs.map PV.int/\cs≠[]/\cs.length<=64:=⟨x::xs,rfl,by simp,by simp;omega⟩
  rw[hcs]at g1
  refine forR 504 (fun i σ S8=>∃(fs:List Int)(u:Int)(j3 j4:Option PV),σ=[some (.frl (ns.map PV.int)),some (.ref c),some (.ref r),j3,j4,some (.int u)]/\0<=u/\u<2147483629/\S8[r]?=some (.lst (fs.map PV.int))/\(∀n∈fs,0<=n)/\fs.length=i/\S8[c]?=some (.lst (cs.map PV.int))/\Ex [r] S S8) ?_ ?_ _ _ ⟨[],_,none,none,rfl,Int.emod_nonneg _ (by decide),Int.emod_lt_of_pos _ (by decide),g2,by simp,rfl,g1,x2⟩
  ·rintro σ S8 ⟨fs,u,j3,j4,rfl,u0,u1,a1,a2,a3,a4,a5⟩
   exact⟨trivial,hK _ _ (last fs S8 _ _ a1 a2 (by omega) a5 rfl rfl)⟩
  ·rintro i hi σ S8 ⟨fs,u,j3,j4,rfl,u0,u1,a1,a2,a3,a4,a5⟩ N hN
   refine⟨trivial,?_⟩
   dsimp![true_and]
   obtain⟨y,hy⟩:=y8e (xs:=cs) (i:=(i:Nat)) cp
   refine seqI fun K2 hK2=>?_
   have hp:(0:Int)<(cs.length:Int):=by have:=List.length_pos_iff.mpr cp;omega
   dsimp![a4,q0q a4,List.length_map,hy]
   refine⟨hp,by decide,hK2 _ _ ?_⟩
   clear hK2 K2
   have y0:=Int.emod_nonneg y (show(2147483647:Int)≠0 by decide)
   refine seqI fun K2 hK2=>?_
   dsimp![true_and]
   have big64:u<2 ^ 64:=by omega
   refine⟨y4o (by omega) (by omega),y4p (by decide) (by decide),by decide,hK2 _ _ ?_⟩
   clear hK2 K2
   have v0:0<=(u*u+69621*(y % 2147483647)+(i:Int)) % 2147483629:=Int.emod_nonneg _ (by decide)
   have v1:(u*u+69621*(y % 2147483647)+(i:Int)) % 2147483629<2147483629:=Int.emod_lt_of_pos _ (by decide)
   generalize (u*u+69621*(y % 2147483647)+(i:Int)) % 2147483629=v at v0 v1 ⊢
   dsimp![a1,q1i a1]
   have w0:0<=v*(v+48271) % 2147483587:=Int.emod_nonneg _ (by decide)
   refine⟨y4o (by omega) (by omega),by decide,⟨by decide,by decide⟩,bigl (by simp;omega),hN _ _ ⟨fs++[v*(v+48271) % 2147483587 / 4],v,_,_,rfl,v0,v1,?_,?_,by simp;omega,q1z _ a4 (Ne.symm ne),a5.set (.inl (by simp))⟩⟩
   ·rw[q2f _ a1];simp
   ·intro n hn
    rcases List.mem_append.mp hn with q|q
    ·exact a2 n q
    ·rw[List.mem_singleton]at q;subst q
     generalize v*(v+48271) % 2147483587=w at w0 ⊢
     omega
theorem y5m:∀(k:Nat),1<=k->∀{n m:Int},spl n k=spl m k->0<n-m->n-m<=25->False
 |k+1,_,n,m,h,h1,h2=>by
  have:97+(n % 26).toNat=97+(m % 26).toNat:=(List.cons.inj h).1
  omega
theorem y2z{k:Nat}(hk:1<=k)(num:Int){ws:List Str}(hw:ws.length<=25)(h:∀t,t<ws.length+1->mk (spl (num+(t:Nat)) k)∈ws):False:=by
 have nd:((List.range (ws.length+1)).map fun t=>mk (spl (num+(t:Nat)) k)).Nodup:=by
  refine List.pairwise_map.mpr (List.Pairwise.imp_of_mem ?_ (List.pairwise_lt_range (n:=ws.length+1)))
  intro a b ha hb hab e
  rw[List.mem_range]at ha hb
  exact y5m k hk (z8o e).symm (by omega) (by omega)
 have:=q7c nd (F:=ws) fun x hx=>by
  obtain⟨j,hj,rfl⟩:=List.mem_map.mp hx
  rw[List.mem_range]at hj
  exact h j hj
 rw[List.length_map,List.length_range]at this
 omega
def FreD(sp:Den):Prop:=∀(k b:Nat)(num:Int)(ws:List Str)(S:q0h)(E:EK)(Q:VC),1<=k->k<=8->S[b]?=some (.lst (ws.map PV.str))->ws.length<=25->(∀n:Int,mk (spl n k)∉ws->Q (.str (mk (spl n k))) S)->sp [.int (k:Nat),.int num,.ref b] S E Q
theorem y5n:∀(k:Nat)(n:Int)(w:List Nat),w++spl n (k+1)=(w++[97+(n % 26).toNat])++spl (n / 26) k:=fun k n w=>by rw[spl];simp
theorem x2a:FreD (fnP 3 9 q2l):=by
 intro k b num ws S E Q hk h8 hb hl h
 refine⟨rfl,?_⟩
 unfold q2l
 refine seqI fun K hK=>?_
 dsimp![true_and]
 refine hK _ _ ?_
 clear hK K
 refine seqI fun K hK=>?_
 dsimp![true_and]
 refine hK _ _ ?_
 clear hK K
 refine seqI fun K hK=>?_
 dsimp![q0q hb,List.length_map]
 refine⟨⟨by omega,by omega⟩,?_⟩
 rw[show((ws.length:Int)+1).toNat=ws.length+1 by omega]
 refine forR (ws.length+1) (fun i σ S1=>S1=S/\∃(w:Str)(j5 j6 j7 j8:Option PV),σ=[some (.int (k:Nat)),some (.int num),some (.ref b),some (.str "abcdefghijklmnopqrstuvwxyz"),some (.str w),j5,j6,j7,j8]/\(w=mk []/\(∀t,t<i->mk (spl (num+(t:Nat)) k)∈ws)\/∃n:Int,w=mk (spl n k)/\w∉ws)) ?_ ?_ _ _ ⟨rfl,_,none,none,none,none,rfl,.inl ⟨z0f,fun t ht=>by omega⟩⟩
 ·rintro σ S1 ⟨rfl,w,j5,j6,j7,j8,rfl,hw⟩
  refine⟨trivial,hK _ _ ?_⟩
  dsimp![true_and]
  rcases hw with⟨rfl,hw⟩|⟨n,rfl,h2⟩
  ·exact(y2z hk num hl hw).elim
  ·exact h n h2
 ·rintro i hi σ S1 ⟨rfl,w,j5,j6,j7,j8,rfl,hw⟩ N hN
  refine⟨trivial,?_⟩
  dsimp![true_and]
  refine seqI fun K2 hK2=>?_
  dsimp![true_and]
  refine hK2 _ _ ?_
  clear hK2 K2
  refine seqI fun K2 hK2=>?_
  dsimp![true_and]
  refine hK2 _ _ ?_
  clear hK2 K2
  refine seqI fun K2 hK2=>?_
  dsimp![true_and]
  refine⟨⟨by omega,by omega⟩,?_⟩
  rw[Int.toNat_natCast]
  refine forR k (fun i2 σ S2=>S2=S1/\∃(v:List Nat)(n2:Int)(j8:Option PV),σ=[some (.int (k:Nat)),some (.int num),some (.ref b),some (.str "abcdefghijklmnopqrstuvwxyz"),some (.str w),some (.int (i:Nat)),some (.int n2),some (.str (mk v)),j8]/\v++spl n2 (k-i2)=spl (num+(i:Nat)) k) ?_ ?_ _ _ ⟨rfl,[],num+(i:Nat),j8,by rw[z0f],rfl⟩
  ·rintro σ S2 ⟨rfl,v,n2,j8',rfl,hv⟩
   rw[Nat.sub_self,spl,List.append_nil]at hv
   subst hv
   refine⟨trivial,hK2 _ _ ?_⟩
   dsimp![z0f,q0q hb,y4r]
   rcases hw with⟨rfl,hw⟩|⟨n,rfl,h2⟩
   ·rw[if_pos rfl]
    refine⟨q6j ws,ite2 (fun z=>hN _ _ ⟨rfl,_,_,_,_,_,rfl,.inr ⟨_,rfl,z⟩⟩) (fun z=>hN _ _ ⟨rfl,_,_,_,_,_,rfl,.inl ⟨rfl,fun t ht=>?_⟩⟩)⟩
    rcases Nat.lt_succ_iff_lt_or_eq.mp ht with y|rfl
    ·exact hw t y
    ·exact Classical.not_not.mp z
   ·have ne:¬mk (spl n k)=mk []:=fun e=>by have:=congrArg List.length (z8o e);rw[q5p]at this;simp at this;omega
    rw[if_neg ne]
    exact hN _ _ ⟨rfl,_,_,_,_,_,rfl,.inr ⟨n,rfl,h2⟩⟩
  ·rintro i2 hi2 σ S2 ⟨rfl,v,n2,j8',rfl,hv⟩ N2 hN2
   refine⟨trivial,?_⟩
   have m0:0<=n2 % 26:=Int.emod_nonneg _ (by decide)
   have m1:n2 % 26<26:=Int.emod_lt_of_pos _ (by decide)
   have vl:=congrArg List.length hv
   rw[List.length_append,q5p,q5p]at vl
   obtain⟨q,hq⟩:∃q,k-i2=q+1:=⟨k-i2-1,by omega⟩
   rw[hq,y5n]at hv
   dsimp![true_and]
   refine seqI fun K3 hK3=>?_
   dsimp![q8u m0 m1]
   refine⟨by decide,q7x,?_⟩
   rw[y0c,z8p,q5m,q5m]
   refine⟨big (by simp;omega),hK3 _ _ ?_⟩
   dsimp![true_and]
   exact⟨⟨by decide,by decide⟩,hN2 _ _ ⟨rfl,_,n2 / 26,_,rfl,by rw[show k-(i2+1)=q by omega];exact hv⟩⟩
def NmsD(sp:Den):Prop:=∀(d b m:Nat)(bars:List Str)(S:q0h)(E:EK)(Q:VC),DkN d S->S[b]?=some (.lst (bars.map PV.str))->bars.length<=1->m<=20->b≠d->
 (∀(r:Nat)(ws:List Str) S',ws.length=m->ws.Nodup->(∀w∈ws,q2j w=true/\w∉bars)->S.length<=r->S'[r]?=some (.lst (ws.map PV.str))->DkN d S'->Ex [d] S S'->Q (.ref r) S')->sp [.ref d,.int (m:Nat),.ref b] S E Q
def vary(u:List Nat)(at' sp k:Nat):List Nat:=u.take at'++[97+(sp+k) % 26]++u.drop (at'+1)
theorem y0w{u:List Nat}{at' sp i j:Nat}(h:vary u at' sp i=vary u at' sp j)(hi:i<=25)(hj:j<=25):i=j:=by
 unfold vary at h
 have:=List.append_cancel_right h
 have:=List.append_cancel_left this
 simp at this
 omega
theorem z6w{u:List Nat}{at' sp:Nat}(h:q2j (mk u)=true)(ha:at'<u.length)(k:Nat):q2j (mk (vary u at' sp k))=true:=by
 obtain⟨h1,h2,h3⟩:=q7s h
 rw[q5m]at h1 h2
 rw[q4c]at h3
 have ll:(vary u at' sp k).length=u.length:=by unfold vary;simp;omega
 refine z4p (by omega) (by omega) ?_
 unfold vary
 rw[List.all_append,List.all_append,y3o _ h3,y3p _ h3]
 simp only[List.all_cons,List.all_nil,Bool.and_true,Bool.true_and]
 exact z9h _ (Nat.mod_lt _ (by decide))
theorem z7e:∀(k:Nat)(n:Int),∀c∈spl n k,∃m,m<26/\c=97+m
 |0,_,c,h=>by cases h
 |k+1,n,c,h=>by
  rw[spl]at h
  rcases List.mem_cons.mp h with rfl|z
  ·exact⟨(n % 26).toNat,by omega,rfl⟩
  ·exact z7e k _ c z
theorem z4f{k:Nat}(h1:1<=k)(h8:k<=8)(n:Int):q2j (mk (spl n k))=true:=z4p (by rw[q5p];exact h1) (by rw[q5p];exact h8) (z7f _ _)
theorem z2f(xs:List PV)(k:Nat):cutP xs none (some (k:Int))=xs.take k:=by
 unfold cutP
 rw[HT.sIx_none,HT.sIx_nat,List.drop_zero,Nat.sub_zero,<-List.take_length (l:=xs),List.take_take]
 simp
theorem flt2{α:Type}(p:α->Bool):∀l:List α,l.length=(l.filter p).length+(l.filter fun x=>!p x).length
 |[]=>rfl
 |a::l=>by
  have:=flt2 p l
  cases h:p a<;>simp[List.filter_cons,h]<;>omega
theorem y3b{ws:List Str}(nd:ws.Nodup){bars:List Str}(hb:bars.length<=1):ws.length<=(ws.filter fun w=>!decide (w∈bars)).length+1:=by
 have h1:(ws.filter fun w=>decide (w∈bars)).length<=1:=Nat.le_trans (q7c (nd.filter _) fun x hx=>by simpa using(List.mem_filter.mp hx).2) hb
 have h2:=flt2 (fun w=>decide (w∈bars)) ws
 omega
theorem x0v{sd sf:Den}(hd:z0i sd)(hf:FreD sf):NmsD (fnP 3 10 (q3t sd sf)):=by
 intro d b m bars S E Q dk hb hbl hm nbd h
 have lb:=q0u hb
 refine⟨rfl,?_⟩
 unfold q3t
 refine seqI fun K hK=>?_
 dsimp![true_and]
 refine hK _ _ ?_
 clear hK K
 refine seqI fun K hK=>?_
 dsimp![true_and]
 refine⟨Nat.zero_le _,hK _ _ ?_⟩
 clear hK K
 have g0:=q0t S (.lst [])
 have b0:=q1a hb [SO.lst []]
 have d0:=dk.ex (Ex.new [] S [SO.lst []]) (by simp)
 have x0:Ex [d,S.length] S (S++[SO.lst []]):=Ex.new _ S _
 have ld:=dk.lt
 generalize S++[SO.lst []]=S0 at g0 b0 d0 x0 ⊢
 refine seqI fun K hK=>?_
 dsimp![true_and]
 refine hd d 3 _ _ _ (by decide) d0 fun r S1 hr d1 x1=>?_
 have g1:=x1.get g0 (by simp;omega)
 have b1:=x1.get b0 (by simp;exact nbd)
 have x01:=x0.trans (x1.weak (by simp))
 dsimp![true_and]
 refine ite2 (fun z=>?_) (fun z=>hK _ _ ?_)
 ·refine seqI fun K2 hK2=>?_
  dsimp![true_and]
  refine⟨⟨by omega,by omega⟩,?_⟩
  rw[Int.toNat_natCast]
  refine forR m (fun i σ S2=>∃(ws:List Str)(j5:Option PV),σ=[some (.ref d),some (.int (m:Nat)),some (.ref b),some (.str "abcdefghijklmnopqrstuvwxyz"),some (.ref S.length),j5,none,none,none,none]/\ws.length=i/\ws.Nodup/\(∀w∈ws,q2j w=true/\w∉bars)/\S2[S.length]?=some (.lst (ws.map PV.str))/\S2[b]?=some (.lst (bars.map PV.str))/\DkN d S2/\Ex [d,S.length] S S2) ?_ ?_ _ _ ⟨[],none,rfl,rfl,List.nodup_nil,by simp,g1,b1,d1,x01⟩
  ·rintro σ S2 ⟨ws,j5,rfl,a1,a2,a3,a4,a5,a6,a7⟩
   refine⟨trivial,hK2 _ _ ?_⟩
   dsimp![true_and]
   refine h S.length ws S2 a1 a2 a3 (Nat.le_refl _) a4 a6 ⟨a7.1,fun i hi hn=>a7.2 i hi fun y=>?_⟩
   simp only[List.mem_cons,List.not_mem_nil,or_false]at y hn
   omega
  ·rintro i hi σ S2 ⟨ws,j5,rfl,a1,a2,a3,a4,a5,a6,a7⟩ N hN
   refine⟨trivial,?_⟩
   dsimp![a4,p12]
   refine hd d 8 _ _ _ (by decide) a6 fun r1 S3 hr1 d3 x3=>?_
   dsimp![true_and]
   refine⟨⟨by decide,by decide,by decide⟩,hd d 1000000000000 _ _ _ (by decide) d3 fun r2 S4 hr2 d4 x4=>?_⟩
   have x24:=x3.trans x4
   have k4:=x24.get a4 (by simp;omega)
   have k5:=x24.get a5 (by simp;exact nbd)
   dsimp![q1i k4,q1i k5]
   refine⟨big (by simp;omega),?_⟩
   have k6:=q0t S4 (.lst (ws.map PV.str++bars.map PV.str))
   rw[<-List.map_append]at k6 ⊢
   have k4':=q1a k4 [SO.lst ((ws++bars).map PV.str)]
   rw[show(1:Int)+(r1:Int)=((1+r1:Nat):Int) by omega]
   refine hf (1+r1) S4.length _ (ws++bars) _ _ _ (by omega) (by omega) k6 (by simp;omega) fun n hn=>?_
   simp only[List.mem_append,not_or]at hn
   dsimp![k4',q1i k4']
   have x25:Ex [d,S.length] S2 (S4++[SO.lst ((ws++bars).map PV.str)]):=(x24.weak (by simp)).app _
   refine⟨bigl (by simp;omega),hN _ _ ⟨ws++[mk (spl n (1+r1))],_,rfl,by simp;omega,?_,?_,?_,q1z _ (q1a k5 _) (by omega),(d4.ex (Ex.new [] S4 _) (by simp)).ex ((Ex.refl [S.length] _).set (.inl (by simp))) (by simp;omega),(a7.trans x25).set (.inl (by simp))⟩⟩
   ·rw[List.nodup_append]
    exact⟨a2,by simp,fun x hx y hy e=>by rw[List.mem_singleton]at hy;subst hy;subst e;exact hn.1 hx⟩
   ·intro w hw
    rcases List.mem_append.mp hw with q|q
    ·exact a3 w q
    ·rw[List.mem_singleton]at q;subst q;exact⟨z4f (by omega) (by omega) n,hn.2⟩
   ·rw[q2f _ k4'];simp
 ·clear hK
  refine seqI fun K hK=>?_
  dsimp![p12]
  refine hd d 8 _ _ _ (by decide) d1 fun r1 S3 hr1 d3 x3=>?_
  dsimp![true_and]
  refine⟨⟨by decide,by decide,by decide⟩,hd d 1000000000000 _ _ _ (by decide) d3 fun r2 S4 hr2 d4 x4=>⟨Nat.zero_le _,?_⟩⟩
  have x24:=x3.trans x4
  have k5:=q1a (x24.get b1 (by simp;exact nbd)) [SO.lst []]
  have d5:=d4.ex (Ex.new [] S4 [SO.lst []]) (by simp)
  have x05:Ex [d,S.length] S (S4++[SO.lst []]):=(x01.trans (x24.weak (by simp))).app _
  have k6:=q0t S4 (.lst [])
  generalize S4++[SO.lst []]=S5 at k5 d5 x05 k6 ⊢
  rw[show(1:Int)+(r1:Int)=((1+r1:Nat):Int) by omega]
  refine hf (1+r1) S4.length _ [] _ _ _ (by omega) (by omega) k6 (by simp) fun n _=>hK _ _ ?_
  clear hK
  have ul:(spl n (1+r1)).length=1+r1:=q5p _ _
  have un:=z4f (show 1<=1+r1 by omega) (by omega) n
  have ulow:=z7e (1+r1) n
  generalize spl n (1+r1)=u at ul un ulow ⊢
  refine seqI fun K hK=>?_
  dsimp![q5m]
  refine⟨big (by omega),hd d u.length _ _ _ (by omega) d5 fun at' S6 hat d6 x6=>hK _ _ ?_⟩
  clear hK
  have k7:=x6.get k5 (by simp;exact nbd)
  have x06:=x05.trans (x6.weak (by simp))
  obtain⟨c,hc,ec⟩:=ulow u[at'] (List.getElem_mem hat)
  have ea:atI u (at':Int)=some (97+c):=by rw[q2g u at' hat,ec]
  refine seqI fun K hK=>?_
  dsimp![q5m,q4c,ea,y0c,show mk [97+c]=wd [c]from rfl,z1n c hc]
  refine⟨big (by omega),by omega,hK _ _ ?_⟩
  clear hK
  refine seqI fun K hK=>?_
  dsimp![true_and]
  refine⟨⟨by omega,by omega⟩,?_⟩
  rw[show((m:Int)+1).toNat=m+1 by omega]
  refine⟨by rw[z3a];exact big (by omega),?_⟩
  refine y8a (m+1) (fun i ys σ S7=>S7=S6/\(∃j0:Option PV,σ=[j0,some (.str (mk u)),some (.str "abcdefghijklmnopqrstuvwxyz"),some (.int (at':Nat)),some (.int (c:Nat))])/\ys=((List.range i).map fun k=>mk (vary u at' c k)).map PV.str) ?_ ?_ _ _ ⟨rfl,⟨none,rfl⟩,rfl⟩
  ·rintro ys σ S7 ⟨rfl,⟨j0,rfl⟩,rfl⟩
   refine⟨trivial,hK _ _ ?_⟩
   clear hK
   have nd:((List.range (m+1)).map fun k=>mk (vary u at' c k)).Nodup:=by
    refine List.pairwise_map.mpr (List.Pairwise.imp_of_mem ?_ (List.nodup_range (n:=m+1)))
    intro p q hp hq hpq e
    rw[List.mem_range]at hp hq
    exact hpq (y0w (z8o e) (by omega) (by omega))
   have nm:∀w∈(List.range (m+1)).map fun k=>mk (vary u at' c k),q2j w=true:=fun w hw=>by
    obtain⟨k,_,rfl⟩:=List.mem_map.mp hw
    exact z6w un hat k
   have vl:((List.range (m+1)).map fun k=>mk (vary u at' c k)).length=m+1:=by simp
   generalize (List.range (m+1)).map (fun k=>mk (vary u at' c k))=vs at nd nm vl ⊢
   have v1:=q0t S7 (.lst (vs.map PV.str))
   have v2:=q1a k7 [SO.lst (vs.map PV.str)]
   have d7:=d6.ex (Ex.new [] S7 [SO.lst (vs.map PV.str)]) (by simp)
   have x07:Ex [d,S.length] S (S7++[SO.lst (vs.map PV.str)]):=x06.app _
   have l7:S.length<=S7.length:=x06.1
   generalize S7++[SO.lst (vs.map PV.str)]=S8 at v1 v2 d7 x07 ⊢
   generalize S7.length=n7 at v1 l7 ⊢
   dsimp![q0q v1]
   refine⟨big (by simp;omega),?_⟩
   refine z6j PV.str vs (fun a ys σ S9=>S9=S8/\(∃j0:Option PV,σ=[j0,some (.ref b)])/\ys=(a.filter fun w=>!decide (w∈bars)).map PV.str) ?_ ?_ _ _ ⟨rfl,⟨none,rfl⟩,rfl⟩
   ·rintro ys σ S9 ⟨rfl,⟨j0,rfl⟩,rfl⟩
    refine⟨q0q v1,?_⟩
    have fl:=y3b nd hbl
    have v3:=q0t S9 (.lst ((vs.filter fun w=>!decide (w∈bars)).map PV.str))
    dsimp![q0q v3,z2f,<-List.map_take]
    have l9:=x07.1
    refine h _ ((vs.filter fun w=>!decide (w∈bars)).take m) _ ?_ ((nd.filter _).sublist (List.take_sublist _ _)) (fun w hw=>?_) ?_ (q0t _ _) ((d7.ex (Ex.new [] S9 _) (by simp)).ex (Ex.new [] _ _) (by simp)) ?_
    ·rw[List.length_take];omega
    ·have:=List.mem_filter.mp (List.mem_of_mem_take hw)
     exact⟨nm w this.1,by simpa using this.2⟩
    ·simp;omega
    ·refine⟨(x07.app _).app _ |>.1,fun i hi hn=>((x07.app _).app _).2 i hi fun y=>?_⟩
     simp only[List.mem_cons,List.not_mem_nil,or_false]at y hn
     omega
   ·rintro a w bb e ys σ S9 ⟨rfl,⟨j0,rfl⟩,rfl⟩ N hN
    refine⟨q0q v1,?_⟩
    dsimp![q0q v2,y4r]
    refine⟨q6j bars,ite2 (fun q=>hN _ _ _ ⟨rfl,⟨_,rfl⟩,?_⟩) (fun q=>hN _ _ _ ⟨rfl,⟨_,rfl⟩,?_⟩)⟩
    ·rw[List.filter_append,List.map_append];congr 1;simp[q]
    ·rw[List.filter_append,List.map_append];simp[Classical.not_not.mp q]
  ·rintro i hi ys σ S7 ⟨rfl,⟨j0,rfl⟩,rfl⟩ N hN
   refine⟨trivial,?_⟩
   have m0:0<=((c:Int)+(i:Int)) % 26:=Int.emod_nonneg _ (by decide)
   have m1:((c:Int)+(i:Int)) % 26<26:=Int.emod_lt_of_pos _ (by decide)
   dsimp![q5m,q8u m0 m1,y5o (mk u) at' (by rw[q5m];omega),q4c,y0c,z8p]
   have sd':Txt.slice (mk u) (some ((at':Int)+1)) none=mk (u.drop (at'+1)):=y5p (mk u) (at'+1) (by rw[q5m];omega)
   rw[sd',z8p,q5m]
   have ul':=un
   refine⟨big (by omega),by decide,q7x,big (by rw[List.length_take];omega),big (by omega),big (by simp;omega),hN _ _ _ ⟨rfl,⟨_,rfl⟩,?_⟩⟩
   rw[List.range_succ,List.map_append,List.map_append]
   simp only[List.map_cons,List.map_nil,vary]
   rw[show(((c:Int)+(i:Int)) % 26).toNat=(c+i) % 26 by omega]
def bsP(s:Str):PV:=(Fm.b s).pv
def FmlD(sp:Den)(m:Nat):Prop:=∀(d b:Nat)(bs:List Str)(S:q0h)(E:EK)(Q:VC),DkN d S->S[b]?=some (.lst (bs.map bsP))->bs≠[]->b≠d->
 (∀(f:Fm) S',f.lv=max m 1->f.ov bs->DkN d S'->Ex [d] S S'->Q f.pv S')->sp [.ref d,.ref b,.int (m:Nat)] S E Q
theorem z9m{T U:Nat->Den}(hT:∀n,T (n+1)=fnP 3 6 (q4j (U n) (T n)))(hU:∀n,z0i (U (n+1))):∀(n m:Nat),m+1<n->FmlD (T n) m
 |0,m,hn=>by omega
 |1,m,hn=>by omega
 |n+2,m,hn=>by
  intro d b bs S E Q dk hb hw ne h
  rw[hT]
  refine⟨rfl,?_⟩
  unfold q4j
  have hp:=List.length_pos_iff.mpr hw
  refine seqI fun K hK=>?_
  dsimp![hb,q0q hb,List.length_map]
  refine ite2 (fun z=>?_) (fun z=>hK _ _ ?_)
  ·refine hU n d bs.length _ _ _ hp dk fun r S1 hr d1 x1=>?_
   have b1:=x1.get hb (by simp;exact ne)
   have ea:atI (bs.map bsP) (r:Int)=some (bsP bs[r]):=by rw[q2g _ r (by simpa using hr)];simp
   dsimp![b1,ea]
   exact h (.b bs[r]) S1 (by simp only[Fm.lv];omega) (List.getElem_mem hr) d1 x1
  ·clear hK
   refine seqI fun K hK=>?_
   dsimp![true_and]
   rw[show(m:Int)-1=((m-1:Nat):Int) by omega]
   refine hU n d (m-1) _ _ _ (by omega) dk fun r S1 hr d1 x1=>hK _ _ ?_
   clear hK
   rw[show(1:Int)+(r:Int)=((1+r:Nat):Int) by omega]
   refine seqI fun K hK=>?_
   dsimp![true_and]
   refine⟨big (by decide),?_⟩
   have b1:=q1a (x1.get hb (by simp;exact ne)) [SO.lst [PV.str "/",PV.str "\\"]]
   have d1':=d1.ex (Ex.new [] S1 [SO.lst [PV.str "/",PV.str "\\"]]) (by simp)
   have x1':Ex [d] S (S1++[SO.lst [PV.str "/",PV.str "\\"]]):=x1.app _
   have l1:=q0t S1 (SO.lst [PV.str "/",PV.str "\\"])
   have nd1:S1.length≠d:=by have:=d1.lt;omega
   generalize S1++[SO.lst [PV.str "/",PV.str "\\"]]=S1' at b1 d1' x1' l1 ⊢
   refine hU n d 2 _ _ _ (by decide) d1' fun r2 S2 hr2 d2 x2=>?_
   have l2:=x2.get l1 (by simp;exact nd1)
   have b2:=x2.get b1 (by simp;exact ne)
   have ea:atI [PV.str "/",PV.str "\\"] (r2:Int)=some (.str (sSl (decide (r2=1)))):=by
    rcases(show r2=0\/r2=1 by omega)with rfl|rfl<;>rfl
   dsimp![l2,ea]
   refine hK _ _ ?_
   clear hK
   refine seqI fun K hK=>?_
   dsimp![true_and]
   refine z9m hT hU (n+1) (1+r) (by omega) d b bs _ _ _ d2 b2 hw ne fun f1 S3 lv1 ov1 d3 x3=>hK _ _ ?_
   clear hK
   have b3:=x3.get b2 (by simp;exact ne)
   dsimp![true_and]
   rw[show(m:Int)-((1+r:Nat):Int)=((m-(1+r):Nat):Int) by omega]
   refine z9m hT hU (n+1) (m-(1+r)) (by omega) d b bs _ _ _ d3 b3 hw ne fun f2 S4 lv2 ov2 d4 x4=>⟨big (by decide),?_⟩
   exact h (.n (decide (r2=1)) f1 f2) S4 (by simp only[Fm.lv];omega) ⟨ov1,ov2⟩ d4 (((x1'.trans x2).trans x3).trans x4)
theorem z6s{T:Nat->Den}(hT:∀n,T (n+1)=fnP 1 1 (q2z (T n))):∀(n:Nat)(f:Fm),f.dp<=n->∀(S:q0h)(E:EK)(Q:VC),Q (.int (f.lv:Nat)) S->T n [f.pv] S E Q
 |0,f,hd,S,E,Q,h=>by have:=f.dp_pos;omega
 |n+1,.b s,hd,S,E,Q,h=>by
  rw[hT]
  refine⟨rfl,?_⟩
  unfold q2z
  dsimp![wSeq,fb0]
  exact h
 |n+1,.n l x y,hd,S,E,Q,h=>by
  simp only[Fm.dp]at hd
  rw[hT]
  refine⟨rfl,?_⟩
  unfold q2z
  dsimp![wSeq,fn0,fn1,fn2,q7a]
  refine z6s hT n x (by omega) _ _ _ ?_
  refine z6s hT n y (by omega) _ _ _ ?_
  dsimp![true_and]
  simp only[Fm.lv,Int.natCast_add]at h
  exact h
def SplD(sp:Den):Prop:=∀(f o:Fm)(w:Nat)(S:q0h)(E:EK)(Q:VC),f.lv<=6->o.lv<=3->w<4->
 (∀S',Ex [] S S'->Q .non S')->(∀(s:Sg)(x y:Fm) S',md x y=some (s.st,f)->x.lv<=6->y.lv<=6->(∀bs,f.ov bs->o.ov bs->x.ov bs/\y.ov bs)->Ex [] S S'->Q (.tup [.str s.st,x.pv,y.pv]) S')->sp [f.pv,o.pv,.int (w:Nat)] S E Q
theorem i3_0(x y z:PV)(S:q0h)(Q:VC):bIx (.tup [x,y,z]) (.int 0) S Q=Q x S:=rfl
theorem i3_1(x y z:PV)(S:q0h)(Q:VC):bIx (.tup [x,y,z]) (.int 1) S Q=Q y S:=rfl
theorem i3_2(x y z:PV)(S:q0h)(Q:VC):bIx (.tup [x,y,z]) (.int 2) S Q=Q z S:=rfl
theorem y8t{sw:Den}(hw:∀f:Fm,f.dp<=20->∀(S:q0h)(E:EK)(Q:VC),Q (.int (f.lv:Nat)) S->sw [f.pv] S E Q):SplD (fnP 3 4 (q3r sw)):=by
 intro f o w S E Q hf ho hw4 hn hs
 have p2:2<=sizeLine:=big (by decide)
 have p3:3<=sizeLine:=big (by decide)
 have fd:=f.dp_lv
 have od:=o.dp_lv
 refine⟨rfl,?_⟩
 unfold q3r
 have fin:∀(s:Sg)(x y:Fm)(S':q0h),md x y=some (s.st,f)->(∀bs,f.ov bs->o.ov bs->x.ov bs/\y.ov bs)->x.lv<=15->y.lv<=15->Ex [] S S'->(wSeq (wIfS (wOr (q1d (wBin cGt (q0y sw (q0d (wBin bIx (wVar 3) (wC (.int 1))) wNil)) (wC (.int 6)))) (q1d (wBin cGt (q0y sw (q0d (wBin bIx (wVar 3) (wC (.int 2))) wNil)) (wC (.int 6)))))
 (wRet (wC .non))
 q1k)
 (wRet (wVar 3))) {nx:=fun _ S'=>Q .non S',rt:=Q} E [some f.pv,some o.pv,some (.int (w:Nat)),some (.tup [.str s.st,x.pv,y.pv])] S':=by
  intro s x y S' hmd hov lx ly hx
  have dx:=x.dp_lv
  have dy:=y.dp_lv
  refine seqI fun K hK=>?_
  dsimp![i3_1,i3_2]
  refine hw x (by omega) _ _ _ ?_
  dsimp![true_and]
  refine ite2 (fun _=>hn S' hx) (fun z1=>?_)
  refine hw y (by omega) _ _ _ ?_
  dsimp![true_and]
  refine ite2 (fun _=>hn S' hx) (fun z2=>hK _ _ ?_)
  dsimp![true_and]
  exact hs s x y S' hmd (by omega) (by omega) hov hx
 refine seqI fun K hK=>?_
 dsimp![q0t,at2]
 refine⟨p3,p3,p3,p3,p2,by decide,hK _ _ ?_⟩
 clear hK K
 have xa:∀xs:List SO,Ex [] S (S++xs):=fun xs=>Ex.new [] S xs
 obtain⟨s,x,y,e,hmd,hov,lx,ly⟩:∃(s:Sg)(x y:Fm),(if(w:Int) % 2=0 then PV.tup [.str ">",.tup [.str "/",f.pv,o.pv],o.pv]else .tup [.str "<",o.pv,.tup [.str "\\",f.pv,o.pv]])=.tup [.str s.st,x.pv,y.pv]/\md x y=some (s.st,f)/\(∀bs,f.ov bs->o.ov bs->x.ov bs/\y.ov bs)/\x.lv<=15/\y.lv<=15:=by
  by_cases z:(w:Int) % 2=0
  ·exact⟨.a,.n false f o,o,by rw[if_pos z];rfl,md_a f o,fun bs a b=>⟨⟨a,b⟩,b⟩,by simp only[Fm.lv];omega,by omega⟩
  ·exact⟨.b,o,.n true f o,by rw[if_neg z];rfl,md_b f o,fun bs a b=>⟨b,⟨a,b⟩⟩,by omega,by simp only[Fm.lv];omega⟩
 rw[e]
 clear e
 refine seqI fun K hK=>?_
 dsimp![true_and]
 by_cases z:(1:Int)<(w:Int)
 ·rw[if_pos z]
  cases f with
  |b t=>
   dsimp![fb0,ba_f]
   refine hK _ _ ?_
   clear hK K
   refine seqI fun K hK=>?_
   dsimp![fb0,ba_b]
   rw[if_pos z]
   exact hK _ _ (fin s x y _ hmd hov lx ly (xa _))
  |n l u v=>
   have up:=u.lv_pos
   have vp:=v.lv_pos
   simp only[Fm.lv]at hf
   cases l with
   |false=>
    dsimp![fn0,z5n,fn1,fn2]
    refine⟨p3,p3,p3,hK _ _ ?_⟩
    clear hK K
    refine seqI fun K hK=>?_
    dsimp![fn0,z5o]
    rw[if_pos z]
    exact hK _ _ (fin .c (.n false u o) (.n false o v) _ (md_c u o v) (fun bs a b=>⟨⟨a.1,b⟩,⟨b,a.2⟩⟩) (by simp only[Fm.lv];omega) (by simp only[Fm.lv];omega) (xa _))
   |true=>
    dsimp![fn0,z5m]
    refine hK _ _ ?_
    clear hK K
    refine seqI fun K hK=>?_
    dsimp![fn0,z5l,fn1,fn2]
    rw[if_pos z]
    exact⟨p3,p3,p3,hK _ _ (fin .d (.n true o v) (.n true u o) _ (md_d u o v) (fun bs a b=>⟨⟨b,a.2⟩,⟨a.1,b⟩⟩) (by simp only[Fm.lv];omega) (by simp only[Fm.lv];omega) (xa _))⟩
 ·rw[if_neg z]
  refine hK _ _ ?_
  clear hK K
  refine seqI fun K hK=>?_
  dsimp![true_and]
  rw[if_neg z]
  exact hK _ _ (fin s x y _ hmd hov lx ly (xa _))
def Fit:Int->Int->List Fm->List Rd->Prop
 |a,b,[],ts=>ts=[]/\a=b
 |a,b,f::fs,ts=>∃t ts' k,ts=t::ts'/\t.is a k f/\Fit k b fs ts'
theorem z9q:∀{f1 f2:List Fm}{a b:Int}{ts:List Rd},Fit a b (f1++f2) ts->∃t1 t2 k,ts=t1++t2/\t1.length=f1.length/\Fit a k f1 t1/\Fit k b f2 t2
 |[],f2,a,b,ts,h=>⟨[],ts,a,rfl,rfl,⟨rfl,rfl⟩,h⟩
 |f::f1,f2,a,b,ts,⟨t,ts',k,e,h1,h2⟩=>by
  obtain⟨t1,t2,k',e',l',h3,h4⟩:=z9q h2
  exact⟨t::t1,t2,k',by rw[e,e'];rfl,by simp[l'],⟨t,t1,k,rfl,h1,h3⟩,h4⟩
theorem y0k:∀{f1 f2:List Fm}{a b k:Int}{t1 t2:List Rd},Fit a k f1 t1->Fit k b f2 t2->Fit a b (f1++f2) (t1++t2)
 |[],f2,a,b,k,t1,t2,⟨e1,e2⟩,h=>by subst e1 e2;exact h
 |f::f1,f2,a,b,k,t1,t2,⟨t,ts',k',e,h1,h2⟩,h=>by subst e;exact⟨t,ts'++t2,k',rfl,h1,y0k h2 h⟩
def Uns : List (Nat × Sg) -> List Rd -> Rd -> Prop
 | [], ts, r => ts = [r]
 | (p, s) :: q, ts, r => ∃ t1 u v t2, ts = t1 ++ u :: v :: t2 /\ t1.length = p /\ Uns q (t1 ++ .n s u v :: t2) r
def Grw(goal:Fm)(row:List Fm)(sp:List (Nat×Sg)):Prop:=∀ts a b,Fit a b row ts->∃r,Uns sp.reverse ts r/\r.is a b goal/\r.ws=ts.flatMap Rd.ws
theorem y7s(g:Fm):Grw g [g] []:=by
 rintro ts a b ⟨t,ts',k,e,h1,h2,h3⟩
 subst e h2 h3
 exact⟨t,rfl,h1,by simp⟩
theorem y2y{g f x y:Fm}{f1 f2:List Fm}{sp:List (Nat×Sg)}{s:Sg}(h:Grw g (f1++f::f2) sp)(hm:md x y=some (s.st,f)):Grw g (f1++x::y::f2) (sp++[(f1.length,s)]):=by
 intro ts a b ht
 obtain⟨t1,t2,k,rfl,l1,h1,u,ts',k2,e2,hu,v,ts2,k3,e3,hv,h3⟩:=z9q ht
 subst e2 e3
 obtain⟨r,hr,hi,hw⟩:=h (t1++.n s u v::ts2) a b (y0k h1 ⟨.n s u v,ts2,k3,rfl,⟨k2,x,y,hu,hv,hm⟩,h3⟩)
 refine⟨r,?_,hi,?_⟩
 ·rw[List.reverse_append]
  exact⟨t1,u,v,ts2,rfl,l1,hr⟩
 ·rw[hw];simp[Rd.ws]
def spP(p:Nat×Sg):PV:=.tup [.int (p.1:Nat),.str p.2.st]
def GwnD(sp:Den):Prop:=∀(d b m:Nat)(bs:List Str)(g:Fm)(S:q0h)(E:EK)(Q:VC),DkN d S->S[b]?=some (.lst (bs.map bsP))->bs≠[]->b≠d->g.lv<=2->g.ov bs->1<=m->m<=10->
 (∀(q r:Nat)(row:List Fm)(sl:List (Nat×Sg)) S',Grw g row sl->1<=row.length->row.length<=m->sl.length<=20->(∀f∈row,f.lv<=6/\f.ov bs)->S.length<=q->S.length<=r->S'[q]?=some (.lst (row.map Fm.pv))->S'[r]?=some (.lst (sl.map spP))->DkN d S'->Ex [d] S S'->Q (.tup [.ref q,.ref r]) S')->sp [.ref d,.ref b,g.pv,.int (m:Nat)] S E Q
theorem at5{i:Nat}(h:i<5):∃k:Nat,k<=3/\atI [PV.int 1,PV.int 1,PV.int 1,PV.int 2,PV.int 3] (i:Int)=some (.int (k:Nat)):=by
 rcases(show i=0\/i=1\/i=2\/i=3\/i=4 by omega)with rfl|rfl|rfl|rfl|rfl
 ·exact⟨1,by decide,rfl⟩
 ·exact⟨1,by decide,rfl⟩
 ·exact⟨1,by decide,rfl⟩
 ·exact⟨2,by decide,rfl⟩
 ·exact⟨3,by decide,rfl⟩
theorem x1v{sd sf ss:Den}(hd:z0i sd)(hf:∀m,m<=3->FmlD sf m)(hs:SplD ss):GwnD (fnP 4 10 (q3u sd sf ss)):=by
 intro d b m bs g S E Q dk hb hw ne hg hgo hm1 hm h
 have p1:1<=sizeLine:=big (by decide)
 have p2:2<=sizeLine:=big (by decide)
 have p5:5<=sizeLine:=big (by decide)
 have lb:=q0u hb
 have ld:=dk.lt
 refine⟨rfl,?_⟩
 unfold q3u
 refine seqI fun K hK=>?_
 dsimp![true_and]
 refine⟨p1,hK _ _ ?_⟩
 clear hK K
 refine seqI fun K hK=>?_
 dsimp![true_and]
 refine⟨Nat.zero_le _,hK _ _ ?_⟩
 clear hK K
 have g0:=q1a (q0t S (.lst [g.pv])) [SO.lst []]
 have g1:=q0t (S++[SO.lst [g.pv]]) (.lst [])
 have b1:=q1a (q1a hb [SO.lst [g.pv]]) [SO.lst []]
 have x1:Ex [d,S.length,S.length+1] S (S++[SO.lst [g.pv]]++[SO.lst []]):=(Ex.new _ S _).app _
 have d1:DkN d (S++[SO.lst [g.pv]]++[SO.lst []]):=dk.ex ((Ex.new [] S _).app _) (by simp)
 have dl:(S++[SO.lst [g.pv]]).length=S.length+1:=by simp
 rw[dl]at g1 ⊢
 generalize S++[SO.lst [g.pv]]++[SO.lst []]=S1 at g0 g1 b1 x1 d1 ⊢
 refine seqI fun K hK=>?_
 dsimp![true_and]
 refine⟨y4p (by decide) (by decide),⟨by omega,by omega⟩,?_⟩
 rw[show(2*(m:Int)).toNat=2*m by omega]
 refine forR (2*m) (fun i σ S2=>∃(q:Nat)(row:List Fm)(sl:List (Nat×Sg))(j6 j7 j8 j9:Option PV),σ=[some (.ref d),some (.ref b),some g.pv,some (.int (m:Nat)),some (.ref q),some (.ref (S.length+1)),j6,j7,j8,j9]/\Grw g row sl/\1<=row.length/\row.length<=m/\sl.length<=i/\(∀f∈row,f.lv<=6/\f.ov bs)/\(S.length<=q/\q≠S.length+1)/\S2[q]?=some (.lst (row.map Fm.pv))/\S2[S.length+1]?=some (.lst (sl.map spP))/\S2[b]?=some (.lst (bs.map bsP))/\DkN d S2/\Ex [d,S.length+1] S S2) ?_ ?_ _ _ ⟨S.length,[g],[],none,none,none,none,rfl,y7s g,Nat.le_refl _,hm1,Nat.le_refl _,fun f hf=>by rw[List.mem_singleton]at hf;subst hf;exact⟨by omega,hgo⟩,⟨Nat.le_refl _,by omega⟩,g0,g1,b1,d1,⟨x1.1,fun i hi hn=>x1.2 i hi fun z=>hn (by simp only[List.mem_cons,List.not_mem_nil,or_false]at z ⊢;omega)⟩⟩
 ·rintro σ S2 ⟨q,row,sl,j6,j7,j8,j9,rfl,a1,a2,a3,a4,a5,a6,a7,a8,a9,a10,a11⟩
  refine⟨trivial,hK _ _ ?_⟩
  dsimp![true_and]
  refine⟨p2,h q (S.length+1) row sl S2 a1 a2 a3 (by omega) a5 a6.1 (by omega) a7 a8 a10 ⟨a11.1,fun i hi hn=>a11.2 i hi fun z=>?_⟩⟩
  simp only[List.mem_cons,List.not_mem_nil,or_false]at z hn
  omega
 ·rintro i hi σ S2 ⟨q,row,sl,j6,j7,j8,j9,rfl,a1,a2,a3,a4,a5,a6,a7,a8,a9,a10,a11⟩ N hN
  refine⟨trivial,?_⟩
  have lq:=q0u a7
  dsimp![q0q a7,List.length_map]
  refine ite2 (fun z=>?_) (fun z=>hN _ _ ⟨q,row,sl,_,_,_,_,rfl,a1,a2,a3,by omega,a5,a6,a7,a8,a9,a10,a11⟩)
  refine seqI fun K2 hK2=>?_
  dsimp![q0q a7,List.length_map]
  refine hd d row.length _ _ _ (by omega) a10 fun p S3 hp d3 x3=>hK2 _ _ ?_
  clear hK2
  have nq:q≠d:=by omega
  have ns:S.length+1≠d:=by omega
  refine seqI fun K2 hK2=>?_
  dsimp![true_and]
  refine⟨p5,?_⟩
  have x3':Ex [d] S2 (S3++[SO.lst [PV.int 1,PV.int 1,PV.int 1,PV.int 2,PV.int 3]]):=x3.app _
  have l3:=q0t S3 (SO.lst [PV.int 1,PV.int 1,PV.int 1,PV.int 2,PV.int 3])
  have n3:S3.length≠d:=by have:=d3.lt;omega
  have d3':=d3.ex (Ex.new [] S3 [SO.lst [PV.int 1,PV.int 1,PV.int 1,PV.int 2,PV.int 3]]) (by simp)
  generalize S3++[SO.lst [PV.int 1,PV.int 1,PV.int 1,PV.int 2,PV.int 3]]=S3' at x3' l3 d3' ⊢
  refine hd d 5 _ _ _ (by decide) d3' fun p5' S4 hp5 d4 x4=>?_
  have x24:=x3'.trans x4
  have l4:=x4.get l3 (by simp;exact n3)
  obtain⟨k,hk,ek⟩:=at5 hp5
  dsimp![l4,ek]
  have b4:=x24.get a9 (by simp;exact ne)
  refine hf k hk d b bs _ _ _ d4 b4 hw ne fun o S5 lo oo d5 x5=>hK2 _ _ ?_
  clear hK2
  have x25:=x24.trans x5
  have k7:=x25.get a7 (by simp;exact nq)
  refine seqI fun K2 hK2=>?_
  have ep:atI (row.map Fm.pv) (p:Int)=some (row[p].pv):=by rw[q2g _ p (by simpa using hp)];simp
  dsimp![k7,ep]
  refine hd d 4 _ _ _ (by decide) d5 fun w S6 hw6 d6 x6=>?_
  have x26:=x25.trans x6
  obtain⟨fl,fo⟩:=a5 row[p] (List.getElem_mem hp)
  have e1:row=row.take p++row[p]::row.drop (p+1):=by simp
  refine hs row[p] o w _ _ _ fl (by omega) hw6 (fun S7 x7=>hK2 _ _ ?_) fun s x y S7 hmd lx ly hov x7=>hK2 _ _ ?_
  ·have x27:=x26.trans x7.nil
   dsimp![true_and]
   exact hN _ _ ⟨q,row,sl,_,_,_,_,rfl,a1,a2,a3,by omega,a5,a6,x27.get a7 (by simp;exact nq),x27.get a8 (by simp;exact ns),x27.get a9 (by simp;exact ne),d6.ex x7 (by simp),a11.trans (x27.weak (by simp))⟩
  ·clear hK2
   have x27:=x26.trans x7.nil
   have m7:=x27.get a7 (by simp;exact nq)
   have m8:=x27.get a8 (by simp;exact ns)
   have m9:=x27.get a9 (by simp;exact ne)
   have d7:=d6.ex x7 (by simp)
   have x07:=a11.trans (x27.weak (D':=[d,S.length+1]) (by simp))
   dsimp![true_and]
   refine seqI fun K2 hK2=>?_
   have pl:p<=(row.map Fm.pv).length:=by simp;omega
   have pl1:p+1<=(row.map Fm.pv).length:=by simp;omega
   have e2:cutP (row.map Fm.pv) none (some (p:Int))=(row.map Fm.pv).take p:=y0a _ _ pl
   have e3:cutP (row.map Fm.pv) (some ((p:Int)+1)) none=(row.map Fm.pv).drop (p+1):=z3u _ _ pl1
   have c1:=q1a (q0t S7 (SO.lst ((row.map Fm.pv).take p))) [SO.lst [x.pv,y.pv]]
   have c2:=q1a (q1a (q1a m7 [SO.lst ((row.map Fm.pv).take p)]) [SO.lst [x.pv,y.pv]]) [SO.lst ((row.map Fm.pv).take p++[x.pv,y.pv])]
   have c3:=q1a (q0t (S7++[SO.lst ((row.map Fm.pv).take p)]++[SO.lst [x.pv,y.pv]]) (SO.lst ((row.map Fm.pv).take p++[x.pv,y.pv]))) [SO.lst ((row.map Fm.pv).drop (p+1))]
   dsimp![q0q m7,e2,e3,i3_1,i3_2]
   refine⟨p2,?_⟩
   simp only[q1i c1,q0q c2,e3,q1i c3]
   have tl:((row.map Fm.pv).take p).length=p:=by rw[List.length_take];omega
   have dl2:((row.map Fm.pv).drop (p+1)).length=row.length-(p+1):=by rw[List.length_drop,List.length_map]
   refine⟨big (by rw[tl];simp;omega),big (by rw[List.length_append,tl,dl2];simp;omega),hK2 _ _ ?_⟩
   clear hK2
   have en:(row.map Fm.pv).take p++[x.pv,y.pv]++(row.map Fm.pv).drop (p+1)=(row.take p++x::y::row.drop (p+1)).map Fm.pv:=by simp
   rw[en]
   have x8:Ex [] S7 (S7++[SO.lst ((row.map Fm.pv).take p)]++[SO.lst [x.pv,y.pv]]++[SO.lst ((row.map Fm.pv).take p++[x.pv,y.pv])]++[SO.lst ((row.map Fm.pv).drop (p+1))]):=(((Ex.new _ _ _).app _).app _).app _
   generalize S7++[SO.lst ((row.map Fm.pv).take p)]++[SO.lst [x.pv,y.pv]]++[SO.lst ((row.map Fm.pv).take p++[x.pv,y.pv])]++[SO.lst ((row.map Fm.pv).drop (p+1))]=S8 at x8 ⊢
   have g9:=q0t S8 (SO.lst ((row.take p++x::y::row.drop (p+1)).map Fm.pv))
   have x9:Ex [] S7 (S8++[SO.lst ((row.take p++x::y::row.drop (p+1)).map Fm.pv)]):=x8.app _
   have l8:S7.length<=S8.length:=x8.1
   generalize S8++[SO.lst ((row.take p++x::y::row.drop (p+1)).map Fm.pv)]=S9 at g9 x9 ⊢
   generalize S8.length=q' at g9 l8 ⊢
   have n8:=x9.get m8 (by simp)
   have l7:=q0u m8
   dsimp![n8,q1i n8,i3_0]
   rw[e1]at a1
   have st:=y2y a1 hmd
   rw[show(row.take p).length=p by rw[List.length_take];omega]at st
   refine⟨p2,bigl (by simp;omega),hN _ _ ⟨q',row.take p++x::y::row.drop (p+1),sl++[(p,s)],_,_,_,_,rfl,st,by simp;omega,by simp;omega,by simp;omega,fun f hf'=>?_,⟨by omega,by omega⟩,q1z _ g9 (by omega),?_,q1z _ (x9.get m9 (by simp)) (by omega),(d7.ex x9 (by simp)).ex ((Ex.refl [S.length+1] _).set (.inl (by simp))) (by simp;omega),(x07.trans x9.nil).set (.inl (by simp))⟩⟩
   ·simp only[List.mem_append,List.mem_cons]at hf'
    rcases hf' with z1|rfl|rfl|z1
    ·exact a5 f (List.mem_of_mem_take z1)
    ·exact⟨lx,(hov bs fo oo).1⟩
    ·exact⟨ly,(hov bs fo oo).2⟩
    ·exact a5 f (List.mem_of_mem_drop z1)
   ·rw[q2f _ n8];simp[spP]
def RgD(sp:Den):Prop:=∀(q r:Nat)(g:Fm)(row:List Fm)(sl:List (Nat×Sg))(S:q0h)(E:EK)(Q:VC),Grw g row sl->1<=row.length->row.length<=10->sl.length<=20->S[q]?=some (.lst (row.map Fm.pv))->S[r]?=some (.lst (sl.map spP))->
 (∀(t:Rd) S',t.is 0 (row.length:Nat) g->t.ws=row.zipIdx.map (fun p=>((p.2:Int),p.1))->Ex [] S S'->Q t.pv S')->sp [.ref q,.ref r] S E Q
def wrd(p:Fm×Nat):Rd:=.w (p.2:Int) p.1
theorem z9p:∀(row:List Fm)(k:Nat),Fit (k:Int) ((k+row.length:Nat):Int) row ((row.zipIdx k).map wrd)
 |[],k=>⟨rfl,by simp⟩
 |f::row,k=>by
  have:=z9p row (k+1)
  rw[show((k+1+row.length:Nat):Int)=((k+(f::row).length:Nat):Int) by simp;omega]at this
  exact⟨.w (k:Int) f,(row.zipIdx (k+1)).map wrd,((k+1:Nat):Int),by simp[wrd],⟨rfl,by simp,rfl⟩,this⟩
theorem y8j(row:List Fm)(k:Nat):((row.zipIdx k).map wrd).flatMap Rd.ws=(row.zipIdx k).map (fun p=>((p.2:Int),p.1)):=by
 induction row.zipIdx k with
 |nil=>rfl
 |cons a l ih=>rw[List.map_cons,List.flatMap_cons,ih];rfl
theorem y8y:RgD (fnP 2 5 q3a):=by
 intro q r g row sl S E Q hg h1 h10 hsl hq hr h
 obtain⟨t,hu,hi,hw⟩:=hg (row.zipIdx.map wrd) 0 ((0+row.length:Nat):Int) (z9p row 0)
 rw[y8j]at hw
 rw[Nat.zero_add]at hi
 have p1:1<=sizeLine:=big (by decide)
 have p3:3<=sizeLine:=big (by decide)
 refine⟨rfl,?_⟩
 unfold q3a
 refine seqI fun K hK=>?_
 dsimp![q0q hq,List.length_map]
 refine⟨⟨by omega,by omega⟩,?_⟩
 rw[Int.toNat_natCast]
 refine⟨by rw[z3a];exact big (by omega),?_⟩
 refine y8a row.length (fun i ys σ S1=>S1=S/\(∃j0:Option PV,σ=[j0,some (.ref q)])/\ys=((row.zipIdx.take i).map wrd).map Rd.pv) ?_ ?_ _ _ ⟨rfl,⟨none,rfl⟩,by simp⟩
 ·rintro ys σ S1 ⟨rfl,⟨j0,rfl⟩,rfl⟩
  rw[List.take_of_length_le (by simp)]
  refine⟨trivial,hK _ _ ?_⟩
  clear hK
  have g1:=q0t S1 (SO.lst ((row.zipIdx.map wrd).map Rd.pv))
  have r1:=q1a hr [SO.lst ((row.zipIdx.map wrd).map Rd.pv)]
  have x1:Ex [] S1 (S1++[SO.lst ((row.zipIdx.map wrd).map Rd.pv)]):=Ex.new _ _ _
  have tl:(row.zipIdx.map wrd).length<=10:=by simp;omega
  generalize row.zipIdx.map wrd=ts at hu g1 r1 x1 tl ⊢
  generalize S1++[SO.lst (ts.map Rd.pv)]=S2 at g1 r1 x1 ⊢
  refine seqI fun K hK=>?_
  dsimp![q1i r1]
  have g2:=q0t S2 (SO.lst ((sl.map spP).reverse))
  have k2:=q1a g1 [SO.lst ((sl.map spP).reverse)]
  have x2:Ex [] S1 (S2++[SO.lst ((sl.map spP).reverse)]):=x1.app _
  rw[<-List.map_reverse]at g2 k2 x2 ⊢
  generalize S2++[SO.lst (sl.reverse.map spP)]=S3 at g2 k2 x2 ⊢
  generalize S2.length=r2 at g2 ⊢
  refine forI (fun rest σ S4=>∃(todo:List (Nat×Sg))(us:List Rd)(n:Nat)(j3 j4:Option PV),rest=todo.map spP/\Uns todo us t/\us.length<=10/\σ=[some (.ref q),some (.ref r),some (.ref n),j3,j4]/\S4[n]?=some (.lst (us.map Rd.pv))/\S4[r2]?=some (.lst (sl.reverse.map spP))/\Ex [] S1 S4) ?_ ?_ _ _ _ ⟨sl.reverse,ts,S1.length,none,none,rfl,hu,tl,rfl,k2,g2,x2⟩
  ·rintro σ S4 ⟨todo,us,n,j3,j4,e1,a1,a2,rfl,a3,a4,a5⟩
   obtain rfl:=List.map_eq_nil_iff.mp e1.symm
   have a1':us=[t]:=a1
   subst a1'
   refine⟨q0q a4,hK _ _ ?_⟩
   dsimp![a3,q2m]
   exact h t S4 hi hw a5
  ·rintro x rest σ S4 ⟨todo,us,n,j3,j4,e1,a1,a2,rfl,a3,a4,a5⟩ N hN
   cases todo with
   |nil=>cases e1
   |cons p todo=>
    cases e1
    obtain⟨p,s⟩:=p
    obtain⟨t1,u,v,t2,rfl,rfl,a1⟩:=a1
    refine⟨q0q a4,?_⟩
    simp only[List.length_append,List.length_cons]at a2
    have tm:(t1++u::v::t2).map Rd.pv=t1.map Rd.pv++u.pv::v.pv::t2.map Rd.pv:=by simp
    have e2:cutP ((t1++u::v::t2).map Rd.pv) none (some (t1.length:Int))=t1.map Rd.pv:=by rw[y0a _ _ (by simp),tm,List.take_left' (by simp)]
    have e3:cutP ((t1++u::v::t2).map Rd.pv) (some ((t1.length:Int)+2)) none=t2.map Rd.pv:=by
     refine(z3u ((t1++u::v::t2).map Rd.pv) (t1.length+2) (by simp)).trans ?_
     rw[tm,show t1.map Rd.pv++u.pv::v.pv::t2.map Rd.pv=(t1.map Rd.pv++[u.pv,v.pv])++t2.map Rd.pv by simp,List.drop_left' (by simp)]
    have e4:atI ((t1++u::v::t2).map Rd.pv) (t1.length:Int)=some u.pv:=by rw[q2g _ _ (by simp)];simp
    have e5:atI ((t1++u::v::t2).map Rd.pv) ((t1.length:Int)+1)=some v.pv:=by
     refine(q2g ((t1++u::v::t2).map Rd.pv) (t1.length+1) (by simp)).trans ?_
     simp
    have c0:=q1a a3 [SO.lst (t1.map Rd.pv)]
    have c1:=q1a (q0t S4 (SO.lst (t1.map Rd.pv))) [SO.lst [(Rd.n s u v).pv]]
    have c2:=q1a (q1a c0 [SO.lst [(Rd.n s u v).pv]]) [SO.lst (t1.map Rd.pv++[(Rd.n s u v).pv])]
    have c3:=q1a (q0t (S4++[SO.lst (t1.map Rd.pv)]++[SO.lst [(Rd.n s u v).pv]]) (SO.lst (t1.map Rd.pv++[(Rd.n s u v).pv]))) [SO.lst (t2.map Rd.pv)]
    have rn:PV.tup [.str s.st,u.pv,v.pv]=(Rd.n s u v).pv:=rfl
    dsimp![spP,q0q a3,e2,e3,c0,e4,e5,rn,q1i c1,q0q c2,q1i c3]
    refine⟨p3,p1,big (by simp;omega),big (by simp;omega),hN _ _ ⟨todo,t1++.n s u v::t2,_,_,_,rfl,a1,by simp;omega,rfl,?_,q1a (q1a (q1a (q1a (q1a a4 _) _) _) _) _,((((a5.app _).app _).app _).app _).app _⟩⟩
    rw[q0t];simp
 ·rintro i hi2 ys σ S1 ⟨rfl,⟨j0,rfl⟩,rfl⟩ N hN
  refine⟨trivial,?_⟩
  have ea:atI (row.map Fm.pv) (i:Int)=some row[i].pv:=by rw[q2g _ i (by simpa using hi2)];simp
  dsimp![hq,ea]
  refine⟨p3,hN _ _ _ ⟨rfl,⟨_,rfl⟩,?_⟩⟩
  rw[List.take_succ_eq_append_getElem (by simpa using hi2)]
  simp[wrd,Rd.pv,z2z]
def TrnD(sp:Den):Prop:=∀(d q:Nat)(xs:List PV)(S:q0h)(E:EK)(Q:VC),DkN d S->S[q]?=some (.lst xs)->(∀x∈xs,okP 190 x)->xs.length<=100->q≠d->
 (∀(r:Nat)(ys:List PV) S',ys.Perm xs->S.length<=r->S'[r]?=some (.lst ys)->DkN d S'->Ex [d] S S'->Q (.ref r) S')->sp [.ref d,.ref q] S E Q
theorem q8z{α:Type}:∀{l:List α}{i:Nat}(h:i<l.length),(l[i]::l.eraseIdx i).Perm l
 |a::l,0,_=>by simp
 |a::l,i+1,h=>by
  have:=q8z (l:=l) (i:=i) (by simpa using h)
  simp only[List.getElem_cons_succ,List.eraseIdx_cons_succ]
  exact(List.Perm.swap _ _ _).trans (this.cons a)
theorem y8n{sd:Den}(hd:z0i sd):TrnD (fnP 2 4 (q4g sd)):=by
 intro d q xs S E Q dk hq hok hl nq h
 have ld:=dk.lt
 refine⟨rfl,?_⟩
 unfold q4g
 refine seqI fun K hK=>?_
 dsimp![q0q hq]
 refine hK _ _ ?_
 clear hK K
 refine seqI fun K hK=>?_
 dsimp![true_and]
 refine⟨Nat.zero_le _,hK _ _ ?_⟩
 clear hK K
 have g0:=q1a (q0t S (.lst xs)) [SO.lst []]
 have g1:=q0t (S++[SO.lst xs]) (.lst [])
 have x1:Ex [d,S.length,S.length+1] S (S++[SO.lst xs]++[SO.lst []]):=(Ex.new _ S _).app _
 have d1:DkN d (S++[SO.lst xs]++[SO.lst []]):=dk.ex ((Ex.new [] S _).app _) (by simp)
 have dl:(S++[SO.lst xs]).length=S.length+1:=by simp
 rw[dl]at g1 ⊢
 generalize S++[SO.lst xs]++[SO.lst []]=S1 at g0 g1 x1 d1 ⊢
 refine seqI fun K hK=>?_
 refine z6u (fun m σ S2=>σ=[some (.ref d),some (.ref q),some (.ref S.length),some (.ref (S.length+1))]/\∃(ys zs:List PV),S2[S.length]?=some (.lst ys)/\S2[S.length+1]?=some (.lst zs)/\(zs++ys).Perm xs/\m=ys.length/\DkN d S2/\Ex [d,S.length,S.length+1] S S2) xs.length ⟨rfl,xs,[],g0,g1,List.Perm.refl _,rfl,d1,x1⟩ ?_
 rintro m σ S2 ⟨rfl,ys,zs,a1,a2,a3,rfl,a4,a5⟩ T F hT hF
 have a1':=q1a a1 [SO.lst []]
 have oy:q3x ys:=q5w fun x hx=>hok x (a3.mem_iff.mp (by simp[hx]))
 have zl:=a3.length_eq
 rw[List.length_append]at zl
 dsimp![q0q a1']
 refine⟨Nat.zero_le _,oy,?_⟩
 have x3:Ex [d,S.length,S.length+1] S (S2++[SO.lst []]):=a5.app _
 have d3:=a4.ex (Ex.new [] S2 [SO.lst []]) (by simp)
 have a2':=q1a a2 [SO.lst []]
 generalize S2++[SO.lst []]=S3 at a1' a2' x3 d3 ⊢
 cases ys with
 |nil=>
  rw[if_neg (by simp[eqBs])]
  refine hF _ (hK _ _ ?_)
  dsimp![true_and]
  rw[List.append_nil]at a3
  refine h (S.length+1) zs S3 a3 (by omega) a2' d3 ⟨x3.1,fun i hi hn=>x3.2 i hi fun z=>?_⟩
  simp only[List.mem_cons,List.not_mem_nil,or_false]at z hn
  omega
 |cons y ys=>
  rw[if_pos (by simp[eqBs])]
  refine hT _ fun N hN=>?_
  generalize hys:y::ys=us at *
  have ul:1<=us.length:=by rw[<-hys];simp
  dsimp![a1',a2',q0q a1']
  refine hd d us.length _ _ _ ul d3 fun p S4 hp d4 x4=>?_
  have k1:=x4.get a1' (by simp;omega)
  have k2:=x4.get a2' (by simp;omega)
  have k2':=q1z (.lst (us.eraseIdx p)) k2 (j:=S.length) (by omega)
  dsimp![k1,q1i k1,y7i hp,List.getElem?_eq_getElem hp,q1i k2']
  refine⟨⟨by omega,by omega⟩,bigl (by omega),hN (us.eraseIdx p).length _ _ (by rw[List.length_eraseIdx_of_lt hp];omega) ⟨rfl,us.eraseIdx p,zs++[us[p]],q1z _ (q2f _ k1) (by omega),q2f _ k2',?_,rfl,(d4.ex ((Ex.refl [S.length] _).set (.inl (by simp))) (by simp;omega)).ex ((Ex.refl [S.length+1] _).set (.inl (by simp))) (by simp;omega),((x3.trans (x4.weak (by simp))).set (.inl (by simp))).set (.inl (by simp))⟩⟩
  rw[List.append_assoc]
  exact((q8z hp).append_left zs).trans a3
abbrev Ent:=List (Str×Nat×List Fm)
def kvE(e:Str×Nat×List Fm):Key×PV:=(.inr e.1,.ref e.2.1)
theorem y3u{w:Str}:∀{ent:Ent},w∉ent.map (·.1)->valP (ent.map kvE) (.inr w)=none
 |[],_=>rfl
 |e::ent,h=>by
  rw[List.map_cons,List.mem_cons,not_or]at h
  rw[List.map_cons,z0r,if_neg (by simp only[kvE,Sum.inr.injEq];exact fun z=>h.1 z.symm)]
  exact y3u h.2
theorem z2v{e:Str×Nat×List Fm}:∀{ent:Ent},(ent.map (·.1)).Nodup->e∈ent->valP (ent.map kvE) (.inr e.1)=some (.ref e.2.1)
 |x::ent,nd,h=>by
  rw[List.map_cons,List.nodup_cons]at nd
  rw[List.map_cons,z0r]
  rcases List.mem_cons.mp h with rfl|h
  ·rw[if_pos (show(kvE e).1=Sum.inr e.1 from rfl)];rfl
  ·rw[if_neg (by simp only[kvE,Sum.inr.injEq];exact fun z=>nd.1 (List.mem_map.mpr ⟨e,h,z.symm⟩))]
   exact z2v nd.2 h
theorem y9e{w:Str}{n:Nat}{ent:Ent}(h:w∉ent.map (·.1)):putP (ent.map kvE) (.inr w) (.ref n)=(ent++[(w,n,[])]).map kvE:=by
 unfold putP
 rw[if_neg]
 ·rw[List.map_append];rfl
 ·intro z
  obtain⟨y,hy,e⟩:=List.any_eq_true.mp z
  obtain⟨x,hx,rfl⟩:=List.mem_map.mp hy
  simp only[kvE,decide_eq_true_eq,Sum.inr.injEq]at e
  exact h (List.mem_map.mpr ⟨x,hx,e⟩)
structure FD(lo fd:Nat)(bs:List Str)(ent:Ent)(S:q0h):Prop where
 dic:S[fd]?=some (.dK (ent.map kvE))\/S[fd]?=some (.dF (ent.map kvE))
 nd:(ent.map (·.1)).Nodup
 rf:(fd::ent.map (·.2.1)).Nodup
 lst:∀e∈ent,S[e.2.1]?=some (.lst (e.2.2.map Fm.pv))
 lo1:lo<=fd
 lo2:∀e∈ent,lo<=e.2.1
 ok:∀e∈ent,q2j e.1=true/\e.2.2.length<=5/\e.2.2.Nodup/\∀f∈e.2.2,f.lv<=6/\f.ov bs
theorem FD.ex{lo fd:Nat}{bs:List Str}{ent:Ent}{S S':q0h}{D:List Nat}(h:FD lo fd bs ent S)(x:Ex D S S')(hD:∀i∈D,i<lo\/S.length<=i):FD lo fd bs ent S':=by
 have nn:∀i,lo<=i->i<S.length->i∉D:=fun i h1 h2 z=>by have:=hD i z;omega
 refine⟨?_,h.nd,h.rf,fun e he=>x.get (h.lst e he) (nn _ (h.lo2 e he) (q0u (h.lst e he))),h.lo1,h.lo2,h.ok⟩
 rcases h.dic with z|z
 ·exact .inl (x.get z (nn _ h.lo1 (q0u z)))
 ·exact .inr (x.get z (nn _ h.lo1 (q0u z)))
theorem FD.lt{lo fd:Nat}{bs:List Str}{ent:Ent}{S:q0h}(h:FD lo fd bs ent S):fd<S.length:=by rcases h.dic with z|z<;>exact q0u z
def tot(ent:Ent):Nat:=(ent.map fun e=>e.2.2.length).sum
theorem y5i(a b:Ent):tot (a++b)=tot a+tot b:=by simp[tot]
theorem FD.more{lo fd n:Nat}{bs:List Str}{a b:Ent}{w:Str}{fs:List Fm}{f:Fm}{S:q0h}(h:FD lo fd bs (a++(w,n,fs)::b) S)(h5:fs.length<=4)(hf:f∉fs)(lv:f.lv<=6)(ov:f.ov bs):FD lo fd bs (a++(w,n,fs++[f])::b) (S.set n (.lst ((fs++[f]).map Fm.pv))):=by
 have hn:S[n]?=some (.lst (fs.map Fm.pv)):=h.lst (w,n,fs) (by simp)
 have hk:(a++(w,n,fs++[f])::b).map kvE=(a++(w,n,fs)::b).map kvE:=by simp[kvE]
 have hr:=h.rf
 have ne:n≠fd:=by
  rintro rfl
  rw[List.nodup_cons]at hr
  exact hr.1 (by simp)
 have ne2:∀e,e∈a\/e∈b->n≠e.2.1:=fun e he z=>by
  rw[List.nodup_cons,List.map_append,List.map_cons]at hr
  have r2:=hr.2
  rw[List.nodup_append]at r2
  obtain⟨_,r4,r5⟩:=r2
  rcases he with he|he
  ·exact r5 e.2.1 (List.mem_map.mpr ⟨e,he,rfl⟩) n (by simp) z.symm
  ·rw[List.nodup_cons]at r4
   exact r4.1 (List.mem_map.mpr ⟨e,he,z.symm⟩)
 have old:∀e,e∈a\/e∈b->e∈a++(w,n,fs)::b:=fun e he=>by
  rcases he with he|he<;>simp[he]
 have sp:∀e,e∈a++(w,n,fs++[f])::b->(e∈a\/e∈b)\/e=(w,n,fs++[f]):=fun e he=>by
  simp only[List.mem_append,List.mem_cons]at he
  rcases he with he|he|he
  ·exact .inl (.inl he)
  ·exact .inr he
  ·exact .inl (.inr he)
 refine⟨?_,by simpa using h.nd,by simpa using h.rf,fun e he=>?_,h.lo1,fun e he=>?_,fun e he=>?_⟩
 ·rw[hk]
  rcases h.dic with z|z
  ·exact .inl (q1z _ z ne)
  ·exact .inr (q1z _ z ne)
 ·rcases sp e he with z|rfl
  ·exact q1z _ (h.lst e (old e z)) (ne2 e z)
  ·exact q2f _ hn
 ·rcases sp e he with z|rfl
  ·exact h.lo2 e (old e z)
  ·exact h.lo2 (w,n,fs) (by simp)
 ·rcases sp e he with z|rfl
  ·exact h.ok e (old e z)
  ·obtain⟨o1,o2,o3,o4⟩:=h.ok (w,n,fs) (by simp)
   refine⟨o1,by simp;omega,?_,fun g hg=>?_⟩
   ·rw[List.nodup_append]
    exact⟨o3,by simp,fun x hx y hy e=>by rw[List.mem_singleton]at hy;subst hy;subst e;exact hf hx⟩
   ·rcases List.mem_append.mp hg with z|z
    ·exact o4 g z
    ·rw[List.mem_singleton]at z;subst z;exact⟨lv,ov⟩
theorem FD.word{lo fd n:Nat}{bs:List Str}{ent:Ent}{w:Str}{S:q0h}(h:FD lo fd bs ent S)(hd:S[fd]?=some (.dK (ent.map kvE)))(hw:w∉ent.map (·.1))(hn:S[n]?=some (.lst []))(hlo:lo<=n)(hfr:n≠fd/\∀e∈ent,n≠e.2.1)(nb:q2j w=true):FD lo fd bs (ent++[(w,n,[])]) (S.set fd (.dK ((ent++[(w,n,[])]).map kvE))):=by
 have hr:=h.rf
 rw[List.nodup_cons]at hr
 have ne:∀e∈ent,fd≠e.2.1:=fun e he z=>hr.1 (List.mem_map.mpr ⟨e,he,z.symm⟩)
 refine⟨.inl (q2f _ hd),?_,?_,fun e he=>?_,h.lo1,fun e he=>?_,fun e he=>?_⟩
 ·rw[List.map_append,List.nodup_append]
  exact⟨h.nd,by simp,fun x hx y hy e=>by simp at hy;subst hy;subst e;exact hw hx⟩
 ·rw[List.nodup_cons,List.map_append,List.mem_append,List.nodup_append]
  refine⟨fun z=>?_,hr.2,by simp,fun x hx y hy e=>?_⟩
  ·rcases z with z|z
   ·exact hr.1 z
   ·simp at z;exact hfr.1 z.symm
  ·simp at hy
   subst hy;subst e
   obtain⟨e,he,z⟩:=List.mem_map.mp hx
   exact hfr.2 e he z.symm
 ·rcases List.mem_append.mp he with z|z
  ·exact q1z _ (h.lst e z) (ne e z)
  ·rw[List.mem_singleton]at z;subst z
   exact q1z _ hn (Ne.symm hfr.1)
 ·rcases List.mem_append.mp he with z|z
  ·exact h.lo2 e z
  ·rw[List.mem_singleton]at z;subst z;exact hlo
 ·rcases List.mem_append.mp he with z|z
  ·exact h.ok e z
  ·rw[List.mem_singleton]at z;subst z
   exact⟨nb,by simp,List.nodup_nil,by simp⟩
theorem z5e(fs:List Fm)(f:Fm):((fs.map Fm.pv).any fun y=>eqB y f.pv)=decide (f∈fs):=by
 rw[List.any_map,Bool.eq_iff_iff,List.any_eq_true,decide_eq_true_eq]
 constructor
 ·rintro⟨x,hx,e⟩
  have e':eqB x.pv f.pv=true:=e
  rw[z2c,decide_eq_true_eq]at e'
  rw[<-e'];exact hx
 ·intro h
  exact⟨f,h,by show eqB f.pv f.pv=true;rw[z2c];simp⟩
theorem q5x{fs:List Fm}(h:∀f∈fs,f.lv<=100):q3x (fs.map Fm.pv):=q5w fun x hx=>by
 obtain⟨f,hf,rfl⟩:=List.mem_map.mp hx
 exact y4h (by have:=h f hf;have:=f.dp_lv;omega)
theorem q7r{f:Fm}(h:f.lv<=100):okEq f.pv:=z3e (by have:=f.dp_lv;omega)
theorem y0h{f:Fm}{fs:List Fm}{n:Nat}{S:q0h}{Q:VC}(hf:f.lv<=100)(hfs:∀g∈fs,g.lv<=100)(hn:S[n]?=some (.lst (fs.map Fm.pv)))(h:Q (.bl (!decide (f∈fs))) S):q4o f.pv (.ref n) S Q:=by
 obtain⟨xs,e⟩:=f.pv_tup
 have:=z5e fs f
 have ok:=q7r hf
 rw[e]at this ok ⊢
 rw[z4z,q0q hn]
 exact⟨⟨ok,q5x hfs⟩,by rw[this];exact h⟩
structure Sen(ws:List Str)(row:List Fm)(ent:Ent):Prop where
 len:ws.length=row.length
 has:∀(k:Nat)(f:Fm),row[k]?=some f->∃w,ws[k]?=some w/\∃e∈ent,e.1=w/\f∈e.2.2
 key:∀w∈ws,w∈ent.map (·.1)
 key2:∀e∈ent,e.1∈ws
def SnD(sp:Den):Prop:=∀(d q:Nat)(bs:List Str)(row:List Fm)(S:q0h)(E:EK)(Q:VC),DkN d S->S[q]?=some (.lst (row.map Fm.pv))->q≠d->1<=row.length->row.length<=10->(∀f∈row,f.lv<=6/\f.ov bs)->
 (∀(fd:Nat)(ws:List Str)(ent:Ent) S',FD S.length fd bs ent S'->S'[fd]?=some (.dK (ent.map kvE))->Sen ws row ent->tot ent<=row.length->(∀w∈ws,q2j w=true)->DkN d S'->Ex [d] S S'->Q (.tup [.tup (ws.map PV.str),.ref fd]) S')->sp [.ref d,.ref q] S E Q
theorem z2d{ent:Ent}{e:Str×Nat×List Fm}(h:e∈ent):∃a b,ent=a++e::b:=List.append_of_mem h
theorem FD.val{lo fd:Nat}{bs:List Str}{ent:Ent}{S:q0h}(h:FD lo fd bs ent S)(w:Str):(∃e∈ent,e.1=w/\valP (ent.map kvE) (.inr w)=some (.ref e.2.1))\/(w∉ent.map (·.1)/\valP (ent.map kvE) (.inr w)=none):=by
 by_cases z:w∈ent.map (·.1)
 ·obtain⟨e,he,rfl⟩:=List.mem_map.mp z
  exact .inl ⟨e,he,rfl,z2v h.nd he⟩
 ·exact .inr ⟨z,y3u z⟩
theorem FD.ex2{lo fd:Nat}{bs:List Str}{ent:Ent}{S S':q0h}{D:List Nat}(h:FD lo fd bs ent S)(x:Ex D S S')(h1:fd∉D)(h2:∀e∈ent,e.2.1∉D):FD lo fd bs ent S':=by
 refine⟨?_,h.nd,h.rf,fun e he=>x.get (h.lst e he) (h2 e he),h.lo1,h.lo2,h.ok⟩
 rcases h.dic with z|z
 ·exact .inl (x.get z h1)
 ·exact .inr (x.get z h1)
theorem Sen.step{ws:List Str}{row:List Fm}{i:Nat}{ent ent':Ent}{w:Str}(h:Sen ws (row.take i) ent)(hi:i<row.length)(hg:∀e∈ent,∃e'∈ent',e'.1=e.1/\∀f∈e.2.2,f∈e'.2.2)(hw:∃e'∈ent',e'.1=w/\row[i]∈e'.2.2)(hk:∀e'∈ent',e'.1=w\/∃e∈ent,e.1=e'.1):Sen (ws++[w]) (row.take (i+1)) ent':=by
 have wl:ws.length=i:=by rw[h.len,List.length_take];omega
 refine⟨by simp[wl];omega,fun k f hf=>?_,fun v hv=>?_,fun e he=>?_⟩
 ·by_cases z:k<i
  ·have:(row.take i)[k]?=some f:=by rw[List.getElem?_take_of_lt z];rwa [List.getElem?_take_of_lt (by omega)]at hf
   obtain⟨v,h1,e,he,h2,h3⟩:=h.has k f this
   obtain⟨e',he',g1,g2⟩:=hg e he
   exact⟨v,by rw[List.getElem?_append_left (by omega)];exact h1,e',he',g1.trans h2,g2 f h3⟩
  ·have hk1:k<i+1:=by
    have:=(List.getElem?_eq_some_iff.mp hf).1
    rw[List.length_take]at this
    omega
   obtain rfl:k=i:=by omega
   rw[List.getElem?_take_of_lt hk1,List.getElem?_eq_getElem hi]at hf
   cases hf
   exact⟨w,by rw[List.getElem?_append_right (by omega),wl];simp,hw⟩
 ·rcases List.mem_append.mp hv with z|z
  ·obtain⟨e,he,rfl⟩:=List.mem_map.mp (h.key v z)
   obtain⟨e',he',g1,_⟩:=hg e he
   exact List.mem_map.mpr ⟨e',he',g1⟩
  ·rw[List.mem_singleton]at z;subst z
   obtain⟨e',he',g1,_⟩:=hw
   exact List.mem_map.mpr ⟨e',he',g1⟩
 ·rcases hk e he with z|⟨e0,he0,z⟩
  ·simp[z]
  ·have:=h.key2 e0 he0
   rw[z]at this
   simp[this]
theorem q6b:∀{ent:Ent}{e e':Str×Nat×List Fm},(ent.map (·.1)).Nodup->e∈ent->e'∈ent->e'.1=e.1->e'=e
 |x::ent,e,e',nd,h,h',q=>by
  rw[List.map_cons,List.nodup_cons]at nd
  rcases List.mem_cons.mp h with z1|z1<;>rcases List.mem_cons.mp h' with z2|z2
  ·rw[z1,z2]
  ·exact absurd (List.mem_map.mpr ⟨e',z2,by rw[q,z1]⟩) nd.1
  ·exact absurd (List.mem_map.mpr ⟨e,z1,by rw[<-q,z2]⟩) nd.1
  ·exact q6b nd.2 z1 z2 q
theorem x3k{sn sd:Den}(hn:NmsD sn)(hd:z0i sd):SnD (fnP 2 10 (q2q sn sd)):=by
 intro d q bs row S E Q dk hq nq h1 h10 hrow h
 have p3:3<=sizeLine:=big (by decide)
 have p2:2<=sizeLine:=big (by decide)
 have ld:=dk.lt
 have lq:=q0u hq
 have hr100:∀f∈row,f.lv<=100:=fun f hf=>by have:=(hrow f hf).1;omega
 refine⟨rfl,?_⟩
 unfold q2q
 refine seqI fun K hK=>?_
 dsimp![q0q hq,List.length_map]
 refine⟨Nat.zero_le _,hn d S.length row.length [] _ _ _ (dk.ex (Ex.new [] S [SO.lst []]) (by simp)) (q0t _ _) (by simp) (by omega) (by omega) fun nq' ns S1 nl nnd nok ln gn d1 x1=>hK _ _ ?_⟩
 clear hK K
 have q1:=x1.get (q1a hq [SO.lst []]) (by simp;exact nq)
 have x01:Ex [d] S S1:=(Ex.new [d] S _).trans x1
 simp only[List.length_append,List.length_cons,List.length_nil]at ln
 refine seqI fun K hK=>?_
 dsimp![true_and]
 refine hd d 3 _ _ _ (by decide) d1 fun way S2 hway d2 x2=>hK _ _ ?_
 clear hK K
 have q2:=x2.get q1 (by simp;exact nq)
 have n2:=x2.get gn (by simp;omega)
 have x02:=x01.trans x2
 refine seqI fun K hK=>?_
 dsimp![true_and]
 refine hK _ _ ?_
 clear hK K
 refine seqI fun K hK=>?_
 dsimp![true_and]
 refine⟨Nat.zero_le _,hK _ _ ?_⟩
 clear hK K
 have dl:(S2++[SO.dK []]).length=S2.length+1:=by simp
 have f3:=q1a (q0t S2 (SO.dK [])) [SO.lst []]
 have w3:=q0t (S2++[SO.dK []]) (SO.lst [])
 have q3:=q1a (q1a q2 [SO.dK []]) [SO.lst []]
 have n3:=q1a (q1a n2 [SO.dK []]) [SO.lst []]
 have d3:DkN d (S2++[SO.dK []]++[SO.lst []]):=d2.ex ((Ex.new [] S2 _).app _) (by simp)
 have x03:Ex [d] S (S2++[SO.dK []]++[SO.lst []]):=(x02.app _).app _
 have l2:=x02.1
 have l2':=q0u n2
 rw[dl]at w3 ⊢
 generalize S2++[SO.dK []]++[SO.lst []]=S3 at f3 w3 q3 n3 d3 x03 ⊢
 generalize hfd:S2.length=fd at f3 w3 l2 l2' ⊢
 have l3:=q0u w3
 refine seqI fun K hK=>?_
 dsimp![q0q q3,List.length_map]
 refine⟨⟨by omega,by omega⟩,?_⟩
 rw[Int.toNat_natCast]
 refine forR row.length (fun i σ S4=>∃(ws:List Str)(ent:Ent)(j6 j7 j8 j9:Option PV),σ=[some (.ref d),some (.ref q),some (.ref nq'),some (.int (way:Nat)),some (.ref fd),some (.ref (fd+1)),j6,j7,j8,j9]/\S4[fd]?=some (.dK (ent.map kvE))/\FD fd fd bs ent S4/\(∀e∈ent,e.2.1≠fd+1)/\S4[fd+1]?=some (.lst (ws.map PV.str))/\Sen ws (row.take i) ent/\tot ent<=i/\ent.length<=i/\(∀w∈ws,q2j w=true)/\S4[q]?=some (.lst (row.map Fm.pv))/\S4[nq']?=some (.lst (ns.map PV.str))/\DkN d S4/\Ex [d] S S4) ?_ ?_ _ _ ⟨[],[],none,none,none,none,rfl,f3,⟨.inl f3,by simp,by simp,by simp,Nat.le_refl _,by simp,by simp⟩,by simp,w3,⟨by simp,by simp,by simp,by simp⟩,by simp[tot],by simp,by simp,q3,n3,d3,x03⟩
 ·rintro σ S4 ⟨ws,ent,j6,j7,j8,j9,rfl,a1,a2,a3,a4,a5,a6,a7,a8,a9,a10,a11,a12⟩
  refine⟨trivial,hK _ _ ?_⟩
  rw[List.take_length]at a5
  dsimp![q0q a4]
  refine⟨p2,h fd ws ent S4 ⟨a2.dic,a2.nd,a2.rf,a2.lst,l2,fun e he=>Nat.le_trans l2 (a2.lo2 e he),a2.ok⟩ a1 a5 a6 a8 a11 a12⟩
 ·rintro i hi σ S4 ⟨ws,ent,j6,j7,j8,j9,rfl,a1,a2,a3,a4,a5,a6,a7,a8,a9,a10,a11,a12⟩ N hN
  refine⟨trivial,?_⟩
  dsimp![true_and]
  have hfi:=hrow row[i] (List.getElem_mem hi)
  have e6:atI (row.map Fm.pv) (i:Int)=some row[i].pv:=by rw[q2g _ i (by simpa using hi)];simp
  refine seqI fun K2 hK2=>?_
  dsimp![q0q a9,List.length_map]
  refine hd d row.length _ _ _ h1 a11 fun r1 S5 hr1 d5 x5=>?_
  have k9:=x5.get a9 (by simp;exact nq)
  dsimp![q0q k9,List.length_map,z9s]
  refine⟨_,_,rfl,?_⟩
  obtain⟨m2,hm2,hm21,hm22⟩:∃m2:Nat,(if((row.length:Nat):Int)<2 then((row.length:Nat):Int)else 2)=(m2:Int)/\1<=m2/\m2<=row.length:=by
   by_cases z:((row.length:Nat):Int)<2
   ·exact⟨row.length,by rw[if_pos z],h1,Nat.le_refl _⟩
   ·exact⟨2,by rw[if_neg z];rfl,by decide,by omega⟩
  rw[hm2]
  refine hd d m2 _ _ _ hm21 d5 fun r2 S6 hr2 d6 x6=>⟨p3,?_⟩
  have x46:=x5.trans x6
  obtain⟨p,hp,ep⟩:∃p:Nat,p<row.length/\atI [PV.int (i:Nat),PV.int (r1:Nat),PV.int (r2:Nat)] (way:Int)=some (.int (p:Nat)):=by
   rcases(show way=0\/way=1\/way=2 by omega)with rfl|rfl|rfl
   ·exact⟨i,hi,rfl⟩
   ·exact⟨r1,hr1,rfl⟩
   ·exact⟨r2,by omega,rfl⟩
  have y6:=q0t S6 (SO.lst [PV.int (i:Nat),PV.int (r1:Nat),PV.int (r2:Nat)])
  dsimp![ep]
  have x47:Ex [d] S4 (S6++[SO.lst [PV.int (i:Nat),PV.int (r1:Nat),PV.int (r2:Nat)]]):=x46.app _
  have d7:=d6.ex (Ex.new [] S6 [SO.lst [PV.int (i:Nat),PV.int (r1:Nat),PV.int (r2:Nat)]]) (by simp)
  generalize S6++[SO.lst [PV.int (i:Nat),PV.int (r1:Nat),PV.int (r2:Nat)]]=S7 at x47 d7 ⊢
  refine hK2 _ _ ?_
  clear hK2
  have c1:=x47.get a1 (by simp;omega)
  have c2:=a2.ex x47 (by simp;omega)
  have c4:=x47.get a4 (by simp;omega)
  have c9:=x47.get a9 (by simp;exact nq)
  have c10:=x47.get a10 (by simp;omega)
  have x07:=a12.trans x47
  have l7:=q0u c4
  clear a1 a2 a4 a9 a10 a11 a12 x47 x46 x5 x6 d5 d6 k9 y6
  refine seqI fun K2 hK2=>?_
  have en:atI (ns.map PV.str) (p:Int)=some (.str ns[p]):=by rw[q2g _ p (by simp;omega)];simp
  dsimp![c10,en]
  refine hK2 _ _ ?_
  clear hK2
  have last:∀(w:Str)(S8:q0h),q2j w=true->(∀e∈ent,e.1=w->e.2.2.length<=4\/row[i]∈e.2.2)->S8[fd]?=some (.dK (ent.map kvE))->FD fd fd bs ent S8->S8[fd+1]?=some (.lst (ws.map PV.str))->S8[q]?=some (.lst (row.map Fm.pv))->S8[nq']?=some (.lst (ns.map PV.str))->DkN d S8->Ex [d] S S8->fd+1<S8.length->
    (wSeq (q3v (wBM "list" q1t (wVar 5) (q0d (wVar 8) wNil)))
 (wSeq (wSet 9 (wBM "dict" q7w (wVar 4) (q0d (wVar 8) (q0d (wLst wNil) wNil))))
 (wIfS (q1d (wBin q4o (wBin bIx (wVar 1) (wVar 6)) (wVar 9)))
 (q3v (wBM "list" q1t (wVar 9) (q0d (wBin bIx (wVar 1) (wVar 6)) wNil)))
 q1k))) {nx:=N,rt:=Q,bk:=K,ct:=N} E [some (.ref d),some (.ref q),some (.ref nq'),some (.int (way:Nat)),some (.ref fd),some (.ref (fd+1)),some (.int (i:Nat)),some (.int (p:Nat)),some (.str w),j9] S8:=by
   intro w S8 nw hw4 b1 b2 b4 b9 b10 b11 b12 lt8
   have wl:ws.length=i:=by rw[a5.len,List.length_take];omega
   refine seqI fun K3 hK3=>?_
   dsimp![b4,q1i b4]
   refine⟨bigl (by simp;omega),hK3 _ _ ?_⟩
   clear hK3
   rw[show ws.map PV.str++[PV.str w]=(ws++[w]).map PV.str by simp]
   have x9:Ex [fd+1] S8 (S8.set (fd+1) (.lst ((ws++[w]).map PV.str))):=(Ex.refl _ _).set (.inl (by simp))
   have g4:=q2f (.lst ((ws++[w]).map PV.str)) b4
   generalize S8.set (fd+1) (.lst ((ws++[w]).map PV.str))=S9 at x9 g4 ⊢
   have x9':Ex [d] S S9:=⟨Nat.le_trans b12.1 x9.1,fun j hj hn=>by rw[x9.2 j (Nat.lt_of_lt_of_le hj b12.1) (by simp;omega)];exact b12.2 j hj hn⟩
   have g1:=x9.get b1 (by simp)
   have g2:=b2.ex2 x9 (by simp) fun e he=>by simp;exact a3 e he
   have g9:=x9.get b9 (by simp;omega)
   have g10:=x9.get b10 (by simp;omega)
   have g11:=b11.ex x9 (by simp;omega)
   have lt9:fd+1<S9.length:=by have:=x9.1;omega
   clear b1 b2 b4 b9 b10 b11 b12 x9
   have nws:∀v∈ws++[w],q2j v=true:=fun v hv=>by
    rcases List.mem_append.mp hv with z|z
    ·exact a8 v z
    ·rw[List.mem_singleton]at z;subst z;exact nw
   have x10:Ex [] S9 (S9++[SO.lst []]):=Ex.new _ _ _
   have y10:=q0t S9 (SO.lst [])
   have k1:=x10.get g1 (by simp)
   have k2:=g2.ex2 x10 (by simp) (by simp)
   have k4:=x10.get g4 (by simp)
   have k9:=x10.get g9 (by simp)
   have k10:=x10.get g10 (by simp)
   have k11:=g11.ex x10 (by simp)
   have x010:Ex [d] S (S9++[SO.lst []]):=x9'.app _
   refine seqI fun K3 hK3=>?_
   dsimp![g1]
   refine⟨Nat.zero_le _,?_⟩
   generalize S9++[SO.lst []]=S10 at x10 y10 k1 k2 k4 k9 k10 k11 x010 ⊢
   refine⟨fd,_,_,_,.inr w,rfl,rfl,k1,rfl,bigl (by simp;omega),fun v hv=>hK3 _ _ ?_,fun hv=>hK3 _ _ ?_⟩
   ·clear hK3
    rcases k2.val w with⟨e,he,ew,e1⟩|⟨z,e1⟩
    ·rw[e1]at hv
     cases hv
     obtain⟨o1,o2,o3,o4⟩:=k2.ok e he
     have l1:=k2.lst e he
     dsimp![k9,e6,q0q l1,z5e,l1,q1i l1]
     refine⟨⟨q7r (hr100 _ (List.getElem_mem hi)),q5x fun g hg=>by have:=(o4 g hg).1;omega⟩,?_⟩
     by_cases z:row[i]∈e.2.2
     ·rw[if_neg (fun y=>y z)]
      exact hN _ _ ⟨ws++[w],ent,_,_,_,_,rfl,k1,k2,a3,k4,a5.step hi (fun e0 he0=>⟨e0,he0,rfl,fun f hf=>hf⟩) ⟨e,he,ew,z⟩ (fun e0 he0=>.inr ⟨e0,he0,rfl⟩),by omega,by omega,nws,k9,k10,k11,x010⟩
     ·rw[if_pos z]
      obtain⟨ea,eb,rfl⟩:=z2d he
      obtain⟨ew',en',ef⟩:=e
      have h4:ef.length<=4:=by
       rcases hw4 _ he ew with y|y
       ·exact y
       ·exact absurd y z
      have k2':=k2.more h4 z hfi.1 hfi.2
      have ln':fd<=en':=k2.lo2 (ew',en',ef) (by simp)
      have nef:en'≠fd:=by
       rintro rfl
       have:=k2.rf
       rw[List.nodup_cons]at this
       exact this.1 (by simp)
      have ne1:en'≠fd+1:=a3 (ew',en',ef) (by simp)
      dsimp only
      rw[show ef.map Fm.pv++[row[i].pv]=(ef++[row[i]]).map Fm.pv by simp]
      refine⟨bigl (by simp;omega),hN _ _ ⟨ws++[w],ea++(ew',en',ef++[row[i]])::eb,_,_,_,_,rfl,?_,k2',?_,q1z _ k4 ne1,a5.step hi ?_ ⟨(ew',en',ef++[row[i]]),by simp,ew,by simp⟩ ?_,?_,?_,nws,q1z _ k9 (by omega),q1z _ k10 (by omega),k11.ex ((Ex.refl [en'] _).set (.inl (by simp))) (by simp;omega),?_⟩⟩
      ·rw[q1z _ k1 nef];simp[kvE]
      ·intro e0 he0
       simp only[List.mem_append,List.mem_cons]at he0
       rcases he0 with y|rfl|y
       ·exact a3 e0 (by simp[y])
       ·exact ne1
       ·exact a3 e0 (by simp[y])
      ·intro e0 he0
       simp only[List.mem_append,List.mem_cons]at he0
       rcases he0 with y|rfl|y
       ·exact⟨e0,by simp[y],rfl,fun f hf=>hf⟩
       ·exact⟨(ew',en',ef++[row[i]]),by simp,rfl,fun f hf=>by simp[hf]⟩
       ·exact⟨e0,by simp[y],rfl,fun f hf=>hf⟩
      ·intro e0 he0
       simp only[List.mem_append,List.mem_cons]at he0
       rcases he0 with y|rfl|y
       ·exact .inr ⟨e0,by simp[y],rfl⟩
       ·exact .inr ⟨(ew',en',ef),by simp,rfl⟩
       ·exact .inr ⟨e0,by simp[y],rfl⟩
      ·simp[tot]at a6 ⊢;omega
      ·simp at a7 ⊢;omega
      ·exact x010.set (.inr (by omega))
    ·rw[e1]at hv;cases hv
   ·clear hK3
    have hwn:w∉ent.map (·.1):=by
     rcases k2.val w with⟨e,he,ew,e1⟩|⟨z,e1⟩
     ·rw[e1]at hv;cases hv
     ·exact z
    rw[y9e hwn]
    have fresh:∀e∈ent,S9.length≠e.2.1:=fun e he z=>by have:=q0u (g2.lst e he);omega
    have k2':=k2.word k1 hwn y10 (by omega) ⟨by omega,fresh⟩ nw
    have nl:S9.length≠fd:=by omega
    have k1':=q2f (.dK ((ent++[(w,S9.length,[])]).map kvE)) k1
    have y10':=q1z (.dK ((ent++[(w,S9.length,[])]).map kvE)) y10 (j:=fd) (by omega)
    have k4':=q1z (.dK ((ent++[(w,S9.length,[])]).map kvE)) k4 (j:=fd) (by omega)
    have k9':=q1z (.dK ((ent++[(w,S9.length,[])]).map kvE)) k9 (j:=fd) (by omega)
    have k10':=q1z (.dK ((ent++[(w,S9.length,[])]).map kvE)) k10 (j:=fd) (by omega)
    have xs11:Ex [fd] S10 (S10.set fd (.dK ((ent++[(w,S9.length,[])]).map kvE))):=(Ex.refl _ _).set (.inl (by simp))
    have k11':=k11.ex xs11 (by simp;omega)
    clear xs11
    have x011:Ex [d] S (S10.set fd (.dK ((ent++[(w,S9.length,[])]).map kvE))):=x010.set (.inr (by omega))
    generalize S10.set fd (.dK ((ent++[(w,S9.length,[])]).map kvE))=S11 at k2' k1' y10' k4' k9' k10' k11' x011 ⊢
    generalize S9.length=n9 at *
    dsimp![k9',e6,q0q y10',List.any_nil,y10',q1i y10']
    refine⟨q7r (hr100 _ (List.getElem_mem hi)),?_⟩
    have k3':=k2'.more (a:=ent) (b:=[]) (f:=row[i]) (by simp) (by simp) hfi.1 hfi.2
    refine⟨bigl (by simp),hN _ _ ⟨ws++[w],ent++[(w,n9,[row[i]])],_,_,_,_,rfl,?_,k3',?_,q1z _ k4' (by omega),a5.step hi ?_ ⟨(w,n9,[row[i]]),by simp,rfl,by simp⟩ ?_,?_,by simp;omega,nws,q1z _ k9' (by omega),q1z _ k10' (by omega),k11'.ex ((Ex.refl [n9] _).set (.inl (by simp))) (by simp;omega),x011.set (.inr (by omega))⟩⟩
    ·rw[q1z _ k1' (by omega)];simp[kvE]
    ·intro e0 he0
     rcases List.mem_append.mp he0 with y|y
     ·exact a3 e0 y
     ·rw[List.mem_singleton]at y;subst y;show n9≠fd+1;omega
    ·intro e0 he0
     exact⟨e0,by simp[he0],rfl,fun f hf=>hf⟩
    ·intro e0 he0
     rcases List.mem_append.mp he0 with y|y
     ·exact .inr ⟨e0,y,rfl⟩
     ·rw[List.mem_singleton]at y;subst y;exact .inl rfl
    ·rw[y5i];simp[tot]at a6 ⊢;omega
  refine seqI fun K2 hK2=>?_
  have x8:Ex [] S7 (S7++[SO.lst []]):=Ex.new _ _ _
  have y8:=q0t S7 (SO.lst [])
  have m1:=x8.get c1 (by simp)
  have m2:=c2.ex2 x8 (by simp) (by simp)
  have m4:=x8.get c4 (by simp)
  have m9:=x8.get c9 (by simp)
  have m10:=x8.get c10 (by simp)
  have m11:=d7.ex x8 (by simp)
  have x08:Ex [d] S (S7++[SO.lst []]):=x07.app _
  have l8:fd+1<(S7++[SO.lst []]).length:=q0u m4
  have pn:q2j ns[p]=true:=(nok ns[p] (List.getElem_mem (by omega))).1
  dsimp![c1]
  refine⟨Nat.zero_le _,?_⟩
  generalize S7++[SO.lst []]=S8 at x8 y8 m1 m2 m4 m9 m10 m11 x08 l8 ⊢
  refine⟨fd,_,_,_,.inr ns[p],rfl,rfl,.inl m1,rfl,?_⟩
  rcases m2.val ns[p]with⟨e,he,ew,e1⟩|⟨z,e1⟩
  ·have l1:=m2.lst e he
   obtain⟨o1,o2,o3,o4⟩:=m2.ok e he
   rw[e1]
   dsimp![Option.getD_some,q0q l1,List.length_map]
   refine ite2 (fun z=>?_) (fun z=>hK2 _ _ ?_)
   ·dsimp![m9,e6]
    refine⟨fd,_,_,_,rfl,.inl m1,rfl,e1,?_⟩
    refine y0h (hr100 _ (List.getElem_mem hi)) (fun g hg=>by have:=(o4 g hg).1;omega) l1 ?_
    by_cases z2:row[i]∈e.2.2
    ·rw[decide_eq_true z2]
     dsimp![true_and]
     refine hK2 _ _ (last ns[p] S8 pn (fun e' he' ee=>.inr ?_) m1 m2 m4 m9 m10 m11 x08 l8)
     rw[q6b m2.nd he he' (ee.trans ew.symm)];exact z2
    ·rw[decide_eq_false z2]
     dsimp![q0q m10]
     refine⟨big (by simp;omega),?_⟩
     refine z6j PV.str ns (fun a ys σ S9=>∃(us:List Str)(j0:Option PV),σ=[j0,some (.ref fd)]/\ys=us.map PV.str/\us.length<=a.length/\(∀u∈us,u∈ns/\∀e∈ent,e.1=u->e.2.2.length<=4)/\(∀u∈a,u∉ent.map (·.1)->us≠[])/\Ex [] S8 S9) ?_ ?_ _ _ ⟨[],none,rfl,rfl,Nat.le_refl _,by simp,by simp,Ex.refl _ _⟩
     ·rintro ys σ S9 ⟨us,j0,rfl,rfl,b1,b2,b3,b4⟩
      refine⟨q0q (b4.get m10 (by simp)),?_⟩
      have ne:us≠[]:=fun z3=>by
       have all:∀u∈ns,u∈ent.map (·.1):=fun u hu=>Classical.byContradiction fun y=>b3 u hu y z3
       have:=q7c nnd all
       rw[List.length_map]at this
       omega
      cases us with
      |nil=>exact absurd rfl ne
      |cons u us=>
       obtain⟨u1,u2⟩:=b2 u (by simp)
       have y9:=q0t S9 (SO.lst ((u::us).map PV.str))
       have x9:Ex [] S8 (S9++[SO.lst ((u::us).map PV.str)]):=b4.app _
       have n1:=x9.get m1 (by simp)
       have n2':=m2.ex2 x9 (by simp) (by simp)
       have n4:=x9.get m4 (by simp)
       have n9:=x9.get m9 (by simp)
       have n10:=x9.get m10 (by simp)
       have n11:=m11.ex x9 (by simp)
       have x09:=x08.trans x9.nil
       have ll:=Nat.lt_of_lt_of_le l8 x9.1
       simp only[List.map_cons]at y9 x9 n1 n2' n4 n9 n10 n11 x09 ll ⊢
       generalize S9++[SO.lst (PV.str u::us.map PV.str)]=S10 at y9 n1 n2' n4 n9 n10 n11 x09 ll ⊢
       dsimp![y9,q2m]
       exact hK2 _ _ (last u S10 (nok u u1).1 (fun e' he' ee=>.inl (u2 e' he' ee)) n1 n2' n4 n9 n10 n11 x09 ll)
     ·rintro a u bb eab ys σ S9 ⟨us,j0,rfl,rfl,b1,b2,b3,b4⟩ N2 hN2
      refine⟨q0q (b4.get m10 (by simp)),?_⟩
      have n1:=b4.get m1 (by simp)
      have n1':=q1a n1 [SO.lst []]
      have un:u∈ns:=by rw[eab];simp
      have n2':=m2.ex2 (b4.app [SO.lst []]) (by simp) (by simp)
      have y9:=q0t S9 (SO.lst [])
      dsimp![n1]
      refine⟨Nat.zero_le _,fd,_,_,_,.inr u,rfl,rfl,.inl n1',rfl,?_⟩
      have b4':Ex [] S8 (S9++[SO.lst []]):=b4.app _
      generalize S9++[SO.lst []]=S10 at n1' n2' y9 b4' ⊢
      rcases n2'.val u with⟨e0,he0,ew0,e10⟩|⟨z0,e10⟩
      ·have l10:=n2'.lst e0 he0
       rw[e10]
       dsimp![Option.getD_some,q0q l10,List.length_map]
       refine ite2 (fun y=>hN2 _ _ _ ⟨us++[u],_,rfl,by simp,by simp;omega,fun v hv=>?_,fun v hv _=>by simp,b4'⟩) (fun y=>hN2 _ _ _ ⟨us,_,rfl,rfl,by simp;omega,b2,fun v hv hk=>?_,b4'⟩)
       ·rcases List.mem_append.mp hv with w1|w1
        ·exact b2 v w1
        ·rw[List.mem_singleton]at w1;subst w1
         exact⟨un,fun e' he' ee=>by rw[q6b n2'.nd he0 he' (ee.trans ew0.symm)];omega⟩
       ·rcases List.mem_append.mp hv with w1|w1
        ·exact b3 v w1 hk
        ·rw[List.mem_singleton]at w1;subst w1
         exact absurd (List.mem_map.mpr ⟨e0,he0,ew0⟩) hk
      ·rw[e10]
       dsimp![Option.getD_none,q0q y9]
       rw[if_pos (by simp)]
       refine hN2 _ _ _ ⟨us++[u],_,rfl,by simp,by simp;omega,fun v hv=>?_,fun v hv _=>by simp,b4'⟩
       rcases List.mem_append.mp hv with w1|w1
       ·exact b2 v w1
       ·rw[List.mem_singleton]at w1;subst w1
        exact⟨un,fun e' he' ee=>absurd (List.mem_map.mpr ⟨e',he',ee⟩) z0⟩
   ·refine last ns[p] S8 pn (fun e' he' ee=>.inl ?_) m1 m2 m4 m9 m10 m11 x08 l8
    rw[q6b m2.nd he he' (ee.trans ew.symm)];omega
  ·rw[e1]
   dsimp![Option.getD_none,q0q y8]
   rw[if_neg (by simp)]
   exact hK2 _ _ (last ns[p] S8 pn (fun e' he' ee=>absurd (List.mem_map.mpr ⟨e',he',ee⟩) z) m1 m2 m4 m9 m10 m11 x08 l8)
def Grws(ent ent':Ent):Prop:=(∀e∈ent,∃e'∈ent',e'.1=e.1/\∀f∈e.2.2,f∈e'.2.2)/\∀e'∈ent',∃e∈ent,e.1=e'.1
theorem Grws.refl(ent:Ent):Grws ent ent:=⟨fun e he=>⟨e,he,rfl,fun f hf=>hf⟩,fun e he=>⟨e,he,rfl⟩⟩
theorem Grws.trans{a b c:Ent}(h:Grws a b)(k:Grws b c):Grws a c:=by
 refine⟨fun e he=>?_,fun e he=>?_⟩
 ·obtain⟨e1,h1,q1,f1⟩:=h.1 e he
  obtain⟨e2,h2,q2,f2⟩:=k.1 e1 h1
  exact⟨e2,h2,q2.trans q1,fun f hf=>f2 f (f1 f hf)⟩
 ·obtain⟨e1,h1,q1⟩:=k.2 e he
  obtain⟨e2,h2,q2⟩:=h.2 e1 h1
  exact⟨e2,h2,q2.trans q1⟩
theorem z9l(a b:Ent)(w:Str)(n:Nat)(fs:List Fm)(f:Fm):Grws (a++(w,n,fs)::b) (a++(w,n,fs++[f])::b):=by
 refine⟨fun e he=>?_,fun e he=>?_⟩<;>simp only[List.mem_append,List.mem_cons]at he<;>rcases he with y|rfl|y
 ·exact⟨e,by simp[y],rfl,fun f hf=>hf⟩
 ·exact⟨(w,n,fs++[f]),by simp,rfl,fun f hf=>by simp[hf]⟩
 ·exact⟨e,by simp[y],rfl,fun f hf=>hf⟩
 ·exact⟨e,by simp[y],rfl⟩
 ·exact⟨(w,n,fs),by simp,rfl⟩
 ·exact⟨e,by simp[y],rfl⟩
theorem Sen.grow{ws:List Str}{row:List Fm}{ent ent':Ent}(h:Sen ws row ent)(g:Grws ent ent'):Sen ws row ent':=by
 refine⟨h.len,fun k f hf=>?_,fun w hw=>?_,fun e he=>?_⟩
 ·obtain⟨w,h1,e,he,h2,h3⟩:=h.has k f hf
  obtain⟨e',he',g1,g2⟩:=g.1 e he
  exact⟨w,h1,e',he',g1.trans h2,g2 f h3⟩
 ·obtain⟨e,he,rfl⟩:=List.mem_map.mp (h.key w hw)
  obtain⟨e',he',g1,_⟩:=g.1 e he
  exact List.mem_map.mpr ⟨e',he',g1⟩
 ·obtain⟨e0,he0,q⟩:=g.2 e he
  have:=h.key2 e0 he0
  rwa [q]at this
def FurD(sp:Den):Prop:=∀(d b q fd:Nat)(bs:List Str)(row:List Fm)(ws:List Str)(ent:Ent)(S0 S:q0h)(E:EK)(Q:VC),DkN d S->d<S0.length->S[b]?=some (.lst (bs.map bsP))->bs≠[]->b≠d->b<S0.length->S[q]?=some (.lst (row.map Fm.pv))->q≠d->q<S0.length->1<=row.length->(∀f∈row,f.lv<=6/\f.ov bs)->FD S0.length fd bs ent S->S[fd]?=some (.dK (ent.map kvE))->1<=ws.length->(∀w∈ws,w∈ent.map (·.1))->Ex [d] S0 S->
 (∀(ent':Ent) S',FD S0.length fd bs ent' S'->S'[fd]?=some (.dK (ent'.map kvE))->Grws ent ent'->tot ent'<=tot ent+12->S'[b]?=some (.lst (bs.map bsP))->DkN d S'->Ex [d] S0 S'->Q .non S')->sp [.ref d,.ref b,.ref q,.tup (ws.map PV.str),.ref fd] S E Q
theorem x1y{sd sf:Den}(hd:z0i sd)(hf:∀m,m<=3->FmlD sf m):FurD (fnP 5 8 (q3c sd sf)):=by
 intro d b q fd bs row ws ent S0 S E Q dk ld hb hw nb lb hq nq lq h1 hrow hfd hdk hws hkey x0 h
 have lf:=hfd.lo1
 refine⟨rfl,?_⟩
 unfold q3c
 dsimp![true_and]
 refine hd d 13 _ _ _ (by decide) dk fun n S1 hn d1 x1=>?_
 dsimp![true_and]
 refine⟨⟨by omega,by omega⟩,?_⟩
 rw[Int.toNat_natCast]
 have D1:∀i∈[d],i<S0.length\/S.length<=i:=by simp;omega
 refine forR n (fun i σ S2=>∃(en:Ent)(j5 j6 j7:Option PV),σ=[some (.ref d),some (.ref b),some (.ref q),some (.tup (ws.map PV.str)),some (.ref fd),j5,j6,j7]/\FD S0.length fd bs en S2/\S2[fd]?=some (.dK (en.map kvE))/\Grws ent en/\tot en<=tot ent+i/\S2[b]?=some (.lst (bs.map bsP))/\S2[q]?=some (.lst (row.map Fm.pv))/\DkN d S2/\Ex [d] S0 S2) ?_ ?_ _ _ ⟨ent,none,none,none,rfl,hfd.ex x1 D1,x1.get hdk (by simp;omega),Grws.refl _,Nat.le_refl _,x1.get hb (by simp;exact nb),x1.get hq (by simp;exact nq),d1,x0.trans x1⟩
 ·rintro σ S2 ⟨en,j5,j6,j7,rfl,a1,a2,a3,a4,a5,a6,a7,a8⟩
  exact⟨trivial,h en S2 a1 a2 a3 (by omega) a5 a7 a8⟩
 ·rintro i hi σ S2 ⟨en,j5,j6,j7,rfl,a1,a2,a3,a4,a5,a6,a7,a8⟩ N hN
  refine⟨trivial,?_⟩
  dsimp![true_and]
  refine seqI fun K hK=>?_
  dsimp![a6,q0q a6,List.length_map]
  refine hd d row.length _ _ _ h1 a7 fun p S3 hp d3 x3=>?_
  have ep:atI (row.map Fm.pv) (p:Int)=some row[p].pv:=by rw[q2g _ p (by simpa using hp)];simp
  have k6:=x3.get a6 (by simp;exact nq)
  dsimp![k6,ep]
  refine hK _ _ ?_
  clear hK
  obtain⟨fl,fo⟩:=hrow row[p] (List.getElem_mem hp)
  have rest:∀(f:Fm)(S4:q0h),f.lv<=6->f.ov bs->DkN d S4->Ex [d] S2 S4->(wSeq (wSet 7 (wBin bIxD (wVar 4) (wBin bIx (wVar 3) (q0y sd (q0d (wVar 0) (q0d (wCB fLen (q0d (wVar 3) wNil)) wNil))))))
 (wIfS (wAnd (q1d (wBin q4o (wVar 6) (wVar 7))) (q1d (wBin cLt (wCB fLen (q0d (wVar 7) wNil)) (wC (.int 5)))))
 (q3v (wBM "list" q1t (wVar 7) (q0d (wVar 6) wNil)))
 q1k)) {nx:=N,rt:=Q,bk:=fun _ S'=>Q .non S',ct:=N} E [some (.ref d),some (.ref b),some (.ref q),some (.tup (ws.map PV.str)),some (.ref fd),some (.int (i:Nat)),some f.pv,j7] S4:=by
   intro f S4 lf1 lf2 d4 x4
   refine seqI fun K hK=>?_
   dsimp![List.length_map]
   refine hd d ws.length _ _ _ hws d4 fun p2 S5 hp2 d5 x5=>?_
   have x25:=x4.trans x5
   have D2:∀i∈[d],i<S0.length\/S2.length<=i:=by simp;omega
   have k1:=a1.ex x25 D2
   have k2:=x25.get a2 (by simp;omega)
   have k5:=x25.get a5 (by simp;exact nb)
   have k6:=x25.get a6 (by simp;exact nq)
   have x05:=a8.trans x25
   have ew:atI (ws.map PV.str) (p2:Int)=some (.str ws[p2]):=by rw[q2g _ p2 (by simpa using hp2)];simp
   dsimp![ew]
   have hin:ws[p2]∈en.map (·.1):=by
    obtain⟨e,he,q1⟩:=List.mem_map.mp (hkey ws[p2] (List.getElem_mem hp2))
    obtain⟨e',he',q2,_⟩:=a3.1 e he
    exact List.mem_map.mpr ⟨e',he',q2.trans q1⟩
   rcases k1.val ws[p2]with⟨e,he,ee,e1⟩|⟨z,_⟩
   ·refine⟨fd,_,_,_,rfl,.inl k2,rfl,e1,hK _ _ ?_⟩
    clear hK
    have l1:=k1.lst e he
    obtain⟨o1,o2,o3,o4⟩:=k1.ok e he
    dsimp![q0q l1,z5e,List.length_map,l1,q1i l1]
    refine⟨⟨q7r (by omega),q5x fun g hg=>by have:=(o4 g hg).1;omega⟩,?_⟩
    have same:N [some (.ref d),some (.ref b),some (.ref q),some (.tup (ws.map PV.str)),some (.ref fd),some (.int (i:Nat)),some f.pv,some (.ref e.2.1)] S5:=hN _ _ ⟨en,_,_,_,rfl,k1,k2,a3,by omega,k5,k6,d5,x05⟩
    refine ite2 (fun z=>ite2 (fun z2=>?_) (fun _=>same)) (fun _=>same)
    clear same
    obtain⟨ea,eb,rfl⟩:=z2d he
    obtain⟨ew',en',ef⟩:=e
    dsimp only at z z2 l1 ⊢
    have k1':=k1.more (by omega) z lf1 lf2
    have ln':S0.length<=en':=k1.lo2 (ew',en',ef) (by simp)
    have nef:en'≠fd:=by
     rintro rfl
     have:=k1.rf
     rw[List.nodup_cons]at this
     exact this.1 (by simp)
    rw[show ef.map Fm.pv++[f.pv]=(ef++[f]).map Fm.pv by simp]
    refine⟨bigl (by omega),hN _ _ ⟨ea++(ew',en',ef++[f])::eb,_,_,_,rfl,k1',?_,a3.trans (z9l _ _ _ _ _ _),?_,q1z _ k5 (by omega),q1z _ k6 (by omega),d5.ex ((Ex.refl [en'] _).set (.inl (by simp))) (by simp;omega),x05.set (.inr ln')⟩⟩
    ·rw[q1z _ k2 nef];simp[kvE]
    ·simp[tot]at a4 ⊢;omega
   ·exact absurd hin z
  refine seqI fun K hK=>?_
  dsimp![true_and]
  refine hd d 2 _ _ _ (by decide) d3 fun r S4 hr d4 x4=>?_
  have x24:=x3.trans x4
  dsimp![true_and]
  refine ite2 (fun z=>?_) (fun z=>hK _ _ (rest row[p] S4 fl fo d4 x24))
  refine hd d 3 _ _ _ (by decide) d4 fun r2 S5 hr2 d5 x5=>?_
  have x25:=x24.trans x5
  dsimp![true_and]
  rw[show(1:Int)+(r2:Int)=((1+r2:Nat):Int) by omega]
  refine hf (1+r2) (by omega) d b bs _ _ _ d5 (x25.get a5 (by simp;exact nb)) hw nb fun f S6 lv ov d6 x6=>hK _ _ (rest f S6 (by omega) ov d6 (x25.trans x6))
def trs(ent:Ent):List (Str×Fm):=ent.flatMap fun e=>e.2.2.map fun f=>(e.1,f)
theorem z7b(a b:Ent):trs (a++b)=trs a++trs b:=by simp[trs]
theorem z7a(a:Ent):(trs a).length=tot a:=by
 induction a with
 |nil=>rfl
 |cons e a ih=>simp only[trs,tot,List.flatMap_cons,List.length_append,List.length_map,List.map_cons,List.sum_cons]at ih ⊢;omega
def nmP(w:Str):PV:=.tup [.str "name",.str w]
def BkD(sp:Den):Prop:=∀(d b fd:Nat)(bs:List Str)(ent:Ent)(S0 S:q0h)(E:EK)(Q:VC),DkN d S->d<S0.length->S[b]?=some (.lst (bs.map bsP))->b≠d->b<S0.length->bs.length<=100->FD S0.length fd bs ent S->S[fd]?=some (.dK (ent.map kvE))->tot ent<=20->ent.length<=100->Ex [d] S0 S->
 (∀(x y:PV)(tr:List ((Str×Fm)×PV)) S',(tr.map (·.1)).Perm (trs ent)->(∀t∈tr,∃w,t.2=nmP w)->FD S0.length fd bs ent S'->S'[b]?=some (.lst (bs.map bsP))->DkN d S'->Ex [d] S0 S'->Q (bkP x y tr) S')->sp [.ref d,.ref b,.ref fd] S E Q
theorem x2s(ks:List Kd)(k:Kd):((ks.map Kd.pv).any fun y=>eqB y k.pv)=decide (k∈ks):=by
 rw[List.any_map,Bool.eq_iff_iff,List.any_eq_true,decide_eq_true_eq]
 constructor
 ·rintro⟨x,hx,e⟩
  have e':eqB x.pv k.pv=true:=e
  rw[q9a,decide_eq_true_eq]at e'
  rw[<-e'];exact hx
 ·intro h
  exact⟨k,h,by show eqB k.pv k.pv=true;rw[q9a];simp⟩
theorem z7v:∀k:Kd,plV k.pv=true
 |.a s=>rfl
 |.p f t=>by simp[Kd.pv,plV,plVs,z7v f,z7v t]
theorem z1f{k:Kd}{n:Nat}(h:k.dp<=n):okP n k.pv:=⟨z7v k,by rw[z4w];exact h⟩
theorem FD.frz{lo fd:Nat}{bs:List Str}{ent:Ent}{S:q0h}(h:FD lo fd bs ent S)(l:fd<S.length):FD lo fd bs ent (S.set fd (.dF (ent.map kvE))):=by
 have hr:=h.rf
 rw[List.nodup_cons]at hr
 exact⟨.inr (List.getElem?_set_self l),h.nd,h.rf,fun e he=>q1z _ (h.lst e he) fun z=>hr.1 (List.mem_map.mpr ⟨e,he,z.symm⟩),h.lo1,h.lo2,h.ok⟩
theorem y4k:∀{l:List Kd}{a:Kd}{i:Nat},l[i]?=some a->l.idxOf a<=i
 |[],a,i,h=>by simp at h
 |x::l,a,0,h=>by simp at h;subst h;simp
 |x::l,a,i+1,h=>by
  have:=y4k (l:=l) (by simpa using h)
  rw[List.idxOf_cons]
  cases x==a<;>simp only[cond_true,cond_false]<;>omega
theorem z4l{α β:Type}(f:α->β){ys zs:List β}(h:ys.Perm zs):∀l:List α,zs=l.map f->∃l':List α,l'.Perm l/\ys=l'.map f:=by
 induction h with
 |nil=>intro l e;exact⟨l,.refl _,e⟩
 |cons x p ih=>
  intro l e
  cases l with
  |nil=>cases e
  |cons a l=>
   simp only[List.map_cons,List.cons.injEq]at e
   obtain⟨l',h1,h2⟩:=ih l e.2
   exact⟨a::l',h1.cons a,by rw[h2,e.1];rfl⟩
 |swap x y l0=>
  intro l e
  cases l with
  |nil=>cases e
  |cons a l=>
   cases l with
   |nil=>cases e
   |cons b l=>
    simp only[List.map_cons,List.cons.injEq]at e
    exact⟨b::a::l,.swap _ _ _,by rw[e.1,e.2.1,e.2.2];rfl⟩
 |trans p q ih1 ih2=>
  intro l e
  obtain⟨l1,h1,h2⟩:=ih2 l e
  obtain⟨l2,h3,h4⟩:=ih1 l1 h2
  exact⟨l2,h3.trans h1,h4⟩
theorem y8k{lo fd:Nat}{bs:List Str}{ent:Ent}{v0 v1 v3 v6 v7 v8:Option PV}{body:WS}{D:PEnds}{E:EK}(P:List (Str×Fm)->q0h->Prop)(hP:∀ps S,P ps S->FD lo fd bs ent S/\S[fd]?=some (.dF (ent.map kvE)))
  (hb:∀a w f b,trs ent=a++(w,f)::b->∀S,P a S->∀(N:Ev.Loc->q0h->Prop)(bk:Ev.Loc->q0h->Prop),(∀S',P (a++[(w,f)]) S'->N [v0,v1,some (.ref fd),v3,some (.str w),some f.pv,v6,v7,v8] S')->body {nx:=N,rt:=D.rt,ct:=N,bk:=bk} E [v0,v1,some (.ref fd),v3,some (.str w),some f.pv,v6,v7,v8] S)
  (hn:∀j4 j5 S,P (trs ent) S->D.nx [v0,v1,some (.ref fd),v3,j4,j5,v6,v7,v8] S) (S:q0h) (h0:S[fd]?=some (.dK (ent.map kvE))\/S[fd]?=some (.dF (ent.map kvE))) (hs:P [] (S.set fd (.dF (ent.map kvE)))) (j4 j5:Option PV) :
  wFor (q8k (wVar 2)) (q1b 4) (wFor (q5k (wBin bIxD (wVar 2) (wVar 4))) (q1b 5) body) D E [v0,v1,some (.ref fd),v3,j4,j5,v6,v7,v8] S:=by
 dsimp![true_and]
 refine⟨fd,_,rfl,h0,?_⟩
 rw[show(ent.map kvE).map (fun p=>keyP p.1)=ent.map (fun e=>PV.str e.1) by rw[List.map_map];rfl]
 refine forM (fun e=>PV.str e.1) ent (fun a σ S1=>∃j4 j5,σ=[v0,v1,some (.ref fd),v3,j4,j5,v6,v7,v8]/\P (trs a) S1) ?_ ?_ _ _ ⟨j4,j5,rfl,hs⟩
 ·rintro σ S1 ⟨j4,j5,rfl,p⟩
  exact⟨(hP _ _ p).2,hn _ _ _ p⟩
 ·rintro a e b hab σ S1 ⟨j4,j5,rfl,p⟩ N hN
  obtain⟨q1,q2⟩:=hP _ _ p
  have he:e∈ent:=by rw[hab];simp
  refine⟨q2,?_⟩
  dsimp![true_and]
  refine⟨fd,_,_,_,rfl,.inr q2,rfl,z2v q1.nd he,?_⟩
  have l1:=q1.lst e he
  dsimp![q0q l1]
  refine forM Fm.pv e.2.2 (fun c σ S2=>∃j5,σ=[v0,v1,some (.ref fd),v3,some (.str e.1),j5,v6,v7,v8]/\P (trs a++c.map fun f=>(e.1,f)) S2) ?_ ?_ _ _ ⟨j5,rfl,by simpa using p⟩
  ·rintro σ S2 ⟨j5,rfl,p2⟩
   refine⟨q0q ((hP _ _ p2).1.lst e he),hN _ _ ⟨_,_,rfl,?_⟩⟩
   rw[z7b]
   simpa[trs]using p2
  ·rintro c f c2 hc σ S2 ⟨j5,rfl,p2⟩ N2 hN2
   refine⟨q0q ((hP _ _ p2).1.lst e he),?_⟩
   dsimp![true_and]
   refine hb (trs a++c.map fun f=>(e.1,f)) e.1 f ((c2.map fun f=>(e.1,f))++trs b) ?_ S2 p2 N2 _ fun S' p'=>hN2 _ _ ⟨_,rfl,?_⟩
   ·rw[hab,z7b,show trs (e::b)=e.2.2.map (fun f=>(e.1,f))++trs b by simp[trs],hc];simp
   ·rw[List.map_append,<-List.append_assoc];exact p'
theorem x5f{sk sn st:Den}(hk:x2x sk 10)(hn:NmsD sn)(ht:TrnD st):BkD (fnP 3 9 (q4l sk sn st)):=by
 intro d b fd bs ent S0 S E Q dk ld hb nb lb hbl hfd hdk ht20 hel x0 h
 have p2:2<=sizeLine:=big (by decide)
 have p3:3<=sizeLine:=big (by decide)
 have lf:=hfd.lo1
 have tl:=z7a ent
 have fdp:∀e∈ent,∀f∈e.2.2,f.dp<=6:=fun e he f hf=>by have:=(hfd.ok e he).2.2.2 f hf;have:=f.dp_lv;omega
 have tdp:∀p∈trs ent,p.2.dp<=6:=fun p hp=>by
  obtain⟨e,he,hp⟩:=List.mem_flatMap.mp hp
  obtain⟨f,hf,rfl⟩:=List.mem_map.mp hp
  exact fdp e he f hf
 refine⟨rfl,?_⟩
 unfold q4l
 refine seqI fun K hK=>?_
 dsimp![true_and]
 refine⟨Nat.zero_le _,hK _ _ ?_⟩
 clear hK K
 have lS:=x0.1
 have hfl:=hfd.lt
 have y1:=q0t S (SO.lst [])
 have x1:Ex [] S (S++[SO.lst []]):=Ex.new _ _ _
 have k1:=hfd.ex2 x1 (by simp) (by simp)
 have k2:=x1.get hdk (by simp)
 have k3:=x1.get hb (by simp)
 have k4:=dk.ex x1 (by simp)
 have x01:=x0.trans x1.nil
 have fresh:∀e∈ent,e.2.1≠S.length:=fun e he z=>by have:=q0u (hfd.lst e he);omega
 generalize S++[SO.lst []]=S1 at y1 k1 k2 k3 k4 x01 ⊢
 generalize hkq:S.length=kq at y1 fresh lS hfl ⊢
 refine seqI fun K hK=>?_
 refine y8k (lo:=S0.length) (bs:=bs) (fun ps S2=>∃ks:List Kd,S2[kq]?=some (.lst (ks.map Kd.pv))/\(∀p∈ps,p.2.kk∈ks)/\(∀k∈ks,k.dp<=6)/\ks.length<=ps.length/\FD S0.length fd bs ent S2/\S2[fd]?=some (.dF (ent.map kvE))/\S2[b]?=some (.lst (bs.map bsP))/\DkN d S2/\Ex [d] S0 S2) (fun ps S2 hh1=>by obtain⟨ks,a1,a2,a3,a4,a5,a6,_⟩:=hh1;exact(⟨a5,a6⟩)) ?_ ?_ S1 (.inl k2) ⟨[],q1z _ y1 (by omega),by simp,by simp,Nat.le_refl _,k1.frz (q0u k2),q2f _ k2,q1z _ k3 (by omega),k4.ex ((Ex.refl [fd] _).set (.inl (by simp))) (by simp;omega),x01.set (.inr lf)⟩ none none
 ·rintro a w f c hac S2 ⟨ks,a1,a2,a3,a4,a5,a6,a7,a8,a9⟩ N bk hN
  have fd6:f.dp<=6:=tdp (w,f) (by rw[hac];simp)
  have kd6:f.kk.dp<=6:=Nat.le_trans (y2o f) fd6
  have al:a.length<(trs ent).length:=by rw[hac];simp
  have ok1:okEq f.kk.pv:=(z1f kd6).eq (by decide)
  have ok2:q3x (ks.map Kd.pv):=q5w fun x hx=>by
   obtain⟨k,hk',rfl⟩:=List.mem_map.mp hx
   exact(z1f (a3 k hk')).le (by decide)
  dsimp![true_and]
  refine hk f (by omega) _ _ _ ?_
  rw[<-z8y]
  dsimp![q0q a1,x2s,a1]
  refine⟨⟨ok1,ok2⟩,ite2 (fun z=>?_) (fun z=>hN _ ⟨ks,a1,fun p hp=>?_,a3,by simp;omega,a5,a6,a7,a8,a9⟩)⟩
  ·refine hk f (by omega) _ _ _ ?_
   rw[<-z8y]
   dsimp![q1i a1]
   have x3:Ex [kq] S2 (S2.set kq (.lst ((ks++[f.kk]).map Kd.pv))):=(Ex.refl _ _).set (.inl (by simp))
   rw[show ks.map Kd.pv++[f.kk.pv]=(ks++[f.kk]).map Kd.pv by simp]
   refine⟨bigl (by simp;omega),hN _ ⟨ks++[f.kk],q2f _ a1,fun p hp=>?_,fun k hk'=>?_,by simp;omega,a5.ex2 x3 (by simp;omega) (fun e he=>by simp;exact fresh e he),x3.get a6 (by simp;omega),x3.get a7 (by simp;omega),a8.ex x3 (by simp;omega),a9.set (.inr lS)⟩⟩
   ·rcases List.mem_append.mp hp with y|y
    ·simp[a2 p y]
    ·rw[List.mem_singleton]at y;subst y;simp
   ·rcases List.mem_append.mp hk' with y|y
    ·exact a3 k y
    ·rw[List.mem_singleton]at y;subst y;exact kd6
  ·rcases List.mem_append.mp hp with y|y
   ·exact a2 p y
   ·rw[List.mem_singleton]at y;subst y;exact Classical.not_not.mp z
 ·rintro j4 j5 S2 ⟨ks,a1,a2,a3,a4,a5,a6,a7,a8,a9⟩
  refine hK _ _ ?_
  clear hK K y1 k1 k2 k3 k4 x01 S1
  have lk:=q0u a1
  refine seqI fun K hK=>?_
  dsimp![q0q a1,List.length_map]
  have x3:Ex [] S2 (S2++[SO.lst []]):=Ex.new _ _ _
  refine⟨Nat.zero_le _,hn d S2.length ks.length [] _ _ _ (a8.ex x3 (by simp)) (q0t _ _) (by simp) (by omega) (by omega) fun nq ns S3 nl nnd nok ln gn d3 x4=>hK _ _ ?_⟩
  clear hK K
  have x23:Ex [d] S2 S3:=x3.nil.trans x4
  have nln:S2.length<=nq:=by simp at ln;omega
  have D2:∀i∈[d],i<S0.length\/S2.length<=i:=by simp;omega
  have b1:=x23.get a1 (by simp;omega)
  have b5:=a5.ex x23 D2
  have b6:=x23.get a6 (by simp;omega)
  have b7:=x23.get a7 (by simp;exact nb)
  have x03:=a9.trans x23
  clear a1 a5 a6 a7 a8 a9 x3 x4 x23
  refine seqI fun K hK=>?_
  dsimp![true_and]
  refine⟨Nat.zero_le _,hK _ _ ?_⟩
  clear hK K
  have x4:Ex [] S3 (S3++[SO.lst []]):=Ex.new _ _ _
  have y4:=q0t S3 (SO.lst [])
  have c1:=x4.get b1 (by simp)
  have c5:=b5.ex2 x4 (by simp) (by simp)
  have c6:=x4.get b6 (by simp)
  have c7:=x4.get b7 (by simp)
  have c8:=d3.ex x4 (by simp)
  have cn:=x4.get gn (by simp)
  have x04:=x03.trans x4.nil
  have ln3:=q0u gn
  have fr3:∀e∈ent,e.2.1≠S3.length:=fun e he z=>by have:=q0u (b5.lst e he);omega
  have lS3:=x03.1
  generalize S3++[SO.lst []]=S4 at x4 y4 c1 c5 c6 c7 c8 cn x04 ⊢
  have ltq:∀i,i<S3.length->i≠S3.length:=fun i hi=>by omega
  have lkq:=q0u b1
  have lfd:=b5.lt
  have lbb:=q0u b7
  have ldd:=d3.lt
  generalize S3.length=tq at y4 fr3 lS3 ln3 ltq lkq lfd lbb ldd ⊢
  clear b1 b5 b6 b7 d3 gn x03 x4
  refine seqI fun K hK=>?_
  refine y8k (lo:=S0.length) (bs:=bs) (fun ps S5=>∃tr:List ((Str×Fm)×PV),S5[tq]?=some (.lst (tr.map trP))/\tr.map (·.1)=ps/\(∀t∈tr,∃w,t.2=nmP w)/\S5[kq]?=some (.lst (ks.map Kd.pv))/\S5[nq]?=some (.lst (ns.map PV.str))/\FD S0.length fd bs ent S5/\S5[fd]?=some (.dF (ent.map kvE))/\S5[b]?=some (.lst (bs.map bsP))/\DkN d S5/\Ex [d] S0 S5) (fun ps S5 hh2=>by obtain⟨tr,a1,a2,a3,a4,a5,a6,a7,_⟩:=hh2;exact(⟨a6,a7⟩)) ?_ ?_ S4 (.inr c6) ⟨[],q1z _ y4 (by omega),rfl,by simp,q1z _ c1 (by omega),q1z _ cn (by omega),c5.frz (q0u c6),q2f _ c6,q1z _ c7 (by omega),c8.ex ((Ex.refl [fd] _).set (.inl (by simp))) (by simp;omega),x04.set (.inr lf)⟩ _ _
  ·rintro a w f c hac S5 ⟨tr,a1,rfl,e3,e4,e5,e6,e7,e8,e9,e10⟩ N bk hN
   have fd6:f.dp<=6:=tdp (w,f) (by rw[hac];simp)
   have kd6:f.kk.dp<=6:=Nat.le_trans (y2o f) fd6
   have al:tr.length<(trs ent).length:=by rw[hac];simp
   have ok1:okEq f.kk.pv:=(z1f kd6).eq (by decide)
   have ok2:q3x (ks.map Kd.pv):=q5w fun x hx=>by
    obtain⟨k,hk',rfl⟩:=List.mem_map.mp hx
    exact(z1f (a3 k hk')).le (by decide)
   have km:f.kk∈ks:=a2 (w,f) (by rw[hac];simp)
   have il:=List.idxOf_lt_length_of_mem km
   have ie:=List.getElem_idxOf il
   dsimp![a1,e5,e4]
   refine hk f (by omega) _ _ _ ?_
   rw[<-z8y]
   refine⟨kq,_,_,ks.idxOf f.kk,rfl,rfl,q0q e4,⟨ok1,ok2⟩,by simp;omega,⟨f.kk.pv,by rw[List.getElem?_map,List.getElem?_eq_getElem il,ie];rfl,by rw[q9a];simp⟩,fun i z hi hz=>?_,?_⟩
   ·rw[List.getElem?_map]at hz
    obtain⟨k,hk1,rfl⟩:=Option.map_eq_some_iff.mp hz
    rw[q9a,decide_eq_false_iff_not]
    rintro rfl
    have:=y4k hk1
    omega
   ·have en:atI (ns.map PV.str) ((ks.idxOf f.kk:Nat):Int)=some (.str ns[ks.idxOf f.kk]):=by rw[q2g _ _ (by simp;omega)];simp
    dsimp![e5,en,q1i a1]
    have x6:Ex [tq] S5 (S5.set tq (.lst ((tr++[((w,f),nmP ns[ks.idxOf f.kk])]).map trP))):=(Ex.refl _ _).set (.inl (by simp))
    refine⟨p2,p3,bigl (by simp;omega),?_⟩
    rw[show tr.map trP++[PV.tup [.str w,f.pv,.tup [.str "name",.str ns[ks.idxOf f.kk]]]]=(tr++[((w,f),nmP ns[ks.idxOf f.kk])]).map trP by simp[trP,nmP]]
    refine hN _ ⟨tr++[((w,f),nmP ns[ks.idxOf f.kk])],q2f _ a1,by simp,fun t htt=>?_,x6.get e4 (by simp;omega),x6.get e5 (by simp;omega),e6.ex2 x6 (by simp;omega) (fun e he=>by simp;exact fr3 e he),x6.get e7 (by simp;omega),x6.get e8 (by simp;omega),e9.ex x6 (by simp;omega),e10.set (.inr lS3)⟩
    rcases List.mem_append.mp htt with y|y
    ·exact e3 t y
    ·rw[List.mem_singleton]at y;subst y;exact⟨_,rfl⟩
  ·rintro j4 j5 S5 ⟨tr,a1,etr,e3,e4,e5,e6,e7,e8,e9,e10⟩
   refine hK _ _ ?_
   clear hK K
   have trl:tr.length=tot ent:=by rw[<-tl,<-etr,List.length_map]
   refine seqI fun K hK=>?_
   dsimp![true_and]
   refine⟨nq,kq,_,_,rfl,q0q e5,q0q e4,by simp;omega,?_⟩
   have x6:Ex [] S5 (S5++[SO.lst (zipP (ns.map PV.str) (ks.map Kd.pv))]):=Ex.new _ _ _
   have y6:=q0t S5 (SO.lst (zipP (ns.map PV.str) (ks.map Kd.pv)))
   have lS5:=e10.1
   have zk:∀x∈zipP (ns.map PV.str) (ks.map Kd.pv),okP 190 x:=fun x hx=>by
    unfold zipP at hx
    obtain⟨⟨u,v⟩,huv,rfl⟩:=List.mem_map.mp hx
    have h1:=(List.of_mem_zip huv).1
    have h2:=(List.of_mem_zip huv).2
    obtain⟨n',_,rfl⟩:=List.mem_map.mp h1
    obtain⟨k',hk',rfl⟩:=List.mem_map.mp h2
    exact(x0r (q9t 6 _) (z1f (a3 k' hk'))).le (by decide)
   have zl:(zipP (ns.map PV.str) (ks.map Kd.pv)).length<=100:=by unfold zipP;simp;omega
   refine ht d S5.length _ _ _ _ (e9.ex x6 (by simp)) y6 zk zl (by omega) fun r ys S7 hperm lr gr d7 x7=>hK _ _ ?_
   clear hK K
   have x57:Ex [d] S5 S7:=x6.nil.trans x7
   have D5:∀i∈[d],i<S0.length\/S5.length<=i:=by simp;omega
   have yl:=hperm.length_eq
   have g1:=x57.get a1 (by simp;omega)
   have g6:=e6.ex x57 D5
   have g8:=x57.get e8 (by simp;exact nb)
   have x07:=e10.trans x57
   dsimp![q0q g8]
   refine⟨by rw[List.length_map];exact big (by omega),?_⟩
   refine z6j bsP bs (fun a zs σ S8=>S8=S7/\(∃j0:Option PV,σ=[j0])/\zs.length=a.length) ?_ ?_ _ _ ⟨rfl,⟨none,rfl⟩,rfl⟩
   ·rintro zs σ S8 ⟨rfl,⟨j0,rfl⟩,hz⟩
    refine⟨q0q g8,?_⟩
    have x8:Ex [] S8 (S8++[SO.lst zs]):=Ex.new _ _ _
    have y8:=q0t S8 (SO.lst zs)
    have g2:=x8.get gr (by simp)
    have g1':=x8.get g1 (by simp)
    have g6':=g6.ex2 x8 (by simp) (by simp)
    have g8':=x8.get g8 (by simp)
    have d8:=d7.ex x8 (by simp)
    have x08:=x07.trans x8.nil
    generalize S8++[SO.lst zs]=S9 at x8 y8 g2 g1' g6' g8' d8 x08 ⊢
    dsimp![q0q g2,q0q y8]
    have tk:∀x∈tr.map trP,okP 190 x:=fun x hx=>by
     obtain⟨t,htt,rfl⟩:=List.mem_map.mp hx
     obtain⟨w,hw⟩:=e3 t htt
     have:t.1.2.dp<=6:=tdp t.1 (by rw[<-etr];exact List.mem_map.mpr ⟨t,htt,rfl⟩)
     show okP 190 (.tup [.str t.1.1,t.1.2.pv,t.2])
     rw[hw]
     exact(x3w (q9t 6 _) (y4h this) ((x0r (q9t 5 _) (q9t 5 _)))).le (by decide)
    refine ht d tq _ _ _ _ d8 g1' tk (by simp;omega) (by omega) fun r2 ys2 S10 hp2 lr2 gr2 d10 x10=>?_
    dsimp![q0q gr2]
    have D9:∀i∈[d],i<S0.length\/S9.length<=i:=by simp;omega
    obtain⟨tr2,ptr,rfl⟩:=z4l trP hp2 tr rfl
    refine⟨p3,h _ _ tr2 S10 ?_ (fun t htt=>e3 t (ptr.mem_iff.mp htt)) (g6'.ex x10 D9) (x10.get g8' (by simp;exact nb)) d10 (x08.trans x10)⟩
    rw[<-etr]
    exact ptr.map _
   ·rintro a s bb hab zs σ S8 ⟨rfl,⟨j0,rfl⟩,hz⟩ N2 hN2
    refine⟨q0q g8,?_⟩
    dsimp![bsP,fb1]
    exact hN2 _ _ _ ⟨rfl,⟨_,rfl⟩,by simp;omega⟩
def rdP:Option Rd->PV
 |none=>.non
 |some r=>r.pv
structure Mad(bs ws:List Str)(ent:Ent)(tr:List ((Str×Fm)×PV))(g:Fm)(rd:Option Rd):Prop where
 bnd:bs.Nodup
 bok:∀w∈bs,q2j w=true/\w≠sAny
 bl:2<=bs.length/\bs.length<=4
 tp:(tr.map (·.1)).Perm (trs ent)
 tn:∀t∈tr,∃w,t.2=nmP w
 wl:1<=ws.length/\ws.length<=6
 wn:∀w∈ws,q2j w=true
 key:∀w∈ws,w∈ent.map (·.1)
 key2:∀e∈ent,e.1∈ws
 gl:g.lv<=2
 go:g.ov bs
 tt:tot ent<=18
 ne:∀e∈ent,e.2.2≠[]
 rd:∀r,rd=some r->r.is 0 (ws.length:Nat) g/\∀p∈r.ws,0<=p.1/\∃w e,ws[p.1.toNat]?=some w/\e∈ent/\e.1=w/\p.2∈e.2.2
def MakD(sp:Den):Prop:=∀(d m l:Nat)(S:q0h)(E:EK)(Q:VC),DkN d S->1<=m->m<=6->l<=1->
 (∀(x y:PV)(bs ws:List Str)(ent:Ent)(tr:List ((Str×Fm)×PV))(g:Fm)(rd:Option Rd)(fd:Nat) S',Mad bs ws ent tr g rd->(l=0->rd≠none)->FD S.length fd bs ent S'->DkN d S'->Ex [d] S S'->Q (.tup [bkP x y tr,.tup (ws.map PV.str),.ref fd,rdP rd,g.pv]) S')->sp [.ref d,.int (m:Nat),.int (l:Nat)] S E Q
theorem at4{a b c e:Nat}{i:Nat}(h:i<4):∃k:Nat,(k=a\/k=b\/k=c\/k=e)/\atI [PV.int (a:Nat),PV.int (b:Nat),PV.int (c:Nat),PV.int (e:Nat)] (i:Int)=some (.int (k:Nat)):=by
 rcases(show i=0\/i=1\/i=2\/i=3 by omega)with rfl|rfl|rfl|rfl
 ·exact⟨a,.inl rfl,rfl⟩
 ·exact⟨b,.inr (.inl rfl),rfl⟩
 ·exact⟨c,.inr (.inr (.inl rfl)),rfl⟩
 ·exact⟨e,.inr (.inr (.inr rfl)),rfl⟩
theorem at6{i:Nat}(h:i<6):∃k:Nat,1<=k/\k<=4/\atI [PV.int 1,PV.int 1,PV.int 2,PV.int 2,PV.int 3,PV.int 4] (i:Int)=some (.int (k:Nat)):=by
 rcases(show i=0\/i=1\/i=2\/i=3\/i=4\/i=5 by omega)with rfl|rfl|rfl|rfl|rfl|rfl
 ·exact⟨1,by decide,by decide,rfl⟩
 ·exact⟨1,by decide,by decide,rfl⟩
 ·exact⟨2,by decide,by decide,rfl⟩
 ·exact⟨2,by decide,by decide,rfl⟩
 ·exact⟨3,by decide,by decide,rfl⟩
 ·exact⟨4,by decide,by decide,rfl⟩
theorem any1:[PV.str "any"]=[sAny].map PV.str:=rfl
theorem Sen.ne{ws:List Str}{row:List Fm}{ent:Ent}(h:Sen ws row ent)(nd:(ent.map (·.1)).Nodup):∀e∈ent,e.2.2≠[]:=fun e he z=>by
 obtain⟨k,hk,ek⟩:=List.mem_iff_getElem.mp (h.key2 e he)
 have hr:k<row.length:=by rw[<-h.len];exact hk
 obtain⟨w,h1,e',he',h2,h3⟩:=h.has k row[k] (List.getElem?_eq_getElem hr)
 rw[List.getElem?_eq_getElem hk,ek]at h1
 cases h1
 rw[q6b nd he he' h2,z]at h3
 cases h3
theorem z8w:∀{ent:Ent},(∀e∈ent,e.2.2≠[])->ent.length<=tot ent
 |[],_=>Nat.le_refl _
 |e::ent,h=>by
  have:=z8w (ent:=ent) fun x hx=>h x (by simp[hx])
  have:=List.length_pos_iff.mpr (h e (by simp))
  simp only[tot,List.map_cons,List.sum_cons,List.length_cons]at *
  omega
theorem x1b{sn sd sf sg sr ss su sb:Den}(hn:NmsD sn)(hd:z0i sd)(hf:∀m,m<=4->FmlD sf m)(hg:GwnD sg)(hr:RgD sr)(hs:SnD ss)(hu:FurD su)(hb:BkD sb):MakD (fnP 3 11 (q4i sn sd sf sg sr ss su sb)):=by
 intro d m l S E Q dk hm1 hm6 hl h
 have p1:1<=sizeLine:=big (by decide)
 have p2:2<=sizeLine:=big (by decide)
 have p4:4<=sizeLine:=big (by decide)
 have p5:5<=sizeLine:=big (by decide)
 have p6:6<=sizeLine:=big (by decide)
 have ld:=dk.lt
 refine⟨rfl,?_⟩
 unfold q4i
 refine seqI fun K hK=>?_
 dsimp![true_and]
 have x1:Ex [] S (S++[SO.lst [PV.int 2,PV.int 3,PV.int 2,PV.int 4]]):=Ex.new _ _ _
 have y1:=q0t S (SO.lst [PV.int 2,PV.int 3,PV.int 2,PV.int 4])
 refine⟨p4,?_⟩
 have d1:=dk.ex x1 (by simp)
 generalize S++[SO.lst [PV.int 2,PV.int 3,PV.int 2,PV.int 4]]=S1 at x1 y1 d1 ⊢
 refine hd d 4 _ _ _ (by decide) d1 fun r S2 hr4 d2 x2=>?_
 have y2:=x2.get y1 (by simp;omega)
 obtain⟨n,hn4,en⟩:=at4 (a:=2) (b:=3) (c:=2) (e:=4) hr4
 have en':atI [PV.int 2,PV.int 3,PV.int 2,PV.int 4] (r:Int)=some (.int (n:Nat)):=en
 dsimp![y2,en']
 refine⟨p1,?_⟩
 have x3:Ex [] S2 (S2++[SO.lst [PV.str "any"]]):=Ex.new _ _ _
 have y3:=q0t S2 (SO.lst [PV.str "any"])
 have d3:=d2.ex x3 (by simp)
 have x03:Ex [d] S (S2++[SO.lst [PV.str "any"]]):=(x1.nil.trans x2).trans x3.nil
 have l2:S.length<=S2.length:=(x1.nil.trans x2).1
 generalize S2++[SO.lst [PV.str "any"]]=S3 at x3 y3 d3 x03 ⊢
 rw[any1]at y3
 refine hn d S2.length n [sAny] _ _ _ d3 y3 (by simp) (by omega) (by omega) fun nq bs S4 bl bnd bok ln gn d4 x4=>?_
 have x04:=x03.trans x4
 dsimp![q0q gn]
 refine⟨by rw[List.length_map];exact big (by omega),?_⟩
 refine z6j PV.str bs (fun a zs σ S5=>S5=S4/\(∃j0:Option PV,σ=[j0])/\zs=a.map bsP) ?_ ?_ _ _ ⟨rfl,⟨none,rfl⟩,rfl⟩
 ·rintro zs σ S5 ⟨rfl,⟨j0,rfl⟩,rfl⟩
  refine⟨q0q gn,hK _ _ ?_⟩
  clear hK K
  have g5:=q0t S5 (SO.lst (bs.map bsP))
  have x05:Ex [d] S (S5++[SO.lst (bs.map bsP)]):=x04.app _
  have d5:=d4.ex (Ex.new [] S5 [SO.lst (bs.map bsP)]) (by simp)
  have l5:S.length<=S5.length:=x04.1
  generalize S5++[SO.lst (bs.map bsP)]=S6 at g5 x05 d5 ⊢
  generalize S5.length=b at g5 l5 ⊢
  clear x4 gn d4 x04 y3 d3 x3 x03 y2 x2 d2 d1 y1 x1
  have nb:b≠d:=by omega
  have bne:bs≠[]:=fun z=>by rw[z]at bl;simp at bl;omega
  refine seqI fun K hK=>?_
  dsimp![true_and]
  refine⟨p4,?_⟩
  have x7:Ex [] S6 (S6++[SO.lst [PV.int 1,PV.int 1,PV.int 1,PV.int 2]]):=Ex.new _ _ _
  have y7:=q0t S6 (SO.lst [PV.int 1,PV.int 1,PV.int 1,PV.int 2])
  have l6:=d5.lt
  generalize S6++[SO.lst [PV.int 1,PV.int 1,PV.int 1,PV.int 2]]=S7 at x7 y7 ⊢
  refine hd d 4 _ _ _ (by decide) (d5.ex x7 (by simp)) fun r7 S8 hr7 d8 x8=>?_
  have y8:=x8.get y7 (by simp;omega)
  obtain⟨k,hk4,ek⟩:=at4 (a:=1) (b:=1) (c:=1) (e:=2) hr7
  have ek':atI [PV.int 1,PV.int 1,PV.int 1,PV.int 2] (r7:Int)=some (.int (k:Nat)):=ek
  dsimp![y8,ek']
  have x68:Ex [d] S6 S8:=x7.nil.trans x8
  have g8:=x68.get g5 (by simp;exact nb)
  refine hf k (by omega) d b bs _ _ _ d8 g8 bne nb fun g S9 glv gov d9 x9=>hK _ _ ?_
  clear hK K
  have x69:=x68.trans x9
  have x09:=x05.trans x69
  have g9:=x69.get g5 (by simp;exact nb)
  clear x68 x7 y7 y8 x8 d8 g8 x69 x9 g5 x05 d5 l6
  refine seqI fun K hK=>?_
  dsimp![true_and]
  refine hd d m _ _ _ hm1 d9 fun r9 S10 hr9 d10 x10=>hK _ _ ?_
  clear hK K
  rw[show(1:Int)+(r9:Int)=((1+r9:Nat):Int) by omega]
  have g10:=x10.get g9 (by simp;exact nb)
  have x010:=x09.trans x10
  refine seqI fun K hK=>?_
  dsimp![true_and]
  refine hg d b (1+r9) bs g _ _ _ d10 g10 bne nb (by omega) gov (by omega) (by omega) fun q sq row sl S11 hgr r1 r2 sl20 hrow lq lsq gq gsq d11 x11=>?_
  have lS10:=x010.1
  have ld10:=d10.lt
  dsimp![true_and]
  refine hK _ _ ?_
  clear hK K
  have g11:=x11.get g10 (by simp;exact nb)
  have x011:=x010.trans x11
  refine seqI fun K hK=>?_
  dsimp![true_and]
  refine hr q sq g row sl _ _ _ hgr r1 (by omega) sl20 gq gsq fun t S12 hti htw x12=>hK _ _ ?_
  clear hK K
  have g12:=x12.get g11 (by simp)
  have gq12:=x12.get gq (by simp)
  have d12:=d11.ex x12 (by simp)
  have x012:=x011.trans x12.nil
  have l12:b<S12.length:=q0u g12
  have rest:∀(row:List Fm)(rd:Option Rd)(q:Nat)(S13:q0h)(v7:Option PV),1<=row.length->row.length<=6->(∀f∈row,f.lv<=6/\f.ov bs)->(l=0->rd≠none)->(∀t,rd=some t->t.is 0 (row.length:Nat) g/\t.ws=row.zipIdx.map (fun p=>((p.2:Int),p.1)))->S13[q]?=some (.lst (row.map Fm.pv))->q≠d->S13[b]?=some (.lst (bs.map bsP))->DkN d S13->Ex [d] S S13->
    (wSeq (wAsg (q0y ss (q0d (wVar 0) (q0d (wVar 6) wNil))) (q6r 2 (q2b (q1b 9) (q2b (q1b 10) q6s))))
 (wSeq (q3v (q0y su (q0d (wVar 0) (q0d (wVar 3) (q0d (wVar 6) (q0d (wVar 9) (q0d (wVar 10) wNil)))))))
 (wRet (wTup (q0d (q0y sb (q0d (wVar 0) (q0d (wVar 3) (q0d (wVar 10) wNil)))) (q0d (wVar 9) (q0d (wVar 10) (q0d (wVar 8) (q0d (wVar 4) wNil))))))))) {nx:=fun _ S'=>Q .non S',rt:=Q} E [some (.ref d),some (.int (m:Nat)),some (.int (l:Nat)),some (.ref b),some g.pv,some (.int ((1+r9:Nat):Int)),some (.ref q),v7,some (rdP rd),none,none] S13:=by
   intro row rd q S13 v7 e1 e2 e3 e4 e5 e6 e7 e8 e9 e10
   have lq13:=q0u e6
   have lb13:=q0u e8
   have ld13:=e9.lt
   refine seqI fun K hK=>?_
   dsimp![true_and]
   refine hs d q bs row _ _ _ e9 e6 e7 e1 (by omega) e3 fun fd ws ent S14 f1 f2 f3 f4 f5 d14 x14=>?_
   dsimp![true_and]
   refine hK _ _ ?_
   clear hK K
   have g14:=x14.get e8 (by simp;exact nb)
   have q14:=x14.get e6 (by simp;exact e7)
   have wl:=f3.len
   refine seqI fun K hK=>?_
   dsimp![true_and]
   refine hu d b q fd bs row ws ent S13 S14 _ _ d14 ld13 g14 bne nb lb13 q14 e7 lq13 e1 e3 f1 f2 (by omega) f3.key x14 fun ent' S15 h1 h2 h3 h4 h5 d15 x15=>hK _ _ ?_
   clear hK K
   have f3':=f3.grow h3
   dsimp![true_and]
   have ene:=f3'.ne h1.nd
   have el:ent'.length<=100:=by have:=z8w ene;omega
   refine hb d b fd bs ent' S13 S15 _ _ d15 ld13 h5 nb lb13 (by omega) h1 h2 (by omega) el x15 fun x y tr S16 t1 t2 t3 t4 d16 x16=>⟨p5,?_⟩
   have x016:=e10.trans x16
   refine h x y bs ws ent' tr g rd fd S16 ⟨bnd,fun w hw=>⟨(bok w hw).1,by simpa using(bok w hw).2⟩,by omega,t1,t2,by omega,f5,f3'.key,f3'.key2,by omega,gov,by omega,ene,fun t ht=>?_⟩ e4 ⟨t3.dic,t3.nd,t3.rf,t3.lst,Nat.le_trans e10.1 t3.lo1,fun e he=>Nat.le_trans e10.1 (t3.lo2 e he),t3.ok⟩ d16 x016
   obtain⟨i1,i2⟩:=e5 t ht
   refine⟨by rw[wl];exact i1,fun p hp=>?_⟩
   rw[i2]at hp
   obtain⟨⟨f,k⟩,hz,rfl⟩:=List.mem_map.mp hp
   have:=List.mem_zipIdx hz
   refine⟨by simp,?_⟩
   have hk:row[k]?=some f:=by rw[List.getElem?_eq_getElem (by omega)];simp[this.2.2]
   obtain⟨w,a1,e,a2,a3,a4⟩:=f3'.has k f hk
   exact⟨w,e,by simpa using a1,a2,a3,a4⟩
  refine seqI fun K hK=>?_
  dsimp![true_and]
  refine hd d 5 _ _ _ (by decide) d12 fun r12 S13 hr12 d13 x13=>?_
  have g13:=x13.get g12 (by simp;exact nb)
  have x013:=x012.trans x13
  dsimp![true_and]
  refine ite2 (fun z=>?_) (fun z=>hK _ _ (rest row (some t) q S13 _ r1 (by omega) hrow (by simp) (fun t' ht=>by cases ht;exact⟨hti,htw⟩) (x13.get gq12 (by simp;omega)) (by omega) g13 d13 x013))
  refine seqI fun K2 hK2=>?_
  dsimp![true_and]
  refine⟨⟨by omega,by omega⟩,?_⟩
  rw[Int.toNat_natCast]
  refine⟨by rw[z3a];exact big (by omega),?_⟩
  refine y8a (1+r9) (fun i ys σ S14=>∃(row:List Fm)(j0:Option PV),σ=[j0,some (.ref d),some (.ref b)]/\ys=row.map Fm.pv/\row.length=i/\(∀f∈row,f.lv<=6/\f.ov bs)/\S14[b]?=some (.lst (bs.map bsP))/\DkN d S14/\Ex [d] S S14) ?_ ?_ _ _ ⟨[],none,rfl,rfl,rfl,by simp,g13,d13,x013⟩
  ·rintro ys σ S14 ⟨row',j0,rfl,rfl,b1,b2,b3,b4,b5⟩
   refine⟨trivial,hK2 _ _ ?_⟩
   dsimp![true_and]
   refine hK _ _ (rest row' none S14.length _ _ (by omega) (by omega) b2 (fun z2=>by omega) (fun t ht=>by cases ht) (q0t _ _) (by have:=b4.lt;omega) (q1a b3 _) (b4.ex (Ex.new [] S14 _) (by simp)) (b5.app _))
  ·rintro i hi ys σ S14 ⟨row',j0,rfl,rfl,b1,b2,b3,b4,b5⟩ N hN
   refine⟨trivial,?_⟩
   dsimp![true_and]
   refine⟨p6,?_⟩
   have x15:Ex [] S14 (S14++[SO.lst [PV.int 1,PV.int 1,PV.int 2,PV.int 2,PV.int 3,PV.int 4]]):=Ex.new _ _ _
   have y15:=q0t S14 (SO.lst [PV.int 1,PV.int 1,PV.int 2,PV.int 2,PV.int 3,PV.int 4])
   have l14:=b4.lt
   generalize S14++[SO.lst [PV.int 1,PV.int 1,PV.int 2,PV.int 2,PV.int 3,PV.int 4]]=S15 at x15 y15 ⊢
   refine hd d 6 _ _ _ (by decide) (b4.ex x15 (by simp)) fun r15 S16 hr15 d16 x16=>?_
   obtain⟨k6,k61,k64,ek6⟩:=at6 hr15
   have y16:=x16.get y15 (by simp;omega)
   dsimp![y16,ek6]
   have x146:Ex [d] S14 S16:=x15.nil.trans x16
   refine hf k6 k64 d b bs _ _ _ d16 (x146.get b3 (by simp;exact nb)) bne nb fun f S17 flv fov d17 x17=>hN _ _ _ ⟨row'++[f],_,rfl,by simp,by simp;omega,fun f' hf'=>?_,(x146.trans x17).get b3 (by simp;exact nb),d17,(b5.trans x146).trans x17⟩
   rcases List.mem_append.mp hf' with z1|z1
   ·exact b2 f' z1
   ·rw[List.mem_singleton]at z1;subst z1;exact⟨by omega,fov⟩
 ·rintro a s bb hab zs σ S5 ⟨rfl,⟨j0,rfl⟩,rfl⟩ N hN
  refine⟨q0q gn,?_⟩
  dsimp![true_and]
  exact⟨p2,hN _ _ _ ⟨rfl,⟨_,rfl⟩,by simp[bsP,Fm.pv]⟩⟩
def Fm.tx:Fm->Str
 |.b s=>s
 |.n l x y=>x.tx++sSl l++(if y.lv=1 then y.tx else Str.empty++Str.ofString "(" ++y.tx++Str.ofString ")")
theorem q8l(a b:Str):(a++b).length=a.length+b.length:=by
 show(a.cps++b.cps).size=_
 rw[Array.size_append];rfl
theorem x3l(l:Bool):(sSl l).length=1:=by cases l<;>decide +kernel
theorem z6x:∀{f:Fm},f.nb->f.tx.length+10<=20*f.lv
 |.b s,h=>by have:=(q7s (show q2j s=true from h)).2.1;simp only[Fm.tx,Fm.lv];omega
 |.n l x y,h=>by
  have hx:=z6x h.1
  have hy:=z6x h.2
  have c1:(Str.ofString "(").length=1:=by decide +kernel
  have c2:(Str.ofString ")").length=1:=by decide +kernel
  have c0:Str.empty.length=0:=rfl
  simp only[Fm.tx,Fm.lv]
  split<;>simp only[q8l,x3l,c0,c1,c2]<;>omega
def ShoG(sp:Den)(n:Nat):Prop:=∀(f:Fm),f.nb->f.lv<=n->∀(S:q0h)(E:EK)(Q:VC),Q (.str f.tx) S->sp [f.pv] S E Q
theorem y4a{T:Nat->Den}(hT:∀n,T (n+1)=fnP 1 5 (q2o (T n))):∀(n:Nat),n<=100->ShoG (T n) n
 |0,_=>fun f _ h=>by have:=f.lv_pos;omega
 |n+1,hn100=>by
  intro f hn hl S E Q hq
  rw[hT]
  refine⟨rfl,?_⟩
  unfold q2o
  cases f with
  |b s=>
   dsimp![wSeq,fb0,fb1]
   exact hq
  |n l x y=>
   have xp:=x.lv_pos
   have yp:=y.lv_pos
   have tl:=z6x hn
   have txl:=z6x hn.1
   have tyl:=z6x hn.2
   simp only[Fm.lv]at hl tl
   have ih:=y4a hT n (by omega)
   refine seqI fun K hK=>?_
   dsimp![fn0,q7a]
   refine hK _ _ ?_
   clear hK K
   refine seqI fun K hK=>?_
   dsimp![Fm.pv]
   refine hK _ _ ?_
   clear hK K
   refine seqI fun K hK=>?_
   dsimp![true_and]
   refine ih y hn.2 (by omega) _ _ _ (hK _ _ ?_)
   clear hK K
   have last:∀w:Str,(Fm.n l x y).tx=x.tx++sSl l++w->wRet (wBin bAdd (wBin bAdd (q0y (T n) (q0d (wVar 2) wNil)) (wVar 1)) (wVar 4)) {nx:=fun x S'=>Q PV.non S',rt:=Q} E [some (Fm.n l x y).pv,some (PV.str (sSl l)),some x.pv,some y.pv,some (PV.str w)] S:=fun w e=>by
    dsimp![true_and]
    refine ih x hn.1 (by omega) _ _ _ ?_
    rw[e]at hq tl
    have e1:=q8l x.tx (sSl l)
    have e2:=q8l (x.tx++sSl l) w
    dsimp![true_and]
    exact⟨big (by omega),big (by omega),hq⟩
   refine seqI fun K hK=>?_
   cases y with
   |b s=>
    dsimp![fb0]
    exact hK _ _ (last s rfl)
   |n m u v=>
    have up:=u.lv_pos
    have vp:=v.lv_pos
    have ne:¬(Fm.n m u v).lv=1:=by simp only[Fm.lv];omega
    have hw2:=q8l (Str.empty++Str.ofString "(" ++(Fm.n m u v).tx) (Str.ofString ")")
    have hw3:=q8l (Str.empty++Str.ofString "(") (Fm.n m u v).tx
    have hw4:=q8l Str.empty (Str.ofString "(")
    have c1:(Str.ofString "(").length=1:=by decide +kernel
    have c2:(Str.ofString ")").length=1:=by decide +kernel
    have c0:Str.empty.length=0:=rfl
    dsimp! [fn0,q7a]
    refine ⟨by decide,⟨big (by omega),big (by omega)⟩,big (by omega),big (by omega),?_⟩
    exact hK _ _ (last _ (by rw [Fm.tx,if_neg ne]))
def wfs(tr:List ((Str×Fm)×PV))(w:Str):List Fm:=(tr.filter fun t=>decide (t.1.1=w)).map (·.1.2)
def upF(fs:List Fm):Prop:=fs.Pairwise fun f g=>¬g.tx.cps.toList<f.tx.cps.toList
structure Bok(tr:List ((Str×Fm)×PV)):Prop where
 len:tr.length<=60
 ok:∀t∈tr,t.1.2.nb/\t.1.2.lv<=6
def FosG(sp:Den):Prop:=∀(x y:PV)(tr:List ((Str×Fm)×PV))(w:Str)(S:q0h)(E:EK)(Q:VC),Bok tr->(∃t∈tr,t.1.1=w)->
 (∀(q:Nat)(fs:List Fm) S',fs.Perm (wfs tr w)->upF fs->S.length<=q->S'[q]?=some (.lst (fs.map Fm.pv))->Ex [] S S'->Q (.ref q) S')->sp [bkP x y tr,.str w] S E Q
theorem x2c{sr ss:Den}(hr:x2u sr)(hs:ShoG ss 6):FosG (fnP 2 2 (q2y sr ss)):=by
 intro x y tr w S E Q bo hex h
 refine⟨rfl,?_⟩
 unfold q2y
 dsimp![true_and]
 refine hr x y tr w _ _ _ (by have:=bo.len;omega) hex fun q S1 hq hx=>?_
 have hl:(tr.filter fun t=>decide (t.1.1=w)).length<=60:=Nat.le_trans (List.length_filter_le _ _) bo.len
 have hin:∀t∈tr.filter fun t=>decide (t.1.1=w),t.1.2.nb/\t.1.2.lv<=6:=fun t ht=>bo.ok t (List.mem_filter.mp ht).1
 have hwf:wfs tr w=(tr.filter fun t=>decide (t.1.1=w)).map (·.1.2):=rfl
 generalize (tr.filter fun t=>decide (t.1.1=w))=us at hq hl hin hwf ⊢
 dsimp![q0q hq]
 refine⟨big (by simp;omega),?_⟩
 refine z6j ftP us (fun a ys σ S2=>S2=S1/\(∃j0 j1,σ=[j0,j1])/\ys=(a.map (·.1.2)).map Fm.pv) ?_ ?_ _ _ ⟨rfl,⟨none,none,rfl⟩,rfl⟩
 ·rintro ys σ S2 ⟨rfl,⟨j0,j1,rfl⟩,rfl⟩
  refine⟨q0q hq,?_⟩
  rw[<-hwf]
  have gl:∀f∈wfs tr w,f.nb/\f.lv<=6:=fun f hf=>by
   rw[hwf]at hf
   obtain⟨t,ht,rfl⟩:=List.mem_map.mp hf
   exact hin t ht
  have fl:(wfs tr w).length<=60:=by rw[hwf,List.length_map];exact hl
  have gn:=q0t S2 (.lst ((wfs tr w).map Fm.pv))
  refine⟨S2.length,(wfs tr w).map Fm.pv,(wfs tr w).map Fm.tx,rfl,q0q gn,by simp;omega,by simp,fun i v k e1 e2=>?_,fun ps hp hu=>?_⟩
  ·rw[List.getElem?_map]at e1 e2
   obtain⟨f,hf,rfl⟩:=Option.map_eq_some_iff.mp e1
   rw[hf]at e2
   cases e2
   obtain⟨f1,f2⟩:=gl f (List.mem_of_getElem? hf)
   exact hs f f1 f2 _ _ _ ⟨rfl,rfl⟩
  ·have hz:((wfs tr w).map Fm.tx).zip ((wfs tr w).map Fm.pv)=(wfs tr w).map fun f=>(f.tx,f.pv):=by
    rw[List.zip_map']
   rw[hz]at hp
   obtain⟨fs,h1,rfl⟩:=z4l (fun f:Fm=>(f.tx,f.pv)) hp _ rfl
   refine h _ fs _ h1 ?_ ?_ ?_ ((hx.app _).app _)
   ·exact List.pairwise_map.mp hu
   ·have:=hx.1;simp;omega
   ·rw[q0t,List.map_map];rfl
 ·rintro a t bb hab ys σ S2 ⟨rfl,⟨j0,j1,rfl⟩,rfl⟩ N hN
  refine⟨q0q hq,?_⟩
  dsimp![ftP]
  exact hN _ _ _ ⟨rfl,⟨_,_,rfl⟩,by simp⟩
def FowG(sp:Den):Prop:=∀(x y:PV)(tr:List ((Str×Fm)×PV))(ws:List Str)(p:Int×Fm)(S:q0h)(E:EK)(Q:VC),Bok tr->ws.length<=100->0<=p.1->p.1<(ws.length:Int)->ky ws p∈tr.map (·.1)->p.2.lv<=6->p.2.nb->
 (∀S',Ex [] S S'->Q (triP (p.1,p.1+1,p.2)) S')->sp [bkP x y tr,.tup (ws.map PV.str),.int p.1,p.2.pv] S E Q
theorem y7t{sf si:Den}(hf:FosG sf)(hi:IsfD si):FowG (fnP 4 5 (q1r sf si)):=by
 intro x y tr ws p S E Q bo hwl h0 h1 hk lv nb h
 refine⟨rfl,?_⟩
 unfold q1r
 have p3:3<=sizeLine:=big (by decide)
 obtain⟨t,ht,et⟩:=List.mem_map.mp hk
 have e1:t.1.1=(ky ws p).1:=by rw[et]
 have e2:t.1.2=p.2:=by rw[et];rfl
 refine seqI fun K hK=>?_
 dsimp![Bool.true_eq_false,List.length_map]
 rw[if_neg (by omega),if_neg (by omega)]
 refine hK _ _ ?_
 clear hK
 refine seqI fun K hK=>?_
 dsimp![x4d h0 h1]
 refine hf x y tr (ky ws p).1 _ _ _ bo ⟨t,ht,e1⟩ fun q fs S1 hperm _ _ hq hx=>hK _ _ ?_
 clear hK
 have hm:p.2∈fs:=hperm.mem_iff.mpr (List.mem_map.mpr ⟨t,List.mem_filter.mpr ⟨ht,by simpa using e1⟩,e2⟩)
 have hfl:∀g∈fs,g.lv<=100:=fun g hg=>by
  obtain⟨u,hu,rfl⟩:=List.mem_map.mp (hperm.mem_iff.mp hg)
  have:=(bo.ok u (List.mem_filter.mp hu).1).2
  omega
 refine seqI fun K hK=>?_
 dsimp![true_and]
 refine hi p.2 _ _ _ nb (by omega) fun S2 x2=>?_
 have hq2:=x2.get hq (by simp)
 dsimp![q0q hq2,z5e]
 rw[if_neg (by decide),if_neg (fun z=>z hm)]
 refine⟨⟨q7r (by omega),q5x hfl⟩,hK _ _ ?_⟩
 clear hK
 dsimp![true_and]
 exact⟨p3,h S2 (hx.trans x2)⟩
structure GC2(tr:List ((Str×Fm)×PV))(ws:List Str)(r:Rd):Prop where
 ok:Bok tr
 all:∀p∈r.ws,0<=p.1/\p.1<(ws.length:Int)/\ky ws p∈tr.map (·.1)/\p.2.lv<=6/\p.2.nb
def FmgD(sp:Den):Prop:=∀(x y:PV)(tr:List ((Str×Fm)×PV))(ws:List Str)(r:Rd)(a b:Int)(g:Fm)(S:q0h)(E:EK)(Q:VC),GC2 tr ws r->r.is a b g->r.lv<=ws.length->ws.length<=100->
 (∀S',Ex [] S S'->Q (triP (a,b,g)) S')->sp [bkP x y tr,.tup (ws.map PV.str),r.pv] S E Q
theorem x2e {sn sw st : Den} (hn : NodD sn) (hw : FowG sw) (ht : FotD st) : FmgD (fnP 3 6 (q3p sn sw st)) := by
 intro x y tr ws r a b g S E Q gc his hl hwl h
 refine ⟨rfl, ?_⟩
 unfold q3p
 have wl := z4b r
 refine seqI fun K hK => ?_
 dsimp! [true_and]
 refine ⟨Nat.zero_le _, hK _ _ ?_⟩
 clear hK
 have g0 := q0t S (.lst [])
 have x0 : Ex [S.length] S (S ++ [SO.lst []]) := Ex.new _ S _
 refine seqI fun K hK => ?_
 dsimp! [List.length_map]
 refine hn r ws.length hl hwl _ _ _ fun q S1 hq0 hq hx => ?_
 dsimp! [q0q hq]
 have hqn : S.length ≠ q := by simp at hq0; omega
 have g1 := hx.get g0 (by simp)
 have x1 := x0.trans hx.nil
 rw [<- List.map_reverse]
 refine forI (fun rest σ S2 => ∃ (ts : List Rd) (st : List Tri) (j4 j5 : Option PV), rest = ts.map Rd.pv /\ run ts st = some [(a, b, g)] /\ (∀ t ∈ ts, t ∈ r.wi) /\ st.length + ts.length <= 300 /\ (∀ u ∈ st, u.2.2.dp <= 100) /\ σ = [some (bkP x y tr), some (.tup (ws.map PV.str)), some r.pv, some (.ref S.length), j4, j5] /\ S2[S.length]? = some (.lst (st.reverse.map triP)) /\ S2[q]? = some (.lst (r.wi.map Rd.pv)) /\ Ex [S.length] S S2) ?_ ?_ _ _ _
  ⟨r.wi.reverse, [], none, none, rfl, by have := z7n [] [] his; rw [List.append_nil] at this; rw [this]; rfl, fun t ht => by simpa using ht, by simp; omega, by simp, rfl, g1, hq, x1⟩
 ·rintro σ S2 ⟨ts, st, j4, j5, hr, e1, _, _, _, rfl, k1, k2, k3⟩
  obtain rfl : ts = [] := by cases ts with
   | nil => rfl
   | cons a b => simp at hr
  refine ⟨q0q k2, hK _ _ ?_⟩
  simp only [run, Option.some.injEq] at e1
  subst e1
  have k1' : S2[S.length]? = some (.lst [triP (a, b, g)]) := k1
  dsimp! [k1', q0q k1', q2m]
  exact h S2 (k3.wk (by simp))
 ·rintro z rest σ S2 ⟨ts, st, j4, j5, hr, e1, hin, hln, hdp, rfl, k1, k2, k3⟩ N hN
  obtain ⟨t, ts, rfl⟩ : ∃ p r, ts = p :: r := by
   cases ts with
   | nil => simp at hr
   | cons a b => exact ⟨a, b, rfl⟩
  simp only [List.map_cons, List.cons.injEq] at hr
  obtain ⟨rfl, rfl⟩ := hr
  refine ⟨q0q k2, ?_⟩
  have htw := hin t (by simp)
  simp only [List.length_cons] at hln
  cases t with
  | w i f =>
   have hp := y5d htw rfl
   obtain ⟨p0, p1, p2, p3, p4⟩ := gc.all _ hp
   dsimp! [rw0, rw1, rw2, k1, z2z]
   refine hw x y tr ws (i, f) _ _ _ gc.ok hwl p0 p1 p2 p3 p4 fun S3 x3 => ?_
   have m1 := x3.get k1 (by simp)
   have m2 := x3.get k2 (by simp)
   dsimp! [q1i m1]
   simp only [run, stp, Option.bind_some] at e1
   have := f.dp_lv
   refine ⟨big (by simp; omega), hN _ _ ⟨ts, (i, i + 1, f) :: st, _, _, rfl, e1, fun t ht => hin t (by simp [ht]), by simp; omega, fun u hu => ?_, rfl, ?_, q1z _ m2 hqn, (k3.trans x3.nil).set (.inl (by simp))⟩⟩
   ·rcases List.mem_cons.mp hu with z | z
    ·subst z; simp at p3 ⊢; omega
    ·exact hdp u z
   ·rw [q2f _ m1]; simp
  | n s l q' =>
   simp only [run] at e1
   obtain ⟨st', es, e2⟩ := Option.bind_eq_some_iff.mp e1
   match st, es with
   | (a1, k', u) :: (k'', b1, v) :: st0, es =>
    simp only [stp] at es
    cases hmd : md u v with
    | none => rw [hmd] at es; cases es
    | some zg =>
     obtain ⟨z0, g1⟩ := zg
     rw [hmd] at es
     simp only at es
     by_cases hc : k' = k'' /\ z0 = s.st
     ·rw [if_pos hc] at es
      obtain ⟨rfl, rfl⟩ := hc
      cases es
      have sw' : (s.st = Str.ofString "word") = False := z2y s
      have e0 : S2[S.length]? = some (.lst (st0.reverse.map triP ++ [triP (k', b1, v)] ++ [triP (a1, k', u)])) := by rw [k1]; simp
      dsimp! [rn0, sw']
      refine seqI fun K2 hK2 => ?_
      dsimp! [e0, q1i e0, List.getLast?_append, List.getLast?_singleton, Option.some_or, List.dropLast_concat]
      refine hK2 _ _ ?_
      clear hK2
      have e1' := q2f (.lst (st0.reverse.map triP ++ [triP (k', b1, v)])) e0
      dsimp! [rn0, e1', q1i e1', List.getLast?_append, List.getLast?_singleton, Option.some_or, List.dropLast_concat]
      have e2' := q2f (.lst (st0.reverse.map triP)) e1'
      refine ht s a1 k' b1 u v g1 _ _ _ hmd (hdp (a1, k', u) (by simp)) (hdp (k', b1, v) (by simp)) ?_
      dsimp! [q1i e2']
      simp only [List.length_cons] at hln
      have hg1 := x0x hmd
      refine ⟨big (by simp; omega), hN _ _ ⟨ts, (a1, b1, g1) :: st0, _, _, rfl, e2, fun t ht => hin t (by simp [ht]), by simp; omega, fun w hw' => ?_, rfl, ?_, q1z _ (q1z _ (q1z _ k2 hqn) hqn) hqn, ((k3.set (.inl (by simp))).set (.inl (by simp))).set (.inl (by simp))⟩⟩
      ·rcases List.mem_cons.mp hw' with z | z
       ·subst z
        have d1 : u.dp <= 100 := hdp (a1, k', u) (by simp)
        have d2 : v.dp <= 100 := hdp (k', b1, v) (by simp)
        show g1.dp <= 100
        omega
       ·exact hdp w (by simp [z])
      ·rw [q2f _ e2']; simp
     ·rw [if_neg hc] at es; cases es
   | [], es => cases es
   | [_], es => cases es
theorem x3z{a b f:Fm}{s:Str}(h:mdL a b=some (s,f)):(s=Str.ofString ">" /\a=.n false f b)\/(s=Str.ofString ">>" /\∃x y z,a=.n false x y/\b=.n false y z/\f=.n false x z):=by
 cases a with
 |b t=>cases h
 |n l x y=>
  cases l with
  |true=>cases h
  |false=>
   by_cases z:y=b
   ·simp only[mdL,if_pos z]at h
    cases h
    exact .inl ⟨rfl,by rw[z]⟩
   ·cases b with
    |b t=>simp only[mdL,if_neg z]at h;cases h
    |n m u v=>
     cases m with
     |true=>simp only[mdL,if_neg z]at h;cases h
     |false=>
      by_cases z2:y=u
      ·simp only[mdL,if_neg z,if_pos z2]at h
       cases h
       exact .inr ⟨rfl,x,y,v,rfl,by rw[z2],rfl⟩
      ·simp only[mdL,if_neg z,if_neg z2]at h;cases h
theorem x3y{a b f:Fm}{s:Str}(h:mdR a b=some (s,f)):(s=Str.ofString "<" /\b=.n true f a)\/(s=Str.ofString "<<" /\∃x y z,a=.n true y z/\b=.n true x y/\f=.n true x z):=by
 cases b with
 |b t=>cases h
 |n l x y=>
  cases l with
  |false=>cases h
  |true=>
   by_cases z:y=a
   ·simp only[mdR,if_pos z]at h
    cases h
    exact .inl ⟨rfl,by rw[z]⟩
   ·cases a with
    |b t=>simp only[mdR,if_neg z]at h;cases h
    |n m u v=>
     cases m with
     |false=>simp only[mdR,if_neg z]at h;cases h
     |true=>
      by_cases z2:y=u
      ·simp only[mdR,if_neg z,if_pos z2]at h
       cases h
       exact .inr ⟨rfl,x,y,v,by rw[z2],rfl,rfl⟩
      ·simp only[mdR,if_neg z,if_neg z2]at h;cases h
theorem mdc{a b f:Fm}{s:Str}(h:md a b=some (s,f)):(s=Str.ofString ">" /\a=.n false f b)\/(s=Str.ofString ">>" /\∃x y z,a=.n false x y/\b=.n false y z/\f=.n false x z)\/(s=Str.ofString "<" /\b=.n true f a)\/(s=Str.ofString "<<" /\∃x y z,a=.n true y z/\b=.n true x y/\f=.n true x z):=by
 unfold md at h
 rcases Option.or_eq_some_iff.mp h with e|⟨_,e⟩
 ·rcases x3z e with z|z
  ·exact .inl z
  ·exact .inr (.inl z)
 ·rcases x3y e with z|z
  ·exact .inr (.inr (.inl z))
  ·exact .inr (.inr (.inr z))
theorem y8x:y0l (fnP 2 2 q4h):=by
 intro a b S E Q ha hb h
 refine⟨rfl,?_⟩
 unfold q4h
 have p2:2<=sizeLine:=big (by decide)
 have p3:3<=sizeLine:=big (by decide)
 refine seqI fun K hK=>?_
 have h1:(∀x,a≠.n false x b)->K [some a.pv,some b.pv] S:=fun n1=>by
  refine hK _ _ ?_
  clear hK
  refine seqI fun K hK=>?_
  have h2:(∀x,b≠.n true x a)->K [some a.pv,some b.pv] S:=fun n2=>by
   refine hK _ _ ?_
   clear hK
   refine seqI fun K hK=>?_
   have h3:(∀x y z,a=.n false x y->b≠.n false y z)->K [some a.pv,some b.pv] S:=fun n3=>by
    refine hK _ _ ?_
    clear hK
    refine seqI fun K hK=>?_
    have h4:(∀x y z,a=.n true y z->b≠.n true x y)->K [some a.pv,some b.pv] S:=fun n4=>by
     refine hK _ _ ?_
     dsimp![true_and]
     cases e:md a b with
     |none=>rw[e]at h;exact h
     |some p=>
      rcases mdc (s:=p.1) (f:=p.2) e with⟨_,z⟩|⟨_,x,y,w,z1,z2,_⟩|⟨_,z⟩|⟨_,x,y,w,z1,z2,_⟩
      ·exact absurd z (n1 _)
      ·exact absurd z2 (n3 _ _ _ z1)
      ·exact absurd z (n2 _)
      ·exact absurd z2 (n4 _ _ _ z1)
    clear n1 n2 n3
    cases a with
    |b s=>dsimp![fb0,ba_b];exact h4 fun x y z e=>by cases e
    |n l x y=>
     cases l with
     |false=>dsimp![fn0,z5o];exact h4 fun x y z e=>by cases e
     |true=>
      dsimp![fn0,z5l]
      cases b with
      |b s=>dsimp![fb0,ba_b];exact h4 fun x y z _ e=>by cases e
      |n m u v=>
       cases m with
       |false=>dsimp![fn0,z5o];exact h4 fun x y z _ e=>by cases e
       |true=>
        simp only[Fm.dp]at ha hb
        dsimp![fn0,z5l,fn1,fn2,q5h (show v.dp<=100 by omega) (show x.dp<=100 by omega)]
        refine ite2 (fun z=>⟨p3,p2,?_⟩) (fun z=>h4 fun x' y' z' e1 e2=>by cases e1;cases e2;exact z rfl)
        subst z
        rw[md4]at h
        exact h
   clear n1 n2
   cases a with
   |b s=>dsimp![fb0,ba_f];exact h3 fun x y z e=>by cases e
   |n l x y=>
    cases l with
    |true=>dsimp![fn0,z5m];exact h3 fun x y z e=>by cases e
    |false=>
     dsimp![fn0,z5n]
     cases b with
     |b s=>dsimp![fb0,ba_f];exact h3 fun x y z _ e=>by cases e
     |n m u v=>
      cases m with
      |true=>dsimp![fn0,z5m];exact h3 fun x y z _ e=>by cases e
      |false=>
       simp only[Fm.dp]at ha hb
       dsimp![fn0,z5n,fn1,fn2,q5h (show y.dp<=100 by omega) (show u.dp<=100 by omega)]
       refine ite2 (fun z=>⟨p3,p2,?_⟩) (fun z=>h3 fun x' y' z' e1 e2=>by cases e1;cases e2;exact z rfl)
       subst z
       rw[md3]at h
       exact h
  clear n1
  cases b with
  |b s=>dsimp![fb0,ba_b];exact h2 fun x e=>by cases e
  |n m u v=>
   cases m with
   |false=>dsimp![fn0,z5o];exact h2 fun x e=>by cases e
   |true=>
    simp only[Fm.dp]at hb
    dsimp![fn0,z5l,fn1,fn2,q5h (show v.dp<=100 by omega) ha]
    refine ite2 (fun z=>⟨p2,?_⟩) (fun z=>h2 fun x e=>by cases e;exact z rfl)
    subst z
    rw[md2]at h
    exact h
 cases a with
 |b s=>dsimp![fb0,ba_f];exact h1 fun x e=>by cases e
 |n l x y=>
  cases l with
  |true=>dsimp![fn0,z5m];exact h1 fun x e=>by cases e
  |false=>
   simp only[Fm.dp]at ha
   dsimp![fn0,z5n,fn1,fn2,q5h (show y.dp<=100 by omega) hb]
   refine ite2 (fun z=>⟨p2,?_⟩) (fun z=>h1 fun x' e=>by cases e;exact z rfl)
   subst z
   rw[md1]at h
   exact h
def ndP(u:Rd×Tri):PV:=.tup [u.1.pv,triP u.2]
theorem z1z:∀{r:Rd}{a b:Int}{g:Fm},r.is a b g->(∀p∈r.ws,p.2.lv<=6)->g.dp<=6
 |.w i f,a,b,g,⟨_,_,e⟩,h=>by subst e;exact Nat.le_trans f.dp_lv (h (i,f) (by simp[Rd.ws]))
 |.n s l r,a,b,g,⟨k,x,y,h1,h2,h3⟩,h=>by
  have:=z1z h1 fun p hp=>h p (by simp[Rd.ws,hp])
  have:=z1z h2 fun p hp=>h p (by simp[Rd.ws,hp])
  have:=x0x h3
  omega
def NdsD(sp:Den)(n:Nat):Prop:=∀(r:Rd)(a b:Int)(g:Fm)(S:q0h)(E:EK)(Q:VC),r.is a b g->(∀p∈r.ws,p.2.lv<=6)->r.lv<=n->(∀(q:Nat)(us:List (Rd×Tri)) S',(∀u∈us++[(r,(a,b,g))],u.1∈r.wi/\u.1.is u.2.1 u.2.2.1 u.2.2.2)->us.length+2<=2*r.lv->S.length<=q->S'[q]?=some (.lst ((us++[(r,(a,b,g))]).map ndP))->Ex [] S S'->Q (.ref q) S')->sp [r.pv] S E Q
theorem nd1(u:Rd×Tri)(S:q0h)(Q:VC):bIx (ndP u) (.int 1) S Q=Q (triP u.2) S:=rfl
theorem tri0(t:Tri)(S:q0h)(Q:VC):bIx (triP t) (.int 0) S Q=Q (.int t.1) S:=rfl
theorem tri1(t:Tri)(S:q0h)(Q:VC):bIx (triP t) (.int 1) S Q=Q (.int t.2.1) S:=rfl
theorem tri2(t:Tri)(S:q0h)(Q:VC):bIx (triP t) (.int 2) S Q=Q t.2.2.pv S:=rfl
theorem z8j{T U:Nat->Den}(hT:∀n,T (n+1)=fnP 1 4 (q3s (T n) (U n)))(hU:∀n,y0l (U (n+1))):∀(n:Nat),n<=100->NdsD (T (n+1)) n
 |0,_=>fun r _ _ _ _ _ _ _ _ h=>by have:=r.lv_pos;omega
 |n+1,hn=>by
  intro r a b g S E Q his hlv hl h
  have p1:1<=sizeLine:=big (by decide)
  have p2:2<=sizeLine:=big (by decide)
  have p3:3<=sizeLine:=big (by decide)
  rw[hT]
  refine⟨rfl,?_⟩
  unfold q3s
  cases r with
  |w i f=>
   obtain⟨rfl,rfl,rfl⟩:=his
   refine seqI fun K hK=>?_
   dsimp![rw0,rw1,rw2,z2z]
   refine⟨p3,p2,p1,?_⟩
   refine h S.length [] _ (fun u hu=>?_) (by simp[Rd.lv]) (Nat.le_refl _) (q0t _ _) (Ex.new _ _ _)
   simp at hu
   subst hu
   exact⟨by simp[Rd.wi],rfl,rfl,rfl⟩
  |n s l q=>
   obtain⟨k,x,y,h1,h2,h3⟩:=his
   have lp:=l.lv_pos
   have qp:=q.lv_pos
   simp only[Rd.lv]at hl
   have hl1:∀p∈l.ws,p.2.lv<=6:=fun p hp=>hlv p (by simp[Rd.ws,hp])
   have hl2:∀p∈q.ws,p.2.lv<=6:=fun p hp=>hlv p (by simp[Rd.ws,hp])
   have dx:=z1z h1 hl1
   have dy:=z1z h2 hl2
   have sw':(s.st=Str.ofString "word")=False:=z2y s
   refine seqI fun K hK=>?_
   dsimp![rn0,sw']
   refine hK _ _ ?_
   clear hK K
   refine seqI fun K hK=>?_
   dsimp![rn1]
   refine z8j hT hU n (by omega) l a k x _ _ _ h1 hl1 (by omega) fun q1 us S1 u1 u2 u3 u4 x1=>hK _ _ ?_
   clear hK K
   refine seqI fun K hK=>?_
   dsimp![rn2]
   refine z8j hT hU n (by omega) q k b y _ _ _ h2 hl2 (by omega) fun q2 vs S2 v1 v2 v3 v4 x2=>hK _ _ ?_
   clear hK K
   have u4':=x2.get u4 (by simp)
   rw[List.map_append,List.map_cons,List.map_nil]at u4' v4
   refine seqI fun K hK=>?_
   dsimp![u4',q7g,v4,nd1,tri2]
   obtain⟨n',rfl⟩:∃n',n=n'+1:=⟨n-1,by omega⟩
   refine hU (n'+1) x y _ _ _ (by omega) (by omega) ?_
   rw[h3]
   refine hK _ _ ?_
   clear hK K
   have u5:=q1a u4' [SO.lst ((us.map ndP++[ndP (l,(a,k,x))])++(vs.map ndP++[ndP (q,(k,b,y))]))]
   have v5:=q1a v4 [SO.lst ((us.map ndP++[ndP (l,(a,k,x))])++(vs.map ndP++[ndP (q,(k,b,y))]))]
   have w5:=q0t S2 (SO.lst ((us.map ndP++[ndP (l,(a,k,x))])++(vs.map ndP++[ndP (q,(k,b,y))])))
   have w6:=q1a w5 [SO.lst [ndP (.n s l q,(a,b,g))]]
   dsimp![q1i u4',q1i v4,u5,v5,q7g,nd1,tri0,tri1,mdP,y0j]
   have en:PV.tup [(Rd.n s l q).pv,PV.tup [PV.int a,PV.int b,g.pv]]=ndP (.n s l q,(a,b,g)):=rfl
   rw[en]
   simp only[q1i w6]
   refine⟨big (by simp;omega),p3,p2,p1,big (by simp;omega),?_⟩
   have l1:=x1.1
   have l2:=x2.1
   refine h _ (us++[(l,(a,k,x))]++(vs++[(q,(k,b,y))])) _ (fun u hu=>?_) (by simp[Rd.lv];omega) ?_ ?_ ((((x1.trans x2).app _).app _).app _)
   ·rcases List.mem_append.mp hu with hu|hu
    ·rcases List.mem_append.mp hu with hu|hu
     ·obtain⟨i1,i2⟩:=u1 u hu
      exact⟨by simp[Rd.wi,i1],i2⟩
     ·obtain⟨i1,i2⟩:=v1 u hu
      exact⟨by simp[Rd.wi,i1],i2⟩
    ·rw[List.mem_singleton]at hu;subst hu
     exact⟨by simp[Rd.wi],k,x,y,h1,h2,h3⟩
   ·simp;omega
   ·rw[q0t];simp
theorem z8v{T:Nat->Den}(hT:∀n,T (n+1)=fnP 1 1 (q2h (T n))):∀(n:Nat)(f:Fm),f.dp<=n->∀(S:q0h)(E:EK)(Q:VC),Q (.bl true) S->T n [f.pv] S E Q
 |0,f,hd,S,E,Q,h=>by have:=f.dp_pos;omega
 |n+1,.b s,hd,S,E,Q,h=>by
  rw[hT]
  refine⟨rfl,?_⟩
  unfold q2h
  refine seqI fun K hK=>?_
  dsimp![Fm.pv,q2m,Bool.true_eq_false]
  refine hK _ _ ?_
  clear hK
  refine seqI fun K hK=>?_
  dsimp![Fm.pv,q2m,y0j]
  exact h
 |n+1,.n l x y,hd,S,E,Q,h=>by
  simp only[Fm.dp]at hd
  rw[hT]
  refine⟨rfl,?_⟩
  unfold q2h
  refine seqI fun K hK=>?_
  dsimp![Fm.pv,q2m,Bool.true_eq_false]
  refine hK _ _ ?_
  clear hK
  refine seqI fun K hK=>?_
  dsimp![Fm.pv,q2m]
  refine hK _ _ ?_
  clear hK
  have sa:([PV.str "/",PV.str "\\"].any fun y=>eqB y (.str (sSl l)))=true:=by
   have:=z5c [Str.ofString "/",Str.ofString "\\"] (sSl l)
   rw[decide_eq_true (y3z l)]at this
   exact this
  dsimp![fn0,fn1,fn2]
  refine⟨big (by decide),⟨⟨rfl,Nat.zero_le _⟩,q7q [_,_]⟩,?_⟩
  rw[if_pos sa]
  dsimp![y0j,x2r]
  refine z8v hT n x (by omega) _ _ _ ?_
  dsimp![true_and]
  refine z8v hT n y (by omega) _ _ _ ?_
  exact h
section
open PySem L2 Ev PySem.Spec PyProof.Rows
def top(i:Nat):Stmt:=PySem.Challenge.pw_slashwise_k50_readings_gone_through.main.body.getD i (.Pass ⟨0,0,0,0⟩)
structure Tab where
 dLdraw:Den
 dLfree_name:Den
 dLnames:Den
 dLform:Den
 dLwidth:Den
 dLsplit:Den
 dLgrown:Den
 dLreading:Den
 dLsentence:Den
 dLfurther:Den
 dLkind:Den
 dLturn:Den
 dLbook:Den
 dLmade:Den
 dLnumbers:Den
 dLrule:Den
 dLnodes:Den
 dis_headed:Den
 dnodes_of:Den
 drows_of:Den
 dshow_form:Den
 dforms_of:Den
 dis_name:Den
 dis_form:Den
 dformed_of_word:Den
 dmade:Den
 dformed_of_two:Den
 dformed:Den
 dLis_form:Den
 dLwhole:Den
 dlaw:Den
def tabS(t:Tab):Tab where
 dLdraw:=fnP 2 2 (q4k)
 dLfree_name:=fnP 3 9 (q2l)
 dLnames:=fnP 3 10 (q3t t.dLdraw t.dLfree_name)
 dLform:=fnP 3 6 (q4j t.dLdraw t.dLform)
 dLwidth:=fnP 1 1 (q2z t.dLwidth)
 dLsplit:=fnP 3 4 (q3r t.dLwidth)
 dLgrown:=fnP 4 10 (q3u t.dLdraw t.dLform t.dLsplit)
 dLreading:=fnP 2 5 (q3a)
 dLsentence:=fnP 2 10 (q2q t.dLnames t.dLdraw)
 dLfurther:=fnP 5 8 (q3c t.dLdraw t.dLform)
 dLkind:=fnP 1 1 (q3l t.dLkind)
 dLturn:=fnP 2 4 (q4g t.dLdraw)
 dLbook:=fnP 3 9 (q4l t.dLkind t.dLnames t.dLturn)
 dLmade:=fnP 3 11 (q4i t.dLnames t.dLdraw t.dLform t.dLgrown t.dLreading t.dLsentence t.dLfurther t.dLbook)
 dLnumbers:=fnP 1 6 (q3b)
 dLrule:=fnP 2 2 (q4h)
 dLnodes:=fnP 1 4 (q3s t.dLnodes t.dLrule)
 dis_headed:=fnP 3 3 (q2p)
 dnodes_of:=fnP 2 6 (q2x t.dis_headed)
 drows_of:=fnP 2 3 (q3i)
 dshow_form:=fnP 1 5 (q2o t.dshow_form)
 dforms_of:=fnP 2 2 (q2y t.drows_of t.dshow_form)
 dis_name:=fnP 1 1 (q3j)
 dis_form:=fnP 1 4 (q3k t.dis_headed t.dis_name)
 dformed_of_word:=fnP 4 5 (q1r t.dforms_of t.dis_form)
 dmade:=fnP 2 2 (q4u)
 dformed_of_two:=fnP 3 4 (q1v t.dmade)
 dformed:=fnP 3 6 (q3p t.dnodes_of t.dformed_of_word t.dformed_of_two)
 dLis_form:=fnP 1 1 (q2h t.dLis_form)
 dLwhole:=fnP 1 1 (q3q)
 dlaw:=fnP 1 11 (q5i t.dLmade t.dLnumbers t.dLnodes t.dformed t.dLis_form t.dLwhole)
def tab:Nat->Tab
 |0=>⟨fun _ _ _ _=>False,fun _ _ _ _=>False,fun _ _ _ _=>False,fun _ _ _ _=>False,fun _ _ _ _=>False,fun _ _ _ _=>False,fun _ _ _ _=>False,fun _ _ _ _=>False,fun _ _ _ _=>False,fun _ _ _ _=>False,fun _ _ _ _=>False,fun _ _ _ _=>False,fun _ _ _ _=>False,fun _ _ _ _=>False,fun _ _ _ _=>False,fun _ _ _ _=>False,fun _ _ _ _=>False,fun _ _ _ _=>False,fun _ _ _ _=>False,fun _ _ _ _=>False,fun _ _ _ _=>False,fun _ _ _ _=>False,fun _ _ _ _=>False,fun _ _ _ _=>False,fun _ _ _ _=>False,fun _ _ _ _=>False,fun _ _ _ _=>False,fun _ _ _ _=>False,fun _ _ _ _=>False,fun _ _ _ _=>False,fun _ _ _ _=>False⟩
 |k+1=>tabS (tab k)
structure Sta(K:Frag)(mg:Str->Option Value):Prop where
 z0:mg "all" = none
 z1:mg "bool" = none
 z2:mg "int" = none
 z3:mg "isinstance" = none
 z4:mg "len" = none
 z5:mg "list" = none
 z6:mg "min" = none
 z7:mg "range" = none
 z8:mg "reversed" = none
 z9:mg "sorted" = none
 z10:mg "str" = none
 z11:mg "tuple" = none
 z12:mg "zip" = none
 g0:GlobV K mg "LETTERS" (.str "abcdefghijklmnopqrstuvwxyz")
 g1:GlobV K mg "LONGEST_NAME" (.int 8)
 g2:GlobV K mg "MOST_BASICS" (.int 12)
 g3:GlobV K mg "SIGNS" (.tup [(.str ">"),(.str "<"),(.str ">>"),(.str "<<")])
 g4:GlobV K mg "SLASHES" (.tup [(.str "/"),(.str "\\")])
 h0:ExcC K mg "NoReading"
 h1:Cau K mg "NoWord" []
abbrev sF0:Stmt:=top 28
abbrev nF0:List Str:=["_law_deck", "_law_most"]
abbrev pF0:List Str:=["_law_deck", "_law_most"]
abbrev sF1:Stmt:=top 29
abbrev nF1:List Str:=["_law_size", "_law_number", "_law_names_here", "_law_letters", "_law_found", "_law_turn_here", "_law_left", "_law_name", "_law_k"]
abbrev pF1:List Str:=["_law_size", "_law_number", "_law_names_here"]
abbrev sF2:Stmt:=top 30
abbrev nF2:List Str:=["_law_deck", "_law_many", "_law_bars", "_law_letters", "_law_found", "_law_k", "_law_base", "_law_at", "_law_spot", "_law_some"]
abbrev pF2:List Str:=["_law_deck", "_law_many", "_law_bars"]
abbrev sF3:Stmt:=top 34
abbrev nF3:List Str:=["_law_deck", "_law_basics", "_law_size", "_law_left", "_law_slash", "_law_one"]
abbrev pF3:List Str:=["_law_deck", "_law_basics", "_law_size"]
abbrev sF4:Stmt:=top 31
abbrev nF4:List Str:=["_law_form_here"]
abbrev pF4:List Str:=["_law_form_here"]
abbrev sF5:Stmt:=top 35
abbrev nF5:List Str:=["_law_form_here", "_law_other", "_law_way", "_law_some"]
abbrev pF5:List Str:=["_law_form_here", "_law_other", "_law_way"]
abbrev sF6:Stmt:=top 36
abbrev nF6:List Str:=["_law_deck", "_law_basics", "_law_goal", "_law_many", "_law_row", "_law_trees", "_law_turn_here", "_law_at", "_law_other", "_law_some"]
abbrev pF6:List Str:=["_law_deck", "_law_basics", "_law_goal", "_law_many"]
abbrev sF7:Stmt:=top 37
abbrev nF7:List Str:=["_law_row", "_law_splits", "_law_trees", "_law_at", "_law_sign"]
abbrev pF7:List Str:=["_law_row", "_law_splits"]
abbrev sF8:Stmt:=top 39
abbrev nF8:List Str:=["_law_deck", "_law_row", "_law_names_here", "_law_way", "_law_forms", "_law_words", "_law_k", "_law_at", "_law_word", "_law_some"]
abbrev pF8:List Str:=["_law_deck", "_law_row"]
abbrev sF9:Stmt:=top 40
abbrev nF9:List Str:=["_law_deck", "_law_basics", "_law_row", "_law_words", "_law_forms", "_law_turn_here", "_law_form_here", "_law_some"]
abbrev pF9:List Str:=["_law_deck", "_law_basics", "_law_row", "_law_words", "_law_forms"]
abbrev sF10:Stmt:=top 32
abbrev nF10:List Str:=["_law_form_here"]
abbrev pF10:List Str:=["_law_form_here"]
abbrev sF11:Stmt:=top 38
abbrev nF11:List Str:=["_law_deck", "_law_things", "_law_left", "_law_found"]
abbrev pF11:List Str:=["_law_deck", "_law_things"]
abbrev sF12:Stmt:=top 41
abbrev nF12:List Str:=["_law_deck", "_law_basics", "_law_forms", "_law_kinds", "_law_word", "_law_form_here", "_law_names_here", "_law_triples", "_law_pairs"]
abbrev pF12:List Str:=["_law_deck", "_law_basics", "_law_forms"]
abbrev sF13:Stmt:=top 42
abbrev nF13:List Str:=["_law_deck", "_law_most", "_law_loose", "_law_basics", "_law_goal", "_law_many", "_law_row", "_law_splits", "_law_reading_here", "_law_words", "_law_forms"]
abbrev pF13:List Str:=["_law_deck", "_law_most", "_law_loose"]
abbrev sF14:Stmt:=top 27
abbrev nF14:List Str:=["_law_script", "_law_cells", "_law_found", "_law_cell", "_law_k", "_law_number"]
abbrev pF14:List Str:=["_law_script"]
abbrev sF15:Stmt:=top 43
abbrev nF15:List Str:=["_law_left", "_law_right"]
abbrev pF15:List Str:=["_law_left", "_law_right"]
abbrev sF16:Stmt:=top 45
abbrev nF16:List Str:=["_law_reading_here", "_law_left", "_law_right", "_law_pair"]
abbrev pF16:List Str:=["_law_reading_here"]
abbrev sF17:Stmt:=top 12
abbrev nF17:List Str:=["thing", "heads", "size"]
abbrev pF17:List Str:=["thing", "heads", "size"]
abbrev sF18:Stmt:=top 22
abbrev nF18:List Str:=["reading", "most", "nodes", "todo", "words", "node"]
abbrev pF18:List Str:=["reading", "most"]
abbrev sF19:Stmt:=top 15
abbrev nF19:List Str:=["book", "word", "rows"]
abbrev pF19:List Str:=["book", "word"]
abbrev sF20:Stmt:=top 13
abbrev nF20:List Str:=["form", "slash", "left", "right", "shown"]
abbrev pF20:List Str:=["form"]
abbrev sF21:Stmt:=top 16
abbrev nF21:List Str:=["book", "word"]
abbrev pF21:List Str:=["book", "word"]
abbrev sF22:Stmt:=top 7
abbrev nF22:List Str:=["thing"]
abbrev pF22:List Str:=["thing"]
abbrev sF23:Stmt:=top 11
abbrev nF23:List Str:=["thing", "todo", "basics", "part"]
abbrev pF23:List Str:=["thing"]
abbrev sF24:Stmt:=top 23
abbrev nF24:List Str:=["book", "words", "place", "form", "forms"]
abbrev pF24:List Str:=["book", "words", "place", "form"]
abbrev sF25:Stmt:=top 19
abbrev nF25:List Str:=["left", "right"]
abbrev pF25:List Str:=["left", "right"]
abbrev sF26:Stmt:=top 24
abbrev nF26:List Str:=["sign", "left", "right", "told"]
abbrev pF26:List Str:=["sign", "left", "right"]
abbrev sF27:Stmt:=top 21
abbrev nF27:List Str:=["book", "words", "reading", "told", "node", "left"]
abbrev pF27:List Str:=["book", "words", "reading"]
abbrev sF28:Stmt:=top 44
abbrev nF28:List Str:=["_law_found"]
abbrev pF28:List Str:=["_law_found"]
abbrev sF29:Stmt:=top 26
abbrev nF29:List Str:=["_law_found"]
abbrev pF29:List Str:=["_law_found"]
abbrev sF30:Stmt:=top 46
abbrev nF30:List Str:=["_law_script", "_law_book_here", "_law_words", "_law_forms", "_law_reading_here", "_law_goal", "_law_nodes_here", "_law_turn_here", "_law_node", "_law_due", "_law_found"]
abbrev pF30:List Str:=["_law_script"]
structure Fns(P:Program)(w:World)(K:Frag)(mg:Str->Option Value)(base:Heap)(k:Nat)(t:Tab)(f:Nat->Addr)(fd:Nat->FuncData):Prop where
 c0:Cal P w K mg base k "_law_draw" pF0 (q1h K t.dLdraw) (f 0) (fd 0)
 c1:Cal P w K mg base k "_law_free_name" pF1 (q1h K t.dLfree_name) (f 1) (fd 1)
 c2:Cal P w K mg base k "_law_names" pF2 (q1h K t.dLnames) (f 2) (fd 2)
 c3:Cal P w K mg base k "_law_form" pF3 (q1h K t.dLform) (f 3) (fd 3)
 c4:Cal P w K mg base k "_law_width" pF4 (q1h K t.dLwidth) (f 4) (fd 4)
 c5:Cal P w K mg base k "_law_split" pF5 (q1h K t.dLsplit) (f 5) (fd 5)
 c6:Cal P w K mg base k "_law_grown" pF6 (q1h K t.dLgrown) (f 6) (fd 6)
 c7:Cal P w K mg base k "_law_reading" pF7 (q1h K t.dLreading) (f 7) (fd 7)
 c8:Cal P w K mg base k "_law_sentence" pF8 (q1h K t.dLsentence) (f 8) (fd 8)
 c9:Cal P w K mg base k "_law_further" pF9 (q1h K t.dLfurther) (f 9) (fd 9)
 c10:Cal P w K mg base k "_law_kind" pF10 (q1h K t.dLkind) (f 10) (fd 10)
 c11:Cal P w K mg base k "_law_turn" pF11 (q1h K t.dLturn) (f 11) (fd 11)
 c12:Cal P w K mg base k "_law_book" pF12 (q1h K t.dLbook) (f 12) (fd 12)
 c13:Cal P w K mg base k "_law_made" pF13 (q1h K t.dLmade) (f 13) (fd 13)
 c14:Cal P w K mg base k "_law_numbers" pF14 (q1h K t.dLnumbers) (f 14) (fd 14)
 c15:Cal P w K mg base k "_law_rule" pF15 (q1h K t.dLrule) (f 15) (fd 15)
 c16:Cal P w K mg base k "_law_nodes" pF16 (q1h K t.dLnodes) (f 16) (fd 16)
 c17:Cal P w K mg base k "is_headed" pF17 (q1h K t.dis_headed) (f 17) (fd 17)
 c18:Cal P w K mg base k "nodes_of" pF18 (q1h K t.dnodes_of) (f 18) (fd 18)
 c19:Cal P w K mg base k "rows_of" pF19 (q1h K t.drows_of) (f 19) (fd 19)
 c20:Cal P w K mg base k "show_form" pF20 (q1h K t.dshow_form) (f 20) (fd 20)
 c21:Cal P w K mg base k "forms_of" pF21 (q1h K t.dforms_of) (f 21) (fd 21)
 c22:Cal P w K mg base k "is_name" pF22 (q1h K t.dis_name) (f 22) (fd 22)
 c23:Cal P w K mg base k "is_form" pF23 (q1h K t.dis_form) (f 23) (fd 23)
 c24:Cal P w K mg base k "formed_of_word" pF24 (q1h K t.dformed_of_word) (f 24) (fd 24)
 c25:Cal P w K mg base k "made" pF25 (q1h K t.dmade) (f 25) (fd 25)
 c26:Cal P w K mg base k "formed_of_two" pF26 (q1h K t.dformed_of_two) (f 26) (fd 26)
 c27:Cal P w K mg base k "formed" pF27 (q1h K t.dformed) (f 27) (fd 27)
 c28:Cal P w K mg base k "_law_is_form" pF28 (q1h K t.dLis_form) (f 28) (fd 28)
 c29:Cal P w K mg base k "_law_whole" pF29 (q1h K t.dLwhole) (f 29) (fd 29)
 c30:Cal P w K mg base k "law" pF30 (q1h K t.dlaw) (f 30) (fd 30)
structure Locs(K:Frag)(mg:Str->Option Value)(f:Nat->Addr)(fd:Nat->FuncData):Prop where
 l0:Loc2 K mg "_law_draw" sF0 pF0 (f 0) (fd 0)
 l1:Loc2 K mg "_law_free_name" sF1 pF1 (f 1) (fd 1)
 l2:Loc2 K mg "_law_names" sF2 pF2 (f 2) (fd 2)
 l3:Loc2 K mg "_law_form" sF3 pF3 (f 3) (fd 3)
 l4:Loc2 K mg "_law_width" sF4 pF4 (f 4) (fd 4)
 l5:Loc2 K mg "_law_split" sF5 pF5 (f 5) (fd 5)
 l6:Loc2 K mg "_law_grown" sF6 pF6 (f 6) (fd 6)
 l7:Loc2 K mg "_law_reading" sF7 pF7 (f 7) (fd 7)
 l8:Loc2 K mg "_law_sentence" sF8 pF8 (f 8) (fd 8)
 l9:Loc2 K mg "_law_further" sF9 pF9 (f 9) (fd 9)
 l10:Loc2 K mg "_law_kind" sF10 pF10 (f 10) (fd 10)
 l11:Loc2 K mg "_law_turn" sF11 pF11 (f 11) (fd 11)
 l12:Loc2 K mg "_law_book" sF12 pF12 (f 12) (fd 12)
 l13:Loc2 K mg "_law_made" sF13 pF13 (f 13) (fd 13)
 l14:Loc2 K mg "_law_numbers" sF14 pF14 (f 14) (fd 14)
 l15:Loc2 K mg "_law_rule" sF15 pF15 (f 15) (fd 15)
 l16:Loc2 K mg "_law_nodes" sF16 pF16 (f 16) (fd 16)
 l17:Loc2 K mg "is_headed" sF17 pF17 (f 17) (fd 17)
 l18:Loc2 K mg "nodes_of" sF18 pF18 (f 18) (fd 18)
 l19:Loc2 K mg "rows_of" sF19 pF19 (f 19) (fd 19)
 l20:Loc2 K mg "show_form" sF20 pF20 (f 20) (fd 20)
 l21:Loc2 K mg "forms_of" sF21 pF21 (f 21) (fd 21)
 l22:Loc2 K mg "is_name" sF22 pF22 (f 22) (fd 22)
 l23:Loc2 K mg "is_form" sF23 pF23 (f 23) (fd 23)
 l24:Loc2 K mg "formed_of_word" sF24 pF24 (f 24) (fd 24)
 l25:Loc2 K mg "made" sF25 pF25 (f 25) (fd 25)
 l26:Loc2 K mg "formed_of_two" sF26 pF26 (f 26) (fd 26)
 l27:Loc2 K mg "formed" sF27 pF27 (f 27) (fd 27)
 l28:Loc2 K mg "_law_is_form" sF28 pF28 (f 28) (fd 28)
 l29:Loc2 K mg "_law_whole" sF29 pF29 (f 29) (fd 29)
 l30:Loc2 K mg "law" sF30 pF30 (f 30) (fd 30)
section
variable{P:Program}{w:World}{K:Frag}{mg:Str->Option Value}{base:Heap}{k:Nat}{t:Tab}{f:Nat->Addr}{fd:Nat->FuncData}{g:Addr}(Z:Sta K mg)(I:Fns P w K mg base k t f fd)
include Z I
theorem mF0:SimF P w K mg base k "_law_draw" nF0 sF0 (q4k) g:=
 fun hw hr hx hu hn=>(q0f (q1f (q0k (q1j hu) (q0b 0) (q1e q0c) (q0x _)) (q0g (q0s q0e)) q0r)
 (q0g (q0s (q0o q4b (q7k PySem.F.plainAttrs_list PySem.F.slot_list_pop PySem.F.type_list_pop q7t (q0b 0)) (q0b 1)))))
theorem mF1:SimF P w K mg base k "_law_free_name" nF1 sF1 (q2l) g:=
 fun hw hr hx hu hn=>(q0f (q0l 3 hn q0p)
 (q0f (q0l 4 hn q0p)
 (q0f (q2i PassesOwn.leaving rfl (q1q Z.z7 (q0a (q0o q1g (q0n q0z Z.z4 PySem.boot_len (q0a (q0b 2) q0c)) q0e) q0c)) (q0m (i:=5) hn) (q0f (q0l 6 hn (q0o q1g (q0b 1) (q0b 5)))
 (q0f (q0l 7 hn q0p)
 (q0f (q2i PassesOwn.leaving rfl (q1q Z.z7 (q0a (q0b 0) q0c)) (q0m (i:=8) hn) (q0f (q0l 7 hn (q0o q1g (q0b 7) (q0i hu (q0b 3) (q0o q4b (q0b 6) q0e))))
 (q0g (q0l 6 hn (q0o q5v (q0b 6) q0e)))))
 (q0g (q1f (SimW.t (q2e (q0k (q1j hu) (q0b 4) q0p (q0x _)) (q2c (q0k (q4a hu) (q0b 7) (q0b 2) (by with_unfolding_all rfl))))) (q0g (q0l 4 hn (q0b 7))) q0r))))))
 (q0g (q0s (q0b 4))))))
theorem mF2:SimF P w K mg base k "_law_names" nF2 sF2 (q3t t.dLdraw t.dLfree_name) g:=
 fun hw hr hx hu hn=>(q0f (q0l 3 hn q0p)
 (q0f (q0l 4 hn (q1e q0c))
 (q0f (q1f (q0k q5u (q0j I.c0 hr hx (q0a (q0b 0) (q0a q0e q0c))) q0e (q0x _)) (q0f (q2i PassesOwn.leaving rfl (q1q Z.z7 (q0a (q0b 1) q0c)) (q0m (i:=5) hn) (q0g (q1w (q2n PySem.F.plainAttrs_list PySem.F.slot_list_append PySem.F.type_list_append q1o (q0b 4) (q0a (q0j I.c1 hr hx (q0a (q0o q1g q0e (q0j I.c0 hr hx (q0a (q0b 0) (q0a q0e q0c)))) (q0a (q0j I.c0 hr hx (q0a (q0b 0) (q0a (q0o q9s q0e q0e) q0c))) (q0a (q0o q1g (q0b 4) (q0b 2)) q0c)))) q0c)))))
 (q0g (q0s (q0b 4)))) q0r)
 (q0f (q0l 6 hn (q0j I.c1 hr hx (q0a (q0o q1g q0e (q0j I.c0 hr hx (q0a (q0b 0) (q0a q0e q0c)))) (q0a (q0j I.c0 hr hx (q0a (q0b 0) (q0a (q0o q9s q0e q0e) q0c))) (q0a (q1e q0c) q0c)))))
 (q0f (q0l 7 hn (q0j I.c0 hr hx (q0a (q0b 0) (q0a (q0n q0z Z.z4 PySem.boot_len (q0a (q0b 6) q0c)) q0c))))
 (q0f (q0l 8 hn (q2n PySem.F.plainAttrs_str PySem.F.slot_str_index PySem.F.type_str_index (z8l rfl) (q0b 3) (q0a (q0i hu (q0b 6) (q0b 7)) q0c)))
 (q0f (q5q 9 ["_law_k", "_law_base", "_law_letters", "_law_at", "_law_spot"] [none,some 6,some 3,some 7,some 8] hn rfl (q5n rfl (by decide +kernel) (by decide +kernel) rfl ⟨⟨rfl,rfl,by first|exact Or.inl rfl|exact Or.inr rfl⟩,⟨⟨rfl,rfl,by first|exact Or.inl rfl|exact Or.inr rfl⟩,⟨⟨rfl,rfl,by first|exact Or.inl rfl|exact Or.inr rfl⟩,⟨⟨rfl,rfl,by first|exact Or.inl rfl|exact Or.inr rfl⟩,trivial⟩⟩⟩⟩) (q1q Z.z7 (q0a (q0o q1g (q0b 1) q0e) q0c)) (fun _ _ _ _ _=>(q0m (i:=0) (show (["_law_k", "_law_base", "_law_letters", "_law_at", "_law_spot"]:List Str).Nodup by decide +kernel))) (fun _ _ _ _ _=>(q0o q1g (q0o q1g (q3d (q0b 1) q3f (q3e (q0b 3))) (q0i hu (q0b 2) (q0o q4b (q0o q1g (q0b 4) (q0b 0)) q0e))) (q3d (q0b 1) (q3e (q0o q1g (q0b 3) q0e)) q3f))))
 (q0g (q0s (q3d (q8o ["_law_name", "_law_bars"] [none,some 2] rfl (q5n rfl (by decide +kernel) (by decide +kernel) rfl ⟨⟨rfl,rfl,by first|exact Or.inl rfl|exact Or.inr rfl⟩,trivial⟩) (q2s (q0b 9)) (fun _ _ _ _ _=>(q0m (i:=0) (show (["_law_name", "_law_bars"]:List Str).Nodup by decide +kernel))) (fun _ _ _ _ _=>(q0k (q4a hu) (q0b 0) (q0b 1) (by with_unfolding_all rfl))) (fun _ _ _ _ _=>(q0b 0))) q3f (q3e (q0b 1))))))))))))
theorem mF3:SimF P w K mg base k "_law_form" nF3 sF3 (q4j t.dLdraw t.dLform) g:=
 fun hw hr hx hu hn=>(q0f (q1f (q0k z1c (q0b 2) q0e (q0x _)) (q0g (q0s (q0i hu (q0b 1) (q0j I.c0 hr hx (q0a (q0b 0) (q0a (q0n q0z Z.z4 PySem.boot_len (q0a (q0b 1) q0c)) q0c)))))) q0r)
 (q0f (q0l 3 hn (q0o q1g q0e (q0j I.c0 hr hx (q0a (q0b 0) (q0a (q0o z3d (q0b 2) q0e) q0c)))))
 (q0f (q0l 4 hn (q0i hu (q1e (q0a q0p (q0a q0p q0c))) (q0j I.c0 hr hx (q0a (q0b 0) (q0a q0e q0c)))))
 (q0f (q0l 5 hn (q0j I.c3 hr hx (q0a (q0b 0) (q0a (q0b 1) (q0a (q0b 3) q0c)))))
 (q0g (q0s (q0v (q0a (q0b 4) (q0a (q0b 5) (q0a (q0j I.c3 hr hx (q0a (q0b 0) (q0a (q0b 1) (q0a (q0o z3d (q0b 2) (q0b 3)) q0c)))) q0c))))))))))
theorem mF4:SimF P w K mg base k "_law_width" nF4 sF4 (q2z t.dLwidth) g:=
 fun hw hr hx hu hn=>(q0f (q1f (q0k (q1j hu) (q0i hu (q0b 0) q0e) q0p (q0x _)) (q0g (q0s q0e)) q0r)
 (q0g (q0s (q0o q1g (q0j I.c4 hr hx (q0a (q0i hu (q0b 0) q0e) q0c)) (q0j I.c4 hr hx (q0a (q0i hu (q0b 0) q0e) q0c))))))
theorem mF5:SimF P w K mg base k "_law_split" nF5 sF5 (q3r t.dLwidth) g:=
 fun hw hr hx hu hn=>(q0f (q0l 3 hn (q0i hu (q1e (q0a (q0v (q0a q0p (q0a (q0v (q0a q0p (q0a (q0b 0) (q0a (q0b 1) q0c)))) (q0a (q0b 1) q0c)))) (q0a (q0v (q0a q0p (q0a (q0b 1) (q0a (q0v (q0a q0p (q0a (q0b 0) (q0a (q0b 1) q0c)))) q0c)))) q0c))) (q0o q4b (q0b 2) q0e)))
 (q0f (q1f (SimW.t (q2e (q0k q5u (q0b 2) q0e (q0x _)) (q2c (q0k (q1j hu) (q0i hu (q0b 0) q0e) q0p (q0x _))))) (q0g (q0l 3 hn (q0v (q0a q0p (q0a (q0v (q0a q0p (q0a (q0i hu (q0b 0) q0e) (q0a (q0b 1) q0c)))) (q0a (q0v (q0a q0p (q0a (q0b 1) (q0a (q0i hu (q0b 0) q0e) q0c)))) q0c)))))) q0r)
 (q0f (q1f (SimW.t (q2e (q0k q5u (q0b 2) q0e (q0x _)) (q2c (q0k (q1j hu) (q0i hu (q0b 0) q0e) q0p (q0x _))))) (q0g (q0l 3 hn (q0v (q0a q0p (q0a (q0v (q0a q0p (q0a (q0b 1) (q0a (q0i hu (q0b 0) q0e) q0c)))) (q0a (q0v (q0a q0p (q0a (q0i hu (q0b 0) q0e) (q0a (q0b 1) q0c)))) q0c)))))) q0r)
 (q0f (q1f (SimW.t (q2u (q0k q5u (q0j I.c4 hr hx (q0a (q0i hu (q0b 3) q0e) q0c)) q0e (q0x _)) (q3w (q0k q5u (q0j I.c4 hr hx (q0a (q0i hu (q0b 3) q0e) q0c)) q0e (q0x _))))) (q0g (q0s q6f)) q0r)
 (q0g (q0s (q0b 3)))))))
theorem mF6:SimF P w K mg base k "_law_grown" nF6 sF6 (q3u t.dLdraw t.dLform t.dLsplit) g:=
 fun hw hr hx hu hn=>(q0f (q0l 4 hn (q1e (q0a (q0b 2) q0c)))
 (q0f (q0l 5 hn (q1e q0c))
 (q0f (q2i PassesOwn.leaving rfl (q1q Z.z7 (q0a (q0o q7p q0e (q0b 3)) q0c)) (q0m (i:=6) hn) (q0g (q1f (q0k z1c (q0n q0z Z.z4 PySem.boot_len (q0a (q0b 4) q0c)) (q0b 3) (q0x _)) (q0f (q0l 7 hn (q0j I.c0 hr hx (q0a (q0b 0) (q0a (q0n q0z Z.z4 PySem.boot_len (q0a (q0b 4) q0c)) q0c))))
 (q0f (q0l 8 hn (q0j I.c3 hr hx (q0a (q0b 0) (q0a (q0b 1) (q0a (q0i hu (q1e (q0a q0e (q0a q0e (q0a q0e (q0a q0e (q0a q0e q0c)))))) (q0j I.c0 hr hx (q0a (q0b 0) (q0a q0e q0c)))) q0c)))))
 (q0f (q0l 9 hn (q0j I.c5 hr hx (q0a (q0i hu (q0b 4) (q0b 7)) (q0a (q0b 8) (q0a (q0j I.c0 hr hx (q0a (q0b 0) (q0a q0e q0c))) q0c)))))
 (q0g (q1f (q0k z8e (q0b 9) q6f (q0x _)) (q0f (q0l 4 hn (q0o q1g (q0o q1g (q3d (q0b 4) q3f (q3e (q0b 7))) (q1e (q0a (q0i hu (q0b 9) q0e) (q0a (q0i hu (q0b 9) q0e) q0c)))) (q3d (q0b 4) (q3e (q0o q1g (q0b 7) q0e)) q3f)))
 (q0g (q1w (q2n PySem.F.plainAttrs_list PySem.F.slot_list_append PySem.F.type_list_append q1o (q0b 5) (q0a (q0v (q0a (q0b 7) (q0a (q0i hu (q0b 9) q0e) q0c))) q0c))))) q0r))))) q0r)))
 (q0g (q0s (q0v (q0a (q0b 4) (q0a (q0b 5) q0c))))))))
theorem mF7:SimF P w K mg base k "_law_reading" nF7 sF7 (q3a) g:=
 fun hw hr hx hu hn=>(q0f (q5q 2 ["_law_k", "_law_row"] [none,some 0] hn rfl (q5n rfl (by decide +kernel) (by decide +kernel) rfl ⟨⟨rfl,rfl,by first|exact Or.inl rfl|exact Or.inr rfl⟩,trivial⟩) (q1q Z.z7 (q0a (q0n q0z Z.z4 PySem.boot_len (q0a (q0b 0) q0c)) q0c)) (fun _ _ _ _ _=>(q0m (i:=0) (show(["_law_k", "_law_row"]:List Str).Nodup by decide +kernel))) (fun _ _ _ _ _=>(q0v (q0a q0p (q0a (q0b 0) (q0a (q0i hu (q0b 1) (q0b 0)) q0c))))))
 (q0f (q2i PassesOwn.leaving rfl (q2s (q9m (q0b 1))) (q4m 2 rfl (q1c (q0m (i:=3) hn) (q1c (q0m (i:=4) hn) q3m))) (q0g (q0l 2 hn (q0o q1g (q0o q1g (q3d (q0b 2) q3f (q3e (q0b 3))) (q1e (q0a (q0v (q0a (q0b 4) (q0a (q0i hu (q0b 2) (q0b 3)) (q0a (q0i hu (q0b 2) (q0o q1g (q0b 3) q0e)) q0c)))) q0c))) (q3d (q0b 2) (q3e (q0o q1g (q0b 3) q0e)) q3f)))))
 (q0g (q0s (q0i hu (q0b 2) q0e)))))
theorem mF8:SimF P w K mg base k "_law_sentence" nF8 sF8 (q2q t.dLnames t.dLdraw) g:=
 fun hw hr hx hu hn=>(q0f (q0l 2 hn (q0j I.c2 hr hx (q0a (q0b 0) (q0a (q0n q0z Z.z4 PySem.boot_len (q0a (q0b 1) q0c)) (q0a (q1e q0c) q0c)))))
 (q0f (q0l 3 hn (q0j I.c0 hr hx (q0a (q0b 0) (q0a q0e q0c))))
 (q0f (q0l 4 hn y1i)
 (q0f (q0l 5 hn (q1e q0c))
 (q0f (q2i PassesOwn.leaving rfl (q1q Z.z7 (q0a (q0n q0z Z.z4 PySem.boot_len (q0a (q0b 1) q0c)) q0c)) (q0m (i:=6) hn) (q0f (q0l 7 hn (q0i hu (q1e (q0a (q0b 6) (q0a (q0j I.c0 hr hx (q0a (q0b 0) (q0a (q0n q0z Z.z4 PySem.boot_len (q0a (q0b 1) q0c)) q0c))) (q0a (q0j I.c0 hr hx (q0a (q0b 0) (q0a (q0n (z6k rfl) Z.z6 Ev.y3k (q0a q0e (q0a (q0n q0z Z.z4 PySem.boot_len (q0a (q0b 1) q0c)) q0c))) q0c))) q0c)))) (q0b 3)))
 (q0f (q0l 8 hn (q0i hu (q0b 2) (q0b 7)))
 (q0f (q1f (SimW.t (q2e (q0k q5u (q0n q0z Z.z4 PySem.boot_len (q0a (q2n PySem.F.plainAttrs_dict PySem.F.slot_dict_get PySem.F.type_dict_get (z4q hu) (q0b 4) (q0a (q0b 8) (q0a (q1e q0c) q0c))) q0c)) q0e (q0x _)) (q2c (q0k (q4a hu) (q0i hu (q0b 1) (q0b 6)) (q9o hu (q0b 4) (q0b 8)) (by with_unfolding_all rfl))))) (q0g (q0l 8 hn (q0i hu (q8o ["_law_name", "_law_forms"] [none,some 4] rfl (q5n rfl (by decide +kernel) (by decide +kernel) rfl ⟨⟨rfl,rfl,by first|exact Or.inl rfl|exact Or.inr rfl⟩,trivial⟩) (q2s (q0b 2)) (fun _ _ _ _ _=>(q0m (i:=0) (show (["_law_name", "_law_forms"]:List Str).Nodup by decide +kernel))) (fun _ _ _ _ _=>(q0k z1c (q0n q0z Z.z4 PySem.boot_len (q0a (q2n PySem.F.plainAttrs_dict PySem.F.slot_dict_get PySem.F.type_dict_get (z4q hu) (q0b 1) (q0a (q0b 0) (q0a (q1e q0c) q0c))) q0c)) q0e (q0x _))) (fun _ _ _ _ _=>(q0b 0))) q0e))) q0r)
 (q0f (q1w (q2n PySem.F.plainAttrs_list PySem.F.slot_list_append PySem.F.type_list_append q1o (q0b 5) (q0a (q0b 8) q0c)))
 (q0f (q0l 9 hn (q2n PySem.F.plainAttrs_dict PySem.F.slot_dict_setdefault PySem.F.type_dict_setdefault (z5w hu) (q0b 4) (q0a (q0b 8) (q0a (q1e q0c) q0c))))
 (q0g (q1f (q0k (q4a hu) (q0i hu (q0b 1) (q0b 6)) (q0b 9) (by with_unfolding_all rfl)) (q0g (q1w (q2n PySem.F.plainAttrs_list PySem.F.slot_list_append PySem.F.type_list_append q1o (q0b 9) (q0a (q0i hu (q0b 1) (q0b 6)) q0c)))) q0r))))))))
 (q0g (q0s (q0v (q0a (q3y q4w Z.z11 L2.q3h (q0a (q0b 5) q0c)) (q0a (q0b 4) q0c))))))))))
theorem mF9:SimF P w K mg base k "_law_further" nF9 sF9 (q3c t.dLdraw t.dLform) g:=
 fun hw hr hx hu hn=>(q0g (q2i PassesOwn.leaving rfl (q1q Z.z7 (q0a (q0j I.c0 hr hx (q0a (q0b 0) (q0a q0e q0c))) q0c)) (q0m (i:=5) hn) (q0f (q0l 6 hn (q0i hu (q0b 2) (q0j I.c0 hr hx (q0a (q0b 0) (q0a (q0n q0z Z.z4 PySem.boot_len (q0a (q0b 2) q0c)) q0c)))))
 (q0f (q1f (q0k (q1j hu) (q0j I.c0 hr hx (q0a (q0b 0) (q0a q0e q0c))) q0e (q0x _)) (q0g (q0l 6 hn (q0j I.c3 hr hx (q0a (q0b 0) (q0a (q0b 1) (q0a (q0o q1g q0e (q0j I.c0 hr hx (q0a (q0b 0) (q0a q0e q0c)))) q0c)))))) q0r)
 (q0f (q0l 7 hn (q9o hu (q0b 4) (q0i hu (q0b 3) (q0j I.c0 hr hx (q0a (q0b 0) (q0a (q0n q0z Z.z4 PySem.boot_len (q0a (q0b 3) q0c)) q0c))))))
 (q0g (q1f (SimW.t (q2e (q0k (q4a hu) (q0b 6) (q0b 7) (by with_unfolding_all rfl)) (q2c (q0k z1c (q0n q0z Z.z4 PySem.boot_len (q0a (q0b 7) q0c)) q0e (q0x _))))) (q0g (q1w (q2n PySem.F.plainAttrs_list PySem.F.slot_list_append PySem.F.type_list_append q1o (q0b 7) (q0a (q0b 6) q0c)))) q0r)))))))
theorem mF10:SimF P w K mg base k "_law_kind" nF10 sF10 (q3l t.dLkind) g:=
 fun hw hr hx hu hn=>(q0f (q1f (q0k (q1j hu) (q0i hu (q0b 0) q0e) q0p (q0x _)) (q0g (q0s (q0i hu (q0b 0) q0e))) q0r)
 (q0g (q0s (q0v (q0a (q0j I.c10 hr hx (q0a (q0i hu (q0b 0) q0e) q0c)) (q0a (q0j I.c10 hr hx (q0a (q0i hu (q0b 0) q0e) q0c)) q0c))))))
theorem mF11:SimF P w K mg base k "_law_turn" nF11 sF11 (q4g t.dLdraw) g:=
 fun hw hr hx hu hn=>(q0f (q0l 2 hn (q3y z6l Z.z5 L2.z2m (q0a (q0b 1) q0c)))
 (q0f (q0l 3 hn (q1e q0c))
 (q0f (q7i PassesOwn.leaving (q0k (q7o hu) (q0b 2) (q1e q0c) (q0x _)) (q0g (q1w (q2n PySem.F.plainAttrs_list PySem.F.slot_list_append PySem.F.type_list_append q1o (q0b 3) (q0a (q2n PySem.F.plainAttrs_list PySem.F.slot_list_pop PySem.F.type_list_pop z8k (q0b 2) (q0a (q0j I.c0 hr hx (q0a (q0b 0) (q0a (q0n q0z Z.z4 PySem.boot_len (q0a (q0b 2) q0c)) q0c))) q0c)) q0c)))))
 (q0g (q0s (q0b 3))))))
theorem mF12:SimF P w K mg base k "_law_book" nF12 sF12 (q4l t.dLkind t.dLnames t.dLturn) g:=
 fun hw hr hx hu hn=>(q0f (q0l 3 hn (q1e q0c))
 (q0f (q2i PassesOwn.leaving rfl (z0y (q0b 2)) (q0m (i:=4) hn) (q0g (q2i PassesOwn.leaving rfl (q2s (q9o hu (q0b 2) (q0b 4))) (q0m (i:=5) hn) (q0g (q1f (q0k (q4a hu) (q0j I.c10 hr hx (q0a (q0b 5) q0c)) (q0b 3) (by with_unfolding_all rfl)) (q0g (q1w (q2n PySem.F.plainAttrs_list PySem.F.slot_list_append PySem.F.type_list_append q1o (q0b 3) (q0a (q0j I.c10 hr hx (q0a (q0b 5) q0c)) q0c)))) q0r)))))
 (q0f (q0l 6 hn (q0j I.c2 hr hx (q0a (q0b 0) (q0a (q0n q0z Z.z4 PySem.boot_len (q0a (q0b 3) q0c)) (q0a (q1e q0c) q0c)))))
 (q0f (q0l 7 hn (q1e q0c))
 (q0f (q2i PassesOwn.leaving rfl (z0y (q0b 2)) (q0m (i:=4) hn) (q0g (q2i PassesOwn.leaving rfl (q2s (q9o hu (q0b 2) (q0b 4))) (q0m (i:=5) hn) (q0g (q1w (q2n PySem.F.plainAttrs_list PySem.F.slot_list_append PySem.F.type_list_append q1o (q0b 7) (q0a (q0v (q0a (q0b 4) (q0a (q0b 5) (q0a (q0v (q0a q0p (q0a (q0i hu (q0b 6) (q2n PySem.F.plainAttrs_list PySem.F.slot_list_index PySem.F.type_list_index (z5x hu) (q0b 3) (q0a (q0j I.c10 hr hx (q0a (q0b 5) q0c)) q0c))) q0c))) q0c)))) q0c)))))))
 (q0f (q0l 8 hn (q0j I.c11 hr hx (q0a (q0b 0) (q0a (y1h rfl Z.z5 Z.z12 (q0a (q0b 6) (q0a (q0b 3) q0c))) q0c))))
 (q0g (q0s (q0v (q0a (q3y q4w Z.z11 L2.q3h (q0a (q7b ["_law_basic"] [none] rfl (q5n rfl (by decide +kernel) (by decide +kernel) rfl trivial) (q2s (q0b 1)) (fun _ _ _ _ _=>(q0m (i:=0) (show (["_law_basic"]:List Str).Nodup by decide +kernel))) (fun _ _ _ _ _=>(q0i hu (q0b 0) q0e))) q0c)) (q0a (q3y q4w Z.z11 L2.q3h (q0a (q0b 8) q0c)) (q0a (q3y q4w Z.z11 L2.q3h (q0a (q0j I.c11 hr hx (q0a (q0b 0) (q0a (q0b 7) q0c))) q0c)) q0c))))))))))))
theorem mF13:SimF P w K mg base k "_law_made" nF13 sF13 (q4i t.dLnames t.dLdraw t.dLform t.dLgrown t.dLreading t.dLsentence t.dLfurther t.dLbook) g:=
 fun hw hr hx hu hn=>(q0f (q0l 3 hn (q7b ["_law_name"] [none] rfl (q5n rfl (by decide +kernel) (by decide +kernel) rfl trivial) (q2s (q0j I.c2 hr hx (q0a (q0b 0) (q0a (q0i hu (q1e (q0a q0e (q0a q0e (q0a q0e (q0a q0e q0c))))) (q0j I.c0 hr hx (q0a (q0b 0) (q0a q0e q0c)))) (q0a (q1e (q0a q0p q0c)) q0c))))) (fun _ _ _ _ _=>(q0m (i:=0) (show(["_law_name"]:List Str).Nodup by decide +kernel))) (fun _ _ _ _ _=>(q0v (q0a q0p (q0a (q0b 0) q0c))))))
 (q0f (q0l 4 hn (q0j I.c3 hr hx (q0a (q0b 0) (q0a (q0b 3) (q0a (q0i hu (q1e (q0a q0e (q0a q0e (q0a q0e (q0a q0e q0c))))) (q0j I.c0 hr hx (q0a (q0b 0) (q0a q0e q0c)))) q0c)))))
 (q0f (q0l 5 hn (q0o q1g q0e (q0j I.c0 hr hx (q0a (q0b 0) (q0a (q0b 1) q0c)))))
 (q0f (q9p (q0j I.c6 hr hx (q0a (q0b 0) (q0a (q0b 3) (q0a (q0b 4) (q0a (q0b 5) q0c))))) (q4m 2 rfl (q1c (q0m (i:=6) hn) (q1c (q0m (i:=7) hn) q3m))))
 (q0f (q0l 8 hn (q0j I.c7 hr hx (q0a (q0b 6) (q0a (q0b 7) q0c))))
 (q0f (q1f (q0k (q1j hu) (q0j I.c0 hr hx (q0a (q0b 0) (q0a q0e q0c))) (q0o z3d q0e (q0b 2)) (q0x _)) (q0f (q5q 6 ["_law_k", "_law_deck", "_law_basics"] [none,some 0,some 3] hn rfl (q5n rfl (by decide +kernel) (by decide +kernel) rfl ⟨⟨rfl,rfl,by first|exact Or.inl rfl|exact Or.inr rfl⟩,⟨⟨rfl,rfl,by first|exact Or.inl rfl|exact Or.inr rfl⟩,trivial⟩⟩) (q1q Z.z7 (q0a (q0b 5) q0c)) (fun _ _ _ _ _=>(q0m (i:=0) (show (["_law_k", "_law_deck", "_law_basics"]:List Str).Nodup by decide +kernel))) (fun _ _ _ _ _=>(q0j I.c3 hr z8c (q0a (q0b 1) (q0a (q0b 2) (q0a (q0i hu (q1e (by (with_reducible refine q0a ?_ ?_ (hs:=?_));(focus exact q0e);rotate_left 1;(focus with_unfolding_all rfl);(with_reducible refine q0a ?_ ?_ (hs:=?_));(focus exact q0e);rotate_left 1;(focus with_unfolding_all rfl);(with_reducible refine q0a ?_ ?_ (hs:=?_));(focus exact q0e);rotate_left 1;(focus with_unfolding_all rfl);(with_reducible refine q0a ?_ ?_ (hs:=?_));(focus exact q0e);rotate_left 1;(focus with_unfolding_all rfl);(with_reducible refine q0a ?_ ?_ (hs:=?_));(focus exact q0e);rotate_left 1;(focus with_unfolding_all rfl);(with_reducible refine q0a ?_ ?_ (hs:=?_));(focus exact q0e);rotate_left 1;(focus with_unfolding_all rfl);exact q0c)) (q0j I.c0 hr z8c (q0a (q0b 1) (q0a q0e q0c)))) q0c))))))
 (q0g (q0l 8 hn q6f))) q0r)
 (q0f (q9p (q0j I.c8 hr hx (q0a (q0b 0) (q0a (q0b 6) q0c))) (q4m 2 rfl (q1c (q0m (i:=9) hn) (q1c (q0m (i:=10) hn) q3m))))
 (q0f (q1w (q0j I.c9 hr hx (q0a (q0b 0) (q0a (q0b 3) (q0a (q0b 6) (q0a (q0b 9) (q0a (q0b 10) q0c)))))))
 (q0g (q0s (q0v (q0a (q0j I.c12 hr hx (q0a (q0b 0) (q0a (q0b 3) (q0a (q0b 10) q0c)))) (q0a (q0b 9) (q0a (q0b 10) (q0a (q0b 8) (q0a (q0b 4) q0c))))))))))))))))
theorem mF14:SimF P w K mg base k "_law_numbers" nF14 sF14 (q3b) g:=
 fun hw hr hx hu hn=>(q0f (q0l 1 hn (q0o q1g (q3d (q0b 0) q3f (q3e q0e)) (q0o q7p (q1e (q0a q0e q0c)) (q3y y0d Z.z2 L2.z0g (q0a (q6h (y6r hu) (q0b 0) (q1e q0c) (q0x _)) q0c)))))
 (q0f (q0l 2 hn (q1e q0c))
 (q0f (q1f (q0k (q1j hu) (q0o q4b (q0i hu (q0b 1) q0e) q0e) q0e (q0x _)) (q0f (q2i PassesOwn.leaving rfl (q2s (q0o q1g (q1e (q0a (q0o q5v (q0i hu (q0b 1) q0e) q0e) q0c)) (q3d (q0b 1) (q3e q0e) q3f))) (q0m (i:=3) hn) (q0g (q2i PassesOwn.leaving rfl (q1q Z.z7 (q0a q0e q0c)) (q0m (i:=4) hn) (q0f (q1w (q2n PySem.F.plainAttrs_list PySem.F.slot_list_append PySem.F.type_list_append q1o (q0b 2) (q0a (q0o q4b (q0b 3) (q0o q9s q0e q0e)) q0c)))
 (q0g (q0l 3 hn (q0o q5v (q0b 3) (q0o q9s q0e q0e))))))))
 (q0g (q0s (q9m (q0b 2))))) q0r)
 (q0f (q0l 5 hn (q0o q4b (q0o q5v (q0i hu (q0b 1) q0e) q0e) q0e))
 (q0f (q2i PassesOwn.leaving rfl (q1q Z.z7 (q0a q0e q0c)) (q0m (i:=4) hn) (q0f (q0l 3 hn (q0o q4b (q0i hu (q0b 1) (q0o q4b (q0b 4) (q0n q0z Z.z4 PySem.boot_len (q0a (q0b 1) q0c)))) q0e))
 (q0f (q0l 5 hn (q0o q4b (q0o q1g (q0o q1g (q0o q7p (q0b 5) (q0b 5)) (q0o q7p q0e (q0b 3))) (q0b 4)) q0e))
 (q0g (q1w (q2n PySem.F.plainAttrs_list PySem.F.slot_list_append PySem.F.type_list_append q1o (q0b 2) (q0a (q0o q5v (q0o q4b (q0o q7p (q0b 5) (q0o q1g (q0b 5) q0e)) q0e) q0e) q0c)))))))
 (q0g (q0s (q9m (q0b 2)))))))))
theorem mF15:SimF P w K mg base k "_law_rule" nF15 sF15 (q4h) g:=
 fun hw hr hx hu hn=>(q0f (q1f (SimW.t (q2e (q0k (q1j hu) (q0i hu (q0b 0) q0e) q0p (q0x _)) (q2c (q0k (q1j hu) (q0i hu (q0b 0) q0e) (q0b 1) (q0x _))))) (q0g (q0s (q0v (q0a q0p (q0a (q0i hu (q0b 0) q0e) q0c))))) q0r)
 (q0f (q1f (SimW.t (q2e (q0k (q1j hu) (q0i hu (q0b 1) q0e) q0p (q0x _)) (q2c (q0k (q1j hu) (q0i hu (q0b 1) q0e) (q0b 0) (q0x _))))) (q0g (q0s (q0v (q0a q0p (q0a (q0i hu (q0b 1) q0e) q0c))))) q0r)
 (q0f (q1f (SimW.t (q2e (q0k (q1j hu) (q0i hu (q0b 0) q0e) q0p (q0x _)) (q2e (q0k (q1j hu) (q0i hu (q0b 1) q0e) q0p (q0x _)) (q2c (q0k (q1j hu) (q0i hu (q0b 0) q0e) (q0i hu (q0b 1) q0e) (q0x _)))))) (q0g (q0s (q0v (q0a q0p (q0a (q0v (q0a q0p (q0a (q0i hu (q0b 0) q0e) (q0a (q0i hu (q0b 1) q0e) q0c)))) q0c))))) q0r)
 (q0f (q1f (SimW.t (q2e (q0k (q1j hu) (q0i hu (q0b 0) q0e) q0p (q0x _)) (q2e (q0k (q1j hu) (q0i hu (q0b 1) q0e) q0p (q0x _)) (q2c (q0k (q1j hu) (q0i hu (q0b 1) q0e) (q0i hu (q0b 0) q0e) (q0x _)))))) (q0g (q0s (q0v (q0a q0p (q0a (q0v (q0a q0p (q0a (q0i hu (q0b 1) q0e) (q0a (q0i hu (q0b 0) q0e) q0c)))) q0c))))) q0r)
 (q0g (q0s q6f))))))
theorem mF16:SimF P w K mg base k "_law_nodes" nF16 sF16 (q3s t.dLnodes t.dLrule) g:=
 fun hw hr hx hu hn=>(q0f (q1f (q0k (q1j hu) (q0i hu (q0b 0) q0e) q0p (q0x _)) (q0g (q0s (q1e (q0a (q0v (q0a (q0b 0) (q0a (q0v (q0a (q0i hu (q0b 0) q0e) (q0a (q0o q1g (q0i hu (q0b 0) q0e) q0e) (q0a (q0i hu (q0b 0) q0e) q0c)))) q0c))) q0c)))) q0r)
 (q0f (q0l 1 hn (q0j I.c16 hr hx (q0a (q0i hu (q0b 0) q0e) q0c)))
 (q0f (q0l 2 hn (q0j I.c16 hr hx (q0a (q0i hu (q0b 0) q0e) q0c)))
 (q0f (q0l 3 hn (q0j I.c15 hr hx (q0a (q0i hu (q0i hu (q0i hu (q0b 1) (q7j q0e)) q0e) q0e) (q0a (q0i hu (q0i hu (q0i hu (q0b 2) (q7j q0e)) q0e) q0e) q0c))))
 (q0g (q0s (q0o q1g (q0o q1g (q0b 1) (q0b 2)) (q1e (q0a (q0v (q0a (q0b 0) (q0a (q0v (q0a (q0i hu (q0i hu (q0i hu (q0b 1) (q7j q0e)) q0e) q0e) (q0a (q0i hu (q0i hu (q0i hu (q0b 2) (q7j q0e)) q0e) q0e) (q0a (q0i hu (q0b 3) q0e) q0c)))) q0c))) q0c)))))))))
theorem mF17:SimF P w K mg base k "is_headed" nF17 sF17 (q2p) g:=
 fun hw hr hx hu hn=>(q0f (q1f (SimW.t (q2u (q2r (q1l (q0n q2k Z.z3 L2.q1p (q0a (q0b 0) (q0a (q5c Z.z11 L2.q3h) q0c))))) (q3w (q0k (q7o hu) (q0n q0z Z.z4 PySem.boot_len (q0a (q0b 0) q0c)) (q0b 2) (q0x _))))) (q0g (q0s q6n)) q0r)
 (q0g (q0s (q7l (q0n q2k Z.z3 L2.q1p (q0a (q0i hu (q0b 0) q0e) (q0a (q5c Z.z10 L2.q7f) q0c))) (q9n (q6h (z8f hu) (q0i hu (q0b 0) q0e) (q0b 1) (by with_unfolding_all rfl)))))))
theorem mF18:SimF P w K mg base k "nodes_of" nF18 sF18 (q2x t.dis_headed) g:=
 fun hw hr hx hu hn=>(q0f (q0l 2 hn (q1e q0c))
 (q0f (q0l 3 hn (q1e (q0a (q0b 0) q0c)))
 (q0f (q0l 4 hn q0e)
 (q0f (q7i PassesOwn.leaving (q1l (q0b 3)) (q0f (q1f (q0k q5u (q0o q1g (q0b 4) (q0n q0z Z.z4 PySem.boot_len (q0a (q0b 3) q0c))) (q0b 1) (q0x _)) (q0g (q4q Z.h0 hx rfl (q0a q0p q0c))) q0r)
 (q0f (q0l 5 hn (q7k PySem.F.plainAttrs_list PySem.F.slot_list_pop PySem.F.type_list_pop q7t (q0b 3)))
 (q0f (q1f (q1l (q0j I.c17 hr hx (q0a (q0b 5) (q0a (q0v (q0a q0p q0c)) (q0a q0e q0c))))) (q0g (z7l 4 hn q0e)) (q0g (q1f (q1l (q0j I.c17 hr hx (q0a (q0b 5) (q0a (q5t Z.g3) (q0a q0e q0c))))) (q0g (q1w (q2n PySem.F.plainAttrs_list PySem.F.slot_list_extend PySem.F.type_list_extend q8r (q0b 3) (q0a (q1e (q0a (q0i hu (q0b 5) q0e) (q0a (q0i hu (q0b 5) q0e) q0c))) q0c)))) (q0g (q4q Z.h0 hx rfl (q0a q0p q0c))))))
 (q0g (q1w (q2n PySem.F.plainAttrs_list PySem.F.slot_list_append PySem.F.type_list_append q1o (q0b 2) (q0a (q0b 5) q0c))))))))
 (q0g (q0s (q0b 2)))))))
theorem mF19:SimF P w K mg base k "rows_of" nF19 sF19 (q3i) g:=
 fun hw hr hx hu hn=>(q0f (q9l 2 ["own", "form", "term", "word"] [none,none,none,some 1] hn rfl (q5n rfl (by decide +kernel) (by decide +kernel) rfl ⟨⟨rfl,rfl,by first|exact Or.inl rfl|exact Or.inr rfl⟩,trivial⟩) (q2s (q0i hu (q0b 0) q0e)) (fun _ _ _ _ _=>(q4m 3 rfl (q1c (q0m (i:=0) (show(["own", "form", "term", "word"]:List Str).Nodup by decide +kernel)) (q1c (q0m (i:=1) (show(["own", "form", "term", "word"]:List Str).Nodup by decide +kernel)) (q1c (q0m (i:=2) (show(["own", "form", "term", "word"]:List Str).Nodup by decide +kernel)) q3m))))) (fun _ _ _ _ _=>(q0k (q1j hu) (q0b 0) (q0b 3) (q0x _))) (fun _ _ _ _ _=>(q0v (q0a (q0b 1) (q0a (q0b 2) q0c)))))
 (q0f (q1f (q2r (q1l (q0b 2))) (q0g z0x) q0r)
 (q0g (q0s (q0b 2)))))
theorem mF20:SimF P w K mg base k "show_form" nF20 sF20 (q2o t.dshow_form) g:=
 fun hw hr hx hu hn=>(q0f (q1f (q0k (q1j hu) (q0i hu (q0b 0) q0e) q0p (q0x _)) (q0g (q0s (q0i hu (q0b 0) q0e))) q0r)
 (q0f (q9p (q0b 0) (q4m 3 rfl (q1c (q0m (i:=1) hn) (q1c (q0m (i:=2) hn) (q1c (q0m (i:=3) hn) q3m)))))
 (q0f (q0l 4 hn (q0j I.c20 hr hx (q0a (q0b 3) q0c)))
 (q0f (q1f (q0k (q7o hu) (q0i hu (q0b 3) q0e) q0p (q0x _)) (q0g (q0l 4 hn (z5p (z4g (y1j (q0b 4) (z4g y1k)))))) q0r)
 (q0g (q0s (q0o q1g (q0o q1g (q0j I.c20 hr hx (q0a (q0b 2) q0c)) (q0b 1)) (q0b 4))))))))
theorem mF21:SimF P w K mg base k "forms_of" nF21 sF21 (q2y t.drows_of t.dshow_form) g:=
 fun hw hr hx hu hn=>(q0g (q0s (z7k Z.z9 I.c20 hw.in2 (q7b ["form", "term"] [none,none] rfl (q5n rfl (by decide +kernel) (by decide +kernel) rfl trivial) (q2s (q0j I.c19 hr hx (q0a (q0b 0) (q0a (q0b 1) q0c)))) (fun _ _ _ _ _=>(q4m 2 rfl (q1c (q0m (i:=0) (show(["form", "term"]:List Str).Nodup by decide +kernel)) (q1c (q0m (i:=1) (show(["form", "term"]:List Str).Nodup by decide +kernel)) q3m)))) (fun _ _ _ _ _=>(q0b 0))))))
theorem mF22:SimF P w K mg base k "is_name" nF22 sF22 (q3j) g:=
 fun hw hr hx hu hn=>(q0f (q1f (SimW.t (q2u (q2r (q1l (q0n q2k Z.z3 L2.q1p (q0a (q0b 0) (q0a (q5c Z.z10 L2.q7f) q0c))))) (q2u (q0k (q1j hu) (q0n q0z Z.z4 PySem.boot_len (q0a (q0b 0) q0c)) q0e (q0x _)) (q3w (q0k q5u (q0n q0z Z.z4 PySem.boot_len (q0a (q0b 0) q0c)) (q5t Z.g1) (q0x _)))))) (q0g (q0s q6n)) q0r)
 (q0g (q0s (q0n (y0e rfl) Z.z0 L2.y3l (q0a (q7b ["sign"] [none] rfl (q5n rfl (by decide +kernel) (by decide +kernel) rfl trivial) (q2s (q0b 0)) (fun _ _ _ _ _=>(q0m (i:=0) (show (["sign"]:List Str).Nodup by decide +kernel))) (fun _ _ _ _ _=>(q6h (z8f hu) (q0b 0) (q5t Z.g0) (by with_unfolding_all rfl)))) q0c)))))
theorem mF23:SimF P w K mg base k "is_form" nF23 sF23 (q3k t.dis_headed t.dis_name) g:=
 fun hw hr hx hu hn=>(q0f (q0l 1 hn (q1e (q0a (q0b 0) q0c)))
 (q0f (q0l 2 hn q0e)
 (q0f (q7i PassesOwn.leaving (q1l (q0b 1)) (q0f (q1f (q0k q5u (q0o q1g (q0b 2) (q0n q0z Z.z4 PySem.boot_len (q0a (q0b 1) q0c))) (q5t Z.g2) (q0x _)) (q0g (q0s q6n)) q0r)
 (q0f (q0l 3 hn (q7k PySem.F.plainAttrs_list PySem.F.slot_list_pop PySem.F.type_list_pop q7t (q0b 1)))
 (q0g (q1f (SimW.t (q2e (q1l (q0j I.c17 hr hx (q0a (q0b 3) (q0a (q0v (q0a q0p q0c)) (q0a q0e q0c))))) (q2c (q1l (q0j I.c22 hr hx (q0a (q0i hu (q0b 3) q0e) q0c)))))) (q0g (z7l 2 hn q0e)) (q0g (q1f (q1l (q0j I.c17 hr hx (q0a (q0b 3) (q0a (q5t Z.g4) (q0a q0e q0c))))) (q0g (q1w (q2n PySem.F.plainAttrs_list PySem.F.slot_list_extend PySem.F.type_list_extend q8r (q0b 1) (q0a (q1e (q0a (q0i hu (q0b 3) q0e) (q0a (q0i hu (q0b 3) q0e) q0c))) q0c)))) (q0g (q0s q6n)))))))))
 (q0g (q0s q6n)))))
theorem mF24:SimF P w K mg base k "formed_of_word" nF24 sF24 (q1r t.dforms_of t.dis_form) g:=
 fun hw hr hx hu hn=>(q0f (q1f (SimW.t (q2u (q2r (q1l (q0n q2k Z.z3 L2.q1p (q0a (q0b 2) (q0a (q5c Z.z2 L2.z0g) q0c))))) (q2u (q1l (q0n q2k Z.z3 L2.q1p (q0a (q0b 2) (q0a (q5c Z.z1 L2.z2n) q0c)))) (q2u (q0k z1c (q0b 2) q0e (q0x _)) (q3w (q0k x0i (q0b 2) (q0n q0z Z.z4 PySem.boot_len (q0a (q0b 1) q0c)) (q0x _))))))) (q0g (q4q Z.h0 hx rfl (q0a q0p q0c))) q0r)
 (q0f (y1g Z.h1 (y1e (y1d 4 hn (z7j I.c21 hr (q0a (q0b 0) (q0a (q0i hu (q0b 1) (q0b 2)) q0c))))) (fun _=>(q0g z0x)))
 (q0f (q1f (SimW.t (q2u (q2r (q1l (q0j I.c23 hr hx (q0a (q0b 3) q0c)))) (q3w (q0k (q4a hu) (q0b 3) (q0b 4) (by with_unfolding_all rfl))))) (q0g (q4q Z.h0 hx rfl (q0a q0p q0c))) q0r)
 (q0g (q0s (q0v (q0a (q0b 2) (q0a (q0o q1g (q0b 2) q0e) (q0a (q0b 3) q0c)))))))))
theorem mF25:SimF P w K mg base k "made" nF25 sF25 (q4u) g:=
 fun hw hr hx hu hn=>(q0f (q1f (q0k (q1j hu) (q0i hu (q0b 0) q0e) q0p (q0x _)) (q0f (q1f (q0k (q1j hu) (q0i hu (q0b 0) q0e) (q0b 1) (q0x _)) (q0g (q0s (q0v (q0a q0p (q0a (q0i hu (q0b 0) q0e) q0c))))) q0r)
 (q0g (q1f (SimW.t (q2e (q0k (q1j hu) (q0i hu (q0b 1) q0e) q0p (q0x _)) (q2c (q0k (q1j hu) (q0i hu (q0b 0) q0e) (q0i hu (q0b 1) q0e) (q0x _))))) (q0g (q0s (q0v (q0a q0p (q0a (q0v (q0a q0p (q0a (q0i hu (q0b 0) q0e) (q0a (q0i hu (q0b 1) q0e) q0c)))) q0c))))) q0r))) q0r)
 (q0f (q1f (q0k (q1j hu) (q0i hu (q0b 1) q0e) q0p (q0x _)) (q0f (q1f (q0k (q1j hu) (q0i hu (q0b 1) q0e) (q0b 0) (q0x _)) (q0g (q0s (q0v (q0a q0p (q0a (q0i hu (q0b 1) q0e) q0c))))) q0r)
 (q0g (q1f (SimW.t (q2e (q0k (q1j hu) (q0i hu (q0b 0) q0e) q0p (q0x _)) (q2c (q0k (q1j hu) (q0i hu (q0b 1) q0e) (q0i hu (q0b 0) q0e) (q0x _))))) (q0g (q0s (q0v (q0a q0p (q0a (q0v (q0a q0p (q0a (q0i hu (q0b 1) q0e) (q0a (q0i hu (q0b 0) q0e) q0c)))) q0c))))) q0r))) q0r)
 (q0g (q0s q6f))))
theorem mF26:SimF P w K mg base k "formed_of_two" nF26 sF26 (q1v t.dmade) g:=
 fun hw hr hx hu hn=>(q0f (q1f (q0k (q7o hu) (q0i hu (q0b 1) q0e) (q0i hu (q0b 2) q0e) (q0x _)) (q0g (q4q Z.h0 hx rfl (q0a q0p q0c))) q0r)
 (q0f (q0l 3 hn (q0j I.c25 hr hx (q0a (q0i hu (q0b 1) q0e) (q0a (q0i hu (q0b 2) q0e) q0c))))
 (q0f (q1f (SimW.t (q2u (q0k x0h (q0b 3) q6f (q0x _)) (q3w (q0k (q7o hu) (q0i hu (q0b 3) q0e) (q0b 0) (q0x _))))) (q0g (q4q Z.h0 hx rfl (q0a q0p q0c))) q0r)
 (q0g (q0s (q0v (q0a (q0i hu (q0b 1) q0e) (q0a (q0i hu (q0b 2) q0e) (q0a (q0i hu (q0b 3) q0e) q0c)))))))))
theorem mF27:SimF P w K mg base k "formed" nF27 sF27 (q3p t.dnodes_of t.dformed_of_word t.dformed_of_two) g:=
 fun hw hr hx hu hn=>(q0f (q0l 3 hn (q1e q0c))
 (q0f (q2i PassesOwn.leaving rfl (y1l Z.z8 (q0j I.c18 hr hx (q0a (q0b 2) (q0a (q0n q0z Z.z4 PySem.boot_len (q0a (q0b 1) q0c)) q0c)))) (q0m (i:=4) hn) (q0g (q1f (q0k (q1j hu) (q0i hu (q0b 4) q0e) q0p (q0x _)) (q0g (q1w (q2n PySem.F.plainAttrs_list PySem.F.slot_list_append PySem.F.type_list_append q1o (q0b 3) (q0a (q0j I.c24 hr hx (q0a (q0b 0) (q0a (q0b 1) (q0a (q0i hu (q0b 4) q0e) (q0a (q0i hu (q0b 4) q0e) q0c))))) q0c)))) (q0f (q0l 5 hn (q7k PySem.F.plainAttrs_list PySem.F.slot_list_pop PySem.F.type_list_pop q7t (q0b 3)))
 (q0g (q1w (q2n PySem.F.plainAttrs_list PySem.F.slot_list_append PySem.F.type_list_append q1o (q0b 3) (q0a (q0j I.c26 hr hx (q0a (q0i hu (q0b 4) q0e) (q0a (q0b 5) (q0a (q7k PySem.F.plainAttrs_list PySem.F.slot_list_pop PySem.F.type_list_pop q7t (q0b 3)) q0c)))) q0c))))))))
 (q0g (q0s (q0i hu (q0b 3) q0e)))))
theorem mF28:SimF P w K mg base k "_law_is_form" nF28 sF28 (q2h t.dLis_form) g:=
 fun hw hr hx hu hn=>(q0f (q1f (SimW.t (q2u (q2r (q1l (q0n q2k Z.z3 L2.q1p (q0a (q0b 0) (q0a (q5c Z.z11 L2.q3h) q0c))))) (q2u (q2r (z5q y4g y4g q0e (q0n q0z Z.z4 PySem.boot_len (q0a (q0b 0) q0c)) q0e)) (q3w (q2r (q1l (q0n q2k Z.z3 L2.q1p (q0a (q0i hu (q0b 0) q0e) (q0a (q5c Z.z10 L2.q7f) q0c))))))))) (q0g (q0s q6n)) q0r)
 (q0f (q1f (q0k (q1j hu) (q0n q0z Z.z4 PySem.boot_len (q0a (q0b 0) q0c)) q0e (q0x _)) (q0g (q0s (q7l (q6h (q1j hu) (q0i hu (q0b 0) q0e) q0p (q0x _)) (q9n (q0n q2k Z.z3 L2.q1p (q0a (q0i hu (q0b 0) q0e) (q0a (q5c Z.z10 L2.q7f) q0c))))))) q0r)
 (q0g (q0s (q7l (q6h (z8f hu) (q0i hu (q0b 0) q0e) (q0v (q0a q0p (q0a q0p q0c))) (by with_unfolding_all rfl)) (q7l (q0j I.c28 hr hx (q0a (q0i hu (q0b 0) q0e) q0c)) (q9n (q0j I.c28 hr hx (q0a (q0i hu (q0b 0) q0e) q0c)))))))))
theorem mF29:SimF P w K mg base k "_law_whole" nF29 sF29 (q3q) g:=
 fun hw hr hx hu hn=>(q0g (q0s (q7l (q0n q2k Z.z3 L2.q1p (q0a (q0b 0) (q0a (q5c Z.z2 L2.z0g) q0c))) (q9n (y5r (q0n q2k Z.z3 L2.q1p (q0a (q0b 0) (q0a (q5c Z.z1 L2.z2n) q0c))))))))
theorem mF30:SimF P w K mg base k "law" nF30 sF30 (q5i t.dLmade t.dLnumbers t.dLnodes t.dformed t.dLis_form t.dLwhole) g:=
 fun hw hr hx hu hn=>(q0f (q9p (q0j I.c13 hr hx (q0a (q0j I.c14 hr hx (q0a (q0b 0) q0c)) (q0a q0e (q0a q0e q0c)))) (q4m 5 rfl (q1c (q0m (i:=1) hn) (q1c (q0m (i:=2) hn) (q1c (q0m (i:=3) hn) (q1c (q0m (i:=4) hn) (q1c (q0m (i:=5) hn) q3m)))))))
 (q0f (q0l 6 hn (q0j I.c16 hr hx (q0a (q0b 4) q0c)))
 (q0f (q2i PassesOwn.leaving rfl (q1q Z.z7 (q0a q0e q0c)) (q0m (i:=7) hn) (q0g (q2i PassesOwn.leaving rfl (q2s (q0b 6)) (q4m 2 rfl (q1c (q0m (i:=8) hn) (q1c (q0m (i:=9) hn) q3m))) (q0f (q0l 10 hn (q0j I.c27 hr hx (q0a (q0b 1) (q0a (q0b 2) (q0a (q0b 8) q0c)))))
 (q0f (q1f (SimW.t (q2u (q2r (q1l (q0n q2k Z.z3 L2.q1p (q0a (q0b 10) (q0a (q5c Z.z11 L2.q3h) q0c))))) (q2u (q0k (q7o hu) (q0n q0z Z.z4 PySem.boot_len (q0a (q0b 10) q0c)) q0e (q0x _)) (q3w (q2r (q1l (q0j I.c28 hr hx (q0a (q0i hu (q0b 10) q0e) q0c)))))))) (q0g (q0s q6n)) q0r)
 (q0g (q1f (SimW.t (q2u (q2r (q1l (q0j I.c29 hr hx (q0a (q0i hu (q0b 10) q0e) q0c)))) (q2u (q2r (q1l (q0j I.c29 hr hx (q0a (q0i hu (q0b 10) q0e) q0c)))) (q3w (q0k (q7o hu) (q0b 10) (q0b 9) (q0x _)))))) (q0g (q0s q6n)) q0r)))))))
 (q0g (q0s (q6h (q1j hu) (q0i hu (q0i hu (q0b 6) (q7j q0e)) q0e) (q0v (q0a q0e (q0a (q0n q0z Z.z4 PySem.boot_len (q0a (q0b 2) q0c)) (q0a (q0b 5) q0c)))) (q0x _)))))))
end
theorem good{P:Program}{w:World}{K:Frag}{mg:Str->Option Value}{base:Heap}{f:Nat->Addr}{fd:Nat->FuncData}(Z:Sta K mg)(l:Locs K mg f fd):∀k,Fns P w K mg base k (tab k) f fd
 |0=>⟨l.l0.cal q2v,l.l1.cal q2v,l.l2.cal q2v,l.l3.cal q2v,l.l4.cal q2v,l.l5.cal q2v,l.l6.cal q2v,l.l7.cal q2v,l.l8.cal q2v,l.l9.cal q2v,l.l10.cal q2v,l.l11.cal q2v,l.l12.cal q2v,l.l13.cal q2v,l.l14.cal q2v,l.l15.cal q2v,l.l16.cal q2v,l.l17.cal q2v,l.l18.cal q2v,l.l19.cal q2v,l.l20.cal q2v,l.l21.cal q2v,l.l22.cal q2v,l.l23.cal q2v,l.l24.cal q2v,l.l25.cal q2v,l.l26.cal q2v,l.l27.cal q2v,l.l28.cal q2v,l.l29.cal q2v,l.l30.cal q2v⟩
 |k+1=>by
  have I:=good (P:=P) (w:=w) (base:=base) Z l k
  exact⟨l.l0.sim (mF0 Z I),l.l1.sim (mF1 Z I),l.l2.sim (mF2 Z I),l.l3.sim (mF3 Z I),l.l4.sim (mF4 Z I),l.l5.sim (mF5 Z I),l.l6.sim (mF6 Z I),l.l7.sim (mF7 Z I),l.l8.sim (mF8 Z I),l.l9.sim (mF9 Z I),l.l10.sim (mF10 Z I),l.l11.sim (mF11 Z I),l.l12.sim (mF12 Z I),l.l13.sim (mF13 Z I),l.l14.sim (mF14 Z I),l.l15.sim (mF15 Z I),l.l16.sim (mF16 Z I),l.l17.sim (mF17 Z I),l.l18.sim (mF18 Z I),l.l19.sim (mF19 Z I),l.l20.sim (mF20 Z I),l.l21.sim (mF21 Z I),l.l22.sim (mF22 Z I),l.l23.sim (mF23 Z I),l.l24.sim (mF24 Z I),l.l25.sim (mF25 Z I),l.l26.sim (mF26 Z I),l.l27.sim (mF27 Z I),l.l28.sim (mF28 Z I),l.l29.sim (mF29 Z I),l.l30.sim (mF30 Z I)⟩
theorem q8i{P:List Value->Prop}{ps:List Str}(hp:ps.length=1)(h:∀a0,P [a0])(us:List Value)(hl:us.length=ps.length):P us:=by
 rw[hp]at hl
 cases us with|nil=>exact absurd hl (by simp)|cons a r=>cases r with|nil=>exact h _|cons b r=>exact absurd hl (by simp)
theorem q9y{P:List Value->Prop}{ps:List Str}(hp:ps.length=2)(h:∀a0 a1,P [a0,a1])(us:List Value)(hl:us.length=ps.length):P us:=by
 rw[hp]at hl
 cases us with|nil=>exact absurd hl (by simp)|cons a r=>cases r with|nil=>exact absurd hl (by simp)|cons b r=>cases r with|nil=>exact h _ _|cons b r=>exact absurd hl (by simp)
theorem q9x{P:List Value->Prop}{ps:List Str}(hp:ps.length=3)(h:∀a0 a1 a2,P [a0,a1,a2])(us:List Value)(hl:us.length=ps.length):P us:=by
 rw[hp]at hl
 cases us with|nil=>exact absurd hl (by simp)|cons a r=>cases r with|nil=>exact absurd hl (by simp)|cons b r=>cases r with|nil=>exact absurd hl (by simp)|cons b r=>cases r with|nil=>exact h _ _ _|cons b r=>exact absurd hl (by simp)
theorem x1g{P:List Value->Prop}{ps:List Str}(hp:ps.length=4)(h:∀a0 a1 a2 a3,P [a0,a1,a2,a3])(us:List Value)(hl:us.length=ps.length):P us:=by
 rw[hp]at hl
 cases us with|nil=>exact absurd hl (by simp)|cons a r=>cases r with|nil=>exact absurd hl (by simp)|cons b r=>cases r with|nil=>exact absurd hl (by simp)|cons b r=>cases r with|nil=>exact absurd hl (by simp)|cons b r=>cases r with|nil=>exact h _ _ _ _|cons b r=>exact absurd hl (by simp)
theorem x4c{P:List Value->Prop}{ps:List Str}(hp:ps.length=5)(h:∀a0 a1 a2 a3 a4,P [a0,a1,a2,a3,a4])(us:List Value)(hl:us.length=ps.length):P us:=by
 rw[hp]at hl
 cases us with|nil=>exact absurd hl (by simp)|cons a r=>cases r with|nil=>exact absurd hl (by simp)|cons b r=>cases r with|nil=>exact absurd hl (by simp)|cons b r=>cases r with|nil=>exact absurd hl (by simp)|cons b r=>cases r with|nil=>exact absurd hl (by simp)|cons b r=>cases r with|nil=>exact h _ _ _ _ _|cons b r=>exact absurd hl (by simp)
theorem all_mk{l:PySem.W.OpenLaw}{w:World}{K:Frag}{h:Heap}{mg:Str->Option Value}{fa f0 f1 f2 f3 f4 f5 f6 f7 f8 f9 f10 f11 f12 f13 f14 f15 f16 f17 f18 f19 f20 f21 f22 f23 f24 f25 f26 f27 f28 f29 f30:Addr}(X:K.In h)(G:h.Ns mainGlobals mg)(hfa:mg "law" = some (.ref fa))
    (h0:FnIn K "_law_draw" sF0 f0)
    (h1:FnIn K "_law_free_name" sF1 f1)
    (h2:FnIn K "_law_names" sF2 f2)
    (h3:FnIn K "_law_form" sF3 f3)
    (h4:FnIn K "_law_width" sF4 f4)
    (h5:FnIn K "_law_split" sF5 f5)
    (h6:FnIn K "_law_grown" sF6 f6)
    (h7:FnIn K "_law_reading" sF7 f7)
    (h8:FnIn K "_law_sentence" sF8 f8)
    (h9:FnIn K "_law_further" sF9 f9)
    (h10:FnIn K "_law_kind" sF10 f10)
    (h11:FnIn K "_law_turn" sF11 f11)
    (h12:FnIn K "_law_book" sF12 f12)
    (h13:FnIn K "_law_made" sF13 f13)
    (h14:FnIn K "_law_numbers" sF14 f14)
    (h15:FnIn K "_law_rule" sF15 f15)
    (h16:FnIn K "_law_nodes" sF16 f16)
    (h17:FnIn K "is_headed" sF17 f17)
    (h18:FnIn K "nodes_of" sF18 f18)
    (h19:FnIn K "rows_of" sF19 f19)
    (h20:FnIn K "show_form" sF20 f20)
    (h21:FnIn K "forms_of" sF21 f21)
    (h22:FnIn K "is_name" sF22 f22)
    (h23:FnIn K "is_form" sF23 f23)
    (h24:FnIn K "formed_of_word" sF24 f24)
    (h25:FnIn K "made" sF25 f25)
    (h26:FnIn K "formed_of_two" sF26 f26)
    (h27:FnIn K "formed" sF27 f27)
    (h28:FnIn K "_law_is_form" sF28 f28)
    (h29:FnIn K "_law_whole" sF29 f29)
    (h30:FnIn K "law" sF30 f30)
     {t_LETTERS:Tok} {t_LONGEST_NAME:Tok} {t_MOST_BASICS:Tok} {a_SIGNS:Addr} {dd_SIGNS:Option Addr} {n_SIGNS:Nat} {sl_SIGNS:Array (Option Value)} {t_SIGNS_0:Tok} {t_SIGNS_1:Tok} {t_SIGNS_2:Tok} {t_SIGNS_3:Tok} {a_SLASHES:Addr} {dd_SLASHES:Option Addr} {n_SLASHES:Nat} {sl_SLASHES:Array (Option Value)} {t_SLASHES_0:Tok} {t_SLASHES_1:Tok} {C_NoReading:Addr} {C_NoWord:Addr}
    (gg_LETTERS:PySem.W.nsIn K mainGlobals "LETTERS" = some (some (.str "abcdefghijklmnopqrstuvwxyz" t_LETTERS)))
    (gg_LONGEST_NAME:PySem.W.nsIn K mainGlobals "LONGEST_NAME" = some (some (.int 8 t_LONGEST_NAME)))
    (gg_MOST_BASICS:PySem.W.nsIn K mainGlobals "MOST_BASICS" = some (some (.int 12 t_MOST_BASICS)))
    (gg_SIGNS:PySem.W.nsIn K mainGlobals "SIGNS" = some (some (.ref a_SIGNS)))
    (gl_SIGNS:K.lookup a_SIGNS=some ⟨.type "tuple",dd_SIGNS,.seq #[.str ">" t_SIGNS_0,.str "<" t_SIGNS_1,.str ">>" t_SIGNS_2,.str "<<" t_SIGNS_3] n_SIGNS,sl_SIGNS⟩)
    (gg_SLASHES:PySem.W.nsIn K mainGlobals "SLASHES" = some (some (.ref a_SLASHES)))
    (gl_SLASHES:K.lookup a_SLASHES=some ⟨.type "tuple",dd_SLASHES,.seq #[.str "/" t_SLASHES_0,.str "\\" t_SLASHES_1] n_SLASHES,sl_SLASHES⟩)
    (xa_NoReading:PySem.W.nsIn K mainGlobals "NoReading" = some (some (.ref C_NoReading)))
    (xa_NoWord:PySem.W.nsIn K mainGlobals "NoWord" = some (some (.ref C_NoWord)))
    (xe_NoReading:PySem.W.excIn K C_NoReading vErr "ValueError.__new__" = true)
    (z_all:PySem.W.nsIn K mainGlobals "all" = some none)
    (z_bool:PySem.W.nsIn K mainGlobals "bool" = some none)
    (z_int:PySem.W.nsIn K mainGlobals "int" = some none)
    (z_isinstance:PySem.W.nsIn K mainGlobals "isinstance" = some none)
    (z_len:PySem.W.nsIn K mainGlobals "len" = some none)
    (z_list:PySem.W.nsIn K mainGlobals "list" = some none)
    (z_min:PySem.W.nsIn K mainGlobals "min" = some none)
    (z_range:PySem.W.nsIn K mainGlobals "range" = some none)
    (z_reversed:PySem.W.nsIn K mainGlobals "reversed" = some none)
    (z_sorted:PySem.W.nsIn K mainGlobals "sorted" = some none)
    (z_str:PySem.W.nsIn K mainGlobals "str" = some none)
    (z_tuple:PySem.W.nsIn K mainGlobals "tuple" = some none)
    (z_zip:PySem.W.nsIn K mainGlobals "zip" = some none)
    : ∃fd:FuncData,(∀(s:Shared)(v:Value),BindsTo s fd ⟨[v],[]⟩ [("_law_script",v)])/\∀base:Heap,K.In base->base.Ns mainGlobals mg->FnOk l.prog w K mg base (CXE l.prog w) 200 fa fd ["_law_script"] (q1h K (tab 200).dlaw):=by
  cases hfa.symm.trans (h30.gl X G)
  have g_LETTERS:GlobV K mg "LETTERS" (.str "abcdefghijklmnopqrstuvwxyz"):=⟨⟨_,.str "abcdefghijklmnopqrstuvwxyz",PySem.W.mg_of X G gg_LETTERS,⟨_,rfl⟩,fun _ _=>rfl⟩⟩
  have g_LONGEST_NAME:GlobV K mg "LONGEST_NAME" (.int 8):=⟨⟨_,.int 8,PySem.W.mg_of X G gg_LONGEST_NAME,⟨_,rfl⟩,fun _ _=>rfl⟩⟩
  have g_MOST_BASICS:GlobV K mg "MOST_BASICS" (.int 12):=⟨⟨_,.int 12,PySem.W.mg_of X G gg_MOST_BASICS,⟨_,rfl⟩,fun _ _=>rfl⟩⟩
  have g_SIGNS:GlobV K mg "SIGNS" (.tup [(.str ">"),(.str "<"),(.str ">>"),(.str "<<")]):=⟨⟨_,.ref a_SIGNS,PySem.W.mg_of X G gg_SIGNS,rfl,fun H φ=>⟨a_SIGNS,[.str ">",.str "<",.str ">>",.str "<<"],rfl,.inr ⟨_,_,_,gl_SIGNS,rfl,rfl,by show 4<=sizeLine;decide,(.cons ⟨_,rfl⟩ (.cons ⟨_,rfl⟩ (.cons ⟨_,rfl⟩ (.cons ⟨_,rfl⟩ .nil))))⟩,⟨_,_,rfl,rfl,⟨_,_,rfl,rfl,⟨_,_,rfl,rfl,⟨_,_,rfl,rfl,rfl⟩⟩⟩⟩⟩⟩⟩
  have g_SLASHES:GlobV K mg "SLASHES" (.tup [(.str "/"),(.str "\\")]):=⟨⟨_,.ref a_SLASHES,PySem.W.mg_of X G gg_SLASHES,rfl,fun H φ=>⟨a_SLASHES,[.str "/",.str "\\"],rfl,.inr ⟨_,_,_,gl_SLASHES,rfl,rfl,by show 2<=sizeLine;decide,(.cons ⟨_,rfl⟩ (.cons ⟨_,rfl⟩ .nil))⟩,⟨_,_,rfl,rfl,⟨_,_,rfl,rfl,rfl⟩⟩⟩⟩⟩
  have x_NoReading:ExcC K mg "NoReading" :=⟨⟨C_NoReading,xa_NoReading,PySem.W.mg_of X G xa_NoReading,xe_NoReading⟩⟩
  have y_NoWord:Cau K mg "NoWord" []:=⟨⟨.ref C_NoWord,PySem.W.mg_of X G xa_NoWord,(.nil:CauL K (.ref C_NoWord) _)⟩⟩
  obtain⟨d0,L0,b0⟩:=h0.loc (ps:=pF0) X G fun _ _ _ _ _ _=>q9y rfl fun _ _=>rfl
  obtain⟨d1,L1,b1⟩:=h1.loc (ps:=pF1) X G fun _ _ _ _ _ _=>q9x rfl fun _ _ _=>rfl
  obtain⟨d2,L2,b2⟩:=h2.loc (ps:=pF2) X G fun _ _ _ _ _ _=>q9x rfl fun _ _ _=>rfl
  obtain⟨d3,L3,b3⟩:=h3.loc (ps:=pF3) X G fun _ _ _ _ _ _=>q9x rfl fun _ _ _=>rfl
  obtain⟨d4,L4,b4⟩:=h4.loc (ps:=pF4) X G fun _ _ _ _ _ _=>q8i rfl fun _=>rfl
  obtain⟨d5,L5,b5⟩:=h5.loc (ps:=pF5) X G fun _ _ _ _ _ _=>q9x rfl fun _ _ _=>rfl
  obtain⟨d6,L6,b6⟩:=h6.loc (ps:=pF6) X G fun _ _ _ _ _ _=>x1g rfl fun _ _ _ _=>rfl
  obtain⟨d7,L7,b7⟩:=h7.loc (ps:=pF7) X G fun _ _ _ _ _ _=>q9y rfl fun _ _=>rfl
  obtain⟨d8,L8,b8⟩:=h8.loc (ps:=pF8) X G fun _ _ _ _ _ _=>q9y rfl fun _ _=>rfl
  obtain⟨d9,L9,b9⟩:=h9.loc (ps:=pF9) X G fun _ _ _ _ _ _=>x4c rfl fun _ _ _ _ _=>rfl
  obtain⟨d10,L10,b10⟩:=h10.loc (ps:=pF10) X G fun _ _ _ _ _ _=>q8i rfl fun _=>rfl
  obtain⟨d11,L11,b11⟩:=h11.loc (ps:=pF11) X G fun _ _ _ _ _ _=>q9y rfl fun _ _=>rfl
  obtain⟨d12,L12,b12⟩:=h12.loc (ps:=pF12) X G fun _ _ _ _ _ _=>q9x rfl fun _ _ _=>rfl
  obtain⟨d13,L13,b13⟩:=h13.loc (ps:=pF13) X G fun _ _ _ _ _ _=>q9x rfl fun _ _ _=>rfl
  obtain⟨d14,L14,b14⟩:=h14.loc (ps:=pF14) X G fun _ _ _ _ _ _=>q8i rfl fun _=>rfl
  obtain⟨d15,L15,b15⟩:=h15.loc (ps:=pF15) X G fun _ _ _ _ _ _=>q9y rfl fun _ _=>rfl
  obtain⟨d16,L16,b16⟩:=h16.loc (ps:=pF16) X G fun _ _ _ _ _ _=>q8i rfl fun _=>rfl
  obtain⟨d17,L17,b17⟩:=h17.loc (ps:=pF17) X G fun _ _ _ _ _ _=>q9x rfl fun _ _ _=>rfl
  obtain⟨d18,L18,b18⟩:=h18.loc (ps:=pF18) X G fun _ _ _ _ _ _=>q9y rfl fun _ _=>rfl
  obtain⟨d19,L19,b19⟩:=h19.loc (ps:=pF19) X G fun _ _ _ _ _ _=>q9y rfl fun _ _=>rfl
  obtain⟨d20,L20,b20⟩:=h20.loc (ps:=pF20) X G fun _ _ _ _ _ _=>q8i rfl fun _=>rfl
  obtain⟨d21,L21,b21⟩:=h21.loc (ps:=pF21) X G fun _ _ _ _ _ _=>q9y rfl fun _ _=>rfl
  obtain⟨d22,L22,b22⟩:=h22.loc (ps:=pF22) X G fun _ _ _ _ _ _=>q8i rfl fun _=>rfl
  obtain⟨d23,L23,b23⟩:=h23.loc (ps:=pF23) X G fun _ _ _ _ _ _=>q8i rfl fun _=>rfl
  obtain⟨d24,L24,b24⟩:=h24.loc (ps:=pF24) X G fun _ _ _ _ _ _=>x1g rfl fun _ _ _ _=>rfl
  obtain⟨d25,L25,b25⟩:=h25.loc (ps:=pF25) X G fun _ _ _ _ _ _=>q9y rfl fun _ _=>rfl
  obtain⟨d26,L26,b26⟩:=h26.loc (ps:=pF26) X G fun _ _ _ _ _ _=>q9x rfl fun _ _ _=>rfl
  obtain⟨d27,L27,b27⟩:=h27.loc (ps:=pF27) X G fun _ _ _ _ _ _=>q9x rfl fun _ _ _=>rfl
  obtain⟨d28,L28,b28⟩:=h28.loc (ps:=pF28) X G fun _ _ _ _ _ _=>q8i rfl fun _=>rfl
  obtain⟨d29,L29,b29⟩:=h29.loc (ps:=pF29) X G fun _ _ _ _ _ _=>q8i rfl fun _=>rfl
  obtain⟨d30,L30,b30⟩:=h30.loc (ps:=pF30) X G fun _ _ _ _ _ _=>q8i rfl fun _=>rfl
  exact⟨d30,fun s v=>.of_eq (b30 [v] rfl),fun base _ _=>(good (f:=fun i=>[f0,f1,f2,f3,f4,f5,f6,f7,f8,f9,f10,f11,f12,f13,f14,f15,f16,f17,f18,f19,f20,f21,f22,f23,f24,f25,f26,f27,f28,f29,fa].getD i fa) (fd:=fun i=>[d0,d1,d2,d3,d4,d5,d6,d7,d8,d9,d10,d11,d12,d13,d14,d15,d16,d17,d18,d19,d20,d21,d22,d23,d24,d25,d26,d27,d28,d29,d30].getD i d0) (⟨PySem.W.mg_none_of X G z_all,PySem.W.mg_none_of X G z_bool,PySem.W.mg_none_of X G z_int,PySem.W.mg_none_of X G z_isinstance,PySem.W.mg_none_of X G z_len,PySem.W.mg_none_of X G z_list,PySem.W.mg_none_of X G z_min,PySem.W.mg_none_of X G z_range,PySem.W.mg_none_of X G z_reversed,PySem.W.mg_none_of X G z_sorted,PySem.W.mg_none_of X G z_str,PySem.W.mg_none_of X G z_tuple,PySem.W.mg_none_of X G z_zip,g_LETTERS,g_LONGEST_NAME,g_MOST_BASICS,g_SIGNS,g_SLASHES,x_NoReading,y_NoWord⟩:Sta K mg) ⟨L0,L1,L2,L3,L4,L5,L6,L7,L8,L9,L10,L11,L12,L13,L14,L15,L16,L17,L18,L19,L20,L21,L22,L23,L24,L25,L26,L27,L28,L29,L30⟩ 200).c30.G⟩
theorem walk{l:PySem.W.OpenLaw}{q:Program}{loose:List Str}{XP:(Str->Option Value)->Heap->Prop}{YP:World->Heap->Prop}{d:DefRec}{K:Params->Frag}(hlaw:LawP (tab 200).dlaw)(hn:l.most=some 63)(hdf:d.params.defaults=[])
  (hY:∀(w:World)(h:Heap),YP w h->(K w.params).In h)
  (F:∀(w:World)(mg:Str->Option Value)(fa:Addr)(h:Heap),(K w.params).In h->h.Ns mainGlobals mg->mg d.name=some (.ref fa)->
   ∃fd:FuncData,(∀(s:Shared)(u:Value),BindsTo s fd ⟨[u],[]⟩ [("_law_script",u)])/\∀base:Heap,(K w.params).In base->base.Ns mainGlobals mg->FnOk l.prog w (K w.params) mg base (CXE l.prog w) 200 fa fd ["_law_script"] (q1h (K w.params) (tab 200).dlaw)) :
  PySem.W.WalkO q loose XP YP l.row.toRowW d [] (fun f vs=>PySem.call f vs):=
 L2.z6v (n:=63) (k:=200) (x:= "_law_script") (CX:=fun w=>CXE l.prog w) (sp:=fun w=>q1h (K w.params) (tab 200).dlaw) hn (by decide) hdf ⟨rfl,by decide,by decide⟩ hY F (fun _ H a ns hl hO hS=>x1h hlaw H a ns hl hO hS) fun _ _ _ _ _ hh1=>by obtain⟨_,_,_,_,_,_,_,_,_,_,_,z⟩:=hh1;exact(z)
end
theorem q7z(n:Nat):z0i (tab (n+1)).dLdraw:=y7x
theorem x4s(n:Nat):FreD (tab (n+1)).dLfree_name:=x2a
theorem y7e(n:Nat):NmsD (tab (n+2)).dLnames:=x0v (q7z n) (x4s n)
theorem y7f:∀n m,m+1<n->FmlD (tab n).dLform m:=z9m (T:=fun n=>(tab n).dLform) (U:=fun n=>(tab n).dLdraw) (fun _=>rfl) q7z
theorem x4e:∀(n:Nat)(f:Fm),f.dp<=n->∀(S:q0h)(E:EK)(Q:VC),Q (.int (f.lv:Nat)) S->(tab n).dLwidth [f.pv] S E Q:=z6s (T:=fun n=>(tab n).dLwidth) (fun _=>rfl)
theorem x4g(n:Nat):SplD (tab (n+21)).dLsplit:=y8t fun f hf=>x4e (n+20) f (by omega)
theorem x4q(n:Nat):GwnD (tab (n+22)).dLgrown:=x1v (q7z (n+20)) (fun m hm=>y7f (n+21) m (by omega)) (x4g n)
theorem x4j(n:Nat):RgD (tab (n+1)).dLreading:=y8y
theorem k_sn(n:Nat):SnD (tab (n+3)).dLsentence:=x3k (y7e n) (q7z (n+1))
theorem x4r(n:Nat):FurD (tab (n+10)).dLfurther:=x1y (q7z (n+8)) (fun m hm=>y7f (n+9) m (by omega))
theorem x4o(n:Nat):x2x (tab n).dLkind n:=z3h (T:=fun n=>(tab n).dLkind) (fun _=>rfl) n
theorem x4f(n:Nat):TrnD (tab (n+2)).dLturn:=y8n (q7z n)
theorem k_bk(n:Nat):BkD (tab (n+11)).dLbook:=x5f (fun f hf=>x4o (n+10) f (by omega)) (y7e (n+8)) (x4f (n+8))
theorem x4m(n:Nat):MakD (tab (n+30)).dLmade:=x1b (y7e (n+27)) (q7z (n+28)) (fun m hm=>y7f (n+29) m (by omega)) (x4q (n+7)) (x4j (n+28)) (k_sn (n+26)) (x4r (n+19)) (k_bk (n+18))
theorem x4k(n:Nat):x2v (tab (n+1)).dLnumbers:=y6v
theorem x4i(n:Nat):y0l (tab (n+1)).dLrule:=y8x
theorem x4l:NdsD (tab 199).dLnodes 100:=z8j (T:=fun n=>(tab (n+98)).dLnodes) (U:=fun n=>(tab (n+98)).dLrule) (fun _=>rfl) (fun n=>x4i (n+98)) 100 (by decide)
theorem k_hd(n:Nat):HdD (tab (n+1)).dis_headed:=x4y
theorem x4p(n:Nat):IsfD (tab (n+2)).dis_form:=x1r (k_hd n) (fun z S E Q hz h=>z3r hz h)
theorem x4h:ShoG (tab 196).dshow_form 100:=y4a (T:=fun n=>(tab (n+96)).dshow_form) (fun _=>rfl) 100 (by decide)
theorem x4n:∀(n:Nat)(f:Fm),f.dp<=n->∀(S:q0h)(E:EK)(Q:VC),Q (.bl true) S->(tab n).dLis_form [f.pv] S E Q:=z8v (T:=fun n=>(tab n).dLis_form) (fun _=>rfl)
theorem x4t:FosG (tab 197).dforms_of:=x2c y5u (fun f h1 h2=>x4h f h1 (by omega))
theorem x4u:FmgD (tab 199).dformed:=x2e (x0u (k_hd 196)) (y7t x4t (x4p 195)) (x2b y6z)
theorem y7p:∀{r:Rd}{a b:Int}{g:Fm},r.is a b g->b=a+(r.lv:Nat)
 |.w i f,a,b,g,⟨e1,e2,_⟩=>by subst e1 e2;simp[Rd.lv]
 |.n s l r,a,b,g,⟨k,x,y,h1,h2,_⟩=>by have:=y7p h1;have:=y7p h2;simp only[Rd.lv];omega
theorem y5e:∀{r u:Rd},u∈r.wi->u.lv<=r.lv
 |.w i f,u,h=>by simp only[Rd.wi,List.mem_singleton]at h;subst h;exact Nat.le_refl _
 |.n s l r,u,h=>by
  simp only[Rd.wi,List.mem_cons,List.mem_append]at h
  rcases h with rfl|h|h
  ·exact Nat.le_refl _
  ·have:=y5e h;simp only[Rd.lv];omega
  ·have:=y5e h;simp only[Rd.lv];omega
theorem Mad.bok2{bs ws:List Str}{ent:Ent}{tr:List ((Str×Fm)×PV)}{g:Fm}{rd:Option Rd}(M:Mad bs ws ent tr g rd){lo fd:Nat}{S:q0h}(F:FD lo fd bs ent S):Bok tr:=by
 have hl:tr.length<=18:=by
  have:=M.tp.length_eq
  rw[List.length_map,z7a]at this
  have:=M.tt
  omega
 refine⟨by omega,fun t ht=>?_⟩
 have:t.1∈trs ent:=M.tp.mem_iff.mp (List.mem_map.mpr ⟨t,ht,rfl⟩)
 obtain⟨e,he,hf⟩:=List.mem_flatMap.mp this
 obtain⟨f,hf,e1⟩:=List.mem_map.mp hf
 obtain⟨_,_,_,o4⟩:=F.ok e he
 obtain⟨l6,ov⟩:=o4 f hf
 rw[<-e1]
 exact⟨y2b (fun w hw=>(M.bok w hw).1) ov,l6⟩
theorem Mad.gc{bs ws:List Str}{ent:Ent}{tr:List ((Str×Fm)×PV)}{g:Fm}{r:Rd}(M:Mad bs ws ent tr g (some r)){lo fd:Nat}{S:q0h}(F:FD lo fd bs ent S){u:Rd}(hu:u∈r.wi):GC2 tr ws u:=by
 obtain⟨his,hall⟩:=M.rd r rfl
 obtain⟨_,hin,_⟩:=y5c his
 refine⟨M.bok2 F,fun p hp=>?_⟩
 have hp':=z6t hu p hp
 obtain⟨p0,w,e,h1,h2,h3,h4⟩:=hall p hp'
 have h5:=hin p hp'
 obtain⟨_,_,_,o4⟩:=F.ok e h2
 obtain⟨l6,ov⟩:=o4 p.2 h4
 refine⟨p0,h5.2,M.tp.mem_iff.mpr (List.mem_flatMap.mpr ⟨e,h2,List.mem_map.mpr ⟨p.2,h4,?_⟩⟩),l6,y2b (fun w hw=>(M.bok w hw).1) ov⟩
 unfold ky
 rw[h1,h3]
 rfl
theorem law_ok:LawP (tab 200).dlaw:=by
 intro ns hns
 have hnum:=x4k 198
 have hmak:=x4m 169
 have hnds:=x4l
 have hfmg:=x4u
 have hlif:=x4n 199
 have hwh:∀(a:Int)(S:q0h)(E:EK)(Q:VC),Q (.bl true) S->(tab 199).dLwhole [.int a] S E Q:=y0s
 show fnP 1 11 (q5i (tab 199).dLmade (tab 199).dLnumbers (tab 199).dLnodes (tab 199).dformed (tab 199).dLis_form (tab 199).dLwhole) _ _ _ _
 generalize (tab 199).dLmade=s1,(tab 199).dLnumbers=s2,(tab 199).dLnodes=s3,(tab 199).dformed=s4,(tab 199).dLis_form=s5,(tab 199).dLwhole=s6 at *
 refine⟨rfl,?_⟩
 unfold q5i
 have p3:3<=sizeLine:=big (by decide)
 refine seqI fun K hK=>?_
 dsimp![true_and]
 refine hnum ns _ _ _ hns fun d S1 dk x1 _=>?_
 refine hmak d 6 0 _ _ _ dk (by decide) (by decide) (by decide) fun x y bs ws ent tr g rd fd S2 M hrd F d2 x2=>?_
 dsimp![true_and]
 refine hK _ _ ?_
 clear hK
 obtain⟨r,rfl⟩:∃r,rd=some r:=by
  cases rd with
  |none=>exact absurd rfl (hrd rfl)
  |some r=>exact⟨r,rfl⟩
 obtain⟨his,hall⟩:=M.rd r rfl
 have hlv:=y7p his
 have hw6:=M.wl
 have h6:∀p∈r.ws,p.2.lv<=6:=fun p hp=>((M.gc F (u:=r) (by cases r<;>simp[Rd.wi])).all p hp).2.2.2.1
 refine seqI fun K hK=>?_
 dsimp![rdP]
 refine hnds r 0 (ws.length:Nat) g _ _ _ his h6 (by omega) fun q us S3 u1 u2 _ gq x3=>hK _ _ ?_
 clear hK
 have usl:(us++[(r,((0:Int),((ws.length:Nat):Int),g))]).length<=100:=by simp;omega
 have hdp:∀u∈us++[(r,((0:Int),((ws.length:Nat):Int),g))],u.2.2.2.dp<=6:=fun u hu=>z1z (u1 u hu).2 fun p hp=>h6 p (z6t (u1 u hu).1 p hp)
 have last:∀S4:q0h,S4[q]?=some (.lst ((us++[(r,((0:Int),((ws.length:Nat):Int),g))]).map ndP))->∀j7 j8 j9 j10:Option PV,wRet (wBin cEq (wBin bIx (wBin bIx (wVar 6) (wNeg (wC (.int 1)))) (wC (.int 1))) (wTup (q0d (wC (.int 0)) (q0d (wCB fLen (q0d (wVar 2) wNil)) (q0d (wVar 5) wNil))))) {nx:=fun _ S'=>PV.non=.bl true,rt:=fun v _=>v=.bl true} NoX [some (.frl (ns.map PV.int)),some (bkP x y tr),some (.tup (ws.map PV.str)),some (.ref fd),some r.pv,some g.pv,some (.ref q),j7,j8,j9,j10] S4:=by
  intro S4 k4 j7 j8 j9 j10
  rw[List.map_append]at k4
  simp only[List.map_cons,List.map_nil]at k4
  have gd:=hdp _ (List.mem_append_right us (List.mem_singleton_self _))
  have nr:nrfs [PV.int 0,PV.int (ws.length:Nat),g.pv]=true:=by simp only[nrfs,nrf,z1i,Bool.and_self]
  dsimp![k4,q7g,nd1,triP,List.length_map]
  refine⟨p3,⟨by simpa[nrf]using nr,by simp only[dep,deps,q9c];simp at gd;omega⟩,?_⟩
  rw[q4e _ nr]
 generalize us++[(r,((0:Int),((ws.length:Nat):Int),g))]=vs at u1 gq usl hdp last
 refine seqI fun K hK=>?_
 dsimp![true_and]
 refine⟨⟨by decide,by decide⟩,?_⟩
 refine forR 2 (fun i σ S4=>∃j7 j8 j9 j10:Option PV,σ=[some (.frl (ns.map PV.int)),some (bkP x y tr),some (.tup (ws.map PV.str)),some (.ref fd),some r.pv,some g.pv,some (.ref q),j7,j8,j9,j10]/\S4[q]?=some (.lst (vs.map ndP))) ?_ ?_ _ _ ⟨none,none,none,none,rfl,gq⟩
 ·rintro σ S4 ⟨j7,j8,j9,j10,rfl,k4⟩
  exact⟨trivial,hK _ _ (last S4 k4 _ _ _ _)⟩
 ·rintro i hi σ S4 ⟨j7,j8,j9,j10,rfl,k4⟩ N hN
  refine⟨trivial,?_⟩
  dsimp![q0q k4]
  refine forM ndP vs (fun a σ S5=>∃j8 j9 j10:Option PV,σ=[some (.frl (ns.map PV.int)),some (bkP x y tr),some (.tup (ws.map PV.str)),some (.ref fd),some r.pv,some g.pv,some (.ref q),some (.int (i:Nat)),j8,j9,j10]/\S5[q]?=some (.lst (vs.map ndP))) ?_ ?_ _ _ ⟨j8,j9,j10,rfl,k4⟩
  ·rintro σ S5 ⟨j8,j9,j10,rfl,k5⟩
   exact⟨q0q k5,hN _ _ ⟨_,_,_,_,rfl,k5⟩⟩
  ·rintro a u b hab σ S5 ⟨j8,j9,j10,rfl,k5⟩ N2 hN2
   have hu:u∈vs:=by rw[hab];simp
   obtain⟨hw,hui⟩:=u1 u hu
   have ud:=hdp u hu
   refine⟨q0q k5,?_⟩
   dsimp![ndP]
   refine seqI fun K2 hK2=>?_
   dsimp![true_and]
   have ul:=y5e hw
   refine hfmg x y tr ws u.1 _ _ _ _ _ _ (M.gc F hw) hui (by omega) (by omega) fun S6 x6=>hK2 _ _ ?_
   clear hK2
   have k6:=x6.get k5 (by simp)
   refine seqI fun K2 hK2=>?_
   dsimp![triP,Bool.true_eq_false,x2r]
   refine hlif u.2.2.2 (by omega) _ _ _ ?_
   dsimp![Bool.true_eq_false]
   refine hK2 _ _ ?_
   clear hK2
   have nr:nrfs [PV.int u.2.1,PV.int u.2.2.1,u.2.2.2.pv]=true:=by simp only[nrfs,nrf,z1i,Bool.and_self]
   dsimp![triP,q2m,y0j]
   refine hwh _ _ _ _ ?_
   dsimp![Bool.true_eq_false]
   refine hwh _ _ _ _ ?_
   dsimp![Bool.true_eq_false]
   rw[q4e _ nr,if_neg (by decide)]
   exact⟨⟨by simpa[nrf]using nr,by simp only[dep,deps,q9c];omega⟩,hN2 _ _ ⟨_,_,_,rfl,k6⟩⟩
end My
open PySem PySem.W PyProof.Rows
def PySem.W.Fast.tw8920190056510415883:Unit:=()
def PySem.W.Fast.tw3009579218221436635:Unit:=()
def PySem.W.Fast.tw13463707942214463589:Unit:=()
def PySem.W.Fast.tw2370349194113245382:Unit:=()
def PySem.W.Fast.tw14269280214803549791:Unit:=()
def PySem.W.Fast.tw12741043935052986586:Unit:=()
def PySem.W.Fast.tw9938263470984325292:Unit:=()
def PySem.W.Fast.tw3278570156449547506:Unit:=()
def PySem.W.Fast.tw3027720165571743151:Unit:=()
def PySem.W.Fast.tw13132765928969296716:Unit:=()
def PySem.W.Fast.tw2766446053134568226:Unit:=()
def PySem.W.Fast.tw9409118964080970261:Unit:=()
def PySem.W.Fast.tw9945315698075509412:Unit:=()
def PySem.W.Fast.tw15737927300760054215:Unit:=()
def PySem.W.Fast.tw3896831845755143304:Unit:=()
def PySem.W.Fast.tw7128148943672932772:Unit:=()
def PySem.W.Fast.tw13445439597692061863:Unit:=()
def PySem.W.Fast.tw17422238256165352063:Unit:=()
def PySem.W.Fast.tw8292598183661435188:Unit:=()
def PySem.W.Fast.tw4329769676832383291:Unit:=()
def PySem.W.Fast.tw9239351467846461870:Unit:=()
def PySem.W.Fast.tw16349741789524679221:Unit:=()
def PySem.W.Fast.tw7937711254013317913:Unit:=()
def PySem.W.Fast.tw12346317574882072496:Unit:=()
def PySem.W.Fast.tw9968817616030210864:Unit:=()
def PySem.W.Fast.tw14560405988437213270:Unit:=()
def PySem.W.Fast.tw2680024371453092394:Unit:=()
def PySem.W.Fast.tw18101879594871596564:Unit:=()
def PySem.W.Fast.tw5134647499328425109:Unit:=()
def PySem.W.Fast.tw12459740231393230380:Unit:=()
def PySem.W.Fast.tw3694628858011646198:Unit:=()
def PySem.W.Fast.tw4344076223621742899:Unit:=()
def PySem.W.Fast.tw6519023850504892367:Unit:=()
def PySem.W.Fast.tw17203843142743509894:Unit:=()
def PySem.W.Fast.tw11061921156218836446:Unit:=()
def PySem.W.Fast.tw9063303712920947076:Unit:=()
def PySem.W.Fast.tw17904124209623895650:Unit:=()
def PySem.W.Fast.tw75055909891835513:Unit:=()
def PySem.W.Fast.tw16740899547357731539:Unit:=()
def PySem.W.Fast.tw2575603448922826239:Unit:=()
def PySem.W.Fast.tw16996533333962786679:Unit:=()
def PySem.W.Fast.tw622443820530593828:Unit:=()
def PySem.W.Fast.tw7257496967309191294:Unit:=()
def PySem.W.Fast.tw3841412771537852343:Unit:=()
def PySem.W.Fast.tw8599085723421831704:Unit:=()
set_option maxRecDepth 100000 in
set_option maxHeartbeats 0 in
theorem PySem.Challenge.cw_slashwise_k50_readings_gone_through_holds : PySem.Challenge.rw_slashwise_k50_readings_gone_through.Holds := by
 w_on; o_law; k_head; (case hw => w_witness2)
 k_fill
 refine My.walk (l := PySem.Challenge.rw_slashwise_k50_readings_gone_through) My.law_ok rfl rfl (fun w h Y => PySem.W.kIn_of Y) ?F
 case F =>
  intro w mg fa h KX G hmg
  refine' My.all_mk KX G hmg (.mk ?a0 ?l0 ?c0 ?k0) (.mk ?a1 ?l1 ?c1 ?k1) (.mk ?a2 ?l2 ?c2 ?k2) (.mk ?a3 ?l3 ?c3 ?k3) (.mk ?a4 ?l4 ?c4 ?k4) (.mk ?a5 ?l5 ?c5 ?k5) (.mk ?a6 ?l6 ?c6 ?k6) (.mk ?a7 ?l7 ?c7 ?k7) (.mk ?a8 ?l8 ?c8 ?k8) (.mk ?a9 ?l9 ?c9 ?k9) (.mk ?a10 ?l10 ?c10 ?k10) (.mk ?a11 ?l11 ?c11 ?k11) (.mk ?a12 ?l12 ?c12 ?k12) (.mk ?a13 ?l13 ?c13 ?k13) (.mk ?a14 ?l14 ?c14 ?k14) (.mk ?a15 ?l15 ?c15 ?k15) (.mk ?a16 ?l16 ?c16 ?k16) (.mk ?a17 ?l17 ?c17 ?k17) (.mk ?a18 ?l18 ?c18 ?k18) (.mk ?a19 ?l19 ?c19 ?k19) (.mk ?a20 ?l20 ?c20 ?k20) (.mk ?a21 ?l21 ?c21 ?k21) (.mk ?a22 ?l22 ?c22 ?k22) (.mk ?a23 ?l23 ?c23 ?k23) (.mk ?a24 ?l24 ?c24 ?k24) (.mk ?a25 ?l25 ?c25 ?k25) (.mk ?a26 ?l26 ?c26 ?k26) (.mk ?a27 ?l27 ?c27 ?k27) (.mk ?a28 ?l28 ?c28 ?k28) (.mk ?a29 ?l29 ?c29 ?k29) (.mk ?a30 ?l30 ?c30 ?k30) ?gg_LETTERS ?gg_LONGEST_NAME ?gg_MOST_BASICS ?gg_SIGNS ?gl_SIGNS ?gg_SLASHES ?gl_SLASHES ?xa_NoReading ?xa_NoWord ?xe_NoReading ?z_all ?z_bool ?z_int ?z_isinstance ?z_len ?z_list ?z_min ?z_range ?z_reversed ?z_sorted ?z_str ?z_tuple ?z_zip
  (case a0 | l0 | c0 | k0 | a1 | l1 | c1 | k1 | a2 | l2 | c2 | k2 | a3 | l3 | c3 | k3 | a4 | l4 | c4 | k4 | a5 | l5 | c5 | k5 | a6 | l6 | c6 | k6 | a7 | l7 | c7 | k7 | a8 | l8 | c8 | k8 | a9 | l9 | c9 | k9 | a10 | l10 | c10 | k10 | a11 | l11 | c11 | k11 | a12 | l12 | c12 | k12 | a13 | l13 | c13 | k13 | a14 | l14 | c14 | k14 | a15 | l15 | c15 | k15 | a16 | l16 | c16 | k16 | a17 | l17 | c17 | k17 | a18 | l18 | c18 | k18 | a19 | l19 | c19 | k19 | a20 | l20 | c20 | k20 | a21 | l21 | c21 | k21 | a22 | l22 | c22 | k22 | a23 | l23 | c23 | k23 | a24 | l24 | c24 | k24 | a25 | l25 | c25 | k25 | a26 | l26 | c26 | k26 | a27 | l27 | c27 | k27 | a28 | l28 | c28 | k28 | a29 | l29 | c29 | k29 | a30 | l30 | c30 | k30 | gg_LETTERS | gg_LONGEST_NAME | gg_MOST_BASICS | gg_SIGNS | gl_SIGNS | gg_SLASHES | gl_SLASHES | xa_NoReading | xa_NoWord => k_is)
  (case xe_NoReading => k_exc)
  (case z_all | z_bool | z_int | z_isinstance | z_len | z_list | z_min | z_range | z_reversed | z_sorted | z_str | z_tuple | z_zip => k_is)
#print axioms PySem.Challenge.cw_slashwise_k50_readings_gone_through_holds
