import PyProof.Rows.All
import PyProof.DictRoadsH
import Wide.All
import OpenK.AllK
import Wide.FinOn
import Lean
import PyProof.EqAt
import PyProof.EqKinds
import PyProof.TupleCall
import KE.KTryMore
import PyProof.StationsW
import PyProof.ExcBaseAll.ValueError
import PyProof.Rows.CatchOwn
import PyProof.ZipIter
import PyProof.Rows.TupAdd
import PyProof.NeKinds
import KE.KUnpack
import KE.KRevSl
import PyProof.FitsBits
import PyProof.RulesAs
import PyProof.NsDelKeeps
import PyProof.ExcArgsOwn
import OpenK.KDescr
import KE.KIsNot
import PyProof.ExcAttrAll.ValueError
import PyProof.StrOps2
import PyProof.EnumFor
import PyProof.EnumMake
import PyProof.DictCompW
import PyProof.ListRange
import PyProof.DictIter
import KE.KSortKey
import PyProof.Rows.SortStr
import PySem.Challenge.RW_slashwise_k62_whole_kinds_of_meanings
open PySem.W (Frag)
set_option Elab.async false
set_option linter.all false
set_option maxRecDepth 100000
set_option maxHeartbeats 4000000
noncomputable section
namespace L2
open PySem PySem.Spec PyProof.Rows
abbrev Key:=Sum Int Str
def z8q:Key->Value->Bool
 |.inl k,v=>Value.isInt k v
 |.inr x,v=>Value.isStrOf x v
def keyH(w:World):Key->Int
 |.inl k=>hashInt k
 |.inr x=>hashStr w x
theorem q2k:∀{k:Key}{v:Value},z8q k v=true->(∃i t,k=Sum.inl i/\v=Value.int i t)\/(∃x t,k=Sum.inr x/\v=Value.str x t)
 |.inl i,v,h=>by
  obtain⟨t,e⟩:=Value.isInt_shape (k:=i) (v:=v) h
  exact .inl ⟨i,t,rfl,e⟩
 |.inr x,v,h=>by
  obtain⟨t,e⟩:=Value.isStrOf_shape (x:=x) (v:=v) h
  exact .inr ⟨x,t,rfl,e⟩
theorem y1x(i:Int)(t:Tok):z8q (.inl i) (.int i t)=true:=by simp[z8q,Value.isInt]
theorem y1w(x:Str)(t:Tok):z8q (.inr x) (.str x t)=true:=by simp[z8q,Value.isStrOf]
theorem x7a(a b:Int):decide ((Sum.inl a:Key)=Sum.inl b)=(a==b):=by
 by_cases e:a=b
 ·subst e;simp
 ·have h:¬(Sum.inl a:Key)=Sum.inl b:=fun q=>e (Sum.inl.inj q)
  rw[decide_eq_false h]
  exact(beq_eq_false_iff_ne.mpr e).symm
theorem x6x(a b:Str):decide ((Sum.inr a:Key)=Sum.inr b)=decide (a=b):=by
 by_cases e:a=b
 ·subst e;simp
 ·have h:¬(Sum.inr a:Key)=Sum.inr b:=fun q=>e (Sum.inr.inj q)
  rw[decide_eq_false h,decide_eq_false e]
theorem x6z(a:Int)(b:Str):decide ((Sum.inl a:Key)=Sum.inr b)=false:=decide_eq_false (fun q=>nomatch q)
theorem x6y(a:Str)(b:Int):decide ((Sum.inr a:Key)=Sum.inl b)=false:=decide_eq_false (fun q=>nomatch q)
def q1o(prog:Program)(w:World):PySem.KeyKind prog w Key where
 is:=z8q
 hash:=keyH w
 inj:=fun v a b ha hb=>by
  rcases q2k ha with⟨i,t,rfl,rfl⟩|⟨x,t,rfl,rfl⟩
  ·rcases q2k hb with⟨j,u,rfl,e⟩|⟨y,u,rfl,e⟩
   ·injection e with e1 _;rw[e1]
   ·exact nomatch e
  ·rcases q2k hb with⟨j,u,rfl,e⟩|⟨y,u,rfl,e⟩
   ·exact nomatch e
   ·injection e with e1 _;rw[e1]
 byValue:=fun k v h=>by
  rcases q2k h with⟨i,t,rfl,rfl⟩|⟨x,t,rfl,rfl⟩<;>rfl
 pyHash:=fun hv h=>by
  rcases q2k hv with⟨i,t,rfl,rfl⟩|⟨x,t,rfl,rfl⟩
  ·exact wpAny_pyHash_int h
  ·exact wpAny_pyHash_str h
 eqBool:=fun hu hv h=>by
  rcases q2k hu with⟨i,t,rfl,rfl⟩|⟨x,t,rfl,rfl⟩
  ·rcases q2k hv with⟨j,u,rfl,rfl⟩|⟨y,u,rfl,rfl⟩
   ·rw[x7a]at h;exact wpAny_eqBool_int h
   ·rw[x6z]at h;exact SeqAt.EqAt.int_str i t y u _ _ _ _ h
  ·rcases q2k hv with⟨j,u,rfl,rfl⟩|⟨y,u,rfl,rfl⟩
   ·rw[x6y]at h;exact SeqAt.EqAt.str_int x t j u _ _ _ _ h
   ·rw[x6x]at h;exact wpAny_eqBool_str h
 «strs»:=fun k x t v h=>by
  rcases q2k h with⟨i,u,rfl,e⟩|⟨y,u,rfl,e⟩
  ·exact nomatch e
  ·injection e with e1 _
   subst e1
   cases v<;>rfl
theorem q9q(prog:Program)(w:World)(i:Int)(t:Tok):(q1o prog w).is (.inl i) (.int i t)=true:=y1x i t
theorem q9p(prog:Program)(w:World)(x:Str)(t:Tok):(q1o prog w).is (.inr x) (.str x t)=true:=y1w x t
inductive V where
 |non|bl (b:Bool)|int (i:Int)|str (x:Str)|byt (b:Array UInt8)|flt (b:UInt64)|ref (a:Addr)|ty (n:String)
 deriving DecidableEq
def RelV:V->Value->Prop
 |.non,u=>u=Value.none
 |.bl b,u=>u=Value.bool b
 |.int i,u=>∃t,u=Value.int i t
 |.str x,u=>∃t,u=Value.str x t
 |.byt b,u=>∃t,u=Value.bytes b t
 |.flt b,u=>∃t,u=Value.float b t
 |.ref a,u=>u=Value.ref a
 |.ty n,u=>u=Value.type n
abbrev Vals:List V->List Value->Prop:=Paired RelV
theorem Vals.length{xs:List V}{us:List Value}(r:Vals xs us):xs.length=us.length:=Paired.length r
theorem Vals.get:∀{xs:List V}{us:List Value}{i:Nat}{x:V},Vals xs us->xs[i]?=some x->∃u,us[i]?=some u/\RelV x u
 |_,_,_,_,.nil,e=>by simp at e
 |_,_,0,_,.cons r _,e=>by simp at e;subst e;exact⟨_,rfl,r⟩
 |_,_,i+1,x,.cons _ t,e=>by
  obtain⟨u,h1,h2⟩:=Vals.get (i:=i) (x:=x) t (by simpa using e)
  exact⟨u,by simpa using h1,h2⟩
theorem Vals.set{x:V}{u:Value}(r:RelV x u):∀{xs:List V}{us:List Value}(i:Nat),Vals xs us->Vals (xs.set i x) (us.set i u)
 |_,_,_,.nil=>.nil
 |_,_,0,.cons _ t=>.cons r t
 |_,_,i+1,.cons q t=>.cons q (Vals.set r i t)
theorem Vals.append:∀{xs ys:List V}{us ws:List Value},Vals xs us->Vals ys ws->Vals (xs++ys) (us++ws)
 |_,_,_,_,.nil,s=>s
 |_,_,_,_,.cons r t,s=>.cons r (Vals.append t s)
theorem Vals.take:∀{xs:List V}{us:List Value}(n:Nat),Vals xs us->Vals (xs.take n) (us.take n)
 |_,_,0,_=>.nil
 |_,_,_+1,.nil=>.nil
 |_,_,n+1,.cons r t=>.cons r (Vals.take n t)
theorem Vals.drop:∀{xs:List V}{us:List Value}(n:Nat),Vals xs us->Vals (xs.drop n) (us.drop n)
 |_,_,0,r=>r
 |_,_,_+1,.nil=>.nil
 |_,_,n+1,.cons _ t=>Vals.drop n t
def RelO:Option V->Option Value->Prop
 |some v,some u=>RelV v u
 |none,none=>True
 |_,_=>False
def KV{κ:Type}:List (κ×V)->List (κ×Value)->Prop:=Paired fun(p:κ×V) (q:κ×Value)=>p.1=q.1/\RelV p.2 q.2
def kV:Key->V
 |.inl i=>.int i
 |.inr x=>.str x
inductive KTr where
 |int (i:Int)|str (x:Str)|tup (xs:List KTr)
instance w0q:DecidableEq KTr:=fun _ _=>Classical.propDecidable _
mutual
def kdep:KTr->Nat
 |.tup xs=>1+z5i xs
 |_=>0
def z5i:List KTr->Nat
 |[]=>0
 |x::xs=>max (kdep x) (z5i xs)
end
theorem q7u:∀{xs:List KTr}{j:Nat}{x:KTr},xs[j]?=some x->kdep x<=z5i xs
 |[],_,_,e=>by simp at e
 |x::xs,0,y,e=>by simp at e;subst e;simp only[z5i];omega
 |x::xs,j+1,y,e=>by simp at e;have:=q7u e;simp only[z5i];omega
theorem q6y(A:Around):A.in1.units=A.units+1:=rfl
theorem z1a{xs:List KTr}{j:Nat}{x:KTr}(e:xs[j]?=some x):xs.getD j (.int 0)=x:=by rw[List.getD_eq_getElem?_getD,e];rfl
mutual
def TrA(h:Heap):KTr->Value->Prop
 |.int i,v=>∃t,v=.int i t
 |.str x,v=>∃t,v=.str x t
 |.tup xs,v=>∃(a:Addr)(its:List Value),v=.ref a/\IsTup h a its.toArray/\TrAs h xs its
def TrAs(h:Heap):List KTr->List Value->Prop
 |[],vs=>vs=[]
 |x::xs,vs=>∃y ys,vs=y::ys/\TrA h x y/\TrAs h xs ys
end
theorem IsTup.same{h:Heap}{a:Addr}{xs ys:List Value}(p:IsTup h a xs.toArray)(q:IsTup h a ys.toArray):xs=ys:=by
 obtain⟨o,e,_,n,d⟩:=p
 obtain⟨o',e',_,n',d'⟩:=q
 obtain rfl:o=o':=Option.some.inj (e.symm.trans e')
 rw[d]at d'
 injection d' with h1 _
 simpa using h1
mutual
theorem TrA.inj{h:Heap}:∀{x y:KTr}{v:Value},TrA h x v->TrA h y v->x=y
 |.int i,y,v,⟨t,e⟩,q=>by
  subst e
  cases y with
  |int j=>obtain⟨t',e⟩:=q;cases e;rfl
  |str z=>obtain⟨t',e⟩:=q;cases e
  |tup ys=>obtain⟨a,its,e,_⟩:=q;cases e
 |.str x,y,v,⟨t,e⟩,q=>by
  subst e
  cases y with
  |int j=>obtain⟨t',e⟩:=q;cases e
  |str z=>obtain⟨t',e⟩:=q;cases e;rfl
  |tup ys=>obtain⟨a,its,e,_⟩:=q;cases e
 |.tup xs,y,v,⟨a,its,e,p,r⟩,q=>by
  subst e
  cases y with
  |int j=>obtain⟨t',e⟩:=q;cases e
  |str z=>obtain⟨t',e⟩:=q;cases e
  |tup ys=>
   obtain⟨b,its2,e,p2,r2⟩:=q
   cases e
   have:=IsTup.same p p2
   subst this
   rw[TrAs.inj r r2]
theorem TrAs.inj{h:Heap}:∀{xs ys:List KTr}{vs:List Value},TrAs h xs vs->TrAs h ys vs->xs=ys
 |[],[],_,_,_=>rfl
 |[],_::_,_,h,⟨_,_,e,_⟩=>by rw[show _=[]from h]at e;cases e
 |_::_,[],_,⟨_,_,e,_⟩,h=>by rw[show _=[]from h]at e;cases e
 |x::xs,y::ys,_,⟨a,b,e,r,t⟩,⟨a',b',e',r',t'⟩=>by
  subst e
  cases e'
  rw[TrA.inj r r',TrAs.inj t t']
end
mutual
theorem TrA.at{h h':Heap}(k:∀a its,IsTup h a its->IsTup h' a its):∀{x:KTr}{v:Value},TrA h x v->TrA h' x v
 |.int i,_,h=>h
 |.str x,_,h=>h
 |.tup xs,_,⟨a,its,e,p,r⟩=>⟨a,its,e,k _ _ p,TrAs.at k r⟩
theorem TrAs.at{h h':Heap}(k:∀a its,IsTup h a its->IsTup h' a its):∀{xs:List KTr}{vs:List Value},TrAs h xs vs->TrAs h' xs vs
 |[],_,h=>h
 |x::xs,_,⟨y,ys,e,r,t⟩=>⟨y,ys,e,TrA.at k r,TrAs.at k t⟩
end
theorem TrAs.length{h:Heap}:∀{xs:List KTr}{vs:List Value},TrAs h xs vs->xs.length=vs.length
 |[],_,h=>by rw[show _=[]from h];rfl
 |_::xs,_,⟨y,ys,e,_,t⟩=>by rw[e,List.length_cons,List.length_cons,TrAs.length t]
theorem TrAs.get{h:Heap}:∀{xs:List KTr}{vs:List Value}{i:Nat}{x:KTr},TrAs h xs vs->xs[i]?=some x->∃y,vs[i]?=some y/\TrA h x y
 |[],_,_,_,_,e=>by simp at e
 |x::xs,_,0,x',⟨y,ys,e,r,t⟩,q=>by
  simp at q;subst q;subst e
  exact⟨y,by simp,r⟩
 |x::xs,_,i+1,x',⟨y,ys,e,r,t⟩,q=>by
  subst e
  obtain⟨z,h1,h2⟩:=TrAs.get (i:=i) t (by simpa using q)
  exact⟨z,by simpa using h1,h2⟩
theorem x3e(xs ys:List KTr):((List.range (min xs.length ys.length)).all (fun j=>decide (xs.getD j (.int 0)=ys.getD j (.int 0)))&&xs.length==ys.length)=decide (KTr.tup xs=KTr.tup ys):=by
 rw[Bool.eq_iff_iff]
 simp only[Bool.and_eq_true,List.all_eq_true,List.mem_range,decide_eq_true_eq,beq_iff_eq,KTr.tup.injEq]
 constructor
 ·rintro⟨h,hl⟩
  apply List.ext_getElem hl
  intro n h1 h2
  have:=h n (by omega)
  rw[List.getD_eq_getElem?_getD,List.getD_eq_getElem?_getD,List.getElem?_eq_getElem h1,List.getElem?_eq_getElem h2]at this
  exact this
 ·rintro rfl
  exact⟨fun _ _=>rfl,rfl⟩
theorem x8p{s:Shared}:∀(d:Nat)(A:Around)(x y:KTr)(v u:Value),kdep x<=d->A.units+d<cLine->TrA s.heap x v->TrA s.heap y u->SeqAt.EqAt A s v u (decide (x=y)):=by
 intro d
 induction d with
 |zero=>
  intro A x y v u hd hu rx ry
  cases x with
  |tup xs=>simp[kdep]at hd
  |int a=>
   obtain⟨t,rfl⟩:=rx
   cases y with
   |int b=>obtain⟨t',rfl⟩:=ry;rw[show decide (KTr.int a=KTr.int b)=(a==b) by rw[Bool.eq_iff_iff];simp];exact .int_int a t b t'
   |str b=>obtain⟨t',rfl⟩:=ry;simpa using SeqAt.EqAt.int_str (A:=A) (s:=s) a t b t'
   |tup ys=>obtain⟨b,its,rfl,p,_⟩:=ry;simpa using SeqAt.EqAt.int_tuple (A:=A) (s:=s) a t p (by omega)
  |str a=>
   obtain⟨t,rfl⟩:=rx
   cases y with
   |int b=>obtain⟨t',rfl⟩:=ry;simpa using SeqAt.EqAt.str_int (A:=A) (s:=s) a t b t'
   |str b=>obtain⟨t',rfl⟩:=ry;rw[show decide (KTr.str a=KTr.str b)=(a==b) by rw[Bool.eq_iff_iff];simp];exact .str_str a t b t'
   |tup ys=>obtain⟨b,its,rfl,p,_⟩:=ry;simpa using SeqAt.EqAt.str_tuple (A:=A) (s:=s) a t p (by omega)
 |succ d ih=>
  intro A x y v u hd hu rx ry
  cases x with
  |tup xs=>
   obtain⟨a,its,rfl,p1,r1⟩:=id rx
   cases y with
   |int b=>obtain⟨t',rfl⟩:=ry;simpa using SeqAt.EqAt.tuple_int (A:=A) (s:=s) b t' p1 (by omega)
   |str b=>obtain⟨t',rfl⟩:=ry;simpa using SeqAt.EqAt.tuple_str (A:=A) (s:=s) b t' p1 (by omega)
   |tup ys=>
    obtain⟨b,its2,rfl,p2,r2⟩:=id ry
    by_cases hab:a=b
    ·subst hab
     rw[decide_eq_true (TrA.inj rx ry)]
     exact .same _
    ·refine .of_refs hab ?_
     have e:decide (KTr.tup xs=KTr.tup ys)=((List.range (min its.toArray.size its2.toArray.size)).all (fun j=>decide (xs.getD j (.int 0)=ys.getD j (.int 0)))&&its.toArray.size==its2.toArray.size):=by
      rw[List.size_toArray,List.size_toArray,<-r1.length,<-r2.length,x3e]
     rw[e]
     refine .tuples p1 p2 (by omega) fun j h1 h2=>?_
     have hj1:j<xs.length:=by rw[r1.length];simpa using h1
     have hj2:j<ys.length:=by rw[r2.length];simpa using h2
     have e1:xs[j]?=some xs[j]:=List.getElem?_eq_getElem hj1
     have e2:ys[j]?=some ys[j]:=List.getElem?_eq_getElem hj2
     obtain⟨v1,g1,q1⟩:=r1.get e1
     obtain⟨v2,g2,q2⟩:=r2.get e2
     have l1:j<its.length:=by simpa using h1
     have l2:j<its2.length:=by simpa using h2
     rw[z1a e1,z1a e2]
     rw[List.getElem?_eq_getElem l1]at g1
     rw[List.getElem?_eq_getElem l2]at g2
     cases g1
     cases g2
     have hdd:=q7u e1
     simp only[kdep]at hd
     exact ih A.in1 _ _ _ _ (by omega) (by rw[q6y];omega) (by simpa using q1) (by simpa using q2)
  |int a=>exact ih A _ _ v u (Nat.zero_le _) (by omega) rx ry
  |str a=>exact ih A _ _ v u (Nat.zero_le _) (by omega) rx ry
mutual
def trH(P:Program)(w:World):KTr->Int
 |.int i=>(q1o P w).hash (.inl i)
 |.str x=>(q1o P w).hash (.inr x)
 |.tup xs=>reduceHash (Builtin.Tuple.tupleHashOf (trHs P w xs))
def trHs(P:Program)(w:World):List KTr->List Int
 |[]=>[]
 |x::xs=>trH P w x::trHs P w xs
end
mutual
def trD:KTr->Nat
 |.tup xs=>trDs xs+1
 |_=>1
def trDs:List KTr->Nat
 |[]=>0
 |x::xs=>trD x+trDs xs
end
def HsAt(P:Program)(w:World)(A:Around)(h:Heap)(v:Value)(x:Int)(d:Nat):Prop:=∀(E:Value->Shared->Prop)(s:Shared)(Q:Int->Shared->Prop),s.heap=h->Q x {s with toks:=s.toks+d}->wpAny (model P w) A (pyHash v) Q E s
theorem x7q{P:Program}{w:World}{A:Around}{h:Heap}{a:Addr}{its:List Value}{xs:List KTr}(hu:A.units<cLine)(p:IsTup h a its.toArray)(hl:xs.length=its.length)(hi:∀(j:Nat)(x:KTr)(v:Value),xs[j]?=some x->its[j]?=some v->HsAt P w A.in1 h v (trH P w x) (trD x)) :
  HsAt P w A h (.ref a) (trH P w (.tup xs)) (trD (.tup xs)):=by
 intro E s Q eh hQ
 subst eh
 obtain⟨o,ho,hc,n,hd⟩:=p
 have hT:s.TypeIs (.ref a) "tuple" :=⟨o,ho,hc⟩
 unfold pyHash
 first|unfold pyHashByItsType|skip
 first|refine wpAny_bind (wpAny_cRoomFor_or (.inr hu) ?_)|skip
 refine wpAny_bind (wpAny_specialOf hT F.slot_tuple_hash.lookup ?_)
 show wpAny _ _ (if(some (Value.builtin "tuple.__hash__")==some Value.none)=true then _ else _) Q E s
 rw[if_neg (by rw[beq_builtin_none];exact Bool.false_ne_true)]
 refine wpAny_bind (wpAny_specialOf hT F.slot_tuple_hash.lookup ?_)
 show wpAny _ _ (callSpecialIfBoundUnlessNone? (.ref a) "__hash__" _ >>= _) Q E s
 refine wpAny_bind (wpAny_callSpecialIfBoundUnlessNone?_slot hT F.slot_tuple_hash (wpAny_call_entry F.slot_tuple_hash hT F.entry_tuple_hash ?_ (F.args_tuple_hash_1 _)))
 show wpAny _ _ (Builtin.Tuple.tupleItemsOf (.ref a) >>= _) _ _ s
 refine wpAny_bind (wpAny_tupleItemsOf ho hd ?_)
 refine wpAny_bind ?_
 rw[<-Array.forIn_toList]
 refine wpAny_forIn_list _
  (fun rest (b:Array Int) s'=>∃(done left:List KTr),xs=done++left/\its.drop done.length=rest/\b.toList=trHs P w done/\s'={s with toks:=s.toks+trDs done})
  _ ?_ ?_ _ _ ⟨[],xs,rfl,rfl,rfl,rfl⟩
 ·rintro v rest b s' ⟨done,left,e1,e2,hb,rfl⟩
  have hlt:done.length<its.length:=by
   rcases Nat.lt_or_ge done.length its.length with z|z
   ·exact z
   ·rw[List.drop_eq_nil_of_le z]at e2;cases e2
  rw[List.drop_eq_getElem_cons hlt]at e2
  obtain⟨ev,er⟩:=List.cons.inj e2
  obtain⟨x,left',rfl⟩:∃x l,left=x::l:=by
   cases left with
   |nil=>rw[List.append_nil]at e1;subst e1;omega
   |cons x l=>exact⟨x,l,rfl⟩
  have hx:xs[done.length]?=some x:=by rw[e1,List.getElem?_append_right (Nat.le_refl _),Nat.sub_self];rfl
  have hv:its[done.length]?=some v:=by rw[List.getElem?_eq_getElem hlt,ev]
  have sn:∀(l:List KTr),trHs P w (l++[x])=trHs P w l++[trH P w x]:=fun l=>by
   induction l with
   |nil=>rfl
   |cons a r ih=>simp only[List.cons_append,trHs,ih]
  have sd:∀(l:List KTr),trDs (l++[x])=trDs l+trD x:=fun l=>by
   induction l with
   |nil=>simp[trDs]
   |cons a r ih=>simp only[List.cons_append,trDs,ih];omega
  refine wpAny_bind (hi done.length x v hx hv _ _ _ rfl ?_)
  have fin:∃(done' left'':List KTr),xs=done'++left''/\its.drop done'.length=rest/\(b.push (trH P w x)).toList=trHs P w done'/\({s with toks:=s.toks+trDs done+trD x}:Shared)={s with toks:=s.toks+trDs done' }:=
   ⟨done++[x],left',by rw[e1];simp,by rw[List.length_append,List.length_singleton];exact er,by rw[sn,Array.toList_push,hb],by rw[sd,Nat.add_assoc]⟩
  first
   |exact wpAny_pure fin
   |exact wpAny_bind (wpAny_pure (wpAny_pure fin))
 ·rintro b s' ⟨done,left,e1,e2,hb,rfl⟩
  have hz:left=[]:=by
   have h1:its.length<=done.length:=List.drop_eq_nil_iff.mp e2
   have h2:=congrArg List.length e1
   rw[List.length_append]at h2
   cases left with
   |nil=>rfl
   |cons _ _=>simp at h2;omega
  subst hz
  rw[List.append_nil]at e1
  subst e1
  show wpAny _ _ (retInt (Builtin.Tuple.tupleHashOf b.toList)) _ _ _
  rw[hb]
  refine wpAny_ret_mkInt ?_
  show wpAny _ _ (if(decide (-(2:Int) ^ 63<=Builtin.Tuple.tupleHashOf (trHs P w xs))&&decide (Builtin.Tuple.tupleHashOf (trHs P w xs)<2 ^ 63))=true then _ else _) Q E _
  simp only[trH,trD]at hQ
  unfold reduceHash at hQ
  by_cases hr:(decide (-(2:Int) ^ 63<=Builtin.Tuple.tupleHashOf (trHs P w xs))&&decide (Builtin.Tuple.tupleHashOf (trHs P w xs)<2 ^ 63))=true
  ·rw[if_pos hr]
   rw[if_pos hr]at hQ
   exact wpAny_pure (by simpa[Nat.add_assoc]using hQ)
  ·rw[if_neg hr]
   rw[if_neg hr]at hQ
   exact wpAny_bind (wpAny_rule (wpAny_pure (by simpa[Nat.add_assoc]using hQ)))
theorem y9o{P:Program}{w:World}{h:Heap}:∀(d:Nat)(A:Around)(x:KTr)(v:Value),kdep x<=d->A.units+d<cLine->TrA h x v->HsAt P w A h v (trH P w x) (trD x):=by
 intro d
 have atom:∀(A:Around)(k:Key)(v:Value),(q1o P w).is k v=true->HsAt P w A h v ((q1o P w).hash k) 1:=fun A k v hk E s Q eh hQ=>(q1o P w).pyHash hk hQ
 induction d with
 |zero=>
  intro A x v hd hu r
  cases x with
  |tup xs=>simp[kdep]at hd
  |int a=>obtain⟨t,rfl⟩:=r;exact atom A (.inl a) _ (q9q P w a t)
  |str a=>obtain⟨t,rfl⟩:=r;exact atom A (.inr a) _ (q9p P w a t)
 |succ d ih=>
  intro A x v hd hu r
  cases x with
  |tup xs=>
   obtain⟨a,its,rfl,p,q⟩:=r
   refine x7q (by omega) p q.length fun j x v e1 e2=>?_
   obtain⟨v',g,q'⟩:=q.get e1
   rw[e2]at g
   cases g
   have:=q7u e1
   simp only[kdep]at hd
   exact ih A.in1 x v (by omega) (by rw[q6y];omega) q'
  |int a=>exact ih A _ v (Nat.zero_le _) (by omega) r
  |str a=>exact ih A _ v (Nat.zero_le _) (by omega) r
theorem y4n{P:Program}{w:World}{A:Around}{E:Value->Shared->Prop}{s:Shared}:∀(n:Nat)(x:KTr)(v:Value)(Q:Bool->Shared->Prop),kdep x<=n->TrA s.heap x v->Q true s->wpAny (model P w) A (eqIsQuiet n v) Q E s:=by
 intro n
 induction n with
 |zero=>
  intro x v Q hd r hQ
  cases x with
  |tup xs=>simp[kdep]at hd
  |int a=>obtain⟨t,rfl⟩:=r;rw[eqIsQuiet_byValue 0 rfl];exact wpAny_pure hQ
  |str a=>obtain⟨t,rfl⟩:=r;rw[eqIsQuiet_byValue 0 rfl];exact wpAny_pure hQ
 |succ n ih=>
  intro x v Q hd r hQ
  cases x with
  |int a=>obtain⟨t,rfl⟩:=r;rw[eqIsQuiet_byValue _ rfl];exact wpAny_pure hQ
  |str a=>obtain⟨t,rfl⟩:=r;rw[eqIsQuiet_byValue _ rfl];exact wpAny_pure hQ
  |tup xs=>
   obtain⟨a,its,rfl,⟨o,ho,hc,n',hd'⟩,q⟩:=r
   have hT:s.TypeIs (.ref a) "tuple" :=⟨o,ho,hc⟩
   simp only[kdep]at hd
   unfold eqIsQuiet
   refine wpAny_bind (wpAny_specialOf hT F.slot_tuple_eq.lookup ?_)
   show wpAny _ _ (isInstance (.ref a) (.type "tuple") >>= _) _ _ s
   refine wpAny_bind (wpAny_isInstance hT isSubtype_tuple_tuple ?_)
   simp only[Bool.not_true,Bool.false_eq_true,if_false]
   refine wpAny_bind (wpAny_seqItems ho hd' ?_)
   refine wpAny_bind ?_
   show wpAny _ _ (forIn its.toArray _ _) _ _ s
   rw[<-Array.forIn_toList]
   refine wpAny_forIn_list _ (fun rest r s'=>r.1=none/\s'=s/\∀v∈rest,∃y,kdep y<=n/\TrA s.heap y v) _ ?_ ?_ _ _ ⟨rfl,rfl,fun v hv=>?_⟩
   ·rintro v rest r s' ⟨hr,rfl,hall⟩
    obtain⟨y,h1,h2⟩:=hall v List.mem_cons_self
    refine wpAny_bind (ih y v _ h1 h2 ?_)
    simp only[Bool.not_true,Bool.false_eq_true,if_false]
    exact wpAny_pure ⟨rfl,rfl,fun u hu'=>hall u (List.mem_cons_of_mem _ hu')⟩
   ·rintro⟨r1,r2⟩ s' ⟨hr,rfl,_⟩
    simp only at hr
    subst hr
    exact wpAny_pure hQ
   ·obtain⟨j,hj⟩:=List.mem_iff_getElem?.mp hv
    have hjl:j<its.length:=by
     have:=(List.getElem?_eq_some_iff.mp hj).1
     simpa using this
    have hjx:j<xs.length:=by rw[q.length];exact hjl
    obtain⟨v',g,q'⟩:=q.get (List.getElem?_eq_getElem hjx)
    have:v'=v:=by
     have hj':its[j]?=some v:=by simpa using hj
     rw[hj']at g
     exact(Option.some.inj g).symm
    subst this
    have:=q7u (List.getElem?_eq_getElem hjx)
    exact⟨_,by omega,q'⟩
def q5z(P:Program)(w:World):HeapKind P w KTr where
 is:=fun h x a=>(∃xs,x=.tup xs)/\kdep x<=8/\TrA h x (.ref a)
 hash:=trH P w
 draws:=trD
 room:=fun A=>A.units+8<cLine
 inj:=fun hx hy=>TrA.inj hx.2.2 hy.2.2
 keeps:=fun {h h' k a d o es ep} hk ho hd hs=>⟨hk.1,hk.2.1,TrA.at (fun b its ⟨o',e,c,n,q⟩=>⟨o',(hs.2 b (by
  rintro rfl
  obtain rfl:o'=o:=Option.some.inj (e.symm.trans ho)
  rw [hd]at q;exact nomatch q)).trans e,c,n,q⟩) hk.2.2⟩
 pyHash:=fun hu hk h=>y9o 8 _ _ _ hk.2.1 hu hk.2.2 _ _ _ rfl h
 eqBool:=fun {A E s x y a b Q} hu hx hy h=>x8p 8 A x y _ _ hx.2.1 hu hx.2.2 hy.2.2 _ _ _ _ h
 quiet:=fun hk h=>y4n 8 _ _ _ hk.2.1 hk.2.2 h
inductive HO where
 |lst (xs:List V)
 |tup (xs:List V)
 |dK (kvs:List (Key×V))|dT (kvs:List (List Key×V))|dH (c:Nat) (kvs:List (KTr×Addr×V))
 |set (S:Int->Bool) (n:Nat)
 |ins (C dx:Addr) (fs:List (Str×V))
 |own (x:Addr)
 |xd (fs:List (Str×V))
 |met (f x:Addr)
 |rng (lo hi:Int)
 |frz (o:Obj) (u:HO)
 |tbl (ps:Array Value)
 |ext (φ:Heap->Prop)
abbrev Hp:=Addr->Option HO
def upd(H:Hp)(a:Addr)(o:HO):Hp:=fun b=>if b=a then some o else H b
theorem q1r{H:Hp}{a:Addr}{o:HO}:upd H a o a=some o:=by unfold upd;rw[if_pos rfl]
theorem q1c{H:Hp}{a b:Addr}{o:HO}(h:b≠a):upd H a o b=H b:=by unfold upd;rw[if_neg h]
theorem q8q{H:Hp}{a b:Addr}{o u:HO}(h:H a=some o)(h':H b=some u)(d:o≠u):a≠b:=by
 intro e;subst e;rw[h]at h';exact d (Option.some.inj h')
theorem q2f{H:Hp}{a b:Addr}{o:HO}(h:H a=some o)(h':H b=none):a≠b:=by
 intro e;subst e;rw[h]at h';cases h'
section
variable(P:Program)(w:World)
def q2q(H:Hp)(h:Heap)(a:Addr):HO->Prop
 |.lst xs=>xs.length<=sizeLine/\∃(its:List Value)(n:Nat),Vals xs its/\h.get? a=some {cls:=.type "list",data:=.seq its.toArray n}
 |.tup xs=>xs.length<=sizeLine/\∃its:List Value,Vals xs its/\IsTup h a its.toArray
 |.dK kvs=>kvs.length<=sizeLine/\(a==sysModules)=false/\∃vs,KV kvs vs/\h.DictOf (q1o P w) a vs
 |.dT kvs=>kvs.length<=sizeLine/\(a==sysModules)=false/\∃xs:List (List Key×Addr×Value),
   Paired (fun(p:List Key×V) (q:List Key×Addr×Value)=>p.1=q.1/\H q.2.1=some (.tup (p.1.map kV))/\RelV p.2 q.2.2) kvs xs/\
   ∃o es ep,h.get? a=some o/\o.ExactDict/\o.data=.dict es ep/\es.toList=xs.map (entryOfKey (tupleKind (q1o P w)))/\(xs.map (·.1)).Nodup
 |.dH c kvs=>kvs.length<=sizeLine/\(a==sysModules)=false/\∃xs:List (KTr×Addr×Value),
   Paired (fun(p:KTr×Addr×V) (q:KTr×Addr×Value)=>p.1=q.1/\p.2.1=q.2.1/\RelV p.2.2 q.2.2) kvs xs/\
   ∃o es,h.get? a=some o/\o.ExactDict/\o.data=.dict es (c+kvs.length)/\es.toList=xs.map (entryOfKey (q5z P w))/\(xs.map (·.1)).Nodup
 |.set S n=>h.SetOf (intKind P w) a S n
 |.ins C dx fs=>H dx=some (.own a)/\fs.length<=1000/\dx≠a/\h.get? a=some (PySem.W.instObj C dx)/\
   ∃mA,h.Ns1 dx mA/\(∀f,RelO (fs.lookup f) (mA f))/\PySem.Within mA (fs.map (·.1))
 |.own _=>∃o,h.get? a=some o
 |.xd fs=>∃mA,h.Ns1 a mA/\∀f,RelO (fs.lookup f) (mA f)
 |.rng lo hi=>∃t u v,h.get? a=some {cls:=.type "range",data:=.fields #[.int lo t,.int hi u,.int 1 v]}
 |.frz o u=>h.get? a=some o/\q2q H h a u
 |.tbl ps=>h.get? a=some {cls:=.none,data:=.fields ps}
 |.met f x=>h.get? a=some (PySem.W.methodObj (.ref f) (.ref x))
 |.ext φ=>φ h/\(∃o,h.get? a=some o)/\∀h1 h2:Heap,φ h1->(∀o,h1.get? a=some o->h2.get? a=some o)->φ h2
def HOk(H:Hp)(h:Heap):Prop:=∀a o,H a=some o->q2q P w H h a o
end
section
variable{P:Program}{w:World}{H H':Hp}{h h':Heap}{a:Addr}{o:HO}
theorem q2q.lt(x:q2q P w H h a o):a<h.objs.size:=by
 cases o with
 |lst xs=>obtain⟨_,_,_,_,e⟩:=x;exact Heap.lt_size e
 |tup xs=>obtain⟨_,_,_,p⟩:=x;exact p.lt
 |dK kvs=>obtain⟨_,_,_,_,o,_,_,e,_⟩:=x;exact Heap.lt_size e
 |dT kvs=>obtain⟨_,_,_,_,o,_,_,e,_⟩:=x;exact Heap.lt_size e
 |dH c kvs=>obtain⟨_,_,_,_,o,_,e,_⟩:=x;exact Heap.lt_size e
 |set S n=>obtain⟨o,_,_,_,e,_⟩:=x;exact Heap.lt_size e
 |ins C dx fs=>obtain⟨_,_,_,e,_⟩:=x;exact Heap.lt_size e
 |own y=>obtain⟨_,e⟩:=x;exact Heap.lt_size e
 |xd fs=>obtain⟨_,⟨_,_,_,e,_⟩,_⟩:=x;exact Heap.lt_size e
 |rng lo hi=>obtain⟨_,_,_,e⟩:=x;exact Heap.lt_size e
 |frz ob u=>obtain⟨e,_⟩:=x;exact Heap.lt_size e
 |tbl ps=>exact Heap.lt_size (show h.get? a=some _ from x)
 |met f y=>exact Heap.lt_size (show h.get? a=some _ from x)
 |ext φ=>obtain⟨_,⟨_,e⟩,_⟩:=x;exact Heap.lt_size e
theorem Paired.mapP{α β:Type}{F G:α->β->Prop}:∀{l₁:List α}{l₂:List β},Paired F l₁ l₂->(∀a b,F a b->G a b)->Paired G l₁ l₂
 |_,_,.nil,_=>.nil
 |_,_,.cons r t,f=>.cons (f _ _ r) (Paired.mapP t f)
theorem q2q.stay(x:q2q P w H h a o)(k:∀b u,(b=a\/H b=some (.own a))->h.get? b=some u->h'.get? b=some u)
  (ho:∀b,H b=some (.own a)->H' b=some (.own a)) (ht:∀b xs,H b=some (.tup xs)->H' b=some (.tup xs)):q2q P w H' h' a o:=by
 induction o with
 |lst xs=>obtain⟨z,its,n,r,e⟩:=x;exact⟨z,its,n,r,k _ _ (.inl rfl) e⟩
 |tup xs=>obtain⟨z,its,r,ob,e,c⟩:=x;exact⟨z,its,r,ob,k _ _ (.inl rfl) e,c⟩
 |dK kvs=>obtain⟨z,y,vs,r,ob,es,ep,e,c⟩:=x;exact⟨z,y,vs,r,ob,es,ep,k _ _ (.inl rfl) e,c⟩
 |dT kvs=>
  obtain⟨z,y,xs,r,ob,es,ep,e,c⟩:=x
  exact⟨z,y,xs,Paired.mapP r fun p q z=>⟨z.1,ht _ _ z.2.1,z.2.2⟩,ob,es,ep,k _ _ (.inl rfl) e,c⟩
 |dH n kvs=>obtain⟨z,y,xs,r,ob,es,e,c⟩:=x;exact⟨z,y,xs,r,ob,es,k _ _ (.inl rfl) e,c⟩
 |set S n=>obtain⟨ob,es,ep,t,e,c⟩:=x;exact⟨ob,es,ep,t,k _ _ (.inl rfl) e,c⟩
 |ins C dx fs=>
  obtain⟨d,z,ne,e,mA,⟨od,es,ep,e2,c⟩,r⟩:=x
  exact⟨ho _ d,z,ne,k _ _ (.inl rfl) e,mA,⟨od,es,ep,k _ _ (.inr d) e2,c⟩,r⟩
 |own y=>obtain⟨ob,e⟩:=x;exact⟨ob,k _ _ (.inl rfl) e⟩
 |xd fs=>obtain⟨mA,⟨od,es,ep,e,c⟩,r⟩:=x;exact⟨mA,⟨od,es,ep,k _ _ (.inl rfl) e,c⟩,r⟩
 |rng lo hi=>obtain⟨t,u,v,e⟩:=x;exact⟨t,u,v,k _ _ (.inl rfl) e⟩
 |frz ob u ih=>obtain⟨e,q⟩:=x;exact⟨k _ _ (.inl rfl) e,ih q⟩
 |tbl ps=>
  have e:h.get? a=some {cls:=.none,data:=.fields ps}:=x
  show h'.get? a=some {cls:=.none,data:=.fields ps}
  exact k a _ (.inl rfl) e
 |met f y=>
  have e:h.get? a=some (PySem.W.methodObj (.ref f) (.ref y)):=x
  show h'.get? a=some (PySem.W.methodObj (.ref f) (.ref y))
  exact k a _ (.inl rfl) e
 |ext φ=>obtain⟨p,⟨o,e⟩,st⟩:=x;exact⟨st _ _ p fun o q=>k _ _ (.inl rfl) q,⟨o,k _ _ (.inl rfl) e⟩,st⟩
theorem HOk.lt(x:HOk P w H h)(e:H a=some o):a<h.objs.size:=(x a o e).lt
theorem HOk.fresh(x:HOk P w H h)(e:h.objs.size<=a):H a=none:=by
 cases q:H a with
 |none=>rfl
 |some u=>exact absurd (Nat.lt_of_lt_of_le (x.lt q) e) (Nat.lt_irrefl _)
theorem HOk.kept(x:HOk P w H h)(k:∀b u,h.get? b=some u->h'.get? b=some u):HOk P w H h':=fun a o e=>
 (x a o e).stay (fun b u _ q=>k b u q) (fun _ q=>q) fun _ _ q=>q
theorem HOk.laid(x:HOk P w H h)(k:∀b u,h.get? b=some u->h'.get? b=some u)(hp:h.objs.size<=a)(new:q2q P w (upd H a o) h' a o):HOk P w (upd H a o) h':=fun b u e=>by
 have hn:=x.fresh hp
 by_cases hb:b=a
 ·subst hb;rw[q1r]at e;cases e;exact new
 ·rw[q1c hb]at e
  exact(x b u e).stay (fun c v _ q=>k c v q) (fun c q=>by rw[q1c (q2f q hn)];exact q) fun c xs q=>by rw[q1c (q2f q hn)];exact q
end
def Rd(H:Hp)(a:Addr)(u:HO):Prop:=H a=some u\/∃o,H a=some (.frz o u)
theorem Rd.ok{P:Program}{w:World}{H:Hp}{h:Heap}{a:Addr}{u:HO}(r:Rd H a u)(x:HOk P w H h):q2q P w H h a u:=by
 rcases r with r|⟨o,r⟩
 ·exact x a u r
 ·obtain⟨_,q⟩:=x a _ r
  exact q
def Mut:Option HO->Prop
 |some (.lst _)=>True
 |some (.dK _)=>True
 |some (.dT _)=>True
 |some (.dH _ _)=>True
 |some (.set _ _)=>True
 |some (.ins _ _ _)=>True
 |some (.ext _)=>True
 |_=>False
section
variable{P:Program}{w:World}{H:Hp}{h h':Heap}{x e:Addr}{o':HO}
theorem HOk.write(ok:HOk P w H h)(mu:Mut (H x))(he:e=x\/H e=some (.own x))(k:∀b u,b≠e->h.get? b=some u->h'.get? b=some u)(heo:∃u,h'.get? e=some u)
  (new:q2q P w (upd H x o') h' x o'):HOk P w (upd H x o') h':=fun b u q=>by
 have nown:∀c y,H c=some (.own y)->c≠x:=fun c y r z=>by subst z;rw[r]at mu;exact mu
 have ntup:∀c xs,H c=some (.tup xs)->c≠x:=fun c xs r z=>by subst z;rw[r]at mu;exact mu
 by_cases hb:b=x
 ·subst hb;rw[q1r]at q;cases q;exact new
 ·rw[q1c hb]at q
  by_cases hbe:b=e
  ·have q':H b=some (.own x):=by
    rcases he with z|z
    ·exact absurd (hbe.trans z) hb
    ·rw[hbe];exact z
   rw[q]at q';cases q'
   obtain⟨v,hv⟩:=heo
   exact⟨v,by rw[hbe];exact hv⟩
  ·refine(ok b u q).stay (fun c v hc r=>k c v ?_ r) (fun c r=>by rw[q1c (nown c b r)];exact r) fun c xs r=>by rw[q1c (ntup c xs r)];exact r
   rcases hc with rfl|hc
   ·exact hbe
   ·rintro rfl
    rcases he with z|z
    ·exact nown c b hc z
    ·rw[hc]at z;cases z;exact hb rfl
end
structure Un(fs ex:List Addr)(H H':Hp)(h h':Heap):Prop where
 keep:∀b o,h.get? b=some o->H b=none->b∉fs->b∉ex->h'.get? b=some o
 slot:∀b o,h.get? b=some o->H b=none->b∈fs->b∉ex->∃sl,h'.get? b=some {o with slots:=sl}
 free:∀b o,h.get? b=some o->H b=none->b∉ex->H' b=none
 there:∀b o,h.get? b=some o->b∉ex->∃o',h'.get? b=some o'
 tups:∀b xs,H b=some (.tup xs)->H' b=some (.tup xs)
 frzs:∀b o u,H b=some (.frz o u)->H' b=some (.frz o u)
 tbls:∀b ps,H b=some (.tbl ps)->∃more,H' b=some (.tbl (ps++more))
section
variable{fs fs' ex ex':List Addr}{H H1 H2:Hp}{h h1 h2 h':Heap}{a x e:Addr}{o:HO}
theorem Un.any(u:Un fs ex H H1 h h1){b:Addr}{ob:Obj}(q:h.get? b=some ob)(n:H b=none)(hx:b∉ex):∃sl,h1.get? b=some {ob with slots:=sl}:=by
 by_cases hb:b∈fs
 ·exact u.slot b ob q n hb hx
 ·exact⟨ob.slots,u.keep b ob q n hb hx⟩
theorem Un.kept(k:∀b u,h.get? b=some u->h'.get? b=some u):Un fs ex H H h h':=
 ⟨fun b ob q _ _ _=>k b ob q,fun b ob q _ _ _=>⟨ob.slots,k b ob q⟩,fun _ _ _ n _=>n,fun b ob q _=>⟨ob,k b ob q⟩,fun _ _ q=>q,fun _ _ _ q=>q,fun _ ps q=>⟨#[],by rw[q];simp⟩⟩
theorem Un.refl:Un fs ex H H h h:=Un.kept fun _ _ q=>q
theorem Un.laid(k:∀b u,h.get? b=some u->h'.get? b=some u)(hp:h.objs.size<=a)(hn:H a=none):Un fs ex H (upd H a o) h h' where
 keep:=fun b u q _ _ _=>k b u q
 slot:=fun b u q _ _ _=>⟨u.slots,k b u q⟩
 free:=fun b u q n _=>by rw[q1c (Nat.ne_of_lt (Nat.lt_of_lt_of_le (Heap.lt_size q) hp))];exact n
 there:=fun b u q _=>⟨u,k b u q⟩
 tups:=fun b xs q=>by rw[q1c (q2f q hn)];exact q
 frzs:=fun b u xs q=>by rw[q1c (q2f q hn)];exact q
 tbls:=fun b ps q=>⟨#[],by rw[q1c (q2f q hn),q];simp⟩
theorem Un.write(mu:Mut (H x))(he:e=x\/H e=some (.own x))(k:∀b u,b≠e->h.get? b=some u->h'.get? b=some u)(heo:∃u,h'.get? e=some u):Un fs ex H (upd H x o) h h':=by
 have hx:∀b,H b=none->b≠x:=fun b n z=>by subst z;rw[n]at mu;exact mu
 have hb:∀b,H b=none->b≠e:=fun b n z=>by
  subst z
  rcases he with r|r
  ·exact hx b n r
  ·rw[n]at r;cases r
 have hm:∀b u,H b=some u->¬Mut (some u)->b≠x:=fun b u q nm z=>by subst z;rw[q]at mu;exact nm mu
 refine⟨fun b u q n _ _=>k b u (hb b n) q,fun b u q n _ _=>⟨u.slots,k b u (hb b n) q⟩,fun b u q n _=>by rw[q1c (hx b n)];exact n,fun b u q _=>?_,
  fun b xs q=>by rw [q1c (hm b _ q fun z=>z)];exact q,fun b u xs q=>by rw [q1c (hm b _ q fun z=>z)];exact q,fun b ps q=>⟨#[],by rw [q1c (hm b _ q fun z=>z),q];simp⟩⟩
 by_cases hbe:b=e
 ·subst hbe;exact heo
 ·exact⟨u,k b u hbe q⟩
end
def trk(h:Heap)(H:Hp):List Addr:=(List.range h.objs.size).filter fun a=>(H a).isSome
def hidT(h:Heap)(H:Hp):Heap:=PySem.W.hideAll h (trk h H)
theorem y2e(h:Heap)(H:Hp):(hidT h H).objs.size=h.objs.size:=PySem.W.hideAll_size _ _
theorem y6r{h:Heap}{H:Hp}{b:Addr}{o:Obj}(e:h.get? b=some o)(n:H b=none):(hidT h H).get? b=some o:=
 PySem.W.hideAll_get _ e fun hm=>by
  have q:(H b).isSome=true:=(List.mem_filter.mp hm).2
  rw[n]at q;simp at q
theorem x1g{h:Heap}{H:Hp}{b:Addr}{o:Obj}(e:(hidT h H).get? b=some o):h.get? b=some o/\H b=none:=by
 have e':h.get? b=some o:=PySem.W.of_hideAll (trk h H) e
 refine⟨e',?_⟩
 cases q:H b with
 |none=>rfl
 |some x=>
  have hm:b∈trk h H:=List.mem_filter.mpr ⟨List.mem_range.mpr (Heap.lt_size e'),by simp[q]⟩
  have z:(hidT h H).get? b=none:=PySem.W.hideAll_none (trk h H) hm
  rw[z]at e;cases e
structure Mod(K:Frag)(mg:Str->Option Value)(base:Heap):Prop where
 kin:K.In base
 glob:base.Ns mainGlobals mg
 blt:∃mb,base.Ns builtinsNs mb/\∀x:Str,x≠ "__name__" ->mb x=bootBuiltins x
 nolimit:base.NoLimit
/-- the context: a def's body (or a comprehension's block) running. base: fixed through the whole law;s₀,H₀: the entry;outer: the frames whose slots others may change (a def's callers);stack: all frames that run;
   ex: iterators that were made ahead of the entry and are walked here (a comprehension's);fn: the names whose cells were made at the entry (a def: all;a comprehension's block: its own);calm: not within an except suite;pn: pins that every state bears;xe: what is wanted of an exception that leaves the code -/
structure Cx where
 prog:Program
 w:World
 K:Frag
 mg:Str->Option Value
 base:Heap
 A:Around
 N:List Str
 s₀:Shared
 H₀:Hp
 env:Env
 outer:List Env
 stack:List Env
 ex:List Addr
 fn:Str->Bool
 calm:Bool
 pn:List (Addr×Obj)
 xe:Value->Shared->Prop
def frs(l:List Env):List Addr:=l.filterMap (·.frame)
abbrev Cx.fs(X:Cx):List Addr:=frs X.outer
def Vis(sc:Scope)(x:Str):Prop:=sc.names.lookup x=some .local\/sc.names.lookup x=some .cell\/sc.names.lookup x=some .free
def Loc(sc:Scope)(x:Str):Prop:=sc.names.lookup x=some .local\/sc.names.lookup x=some .cell
def Look(env:Env)(h:Heap)(m:Str->Option Value)(x:Str)(u:Value):Prop:=
 (env.kindOf x=some .local/\m x=some u)\/((env.kindOf x=some .cell\/env.kindOf x=some .free)/\∃c,env.cells.lookup x=some c/\h.IsCell c (some u))
structure Cx.Ok(X:Cx):Prop where
 mod:Mod X.K X.mg X.base
 kind:X.env.scope.kind=.function
 glob:X.env.globals=mainGlobals
 blt:X.env.builtins=builtinsNs
 above:X.s₀.heap.objs.size<=X.env.locals
 inj:∀x y c,X.env.cells.lookup x=some c->X.env.cells.lookup y=some c->x=y
 has:∀x,(X.env.kindOf x=some .cell\/X.env.kindOf x=some .free)->∃c,X.env.cells.lookup x=some c
 cab:∀x c,X.fn x=true->X.env.cells.lookup x=some c->X.s₀.heap.objs.size<=c
 hd:X.calm=true->X.A.handled=none
 frames:X.A.frames=some X.stack
 stk:X.stack=X.outer\/(X.stack=X.env::X.outer/\X.env.frame=some X.env.locals)
 exf:∀b∈X.ex,b≠X.env.locals/\∀x c,X.env.cells.lookup x=some c->c≠b
 bs:∀b o,X.base.get? b=some o->X.s₀.heap.get? b=some o/\X.H₀ b=none
 bsz:X.base.objs.size<=X.s₀.heap.objs.size
 noex:∀b o,X.base.get? b=some o->b∉X.ex
 exfs:∀b∈X.ex,b∉X.fs
 funs:X.s₀.heap.FunFrames X.base X.outer
 frf:∀b∈X.fs,X.H₀ b=none
structure Inv(X:Cx)(pins:List (Addr×Obj))(σ:List (Option V))(H:Hp)(s:Shared):Prop where
 ok:X.Ok
 os:s.os=X.s₀.os
 bare:AllBare s.gens
 base:Un X.fs X.ex X.H₀ H X.s₀.heap s.heap
 loc:∃m,s.heap.Ns X.env.locals m/\∀(i:Nat)(x:Str)(v:V),X.N[i]?=some x->σ[i]?=some (some v)->Vis X.env.scope x->∃u,RelV v u/\Look X.env s.heap m x u
 cell:∀x c,X.env.cells.lookup x=some c->∃v,s.heap.IsCell c v
 free:H X.env.locals=none
 freeC:∀x c,X.env.cells.lookup x=some c->H c=none
 pin:∀p∈X.pn++pins,s.heap.get? p.1=some p.2/\H p.1=none/\p.1≠X.env.locals/\p.1∉X.fs/\∀v,p.2.data≠.cell v
 hok:HOk X.prog X.w H s.heap
 len:σ.length=X.N.length
section
variable{X:Cx}{pins:List (Addr×Obj)}{σ:List (Option V)}{H H':Hp}{s:Shared}{h':Heap}
theorem Cx.Ok.nofr(ok:X.Ok){b:Addr}{o:Obj}(e:X.base.get? b=some o):b∉X.fs:=fun hb=>by
 have:=(ok.funs.mem hb).1
 rw[e]at this;cases this
theorem Inv.bs(I:Inv X pins σ H s):∀b o,X.base.get? b=some o->s.heap.get? b=some o/\H b=none:=fun b o e=>
 ⟨I.base.keep b o (I.ok.bs b o e).1 (I.ok.bs b o e).2 (I.ok.nofr e) (I.ok.noex b o e),I.base.free b o (I.ok.bs b o e).1 (I.ok.bs b o e).2 (I.ok.noex b o e)⟩
theorem Inv.bk(I:Inv X pins σ H s):∀b o,X.base.get? b=some o->s.heap.get? b=some o:=fun b o e=>(I.bs b o e).1
theorem Inv.mod(I:Inv X pins σ H s):Mod X.K X.mg X.base:=I.ok.mod
theorem Inv.kIn(I:Inv X pins σ H s):X.K.In s.heap:=I.ok.mod.kin.keeps I.bk
theorem Inv.lt(I:Inv X pins σ H s):X.env.locals<s.heap.objs.size:=let ⟨_,hn,_⟩:=I.loc;hn.lt
theorem Inv.sz(I:Inv X pins σ H s):X.s₀.heap.objs.size<=s.heap.objs.size:=Nat.le_trans I.ok.above (Nat.le_of_lt I.lt)
theorem Inv.nofs(I:Inv X pins σ H s){a:Addr}(h:s.heap.objs.size<=a):a∉X.fs:=fun hb=>by
 obtain⟨_,o,ho,_⟩:=I.ok.funs.mem hb
 exact absurd (Nat.lt_of_lt_of_le (Heap.lt_size ho) (Nat.le_trans I.sz h)) (Nat.lt_irrefl _)
theorem Inv.cne(I:Inv X pins σ H s):∀x c,X.env.cells.lookup x=some c->c≠X.env.locals:=fun x c e z=>by
 obtain⟨v,o,ho,hd⟩:=I.cell x c e
 obtain⟨m,⟨o',es,ep,ho',hd',_⟩,_⟩:=I.loc
 rw[z,ho']at ho;cases ho;rw[hd']at hd;cases hd
theorem Inv.funs(I:Inv X pins σ H s):s.heap.FunFrames X.base X.outer:=by
 have all:∀(l:List Env),(∀b∈frs l,b∈X.fs)->X.s₀.heap.FunFrames X.base l->s.heap.FunFrames X.base l:=by
  intro l
  induction l with
  |nil=>intro _ _;trivial
  |cons env r ih=>
   intro hs hl
   obtain⟨hk,⟨L,o,hf,hn,ho,hd⟩,hr⟩:=hl
   have hL:L∈X.fs:=hs L (by unfold frs;rw[List.filterMap_cons,hf];exact List.mem_cons_self)
   obtain⟨sl,e⟩:=I.base.slot L o ho (I.ok.frf L hL) hL fun z=>I.ok.exfs L z hL
   exact⟨hk,⟨L,_,hf,hn,e,hd⟩,ih (fun b hb=>hs b (by unfold frs;rw[List.filterMap_cons,hf];exact List.mem_cons_of_mem _ hb)) hr⟩
 exact all X.outer (fun _ hb=>hb) I.ok.funs
theorem Inv.stack(I:Inv X pins σ H s):s.heap.FunFrames X.base X.stack:=by
 rcases I.ok.stk with e|⟨e,hf⟩
 ·rw[e];exact I.funs
 ·rw[e]
  obtain⟨m,hn,_⟩:=I.loc
  refine .cons (by rw[I.ok.kind];decide) hf hn ?_ I.funs
  exact Heap.get?_none_of_le (Nat.le_trans I.ok.bsz I.ok.above)
theorem Inv.stkSub(I:Inv X pins σ H s):∀b∈frs X.stack,b∈X.env.locals::X.fs:=fun b hb=>by
 rcases I.ok.stk with e|⟨e,hf⟩
 ·rw[e]at hb;exact List.mem_cons_of_mem _ hb
 ·rw[e]at hb
  unfold frs at hb
  rw[List.filterMap_cons,hf]at hb
  exact hb
theorem Inv.stkFree(I:Inv X pins σ H s):∀b∈frs X.stack,H b=none:=fun b hb=>by
 rcases List.mem_cons.mp (I.stkSub b hb)with e|hb
 ·rw[e];exact I.free
 ·obtain⟨_,o,ho,_⟩:=I.ok.funs.mem hb
  exact I.base.free b o ho (I.ok.frf b hb) fun z=>I.ok.exfs b z hb
theorem Inv.step{g':Array GenState}{t':Nat}{d':Drawn}{ch:List Addr}(I:Inv X pins σ H s)
  (hch:∀b∈ch,(b∈X.ex\/X.s₀.heap.objs.size<=b)/\b≠X.env.locals/\(∀x c,X.env.cells.lookup x=some c->c≠b)/\∀p∈X.pn++pins,p.1≠b)
  (keep:∀b o,b≠X.env.locals->b∉X.fs->b∉ch->s.heap.get? b=some o->H b=none->h'.get? b=some o)
  (slot:∀b o,b≠X.env.locals->b∈X.fs->b∉ch->s.heap.get? b=some o->H b=none->∃sl,h'.get? b=some {o with slots:=sl}) (free:∀b o,b∉ch->s.heap.get? b=some o->H b=none->H' b=none)
  (there:∀b o,b∉ch->s.heap.get? b=some o->∃o',h'.get? b=some o')
  (tups:∀b xs,H b=some (.tup xs)->H' b=some (.tup xs)) (frzs:∀b o u,H b=some (.frz o u)->H' b=some (.frz o u)) (tbls:∀b ps,H b=some (.tbl ps)->∃more,H' b=some (.tbl (ps++more)))
  (ns:∀m,s.heap.Ns X.env.locals m->h'.Ns X.env.locals m) (hok:HOk X.prog X.w H' h') (hg:AllBare g') :
  Inv X pins σ H' {s with heap:=h',gens:=g',drawn:=d',toks:=t' }:=by
 have neL:∀b o,X.s₀.heap.get? b=some o->b≠X.env.locals:=fun b o e=>Nat.ne_of_lt (Nat.lt_of_lt_of_le (Heap.lt_size e) I.ok.above)
 have neC:∀b o,X.s₀.heap.get? b=some o->b∉X.ex->b∉ch:=fun b o e hx hb=>by
  rcases(hch b hb).1 with z|z
  ·exact hx z
  ·exact absurd (Nat.lt_of_lt_of_le (Heap.lt_size e) z) (Nat.lt_irrefl _)
 have cellK:∀x c,X.env.cells.lookup x=some c->∀v,s.heap.IsCell c v->h'.IsCell c v:=fun x c e v hh1=>by
  obtain⟨o,ho,hd⟩:=hh1
  have nch:c∉ch:=fun z=>(hch c z).2.2.1 x c e rfl
  by_cases hc:c∈X.fs
  ·obtain⟨sl,q⟩:=slot c o (I.cne x c e) hc nch ho (I.freeC x c e)
   exact⟨_,q,hd⟩
  ·exact⟨o,keep c o (I.cne x c e) hc nch ho (I.freeC x c e),hd⟩
 refine⟨I.ok,I.os,hg,⟨fun b o e n hb hx=>?_,fun b o e n hb hx=>?_,fun b o e n hx=>?_,fun b o e hx=>?_,fun b xs e=>tups b xs (I.base.tups b xs e),fun b o xs e=>frzs b o xs (I.base.frzs b o xs e),fun b ps e=>?_⟩,?_,fun x c e=>?_,?_,fun x c e=>?_,fun p hp=>?_,hok,I.len⟩
 ·exact keep b o (neL b o e) hb (neC b o e hx) (I.base.keep b o e n hb hx) (I.base.free b o e n hx)
 ·obtain⟨sl,e1⟩:=I.base.slot b o e n hb hx
  obtain⟨sl',e2⟩:=slot b _ (neL b o e) hb (neC b o e hx) e1 (I.base.free b o e n hx)
  exact⟨sl',e2⟩
 ·obtain⟨o',e1⟩:=I.base.there b o e hx
  exact free b o' (neC b o e hx) e1 (I.base.free b o e n hx)
 ·obtain⟨o',e1⟩:=I.base.there b o e hx
  exact there b o' (neC b o e hx) e1
 ·obtain⟨m1,e1⟩:=I.base.tbls b ps e
  obtain⟨m2,e2⟩:=tbls b _ e1
  exact⟨m1++m2,by rw[e2,Array.append_assoc]⟩
 ·obtain⟨m,hn,hl⟩:=I.loc
  refine⟨m,ns m hn,fun i x v e1 e2 e3=>?_⟩
  obtain⟨u,r,l⟩:=hl i x v e1 e2 e3
  refine⟨u,r,?_⟩
  rcases l with l|⟨k,c,e,z⟩
  ·exact .inl l
  ·exact .inr ⟨k,c,e,cellK x c e _ z⟩
 ·obtain⟨v,z⟩:=I.cell x c e
  exact⟨v,cellK x c e v z⟩
 ·obtain⟨m,⟨o,_,_,ho,_⟩,_⟩:=I.loc
  exact free _ o (fun z=>(hch _ z).2.1 rfl) ho I.free
 ·obtain⟨v,o,ho,hd⟩:=I.cell x c e
  exact free c o (fun z=>(hch c z).2.2.1 x c e rfl) ho (I.freeC x c e)
 ·obtain⟨e,n,ne,nf,d⟩:=I.pin p hp
  have nch:p.1∉ch:=fun z=>(hch p.1 z).2.2.2 p hp rfl
  exact⟨keep p.1 p.2 ne nf nch e n,free p.1 p.2 nch e n,ne,nf,d⟩
theorem Inv.un{t':Nat}(I:Inv X pins σ H s)(u:Un X.fs [] H H' s.heap h')(hok:HOk X.prog X.w H' h'):Inv X pins σ H' {s with heap:=h',toks:=t' }:=by
 obtain⟨m,⟨o,es,ep,ho,r⟩,_⟩:=id I.loc
 obtain⟨sl,hL⟩:=u.any ho I.free (by simp)
 exact I.step (g':=s.gens) (d':=s.drawn) (ch:=[]) (fun _ z=>nomatch z) (fun b o _ hb _ e n=>u.keep b o e n hb (by simp)) (fun b o _ hb _ e n=>u.slot b o e n hb (by simp)) (fun b o _ e n=>u.free b o e n (by simp)) (fun b o _ e=>u.there b o e (by simp)) u.tups u.frzs u.tbls (fun m' hm=>by
  obtain ⟨o',es',ep',ho',r'⟩:=hm
  rw [ho]at ho';cases ho'
  exact ⟨_,es',ep',hL,r'⟩) hok I.bare
theorem Inv.call{g':Array GenState}{t':Nat}{d':Drawn}{ch:List Addr}(I:Inv X pins σ H s)(u:Un (frs X.stack) ch H H' s.heap h')(hok:HOk X.prog X.w H' h')(hg:AllBare g')
  (hch:∀b∈ch,(b∈X.ex\/X.s₀.heap.objs.size<=b)/\b≠X.env.locals/\(∀x c,X.env.cells.lookup x=some c->c≠b)/\∀p∈X.pn++pins,p.1≠b) :
  Inv X pins σ H' {s with heap:=h',gens:=g',drawn:=d',toks:=t' }:=by
 obtain⟨m,⟨o,es,ep,ho,r⟩,_⟩:=id I.loc
 obtain⟨sl,hL⟩:=u.any ho I.free fun z=>(hch _ z).2.1 rfl
 exact I.step (ch:=ch) hch (fun b o hL hb hc e n=>u.keep b o e n (fun z=>(List.mem_cons.mp (I.stkSub b z)).elim hL hb) hc) (fun b o _ _ hc e n=>u.any e n hc) (fun b o hc e n=>u.free b o e n hc) (fun b o hc e=>u.there b o e hc) u.tups u.frzs u.tbls (fun m' hm=>by
  obtain ⟨o',es',ep',ho',r'⟩:=hm
  rw [ho]at ho';cases ho'
  exact ⟨_,es',ep',hL,r'⟩) hok hg
theorem Inv.turned{t':Nat}{it:Addr}(I:Inv X pins σ H s)(k:∀b o,b≠it->s.heap.get? b=some o->h'.get? b=some o)(hn:H it=none)(hL:it≠X.env.locals)
  (h1:it∈X.ex\/X.s₀.heap.objs.size<=it) (h2:∀x c,X.env.cells.lookup x=some c->c≠it) (h3:∀p∈X.pn++pins,p.1≠it):Inv X pins σ H {s with heap:=h',toks:=t' }:=by
 have nit:∀b u,H b=some u->b≠it:=fun b u e z=>by rw[z,hn]at e;cases e
 refine I.step (g':=s.gens) (d':=s.drawn) (ch:=[it]) (fun b hb=>?_) (fun b o _ _ hc e _=>k b o (fun z=>hc (by simp[z])) e) (fun b o _ _ hc e _=>⟨o.slots,k b o (fun z=>hc (by simp[z])) e⟩) (fun _ _ _ _ n=>n)
  (fun b o hc e=>⟨o,k b o (fun z=>hc (by simp[z])) e⟩) (fun _ _ e=>e) (fun _ _ _ e=>e) (fun b ps e=>⟨#[],by rw[e];simp⟩) (fun m hm=>?_) (fun b u e=>?_) I.bare
 ·have e:b=it:=by simpa using hb
  subst e
  exact⟨h1,hL,h2,h3⟩
 ·obtain⟨o,es,ep,ho,r⟩:=hm
  exact⟨o,es,ep,k _ o (Ne.symm hL) ho,r⟩
 ·refine(I.hok b u e).stay (fun c v hc q=>k c v ?_ q) (fun _ q=>q) fun _ _ q=>q
  rcases hc with z|z
  ·rw[z];exact nit b u e
  ·exact nit c _ z
theorem Inv.tok(I:Inv X pins σ H s)(t:Nat):Inv X pins σ H {s with toks:=t}:=I.un (h':=s.heap) (t':=t) Un.refl I.hok
theorem Inv.kept{t':Nat}(I:Inv X pins σ H s)(k:∀b u,s.heap.get? b=some u->h'.get? b=some u):Inv X pins σ H {s with heap:=h',toks:=t' }:=I.un (Un.kept k) (I.hok.kept k)
theorem Inv.laid{a:Addr}{o:HO}{t':Nat}(I:Inv X pins σ H s)(k:∀b u,s.heap.get? b=some u->h'.get? b=some u)(hp:s.heap.objs.size<=a)(new:q2q X.prog X.w (upd H a o) h' a o) :
  Inv X pins σ (upd H a o) {s with heap:=h',toks:=t' }:=I.un (Un.laid k hp (I.hok.fresh hp)) (I.hok.laid k hp new)
theorem Inv.write{x e:Addr}{o:HO}{t':Nat}(I:Inv X pins σ H s)(mu:Mut (H x))(he:e=x\/H e=some (.own x))(k:∀b u,b≠e->s.heap.get? b=some u->h'.get? b=some u)(heo:∃u,h'.get? e=some u)
  (new:q2q X.prog X.w (upd H x o) h' x o):Inv X pins σ (upd H x o) {s with heap:=h',toks:=t' }:=I.un (Un.write mu he k heo) (I.hok.write mu he k heo new)
theorem Inv.pins_of{pins':List (Addr×Obj)}(I:Inv X pins σ H s)(h:∀p∈pins',s.heap.get? p.1=some p.2/\H p.1=none/\p.1≠X.env.locals/\p.1∉X.fs/\∀v,p.2.data≠.cell v):Inv X pins' σ H s:=
 ⟨I.ok,I.os,I.bare,I.base,I.loc,I.cell,I.free,I.freeC,fun p hp=>(List.mem_append.mp hp).elim (fun z=>I.pin p (List.mem_append_left _ z)) (h p),I.hok,I.len⟩
theorem z1x{N:List Str}(hN:N.Nodup){i j:Nat}{x:Str}(a:N[i]?=some x)(b:N[j]?=some x):i=j:=by
 obtain⟨h1,e1⟩:=List.getElem?_eq_some_iff.mp a
 obtain⟨h2,e2⟩:=List.getElem?_eq_some_iff.mp b
 exact(List.getElem_inj hN).mp (e1.trans e2.symm)
theorem q9e{M:Model}{A:Around}{E:Value->Shared->Prop}{i:Nat}{x:Str}{v:V}{u:Value}{Q:Unit->Shared->Prop}(I:Inv X pins σ H s)(hN:X.N.Nodup)(hi:X.N[i]?=some x)(hx:Loc X.env.scope x)(r:RelV v u)
  (h:∀s',Inv X pins (σ.set i (some v)) H s'->(∃a,Heap.SameBut a s.heap s'.heap/\(a=X.env.locals\/X.env.cells.lookup x=some a))->Q () s') (hf:X.fn x=true\/X.env.scope.names.lookup x=some .local:=by first|exact .inl rfl|exact .inr rfl|assumption):wpAny M A (storeName X.env x u) Q E s:=by
 obtain⟨m,hn,hl⟩:=id I.loc
 have hcls:(X.env.scope.kind==.class||(X.env.scope.kind==.module&&X.env.locals != X.env.globals))=false:=by rw[I.ok.kind];rfl
 have hiσ:i<σ.length:=by rw[I.len];exact(List.getElem?_eq_some_iff.mp hi).1
 have cne:=I.cne
 have tracked:∀{a:Addr}{h':Heap},(∃o,s.heap.get? a=some o/\H a=none)->Heap.SameBut a s.heap h'->HOk X.prog X.w H h':=fun {a h'} ha hs b ob e=>by
  obtain⟨_,_,hfree⟩:=ha
  refine(I.hok b ob e).stay (fun c w' hc q=>(hs.2 c ?_).trans q) (fun _ q=>q) fun _ _ q=>q
  rintro rfl
  rcases hc with rfl|hc
  ·rw[hfree]at e;cases e
  ·rw[hfree]at hc;cases hc
 rcases hx with hk|hk
 ·refine wpAny_storeName_local hk hn (fun h' hn' hs=>?_) hcls
  obtain⟨oL,_,_,hoL,_⟩:=id hn
  refine h _ ⟨I.ok,I.os,I.bare,⟨fun b o e n hb hx=>?_,fun b o e n hb hx=>?_,I.base.free,fun b o e hx=>?_,I.base.tups,I.base.frzs,I.base.tbls⟩,⟨_,hn',fun j y v' e1 e2 e3=>?_⟩,fun y c e=>?_,I.free,I.freeC,fun p hp=>?_,tracked ⟨oL,hoL,I.free⟩ hs,by simpa using I.len⟩ ⟨_,hs,.inl rfl⟩
  ·exact(hs.2 b (Nat.ne_of_lt (Nat.lt_of_lt_of_le (Heap.lt_size e) I.ok.above))).trans (I.base.keep b o e n hb hx)
  ·obtain⟨sl,e1⟩:=I.base.slot b o e n hb hx
   exact⟨sl,(hs.2 b (Nat.ne_of_lt (Nat.lt_of_lt_of_le (Heap.lt_size e) I.ok.above))).trans e1⟩
  ·obtain⟨o',e1⟩:=I.base.there b o e hx
   exact⟨o',(hs.2 b (Nat.ne_of_lt (Nat.lt_of_lt_of_le (Heap.lt_size e) I.ok.above))).trans e1⟩
  ·by_cases hj:j=i
   ·subst hj
    rw[hi]at e1;cases e1
    rw[List.getElem?_set_self hiσ]at e2
    cases e2
    exact⟨u,r,.inl ⟨hk,by simp⟩⟩
   ·rw[List.getElem?_set_ne (Ne.symm hj)]at e2
    obtain⟨u',r',q⟩:=hl j y v' e1 e2 e3
    refine⟨u',r',?_⟩
    rcases q with⟨k,e⟩|⟨k,c,e,z⟩
    ·refine .inl ⟨k,?_⟩
     have:y≠x:=fun e=>hj (z1x hN e1 (e▸hi))
     simp[this,e]
    ·exact .inr ⟨k,c,e,z.sameBut hs (cne y c e)⟩
  ·obtain⟨w',z⟩:=I.cell y c e
   exact⟨w',z.sameBut hs (cne y c e)⟩
  ·obtain⟨e,n,ne,nf,d⟩:=I.pin p hp
   exact⟨(hs.2 p.1 ne).trans e,n,ne,nf,d⟩
 ·have hfn:X.fn x=true:=by
   rcases hf with z|z
   ·exact z
   ·rw[z]at hk;cases hk
  obtain⟨c,hc⟩:=I.ok.has x (.inl hk)
  obtain⟨w',z⟩:=I.cell x c hc
  refine wpAny_storeName_cell I.ok.kind hk hc z (fun h' hc' hs=>?_)
  obtain⟨oc,hoc,hocd⟩:=id z
  refine h {s with heap:=h' } ⟨I.ok,I.os,I.bare,⟨fun b o e n hb hx=>?_,fun b o e n hb hx=>?_,I.base.free,fun b o e hx=>?_,I.base.tups,I.base.frzs,I.base.tbls⟩,⟨m,hn.sameBut hs (Ne.symm (cne x c hc)),fun j y v' e1 e2 e3=>?_⟩,fun y c' e=>?_,I.free,I.freeC,fun p hp=>?_,tracked ⟨oc,hoc,I.freeC x c hc⟩ hs,by simpa using I.len⟩ ⟨c,hs,.inr hc⟩
  ·exact(hs.2 b (Nat.ne_of_lt (Nat.lt_of_lt_of_le (Heap.lt_size e) (I.ok.cab x c hfn hc)))).trans (I.base.keep b o e n hb hx)
  ·obtain⟨sl,e1⟩:=I.base.slot b o e n hb hx
   exact⟨sl,(hs.2 b (Nat.ne_of_lt (Nat.lt_of_lt_of_le (Heap.lt_size e) (I.ok.cab x c hfn hc)))).trans e1⟩
  ·obtain⟨o',e1⟩:=I.base.there b o e hx
   exact⟨o',(hs.2 b (Nat.ne_of_lt (Nat.lt_of_lt_of_le (Heap.lt_size e) (I.ok.cab x c hfn hc)))).trans e1⟩
  ·by_cases hj:j=i
   ·subst hj
    rw[hi]at e1;cases e1
    rw[List.getElem?_set_self hiσ]at e2
    cases e2
    exact⟨u,r,.inr ⟨.inl hk,c,hc,hc'⟩⟩
   ·rw[List.getElem?_set_ne (Ne.symm hj)]at e2
    obtain⟨u',r',q⟩:=hl j y v' e1 e2 e3
    refine⟨u',r',?_⟩
    rcases q with q|⟨k,c',e,z'⟩
    ·exact .inl q
    ·refine .inr ⟨k,c',e,z'.sameBut hs ?_⟩
     rintro rfl
     exact hj (z1x hN e1 (I.ok.inj _ _ _ e hc▸hi))
  ·by_cases hcc:c'=c
   ·subst hcc;exact⟨_,hc'⟩
   ·obtain⟨w2,z2⟩:=I.cell y c' e
    exact⟨w2,z2.sameBut hs hcc⟩
  ·obtain⟨e,n,ne,nf,d⟩:=I.pin p hp
   refine⟨(hs.2 p.1 ?_).trans e,n,ne,nf,d⟩
   intro q
   rw[q,hoc]at e
   have q':oc=p.2:=Option.some.inj e
   exact d w' (by rw[<-q'];exact hocd)
theorem q8x{M:Model}{A:Around}{E:Value->Shared->Prop}{i:Nat}{x:Str}{v:V}{u:Value}{Q:Unit->Shared->Prop}(I:Inv X pins σ H s)(hN:X.N.Nodup)(hi:X.N[i]?=some x)(hx:Loc X.env.scope x)(r:RelV v u)
  (h:∀s',Inv X pins (σ.set i (some v)) H s'->Q () s') (hf:X.fn x=true\/X.env.scope.names.lookup x=some .local:=by first|exact .inl rfl|exact .inr rfl|assumption):wpAny M A (storeName X.env x u) Q E s:=
 q9e I hN hi hx r (fun s' I' _=>h s' I') hf
theorem Inv.call'{s':Shared}{ch:List Addr}(I:Inv X pins σ H s)(ho:s'.os=s.os)(u:Un (frs X.stack) ch H H' s.heap s'.heap)(hok:HOk X.prog X.w H' s'.heap)(hg:AllBare s'.gens)
  (hch:∀b∈ch,(b∈X.ex\/X.s₀.heap.objs.size<=b)/\b≠X.env.locals/\(∀x c,X.env.cells.lookup x=some c->c≠b)/\∀p∈X.pn++pins,p.1≠b):Inv X pins σ H' s':=by
 obtain⟨h',g',d',t',o'⟩:=s'
 have e:o'=s.os:=ho
 subst e
 exact I.call (g':=g') (t':=t') (d':=d') u hok hg hch
end
abbrev XK:=Value->Option Addr->Hp->Prop
abbrev St:=List (Option V)
abbrev VK:=V->Hp->Prop
abbrev TE:=St->Hp->VK->Prop
abbrev TT:=St->Hp->(Bool->Hp->Prop)->Prop
abbrev TA:=St->Hp->(List V->Hp->Prop)->Prop
structure Ends where
 nx:St->Hp->Prop
 rt:VK
 bk:St->Hp->Prop:=fun _ _=>False
 ct:St->Hp->Prop:=fun _ _=>False
abbrev TS:=Ends->St->Hp->Prop
def EP(X:Cx)(pins:List (Addr×Obj))(σ:St)(Q:VK)(u:Value)(s':Shared):Prop:=∃v H',Inv X pins σ H' s'/\RelV v u/\Q v H'
def TP(X:Cx)(pins:List (Addr×Obj))(σ:St)(Q:Bool->Hp->Prop)(b:Bool)(s':Shared):Prop:=∃H',Inv X pins σ H' s'/\Q b H'
def AP(X:Cx)(pins:List (Addr×Obj))(σ:St)(Q:List V->Hp->Prop)(us:List Value)(s':Shared):Prop:=∃vs H',Inv X pins σ H' s'/\Vals vs us/\Q vs H'
def SP(X:Cx)(pins:List (Addr×Obj))(D:Ends)(f:Flow)(s':Shared):Prop:=
 match f with
 |.next=>∃σ' H',Inv X pins σ' H' s'/\D.nx σ' H'
 |.brk=>∃σ' H',Inv X pins σ' H' s'/\D.bk σ' H'
 |.cont=>∃σ' H',Inv X pins σ' H' s'/\D.ct σ' H'
 |.ret u=>∃v σ' H',Inv X pins σ' H' s'/\RelV v u/\D.rt v H'
def PE(X:Cx)(e:Expr)(t:TE):Prop:=
 ∀(pins:List (Addr×Obj))(s:Shared)(σ:St)(H:Hp)(Q:VK),Inv X pins σ H s->t σ H Q->wpAny (model X.prog X.w) X.A (eval e X.env) (EP X pins σ Q) X.xe s
def PT(X:Cx)(e:Expr)(t:TT):Prop:=
 ∀(pins:List (Addr×Obj))(s:Shared)(σ:St)(H:Hp)(Q:Bool->Hp->Prop),Inv X pins σ H s->t σ H Q->wpAny (model X.prog X.w) X.A (isTrue e X.env (eval e X.env)) (TP X pins σ Q) X.xe s
def PW(X:Cx)(e:Expr)(t:TT):Prop:=
 ∀(whole:Sem Value)(pins:List (Addr×Obj))(s:Shared)(σ:St)(H:Hp)(Q:Bool->Hp->Prop),Inv X pins σ H s->t σ H Q->wpAny (model X.prog X.w) X.A (isTrue e X.env whole) (TP X pins σ Q) X.xe s
def PA(X:Cx)(es:List Expr)(t:TA):Prop:=
 ∀(pos:Pos)(pins:List (Addr×Obj))(s:Shared)(σ:St)(H:Hp)(Q:List V->Hp->Prop),Inv X pins σ H s->t σ H Q->wpAny (model X.prog X.w) X.A (spliced (backTo pos (starEach es X.env))) (AP X pins σ Q) X.xe s
def PS(X:Cx)(st:Stmt)(t:TS):Prop:=
 ∀(pins:List (Addr×Obj))(s:Shared)(σ:St)(H:Hp)(D:Ends),Inv X pins σ H s->t D σ H->wpAny (model X.prog X.w) X.A (exec st X.env) (SP X pins D) X.xe s
def PSs(X:Cx)(st:List Stmt)(t:TS):Prop:=
 ∀(pins:List (Addr×Obj))(s:Shared)(σ:St)(H:Hp)(D:Ends),Inv X pins σ H s->t D σ H->wpAny (model X.prog X.w) X.A (execs st X.env) (SP X pins D) X.xe s
theorem thn{α:Type}{t:Sem α}{Q Q':α->Shared->Prop}{M:Model}{A:Around}{E:Value->Shared->Prop}{s:Shared}(h:wpAny M A t Q E s)(hQ:∀a s,Q a s->Q' a s):wpAny M A t Q' E s:=wpAny_mono h hQ fun _ _ x=>x
section
variable{X:Cx}
def tVar(i:Nat):TE:=fun σ H Q=>∃v,σ[i]?=some (some v)/\Q v H
def tC(v:V):TE:=fun _ H Q=>Q v H
theorem x5d{i:Nat}{x:Str}{pos:Pos}(hN:X.N[i]?=some x)(hv:Vis X.env.scope x)(hd:(x==("__debug__" : Str))=false:=by decide)(hcd:(x==("__classdict__" : Str))=false:=by decide):PE X (.Name x pos) (tVar i):=by
 intro pins s σ H Q I h
 obtain⟨v,e,h⟩:=h
 obtain⟨m,hn,hl⟩:=I.loc
 obtain⟨u,r,l⟩:=hl i x v hN e hv
 have fin:EP X pins σ Q u s:=⟨v,H,I,r,h⟩
 rcases l with⟨hk,hm⟩|⟨hk,c,hc,hcell⟩
 ·exact wpAny_Name (wpAny_loadName_local I.ok.kind hk hn hm fin) hd
 ·rcases hk with hk|hk
  ·exact wpAny_Name (wpAny_loadName_cell I.ok.kind hk hc hcell fin) hd
  ·exact wpAny_Name (wpAny_loadName_free I.ok.kind hk hc hcell fin hcd) hd
theorem x5l {i j pos}:PE X (.Constant (.int i) j pos) (tC (.int i)):=fun _ _ _ H _ I h=>wpAny_Constant_int ⟨.int i,H,I.tok _,⟨_,rfl⟩,h⟩
theorem x9n {b j pos}:PE X (.Constant (.bool b) j pos) (tC (.bl b)):=fun _ _ _ H _ I h=>Constant_bool ⟨.bl b,H,I,rfl,h⟩
theorem x5i {j pos}:PE X (.Constant .none j pos) (tC .non):=fun _ _ _ H _ I h=>Constant_none ⟨.non,H,I,rfl,h⟩
theorem x5f {x j pos}:PE X (.Constant (.str x) j pos) (tC (.str x)):=fun _ _ _ H _ I h=>Calls.Constant_str ⟨.str x,H,I.tok _,⟨_,rfl⟩,h⟩
def Gl(X:Cx)(x:Str):Prop:=X.env.kindOf x=some .globalImplicit
theorem z5f{E:Value->Shared->Prop}{pins:List (Addr×Obj)}{s:Shared}{σ:St}{H:Hp}{x:Str}{u:Value}{pos:Pos}{Q:Value->Shared->Prop}(I:Inv X pins σ H s)(hg:Gl X x)(hm:X.mg x=some u)(h:Q u s)
  (hd:(x==("__debug__" : Str))=false:=by decide):wpAny (model X.prog X.w) X.A (eval (.Name x pos) X.env) Q E s:=
 Calls.Name_function_global I.ok.kind hg (Calls.loadGlobal_global (by rw[I.ok.glob];exact I.mod.glob.keeps I.bk) hm h) hd
theorem q7d{E:Value->Shared->Prop}{pins:List (Addr×Obj)}{s:Shared}{σ:St}{H:Hp}{x:Str}{u:Value}{pos:Pos}{Q:Value->Shared->Prop}(I:Inv X pins σ H s)(hg:Gl X x)(hm:X.mg x=none)(hv:bootBuiltins x=some u)(h:Q u s)
  (hn:x≠ "__name__" :=by decide) (hd:(x==("__debug__" : Str))=false:=by decide):wpAny (model X.prog X.w) X.A (eval (.Name x pos) X.env) Q E s:=by
 obtain⟨mb,h1,h2⟩:=I.mod.blt
 exact Calls.Name_function_global I.ok.kind hg (Calls.loadGlobal_builtin (by rw[I.ok.glob];exact I.mod.glob.keeps I.bk) hm (by rw[I.ok.blt];exact h1.keeps I.bk) ((h2 x hn).trans hv) h) hd
theorem x0w{x:Str}{v:V}{u:Value}{pos:Pos}(hg:Gl X x)(hm:X.mg x=some u)(r:RelV v u)(hd:(x==("__debug__" : Str))=false:=by decide):PE X (.Name x pos) (tC v):=
 fun _ _ _ H _ I h=>z5f I hg hm ⟨v,H,I,r,h⟩ hd
theorem y0s{x:Str}{v:V}{u:Value}{pos:Pos}(hg:Gl X x)(hm:X.mg x=none)(hv:bootBuiltins x=some u)(r:RelV v u)(hn:x≠ "__name__" :=by decide)(hd:(x==("__debug__" : Str))=false:=by decide):PE X (.Name x pos) (tC v):=
 fun _ _ _ H _ I h=>q7d I hg hm hv ⟨v,H,I,r,h⟩ hn hd
variable{a b:Expr}{ta tb:TE}{pos:Pos}
variable{tA tB':TT}{rest:List Expr}
def tAnd(t u:TT):TT:=fun σ H Q=>t σ H fun c H1=>if c=true then u σ H1 Q else Q false H1
def tOr(t u:TT):TT:=fun σ H Q=>t σ H fun c H1=>if c=true then Q true H1 else u σ H1 Q
def tNot(t:TT):TT:=fun σ H Q=>t σ H fun c H1=>Q (!c) H1
theorem x0k(ha:PT X a tA):PW X (.BoolOp .And [a] pos) tA:=by
 intro wh pins s σ H Q I h
 refine isTrue_and (thn (ha pins s σ H Q I h) fun c s1 e=>?_)
 cases c with
 |true=>exact isTrue_and_nil e
 |false=>exact e
theorem x4n(ha:PT X a tA):PW X (.BoolOp .Or [a] pos) tA:=by
 intro wh pins s σ H Q I h
 refine isTrue_or (thn (ha pins s σ H Q I h) fun c s1 e=>?_)
 cases c with
 |false=>exact isTrue_or_nil e
 |true=>exact e
theorem x4o(ha:PT X a tA)(hb:PW X (.BoolOp .And (b::rest) pos) tB'):PW X (.BoolOp .And (a::b::rest) pos) (tAnd tA tB'):=by
 intro wh pins s σ H Q I h
 refine isTrue_and (thn (ha pins s σ H _ I h) fun c s1 hh1=>?_)
 obtain⟨H1,I1,q1⟩:=hh1
 cases c with
 |true=>exact hb wh pins s1 σ H1 Q I1 q1
 |false=>exact⟨H1,I1,q1⟩
theorem x9i(ha:PT X a tA)(hb:PW X (.BoolOp .Or (b::rest) pos) tB'):PW X (.BoolOp .Or (a::b::rest) pos) (tOr tA tB'):=by
 intro wh pins s σ H Q I h
 refine isTrue_or (thn (ha pins s σ H _ I h) fun c s1 hh1=>?_)
 obtain⟨H1,I1,q1⟩:=hh1
 cases c with
 |true=>exact⟨H1,I1,q1⟩
 |false=>exact hb wh pins s1 σ H1 Q I1 q1
theorem x4q(ha:PT X a tA):PT X (.UnaryOp .Not a pos) (tNot tA):=by
 intro pins s σ H Q I h
 exact isTrue_not (ha pins s σ H (fun c H1=>Q (!c) H1) I h)
def x9c(ta tb:TE):TE:=fun σ H Q=>ta σ H fun x H1=>∃c,x=.bl c/\if c=true then tb σ H1 Q else Q (.bl false) H1
def x8v(ta:TE):TE:=fun σ H Q=>ta σ H fun x H1=>∃c,x=.bl c/\Q (.bl (!c)) H1
theorem x5g {op} {t:TE} (h:PE X a t):PE X (.BoolOp op [a] pos) t:=fun pins s σ H Q I hw=>BoolOp_one (h pins s σ H Q I hw)
theorem x5o(ha:PE X a ta)(hb:PE X (.BoolOp .And (b::rest) pos) tb):PE X (.BoolOp .And (a::b::rest) pos) (x9c ta tb):=by
 intro pins s σ H Q I h
 refine BoolOp_and (thn (ha pins s σ H _ I h) fun v s1 hh1=>?_)
 obtain⟨x,H1,I1,r1,q1⟩:=hh1
 obtain⟨c,rfl,q1⟩:=q1
 cases r1
 refine wpAny_truthy_bool ?_
 cases c with
 |true=>exact hb pins s1 σ H1 Q I1 q1
 |false=>exact⟨.bl false,H1,I1,rfl,q1⟩
theorem x5h(ha:PE X a ta):PE X (.UnaryOp .Not a pos) (x8v ta):=by
 intro pins s σ H Q I h
 refine UnaryOp_ (thn (ha pins s σ H _ I h) fun v s1 hh1=>?_)
 obtain⟨x,H1,I1,r1,q1⟩:=hh1
 obtain⟨c,rfl,q1⟩:=q1
 cases r1
 exact not_of (wpAny_truthy_bool ⟨.bl (!c),H1,I1,rfl,q1⟩)
end
def SqL(K:Frag)(H:Hp)(a:Addr)(xs:List V):Prop:=
 Rd H a (.lst xs)\/
  ∃(o:Obj)(its:Array Value)(n:Nat),K.lookup a=some o/\o.cls=.type "list" /\o.dict=none/\o.data=.seq its n/\its.size<=sizeLine/\Vals xs its.toList
def SqT(K:Frag)(H:Hp)(a:Addr)(xs:List V):Prop:=
 Rd H a (.tup xs)\/
  ∃(o:Obj)(its:Array Value)(n:Nat),K.lookup a=some o/\o.cls=.type "tuple" /\o.data=.seq its n/\its.size<=sizeLine/\Vals xs its.toList
def absV:Value->Option V
 |.none=>some .non
 |.bool b=>some (.bl b)
 |.int i _=>some (.int i)
 |.str x _=>some (.str x)
 |.bytes b _=>some (.byt b)
 |.float b _=>some (.flt b)
 |.ref a=>some (.ref a)
 |.type n=>some (.ty n)
 |_=>none
theorem RelV.abs{x:V}{u:Value}(r:RelV x u):absV u=some x:=by
 cases x with
 |non=>cases r;rfl
 |bl _=>cases r;rfl
 |int _=>obtain⟨t,rfl⟩:=r;rfl
 |str _=>obtain⟨t,rfl⟩:=r;rfl
 |byt _=>obtain⟨t,rfl⟩:=r;rfl
 |flt _=>obtain⟨t,rfl⟩:=r;rfl
 |ref _=>cases r;rfl
 |ty _=>cases r;rfl
theorem RelV.inj{x y:V}{u:Value}(r:RelV x u)(q:RelV y u):x=y:=Option.some.inj (r.abs.symm.trans q.abs)
theorem Vals.inj:∀{xs ys:List V}{us:List Value},Vals xs us->Vals ys us->xs=ys
 |_,_,_,.nil,.nil=>rfl
 |_,_,_,.cons r t,.cons r' t'=>by rw[r.inj r',Vals.inj t t']
section
variable{X:Cx}{pins:List (Addr×Obj)}{σ:St}{H:Hp}{s:Shared}{a:Addr}{xs ys:List V}
theorem SqL.of{K:Frag}(h:H a=some (.lst xs)):SqL K H a xs:=.inl (.inl h)
theorem SqT.of{K:Frag}(h:H a=some (.tup xs)):SqT K H a xs:=.inl (.inl h)
theorem Inv.list(I:Inv X pins σ H s)(h:SqL X.K H a xs):∃its:List Value,Vals xs its/\PlainL s.heap a its.toArray/\xs.length<=sizeLine:=by
 rcases h with h|⟨o,its,n,hk,hc,hd,hs,hz,r⟩
 ·obtain⟨z,its,n,r,e⟩:=h.ok I.hok
  exact⟨its,r,⟨_,n,e,rfl,rfl,rfl⟩,z⟩
 ·refine⟨its.toList,r,⟨o,n,I.kIn a o hk,hc,hd,by simpa using hs⟩,?_⟩
  have e:=r.length
  simp only[Array.length_toList]at e
  omega
theorem Inv.tuple(I:Inv X pins σ H s)(h:SqT X.K H a xs):∃its:List Value,Vals xs its/\IsTup s.heap a its.toArray/\xs.length<=sizeLine:=by
 rcases h with h|⟨o,its,n,hk,hc,hs,hz,r⟩
 ·obtain⟨z,its,r,p⟩:=h.ok I.hok
  exact⟨its,r,p,z⟩
 ·refine⟨its.toList,r,⟨o,I.kIn a o hk,hc,n,by simpa using hs⟩,?_⟩
  have e:=r.length
  simp only[Array.length_toList]at e
  omega
theorem Inv.list_inj(I:Inv X pins σ H s)(h:SqL X.K H a xs)(h':SqL X.K H a ys):xs=ys:=by
 obtain⟨its,r,⟨o,n,e,_,_,d⟩,_⟩:=I.list h
 obtain⟨its',r',⟨o',n',e',_,_,d'⟩,_⟩:=I.list h'
 rw[e]at e';cases e'
 rw[d]at d'
 injection d' with d1 _
 have:its=its':=by simpa using congrArg Array.toList d1
 subst this
 exact r.inj r'
theorem Inv.tuple_inj(I:Inv X pins σ H s)(h:SqT X.K H a xs)(h':SqT X.K H a ys):xs=ys:=by
 obtain⟨its,r,⟨o,e,_,n,d⟩,_⟩:=I.tuple h
 obtain⟨its',r',⟨o',e',_,n',d'⟩,_⟩:=I.tuple h'
 rw[e]at e';cases e'
 rw[d]at d'
 injection d' with d1 _
 have:its=its':=by simpa using congrArg Array.toList d1
 subst this
 exact r.inj r'
end
section
variable{X:Cx}{pins:List (Addr×Obj)}{σ:St}{H:Hp}{s:Shared}{E:Value->Shared->Prop}
end
section
variable{X:Cx}{st:Stmt}{rest:List Stmt}{t u:TS}{e:Expr}{te:TE}{pos:Pos}
def x8w:TS:=fun D σ H=>D.nx σ H
def tSeq(t u:TS):TS:=fun D σ H=>t {D with nx:=u D} σ H
theorem x0o:PSs X [] x8w:=fun _ _ σ H _ I h=>wpAny_execs_nil ⟨σ,H,I,h⟩
theorem y5g(h1:PS X st t)(h2:PSs X rest u):PSs X (st::rest) (tSeq t u):=by
 intro pins s σ H D I h
 refine wpAny_execs_cons (thn (h1 pins s σ H {D with nx:=u D} I h) fun f s1 q=>?_)
 cases f with
 |next=>
  obtain⟨σ',H',I',q⟩:=q
  exact h2 pins s1 σ' H' D I' q
 |ret v=>exact q
 |brk=>exact q
 |cont=>exact q
theorem x0n(h1:PS X st t):PSs X [st] t:=by
 intro pins s σ H D I h
 refine wpAny_execs_cons (thn (h1 pins s σ H D I h) fun f s1 q=>?_)
 cases f with
 |next=>exact wpAny_execs_nil q
 |ret v=>exact q
 |brk=>exact q
 |cont=>exact q
theorem Inv.quiet{pins:List (Addr×Obj)}{σ:St}{H:Hp}{s:Shared}(I:Inv X pins σ H s):interactive X.env=false:=by simp[interactive,I.ok.kind]
def x8y(te:TE):TS:=fun D σ H=>te σ H fun _ H1=>D.nx σ H1
theorem x0p(he:PE X e te)(hs:swapsWith e none pos.line X.env=pure false:=by rfl):PS X (.Expr e pos) (x8y te):=by
 intro pins s σ H D I h
 exact wpAny_Expr_any (thn (he pins s σ H _ I h) fun v s1 hh1=>by obtain⟨x,H1,I1,r1,q1⟩:=hh1;exact(⟨σ,H1,I1,q1⟩)) I.quiet hs
def tRet(te:TE):TS:=fun D σ H=>te σ H D.rt
theorem x4s(he:PE X e te):PS X (.Return (some e) pos) (tRet te):=by
 intro pins s σ H D I h
 exact wpAny_Return_some (thn (he pins s σ H _ I h) fun v s1 hh1=>by obtain⟨x,H1,I1,r1,q1⟩:=hh1;exact(⟨x,σ,H1,I1,r1,q1⟩))
def tIfS(c:TT)(t u:TS):TS:=fun D σ H=>c σ H fun b H1=>if b=true then t D σ H1 else u D σ H1
theorem x9j{c:Expr}{a b:List Stmt}{tc:TT}(hc:PT X c tc)(ha:PSs X a t)(hb:PSs X b u):PS X (.If c a b pos) (tIfS tc t u):=by
 intro pins s σ H D I h
 refine wpAny_If (thn (hc pins s σ H _ I h) fun d s1 hh1=>?_)
 obtain⟨H1,I1,q1⟩:=hh1
 cases d with
 |true=>exact ha pins s1 σ H1 D I1 q1
 |false=>exact hb pins s1 σ H1 D I1 q1
def x3t:TS:=fun _ _ _=>False
theorem y5k:PS X st x3t:=fun _ _ _ _ _ _ h=>h.elim
end
abbrev TG:=V->St->Hp->(St->Hp->Prop)->Prop
abbrev TGs:=List V->St->Hp->(St->Hp->Prop)->Prop
def PG(X:Cx)(target:Expr)(t:TG):Prop:=
 ∀(pins:List (Addr×Obj))(s:Shared)(σ:St)(H:Hp)(v:V)(u:Value)(Q:St->Hp->Prop),Inv X pins σ H s->RelV v u->t v σ H Q->
  wpAny (model X.prog X.w) X.A (assign target X.env u) (fun _ s'=>∃σ' H',Inv X pins σ' H' s'/\Q σ' H') X.xe s
def PGs(X:Cx)(ts:List Expr)(t:TGs):Prop:=
 ∀(pins:List (Addr×Obj))(s:Shared)(σ:St)(H:Hp)(vs:List V)(us:List Value)(Q:St->Hp->Prop),Inv X pins σ H s->Vals vs us->t vs σ H Q->
  wpAny (model X.prog X.w) X.A (assignInOrder ((assignEach ts X.env).map (·.2)) us) (fun _ s'=>∃σ' H',Inv X pins σ' H' s'/\Q σ' H') X.xe s
abbrev TSet:=V->V->V->Hp->(Hp->Prop)->Prop
def PSet(X:Cx)(t:TSet):Prop:=
 ∀(pins:List (Addr×Obj))(s:Shared)(σ:St)(H:Hp)(o i v:V)(ov iv u:Value)(Q:Hp->Prop),Inv X pins σ H s->RelV o ov->RelV i iv->RelV v u->t o i v H Q->
  wpAny (model X.prog X.w) X.A (setItem ov iv u) (fun _ s'=>∃H',Inv X pins σ H' s'/\Q H') X.xe s
section
variable{X:Cx}{pos:Pos}
def x7s(i:Nat):TG:=fun v σ H Q=>Q (σ.set i (some v)) H
theorem x0v{i:Nat}{x:Str}(hN:X.N.Nodup)(hi:X.N[i]?=some x)(hx:Loc X.env.scope x)(hf:X.fn x=true\/X.env.scope.names.lookup x=some .local:=by first|exact .inl rfl|exact .inr rfl|assumption):PG X (.Name x pos) (x7s i):=by
 intro pins s σ H v u Q I r h
 exact wpAny_assign_Name (q8x I hN hi hx r (fun s' I'=>⟨_,H,I',h⟩) hf)
def gNil:TGs:=fun vs σ H Q=>vs=[]/\Q σ H
def w0g(t:TG)(u:TGs):TGs:=fun vs σ H Q=>∃v r,vs=v::r/\t v σ H fun σ' H'=>u r σ' H' Q
theorem x0u:PGs X [] gNil:=by
 intro pins s σ H vs us Q I r h
 obtain⟨e,h⟩:=h
 subst e
 cases r
 exact assignInOrder_nil ⟨σ,H,I,h⟩
theorem y5n{e:Expr}{es:List Expr}{t:TG}{u:TGs}(h1:PG X e t)(h2:PGs X es u)
  (hs:(assignEach (e::es) X.env).map (·.2)=assign e X.env::(assignEach es X.env).map (·.2):=by rfl):PGs X (e::es) (w0g t u):=by
 intro pins s σ H vs us Q I r h
 obtain⟨v,vr,e1,h⟩:=h
 subst e1
 cases r with
 |cons r rr=>
  rw[hs]
  refine assignInOrder_cons (thn (h1 pins s σ H _ _ _ I r h) fun _ s1 hh1=>?_)
  obtain⟨σ1,H1,I1,q1⟩:=hh1
  exact h2 pins s1 σ1 H1 _ _ Q I1 rr q1
def gTup(K:Frag)(n:Nat)(t:TGs):TG:=fun v σ H Q=>∃a xs,v=.ref a/\SqT K H a xs/\xs.length=n/\t xs σ H Q
theorem x5b{es:List Expr}{k:Nat}{t:TGs}{n:Nat}(hc:X.calm=true)(h:PGs X es t)
  (hn:(assignEach es X.env).length=n:=by rfl) (hst:(assignEach es X.env).findIdx? (·.1)=none:=by rfl):PG X (.Tuple es k pos) (gTup X.K n t):=by
 intro pins s σ H v u Q I r hw
 obtain⟨a,xs,e1,hq,hl,hw⟩:=hw
 subst e1
 cases r
 obtain⟨its,rv,ht,hz⟩:=I.tuple hq
 refine assign_Tuple_tuple (I.ok.hd hc) ht (by simp[hn,<-hl,rv.length]) hst fun h' hx=>?_
 have I1:Inv X pins σ H {s with heap:=h' }:=I.kept (t':=s.toks) fun b o e=>hx b o (Nat.ne_of_lt (Heap.lt_size e)) e
 exact h pins _ σ H xs _ Q I1 (by simpa using rv) hw
def gSub(to ti:TE)(t:TSet):TG:=fun v σ H Q=>to σ H fun o H1=>ti σ H1 fun i H2=>t o i v H2 fun H3=>Q σ H3
theorem x5c{o i:Expr}{to ti:TE}{t:TSet}(ho:PE X o to)(hi:PE X i ti)(hs:PSet X t)
  (ha:∀v,assign (.Subscript o i pos) X.env v=(do
   let ov <-holding [v] (eval o X.env)
   let iv <-holding [v,ov] (eval i X.env)
   standAt pos
   holding [v,ov,iv] (setItem ov iv v)
   release [v,ov,iv] []):=by intro _;rfl):PG X (.Subscript o i pos) (gSub to ti t):=by
 intro pins s σ H v u Q I r h
 rw[ha]
 refine wpAny_bind (wpAny_holding (thn (ho pins s σ H _ I h) fun ov s1 hh1=>?_))
 obtain⟨x,H1,I1,r1,q1⟩:=hh1
 refine wpAny_bind (wpAny_holding (thn (hi pins s1 σ H1 _ I1 q1) fun iv s2 hh2=>?_))
 obtain⟨y,H2,I2,r2,q2⟩:=hh2
 refine wpAny_bind (wpAny_standAt (wpAny_bind (wpAny_holding (thn (hs pins s2 σ H2 x y v ov iv u _ I2 r1 r2 r q2) fun _ s3 hh3=>?_))))
 obtain⟨H3,I3,q3⟩:=hh3
 exact wpAny_release ⟨σ,H3,I3,q3⟩
def tAsg(te:TE)(g:TG):TS:=fun D σ H=>te σ H fun x H1=>g x σ H1 D.nx
theorem x4v{tg e:Expr}{te:TE}{g:TG}(he:PE X e te)(hg:PG X tg g)(hs:swapsWithSole [tg] e pos.line X.env=pure false:=by rfl)(hw:swappedStores [tg] e X.env=pure none:=by rfl)
  (h1:(assignEach [tg] X.env).map (·.2)=[assign tg X.env]:=by rfl):PS X (.Assign [tg] e pos) (tAsg te g):=by
 intro pins s σ H D I h
 refine wpAny_Assign_stores (thn (he pins s σ H _ I h) fun v s1 ⟨x,H1,I1,r1,q1⟩=>?_) hs hw
 rw[h1]
 exact thn (hg pins s1 σ H1 x v _ I1 r1 q1) fun _ s2 q=>q
theorem x4r{i:Nat}{x:Str}{e:Expr}{te:TE}{pos':Pos}(hN:X.N.Nodup)(hi:X.N[i]?=some x)(hx:Loc X.env.scope x)(he:PE X e te)(hs:swapsWith e (some (.Name x pos')) pos.line X.env=pure false:=by rfl)(hf:X.fn x=true\/X.env.scope.names.lookup x=some .local:=by first|exact .inl rfl|exact .inr rfl|assumption) :
  PS X (.Assign [.Name x pos'] e pos) (tAsg te (x7s i)):=by
 intro pins s σ H D I h
 refine wpAny_Assign_Name (thn (he pins s σ H _ I h) fun v s1 ⟨y,H1,I1,r1,q1⟩=>?_) hs
 exact q8x I1 hN hi hx r1 (fun s2 I2=>⟨_,H1,I2,q1⟩) hf
def tPar(i j:Nat)(ta:TA):TS:=fun D σ H=>ta σ H fun vs H1=>∃v w,vs=[v,w]/\D.nx ((σ.set i (some v)).set j (some w)) H1
theorem x4t{i j:Nat}{x y:Str}{a b:Expr}{ta:TA}{px py pt:Pos} {kt k2 pt2} (hc:X.calm=true) (hN:X.N.Nodup) (hi:X.N[i]?=some x) (hj:X.N[j]?=some y) (hij:i≠j)
  (hx:X.env.scope.names.lookup x=some .local) (hy:X.env.scope.names.lookup y=some .local) (ha:PA X [a,b] ta)
  (hw:swappedStores [.Tuple [.Name x px,.Name y py] kt pt] (.Tuple [a,b] k2 pt2) X.env=pure (some [x,y]))
  (hs:swapsWithSole [.Tuple [.Name x px,.Name y py] kt pt] (.Tuple [a,b] k2 pt2) pos.line X.env=pure false:=by rfl) :
  PS X (.Assign [.Tuple [.Name x px,.Name y py] kt pt] (.Tuple [a,b] k2 pt2) pos) (tPar i j ta):=by
 intro pins s σ H D I h
 rw[exec_Assign_arm]
 refine wpAny_bind (wpAny_standAt ?_)
 rw[hs]
 refine wpAny_bind (wpAny_pure ?_)
 rw[if_neg (by decide)]
 refine wpAny_bind (Tuple_ (thn (ha _ pins s σ H _ I h) fun us s1 hh1=>?_))
 obtain⟨vs,H1,I1,r1,q1⟩:=hh1
 obtain⟨v,w,e1,q1⟩:=q1
 subst e1
 obtain⟨u1,u2,rfl,rv,rw'⟩:∃u1 u2,us=[u1,u2]/\RelV v u1/\RelV w u2:=by
  cases r1 with
  |cons p q=>
   cases q with
   |cons p' q'=>
    cases q'
    exact⟨_,_,rfl,p,p'⟩
 refine wpAny_newObj_type ?_ (by show 2<=sizeLine;decide)
 have I2:Inv X pins σ H1 {s1 with heap:=s1.heap.push {cls:=.type "tuple",data:=.seq [u1,u2].toArray}}:=I1.kept (t':=s1.toks) fun b o e=>Heap.get?_push_of_some _ e
 rw[hw]
 refine wpAny_bind (wpAny_pure ?_)
 show wpAny (model X.prog X.w) X.A (do rule "assign.swapped-stores";let items <-unpackItems (.ref s1.heap.objs.size) 2 none;assignInOrder [fun v=>bindName X.env y v,fun v=>bindName X.env x v] items.reverse;pure Flow.next) _ _ _
 refine wpAny_bind (wpAny_rule (wpAny_bind (unpackItems_tuple (items:=#[u1,u2]) (I.ok.hd hc) (IsTup.new s1.heap _) fun h' hx'=>?_)))
 have I3:=I2.kept (h':=h') (t':=s1.toks) fun b o e=>hx' b o (Nat.ne_of_lt (Heap.lt_size e)) e
 show wpAny _ _ (assignInOrder [fun v=>bindName X.env y v,fun v=>bindName X.env x v] [u2,u1] >>= fun _=>pure Flow.next) _ _ _
 refine wpAny_bind (assignInOrder_cons (wpAny_bindName (q8x I3 hN hj (.inl hy) rw' (fun s2 I4=>?_) (.inr hy))))
 refine assignInOrder_cons (wpAny_bindName (q8x I4 hN hi (.inl hx) rv (fun s3 I5=>assignInOrder_nil (wpAny_pure ?_)) (.inr hx)))
 rw[List.set_comm _ _ (Ne.symm hij)]at I5
 exact⟨_,H1,I5,q1⟩
end
section
variable{X:Cx}{pos:Pos}
def x3r(c:TT)(tb:TS):TS:=fun D σ H=>∃W:Nat->St->Hp->Prop,(∃m,W m σ H)/\∀m σ H,W m σ H->
 c σ H fun b H1=>if b=true then ∃N:St->Hp->Prop,(∀σ' H',N σ' H'->∃m',m'<m/\W m' σ' H')/\tb {D with nx:=N,ct:=N,bk:=D.nx} σ H1 else D.nx σ H1
theorem y5h{c:Expr}{body:List Stmt}{tc:TT}{tb:TS}(hp:PassesOwn (model X.prog X.w) X.A X.env X.xe)(hc:PT X c tc)(hb:PSs X body tb):PS X (.While c body [] pos) (x3r tc tb):=by
 intro pins s σ H D I h
 obtain⟨W,⟨m0,w0⟩,turn⟩:=h
 refine wpAny_While (codeAny_whileLoop (fun n s'=>∃σ' H',Inv X pins σ' H' s'/\W n σ' H') ?_ m0 ⟨σ,H,I,w0⟩)
 rintro n s1 ⟨σ1,H1,I1,w1⟩
 refine wpAny_passesOwn hp (thn (hc pins s1 σ1 H1 _ I1 (turn n σ1 H1 w1)) fun b s2 hh1=>?_)
 obtain⟨H2,I2,q2⟩:=hh1
 cases b with
 |true=>
  obtain⟨N,hN,q2⟩:=q2
  rw[if_pos rfl]
  refine wpAny_passesOwn hp (thn (hb pins s2 σ1 H2 _ I2 q2) fun f s3 q3=>?_)
  cases f with
  |next=>
   obtain⟨σ3,H3,I3,n3⟩:=q3
   obtain⟨m',hm,w3⟩:=hN σ3 H3 n3
   exact⟨m',hm,σ3,H3,I3,w3⟩
  |cont=>
   obtain⟨σ3,H3,I3,n3⟩:=q3
   obtain⟨m',hm,w3⟩:=hN σ3 H3 n3
   exact⟨m',hm,σ3,H3,I3,w3⟩
  |brk=>exact q3
  |ret v=>exact q3
 |false=>
  rw[if_neg Bool.false_ne_true]
  exact wpAny_execs_nil ⟨σ1,H2,I2,q2⟩
end
structure It where
 go:Nat->Hp->Prop
 yld:Nat->Hp->V->Hp->Prop
 stop:Nat->Hp->Prop
def FpOk(X:Cx)(pins:List (Addr×Obj))(H:Hp)(b:Addr):Prop:=
 H b=none/\b≠X.env.locals/\b∉X.fs/\(b∈X.ex\/X.s₀.heap.objs.size<=b)/\(∀x c,X.env.cells.lookup x=some c->c≠b)/\∀p∈X.pn++pins,p.1≠b
theorem Inv.fpOk{X:Cx}{pins:List (Addr×Obj)}{σ:St}{H H':Hp}{s:Shared}{b:Addr}(I:Inv X pins σ H s)(hb:s.heap.objs.size<=b)(hn:H' b=none):FpOk X pins H' b:=by
 refine⟨hn,Nat.ne_of_gt (Nat.lt_of_lt_of_le I.lt hb),I.nofs hb,.inr (Nat.le_trans I.sz hb),fun x c e z=>?_,fun p hp z=>?_⟩
 ·obtain⟨v,q⟩:=I.cell x c e
  exact absurd (Nat.lt_of_lt_of_le q.lt (by rw[z];exact hb)) (Nat.lt_irrefl _)
 ·exact absurd (Nat.lt_of_lt_of_le (Heap.lt_size (I.pin p hp).1) (by rw[z];exact hb)) (Nat.lt_irrefl _)
structure Turn(P:Program)(w:World)(K:Frag)(tg:Expr)(J:It)(fp:List Addr)(it:Addr)(tn:Nat->Heap->Prop):Prop where
 mem:it∈fp
 obj:∀i h,tn i h->∀b∈fp,∃o,h.get? b=some o/\∀v,o.data≠.cell v
 keep:∀i h h',tn i h->(∀b∈fp,∀o,h.get? b=some o->h'.get? b=some o)->tn i h'
 item:∀(X:Cx),X.prog=P->X.w=w->X.K=K->X.calm=true->∀(i:Nat)(pins:List (Addr×Obj))(s:Shared)(σ:St)(H:Hp)(E:Value->Shared->Prop),Inv X pins σ H s->(∀b∈fp,FpOk X pins H b)->tn i s.heap->J.go i H->
  wpAny (model P w) X.A (pyNext (.ref it)) (fun r s1=>∃u,r=some u/\
   wpAny (model P w) X.A (letOwnedTupleGo tg (.ref it) u) (fun _ s2=>∃x H',Inv X pins σ H' s2/\RelV x u/\J.yld i H x H'/\tn (i+1) s2.heap/\∀b∈fp,H' b=none) E s1) E s
 done:∀(X:Cx),X.prog=P->X.w=w->X.K=K->X.calm=true->∀(i:Nat)(pins:List (Addr×Obj))(s:Shared)(σ:St)(H:Hp)(E:Value->Shared->Prop),Inv X pins σ H s->(∀b∈fp,FpOk X pins H b)->tn i s.heap->J.stop i H->
  wpAny (model P w) X.A (pyNext (.ref it)) (fun r s1=>r=none/\Inv X pins σ H s1) E s
 self:∀(A:Around)(i:Nat)(s:Shared)(Q:Value->Shared->Prop)(E:Value->Shared->Prop),tn i s.heap->Q (.ref it) s->wpAny (model P w) A (pyIter (.ref it)) Q E s
abbrev TI:=St->Hp->(It->Hp->Prop)->Prop
def PIE(X:Cx)(pins:List (Addr×Obj))(σ:St)(tg:Expr)(R:It->Hp->Prop)(itv:Value)(s2:Shared):Prop:=
 ∃(it:Addr)(fp:List Addr)(tn:Nat->Heap->Prop)(J:It)(H':Hp),itv=.ref it/\Inv X pins σ H' s2/\Turn X.prog X.w X.K tg J fp it tn/\tn 0 s2.heap/\(∀b∈fp,FpOk X pins H' b)/\R J H'
def PI(X:Cx)(tg iter:Expr)(wi:TI):Prop:=
 ∀(pins:List (Addr×Obj))(s:Shared)(σ:St)(H:Hp)(R:It->Hp->Prop),Inv X pins σ H s->wi σ H R->
  wpAny (model X.prog X.w) X.A (eval iter X.env) (fun v s1=>wpAny (model X.prog X.w) X.A (pyIter v) (PIE X pins σ tg R) X.xe s1) X.xe s
theorem z8y {M : Model} {A : Around} {E : Value -> Shared -> Prop} {s : Shared} {tg : Expr} {it : Addr} {u : Value} {o : Obj} {n : String} {vs : Array Value} {Q : Unit -> Shared -> Prop} (ho : s.heap.get? it = some o) (hc : o.cls = .type n) (hd : o.data = .fields vs)
    (hn : ["enumerate", "zip", "dict_itemiterator", "dict_reverseitemiterator", "odict_iterator", "itertools.zip_longest", "itertools.pairwise"].contains n = false) (hQ : Q () s) : wpAny M A (letOwnedTupleGo tg (.ref it) u) Q E s := by
  unfold letOwnedTupleGo
  cases tg <;> first
    | exact wpAny_pure hQ
    | (cases u <;> first
        | exact wpAny_pure hQ
        | (refine wpAny_bind (wpAny_load ho ?_)
           rw [hc, hd]
           show wpAny M A (if (["enumerate", "zip", "dict_itemiterator", "dict_reverseitemiterator", "odict_iterator", "itertools.zip_longest", "itertools.pairwise"].contains n && vs[0]? == some (rawInt _)) = true then _ else _) Q E s
           rw [if_neg (by intro h; rw [hn, Bool.false_and] at h; cases h)]
           exact wpAny_pure hQ))
def Itl(K:Frag)(a:Addr):It:=
 ⟨fun i H=>∃xs x,SqL K H a xs/\xs[i]?=some x,fun i H x H'=>H'=H/\∀xs,SqL K H a xs->xs[i]?=some x,fun i H=>∃xs,SqL K H a xs/\xs.length<=i⟩
def Itt(K:Frag)(a:Addr):It:=
 ⟨fun i H=>∃xs x,SqT K H a xs/\xs[i]?=some x,fun i H x H'=>H'=H/\∀xs,SqT K H a xs->xs[i]?=some x,fun i H=>∃xs,SqT K H a xs/\xs.length<=i⟩
def Itr(lo:Int)(n:Nat):It:=⟨fun i _=>i<n,fun i H x H'=>H'=H/\x=.int (lo+i),fun i _=>n<=i⟩
theorem z9m{P:Program}{w:World}{K:Frag}{tg:Expr}(a it:Addr):Turn P w K tg (Itl K a) [it] it (fun i h=>h.IsListIter it a i) where
 mem:=by simp
 obj:=fun i h st b hb=>by
  have e:b=it:=by simpa using hb
  subst e
  obtain⟨o,e,c,d⟩:=st
  exact⟨o,e,fun v z=>by rw[d]at z;cases z⟩
 keep:=fun i h h' st k=>st.at fun o e=>k it (by simp) o e
 item:=by
  intro X hP hw hK hc i pins s σ H E I hf st hg
  subst hP hw hK
  obtain⟨xs,x,hq,hx⟩:=hg
  obtain⟨its,rv,p,hz⟩:=I.list hq
  obtain⟨u,hu,ru⟩:=rv.get hx
  obtain⟨f0,f1,f2,f3,f4,f5⟩:=hf it (by simp)
  refine wpAny_pyNext_list_item st p.isList (x:=u) (by simpa using hu) fun h' st' sb=>?_
  have I1:Inv X pins σ H {s with heap:=h' }:=I.turned (t':=s.toks) (fun b o hb e=>(sb.2 b hb).trans e) f0 f1 f3 f4 f5
  obtain⟨o,e,c,d⟩:=id st'
  exact⟨u,rfl,z8y (s:={s with heap:=h' }) e c d (by decide) ⟨x,H,I1,ru,⟨rfl,fun ys hy=>by rw[I.list_inj hy hq];exact hx⟩,st',fun b hb=>(hf b hb).1⟩⟩
 done:=by
  intro X hP hw hK hc i pins s σ H E I hf st hg
  subst hP hw hK
  obtain⟨xs,hq,hx⟩:=hg
  obtain⟨its,rv,p,hz⟩:=I.list hq
  obtain⟨f0,f1,f2,f3,f4,f5⟩:=hf it (by simp)
  have hl:=rv.length
  exact wpAny_pyNext_list_end (I.ok.hd hc) st p.isList (by simp;omega) fun h' eb=>⟨rfl,I.turned (t':=s.toks) (fun b o hb e=>eb b o hb e) f0 f1 f3 f4 f5⟩
 self:=fun _ _ _ _ _ st h=>wpAny_pyIter_listiter st h
theorem z7z{P:Program}{w:World}{K:Frag}{tg:Expr}(a it:Addr):Turn P w K tg (Itt K a) [it] it (fun i h=>h.IsTupleIter it a i) where
 mem:=by simp
 obj:=fun i h st b hb=>by
  have e:b=it:=by simpa using hb
  subst e
  obtain⟨o,e,c,d⟩:=st
  exact⟨o,e,fun v z=>by rw[d]at z;cases z⟩
 keep:=fun i h h' st k=>st.at fun o e=>k it (by simp) o e
 item:=by
  intro X hP hw hK hc i pins s σ H E I hf st hg
  subst hP hw hK
  obtain⟨xs,x,hq,hx⟩:=hg
  obtain⟨its,rv,p,hz⟩:=I.tuple hq
  obtain⟨u,hu,ru⟩:=rv.get hx
  obtain⟨f0,f1,f2,f3,f4,f5⟩:=hf it (by simp)
  refine wpAny_pyNext_tuple_item st (show s.heap.IsTuple a its.toArray from p) (x:=u) (by simpa using hu) fun h' st' sb=>?_
  have I1:Inv X pins σ H {s with heap:=h' }:=I.turned (t':=s.toks) (fun b o hb e=>(sb.2 b hb).trans e) f0 f1 f3 f4 f5
  obtain⟨o,e,c,d⟩:=id st'
  exact⟨u,rfl,z8y (s:={s with heap:=h' }) e c d (by decide) ⟨x,H,I1,ru,⟨rfl,fun ys hy=>by rw[I.tuple_inj hy hq];exact hx⟩,st',fun b hb=>(hf b hb).1⟩⟩
 done:=by
  intro X hP hw hK hc i pins s σ H E I hf st hg
  subst hP hw hK
  obtain⟨xs,hq,hx⟩:=hg
  obtain⟨its,rv,p,hz⟩:=I.tuple hq
  obtain⟨f0,f1,f2,f3,f4,f5⟩:=hf it (by simp)
  have hl:=rv.length
  exact wpAny_pyNext_tuple_end (I.ok.hd hc) st (show s.heap.IsTuple a its.toArray from p) (by simp;omega) fun h' eb=>⟨rfl,I.turned (t':=s.toks) (fun b o hb e=>eb b o hb e) f0 f1 f3 f4 f5⟩
 self:=fun _ _ _ _ _ st h=>wpAny_pyIter_tupleiter st h
theorem z8a{P:Program}{w:World}{K:Frag}{tg:Expr}(it:Addr)(lo:Int)(n:Nat):Turn P w K tg (Itr lo n) [it] it (fun i h=>IsRangeIter h it (lo+(i:Nat)*1) ((n:Int)-(i:Nat)) 1) where
 mem:=by simp
 obj:=fun i h st b hb=>by
  have e:b=it:=by simpa using hb
  subst e
  exact⟨_,st,fun v z=>by
   have z':Data.fields _=Data.cell v:=z
   cases z'⟩
 keep:=fun i h h' st k=>k it (by simp) _ st
 item:=by
  intro X hP hw hK hc i pins s σ H E I hf st hg
  subst hP hw hK
  obtain⟨f0,f1,f2,f3,f4,f5⟩:=hf it (by simp)
  have W:=Walks.range (prog:=X.prog) (w:=X.w) (I.ok.hd hc) it lo 1 n
  refine W.item i s _ _ hg st fun v h' tk hv st' kk=>?_
  obtain⟨t,rfl⟩:=hv
  have I1:Inv X pins σ H {s with heap:=h',toks:=tk}:=I.turned (fun b o hb e=>kk b o (by simpa using hb) e) f0 f1 f3 f4 f5
  refine⟨_,rfl,z8y (s:={s with heap:=h',toks:=tk}) (n:= "range_iterator") st' rfl rfl (by decide) ⟨.int (lo+i),H,I1,⟨t,?_⟩,⟨rfl,rfl⟩,st',fun b hb=>(hf b hb).1⟩⟩
  rw[Int.mul_one]
 done:=by
  intro X hP hw hK hc i pins s σ H E I hf st hg
  subst hP hw hK
  obtain⟨f0,f1,f2,f3,f4,f5⟩:=hf it (by simp)
  exact wpAny_pyNext_range_end (I.ok.hd hc) st (by have:n<=i:=hg;omega) fun h' eb=>⟨rfl,I.turned (t':=s.toks) (fun b o hb e=>eb b o hb e) f0 f1 f3 f4 f5⟩
 self:=fun _ _ _ _ _ st h=>wpAny_pyIter_rangeiter st h
section
variable{X:Cx}{tg:Expr}
theorem y5c{pins:List (Addr×Obj)}{σ:St}{H:Hp}{s:Shared}{R:It->Hp->Prop}{E:Value->Shared->Prop}{lo hi:Int}{t u v:Tok}{tk:Nat}(I:Inv X pins σ H s)(h1:-(2 ^ 62)<=lo)(h2:lo<2 ^ 62)(h3:-(2 ^ 62)<=hi)(h4:hi<2 ^ 62)
  (q:R (Itr lo (hi-lo).toNat) H):wpAny (model X.prog X.w) X.A (pyIter (.ref s.heap.objs.size)) (PIE X pins σ tg R) E {s with heap:=s.heap.push {cls:=.type "range",data:=.fields #[.int lo t,.int hi u,.int 1 v]},toks:=tk}:=by
 refine wpAny_pyIter_range (IsRange.new ..) (small_one h1 h2 h3 h4) ?_
 have I1:Inv X pins σ H {s with heap:=s.heap.push {cls:=.type "range",data:=.fields #[.int lo t,.int hi u,.int 1 v]},toks:=tk}:=I.kept fun b o e=>Heap.get?_push_of_some _ e
 refine⟨(s.heap.push {cls:=.type "range",data:=.fields #[.int lo t,.int hi u,.int 1 v]}).objs.size,[(s.heap.push {cls:=.type "range",data:=.fields #[.int lo t,.int hi u,.int 1 v]}).objs.size],_,_,H,rfl,
  I1.kept (t':=tk) fun b o e=>Heap.get?_push_of_some _ e,z8a _ lo (hi-lo).toNat,?_,fun b hb=>?_,q⟩
 ·have e1:lo+((0:Nat):Int)*1=lo:=by simp
  have e2:(((hi-lo).toNat:Nat):Int)-((0:Nat):Int)=Builtin.Range.rangeSize lo hi 1:=by rw[rangeSize_one];split<;>omega
  show IsRangeIter _ _ (lo+((0:Nat):Int)*1) ((((hi-lo).toNat:Nat):Int)-((0:Nat):Int)) 1
  rw[e1,e2]
  exact Heap.get?_push_size _ rfl
 ·have e:b=(s.heap.push {cls:=.type "range",data:=.fields #[.int lo t,.int hi u,.int 1 v]}).objs.size:=by simpa using hb
  subst e
  exact I1.fpOk (Nat.le_refl _) (I1.hok.fresh (Nat.le_refl _))
def w0f(ta:TA):TI:=fun σ H R=>ta σ H fun vs H1=>∃j:Int,vs=[.int j]/\-(2 ^ 62)<=j/\j<2 ^ 62/\R (Itr 0 j.toNat) H1
theorem y0p{a:Expr}{ta:TA}{p pos:Pos}(hg:Gl X "range")(hm:X.mg "range" = none)(ha:PA X [a] ta)(hs:starEach [a] X.env=[(false,eval a X.env)]:=by rfl):PI X tg (.Call (.Name "range" p) [a] [] pos) (w0f ta):=by
 intro pins s σ H R I h
 refine Call_ (q7d I hg hm boot_range (PyProof.Rows.callWith_type1 (thn (ha pos pins s σ H _ I h) fun us s1 ⟨vs,H1,I1,r1,q1⟩=>?_) hs rfl))
 obtain⟨j,e,q1,q2,q⟩:=q1
 subst e
 cases r1 with
 |cons r rr=>
  cases rr
  obtain⟨t,rfl⟩:=r
  exact call_range_1 (y5c I1 (by omega) (by omega) q1 q2 (by simpa using q))
def tFor(wi:TI)(g:TG)(tb:TS):TS:=fun D σ H=>wi σ H fun J H1=>∃W:Nat->Nat->St->Hp->Prop,(∃m,W 0 m σ H1)/\∀i m σ H,W i m σ H->
 (J.stop i H/\D.nx σ H)\/(J.go i H/\∃N:St->Hp->Prop,(∀σ' H',N σ' H'->∃m',m'<m/\W (i+1) m' σ' H')/\∀x H',J.yld i H x H'->g x σ H' fun σ2 H2=>tb {D with nx:=N,ct:=N,bk:=D.nx} σ2 H2)
def z0w(fp:List Addr)(h:Heap):List (Addr×Obj):=fp.filterMap fun b=>(h.get? b).map fun o=>(b,o)
theorem q2m{fp:List Addr}{h:Heap}{b:Addr}{o:Obj}(hb:b∈fp)(e:h.get? b=some o):(b,o)∈z0w fp h:=List.mem_filterMap.mpr ⟨b,hb,by rw[e];rfl⟩
theorem z3b{fp:List Addr}{h:Heap}{p:Addr×Obj}(hp:p∈z0w fp h):p.1∈fp/\h.get? p.1=some p.2:=by
 obtain⟨b,hb,e⟩:=List.mem_filterMap.mp hp
 cases q:h.get? b with
 |none=>rw[q]at e;cases e
 |some o=>
  rw[q]at e
  have e':(b,o)=p:=Option.some.inj e
  subst e'
  exact⟨hb,q⟩
theorem Inv.pinned{pins:List (Addr×Obj)}{σ:St}{H:Hp}{s:Shared}{fp:List Addr}(I:Inv X pins σ H s)(hf:∀b∈fp,FpOk X pins H b)(ho:∀b∈fp,∃o,s.heap.get? b=some o/\∀v,o.data≠.cell v):Inv X (pins++z0w fp s.heap) σ H s:=
 I.pins_of fun p hp=>(List.mem_append.mp hp).elim (fun z=>I.pin p (List.mem_append_right _ z)) fun z=>by
  obtain⟨hb,e⟩:=z3b z
  obtain⟨f0,f1,f2,_⟩:=hf p.1 hb
  obtain⟨o,e',d⟩:=ho p.1 hb
  rw[e]at e';cases e'
  exact⟨e,f0,f1,f2,d⟩
theorem Inv.unpinned{pins pl:List (Addr×Obj)}{σ:St}{H:Hp}{s:Shared}(I:Inv X (pins++pl) σ H s):Inv X pins σ H s:=I.pins_of fun p hp=>I.pin p (List.mem_append_right _ (List.mem_append_left _ hp))
theorem x4u{iter:Expr}{body:List Stmt}{wi:TI}{g:TG}{tb:TS}{pos:Pos}(hp:PassesOwn (model X.prog X.w) X.A X.env X.xe)(hc:X.calm=true)(hi:PI X tg iter wi)(hg:PG X tg g)(hb:PSs X body tb)
  (hs:∀x,foldedSetIterable iter X.env x=pure x:=by intro _;rfl):PS X (.For tg iter body [] pos) (tFor wi g tb):=by
 intro pins s σ H D I h
 refine wpAny_For (thn (hi pins s σ H _ I h) fun v s1 h1=>thn h1 fun itv s2 h2=>?_) hs
 obtain⟨it,fp,tn,J,H2,e,I2,T,st2,f2,W,⟨m0,w0⟩,turn⟩:=h2
 subst e
 have stat:∀{H':Hp},(∀b∈fp,H' b=none)->∀b∈fp,FpOk X pins H' b:=fun hn b hb=>⟨hn b hb,(f2 b hb).2⟩
 refine codeAny_forLoop_any (fun n s'=>∃i σ' H',Inv X pins σ' H' s'/\tn i s'.heap/\(∀b∈fp,H' b=none)/\W i n σ' H') ?_ m0 ⟨0,σ,H2,I2,st2,fun b hb=>(f2 b hb).1,w0⟩
 rintro n s3 ⟨i,σ3,H3,I3,st3,fr3,w3⟩
 rcases turn i n σ3 H3 w3 with⟨stop,qn⟩|⟨go,N,hN,step⟩
 ·refine wpAny_passesOwn hp (thn (T.done X rfl rfl rfl hc i pins s3 σ3 H3 X.xe I3 (stat fr3) st3 stop) fun r s4 hh1=>?_)
  obtain⟨hr,I4⟩:=hh1
  subst hr
  exact wpAny_execs_nil ⟨σ3,H3,I4,qn⟩
 ·refine wpAny_passesOwn hp (thn (T.item X rfl rfl rfl hc i pins s3 σ3 H3 X.xe I3 (stat fr3) st3 go) fun r s4 hh2=>?_)
  obtain⟨u,hr,h4⟩:=hh2
  subst hr
  refine wpAny_passesOwn hp (thn h4 fun _ s5 hh3=>?_)
  obtain⟨x,H5,I5,r5,y5,st5,fr5⟩:=hh3
  have I5':=I5.pinned (stat fr5) (T.obj _ _ st5)
  refine wpAny_passesOwn hp (thn (hg _ s5 σ3 H5 x u _ I5' r5 (step x H5 y5)) fun _ s6 hh4=>?_)
  obtain⟨σ6,H6,I6,q6⟩:=hh4
  refine wpAny_passesOwn hp (thn (hb _ s6 σ6 H6 _ I6 q6) fun f s7 q7=>?_)
  have again:∀{σ7:St}{H7:Hp},Inv X (pins++z0w fp s5.heap) σ7 H7 s7->N σ7 H7->∃m,m<n/\∃i σ' H',Inv X pins σ' H' s7/\tn i s7.heap/\(∀b∈fp,H' b=none)/\W i m σ' H':=fun {σ7 H7} I7 n7=>by
   obtain⟨m',hm,w7⟩:=hN σ7 H7 n7
   refine⟨m',hm,i+1,σ7,H7,I7.unpinned,T.keep _ _ _ st5 fun b hb o e=>(I7.pin (b,o) (List.mem_append_right _ (List.mem_append_right _ (q2m hb e)))).1,fun b hb=>?_,w7⟩
   obtain⟨o,e,d⟩:=T.obj _ _ st5 b hb
   exact(I7.pin (b,o) (List.mem_append_right _ (List.mem_append_right _ (q2m hb e)))).2.1
  cases f with
  |next=>obtain⟨σ7,H7,I7,n7⟩:=q7;exact again I7 n7
  |cont=>obtain⟨σ7,H7,I7,n7⟩:=q7;exact again I7 n7
  |brk=>obtain⟨σ7,H7,I7,q7⟩:=q7;exact⟨σ7,H7,I7.unpinned,q7⟩
  |ret v=>obtain⟨x7,σ7,H7,I7,r7,q7⟩:=q7;exact⟨x7,σ7,H7,I7.unpinned,r7,q7⟩
end
abbrev R2:=V->V->Hp->VK->Prop
def OpR(X:Cx)(f:Value->Value->Sem Value)(r:R2):Prop:=
 ∀(pins:List (Addr×Obj))(s:Shared)(σ:St)(H:Hp)(x y:V)(v u:Value)(Q:VK),Inv X pins σ H s->RelV x v->RelV y u->r x y H Q->
  wpAny (model X.prog X.w) X.A (f v u) (EP X pins σ Q) X.xe s
def UnR(X:Cx)(f:Value->Sem Value)(r:V->Hp->VK->Prop):Prop:=
 ∀(pins:List (Addr×Obj))(s:Shared)(σ:St)(H:Hp)(x:V)(v:Value)(Q:VK),Inv X pins σ H s->RelV x v->r x H Q->
  wpAny (model X.prog X.w) X.A (f v) (EP X pins σ Q) X.xe s
def q7b(X:Cx)(f:Value)(r:List V->Hp->VK->Prop):Prop:=
 ∀(pins:List (Addr×Obj))(s:Shared)(σ:St)(H:Hp)(xs:List V)(us:List Value)(Q:VK),Inv X pins σ H s->Vals xs us->r xs H Q->
  wpAny (model X.prog X.w) X.A (call f us) (EP X pins σ Q) X.xe s
def TruR(X:Cx)(r:V->Hp->(Bool->Hp->Prop)->Prop):Prop:=
 ∀(pins:List (Addr×Obj))(s:Shared)(σ:St)(H:Hp)(x:V)(v:Value)(Q:Bool->Hp->Prop),Inv X pins σ H s->RelV x v->r x H Q->
  wpAny (model X.prog X.w) X.A (truthy v) (TP X pins σ Q) X.xe s
def tOp(r:R2)(ta tb:TE):TE:=fun σ H Q=>ta σ H fun x H1=>tb σ H1 fun y H2=>r x y H2 Q
def tUn(r:V->Hp->VK->Prop)(ta:TE):TE:=fun σ H Q=>ta σ H fun x H1=>r x H1 Q
def rI(C:Int->Int->Prop)(g:Int->Int->V):R2:=fun x y H Q=>∃i j,x=.int i/\y=.int j/\C i j/\Q (g i j) H
def rI0(g:Int->Int->V):R2:=fun x y H Q=>∃i j,x=.int i/\y=.int j/\Q (g i j) H
def rU(g:Int->V):V->Hp->VK->Prop:=fun x H Q=>∃i,x=.int i/\Q (g i) H
section
variable{X:Cx}{a b c:Expr}{ta tb tc:TE}{pos:Pos}
theorem binT(ha:PE X a ta)(hb:PE X b tb){pins:List (Addr×Obj)}{s:Shared}{σ:St}{H:Hp}{R:V->V->Hp->Prop}(I:Inv X pins σ H s)
  (h:ta σ H fun x H1=>tb σ H1 fun y H2=>R x y H2) {Q:Value->Shared->Prop} {f:Value->Value->Sem Value}
  (hf:∀v u s2 x y H2,Inv X pins σ H2 s2->RelV x v->RelV y u->R x y H2->wpAny (model X.prog X.w) X.A (f v u) Q X.xe s2) :
  wpAny (model X.prog X.w) X.A (eval a X.env) (fun v s₁=>wpAny (model X.prog X.w) X.A (eval b X.env) (fun u s₂=>wpAny (model X.prog X.w) X.A (f v u) Q X.xe s₂) X.xe s₁) X.xe s:=by
 refine thn (ha pins s σ H _ I h) fun v s1 hh1=>?_
 obtain⟨x,H1,I1,r1,q1⟩:=hh1
 refine thn (hb pins s1 σ H1 _ I1 q1) fun u s2 hh2=>?_
 obtain⟨y,H2,I2,r2,q2⟩:=hh2
 exact hf v u s2 x y H2 I2 r1 r2 q2
theorem x9l{op:Operator}{r:R2}(ho:OpR X (binaryOp op) r)(ha:PE X a ta)(hb:PE X b tb):PE X (.BinOp a op b pos) (tOp r ta tb):=by
 intro pins s σ H Q I h
 exact wpAny_BinOp (binT ha hb I h fun v u s2 x y H2 I2 rx ry q=>ho pins s2 σ H2 x y v u Q I2 rx ry q)
theorem x9k{op:UnaryOp}{r:V->Hp->VK->Prop}(ho:UnR X (unaryOp op) r)(ha:PE X a ta):PE X (.UnaryOp op a pos) (tUn r ta):=by
 intro pins s σ H Q I h
 exact UnaryOp_ (thn (ha pins s σ H _ I h) fun v s1 hh1=>by obtain⟨x,H1,I1,r1,q1⟩:=hh1;exact(ho pins s1 σ H1 x v Q I1 r1 q1))
theorem opI{f:Value->Value->Sem Value}{C:Int->Int->Prop}{g:Int->Int->Int}
  (rule:∀(i j:Int)(t u:Tok)(s:Shared)(Q:Value->Shared->Prop)(E:Value->Shared->Prop),C i j->Q (.int (g i j) s.toks) {s with toks:=s.toks+1}->wpAny (model X.prog X.w) X.A (f (.int i t) (.int j u)) Q E s) :
  OpR X f (rI C fun i j=>.int (g i j)):=by
 intro pins s σ H x y v u Q I rx ry h
 obtain⟨i,j,rfl,rfl,hc,q⟩:=h
 obtain⟨t,rfl⟩:=rx
 obtain⟨t',rfl⟩:=ry
 exact rule i j t t' s _ _ hc ⟨.int (g i j),H,I.tok _,⟨_,rfl⟩,q⟩
theorem opI0{f:Value->Value->Sem Value}{g:Int->Int->Int}
  (rule:∀(i j:Int)(t u:Tok)(s:Shared)(Q:Value->Shared->Prop)(E:Value->Shared->Prop),Q (.int (g i j) s.toks) {s with toks:=s.toks+1}->wpAny (model X.prog X.w) X.A (f (.int i t) (.int j u)) Q E s) :
  OpR X f (rI0 fun i j=>.int (g i j)):=by
 intro pins s σ H x y v u Q I rx ry h
 obtain⟨i,j,rfl,rfl,q⟩:=h
 obtain⟨t,rfl⟩:=rx
 obtain⟨t',rfl⟩:=ry
 exact rule i j t t' s _ _ ⟨.int (g i j),H,I.tok _,⟨_,rfl⟩,q⟩
theorem opB0{f:Value->Value->Sem Value}{g:Int->Int->Bool}
  (rule:∀(i j:Int)(t u:Tok)(s:Shared)(Q:Value->Shared->Prop)(E:Value->Shared->Prop),Q (.bool (g i j)) s->wpAny (model X.prog X.w) X.A (f (.int i t) (.int j u)) Q E s) :
  OpR X f (rI0 fun i j=>.bl (g i j)):=by
 intro pins s σ H x y v u Q I rx ry h
 obtain⟨i,j,rfl,rfl,q⟩:=h
 obtain⟨t,rfl⟩:=rx
 obtain⟨t',rfl⟩:=ry
 exact rule i j t t' s _ _ ⟨.bl (g i j),H,I,rfl,q⟩
def CPow(i j:Int):Prop:=0<=j/\j<=1000000/\i.natAbs<2 ^ 64
def CMul(i j:Int):Prop:=(-(2 ^ 64)<i/\i<2 ^ 64)\/(-(2 ^ 64)<j/\j<2 ^ 64)
theorem CMul.ok{i j:Int}(h:CMul i j):IntMulOk i j:=by
 rcases h with⟨h1,h2⟩|⟨h1,h2⟩
 ·exact .of_left (intBits_le_64 h1 h2)
 ·exact .of_right (intBits_le_64 h1 h2)
theorem x5z:OpR X (binaryOp .Add) (rI0 fun i j=>.int (i+j)):=opI0 fun _ _ _ _ _ _ _ q=>add_int q
theorem x5s:OpR X (binaryOp .Sub) (rI0 fun i j=>.int (i-j)):=opI0 fun _ _ _ _ _ _ _ q=>sub_int q
theorem x5v:OpR X (binaryOp .Mult) (rI CMul fun i j=>.int (i*j)):=opI fun _ _ _ _ _ _ _ hc q=>mul_int q hc.ok
theorem x5w:OpR X (binaryOp .Mod) (rI (fun _ j=>0<j) fun i j=>.int (i % j)):=opI fun i j _ _ _ _ _ hc q=>by
 have h1:(0:Int)<j:=hc
 exact mod_int' (by omega) (by rw[Int.fmod_eq_emod_of_nonneg i (by omega)];exact q)
theorem x5u:OpR X (binaryOp .Pow) (rI CPow fun i j=>.int (i ^ j.toNat)):=opI fun _ _ _ _ _ _ _ hc q=>pow_int_small hc.1 hc.2.1 hc.2.2 q
theorem unI{f:Value->Sem Value}{g:Int->Int}
  (rule:∀(i:Int)(t:Tok)(s:Shared)(Q:Value->Shared->Prop)(E:Value->Shared->Prop),Q (.int (g i) s.toks) {s with toks:=s.toks+1}->wpAny (model X.prog X.w) X.A (f (.int i t)) Q E s) :
  UnR X f (rU fun i=>.int (g i)):=by
 intro pins s σ H x v Q I rx h
 obtain⟨i,rfl,q⟩:=h
 obtain⟨t,rfl⟩:=rx
 exact rule i t s _ _ ⟨.int (g i),H,I.tok _,⟨_,rfl⟩,q⟩
theorem x3l:UnR X (unaryOp .USub) (rU fun i=>.int (-i)):=unI fun _ _ _ _ _ q=>neg_int q
end
section
variable{X:Cx}{a b c:Expr}{ta tb tc:TE}{pos:Pos}
theorem y2i{pins:List (Addr×Obj)}{σ:St}{H:Hp}{s:Shared}{Q:VK}{k k':Bool}(I:Inv X pins σ H s)(q:Q (.bl k) H)(e:k=k'):EP X pins σ Q (.bool k') s:=by
 subst e
 exact⟨.bl k,H,I,rfl,q⟩
theorem x9q:OpR X (compareOp .Lt) (rI0 fun i j=>.bl (decide (i<j))):=opB0 fun _ _ _ _ _ _ _ q=>lt_int q
theorem x9r:OpR X (compareOp .Gt) (rI0 fun i j=>.bl (decide (j<i))):=opB0 fun _ _ _ _ _ _ _ q=>gt_int q
theorem x9s:OpR X (compareOp .GtE) (rI0 fun i j=>.bl (decide (j<=i))):=opB0 fun _ _ _ _ _ _ _ q=>ge_int q
theorem y1b:OpR X (compareOp .In) (fun x y H Q=>∃i j,x=.str i/\y=.str j/\Q (.bl (!(Builtin.Str.occurrences j i 0 j.length 1).isEmpty)) H):=by
 intro pins s σ H x y v u Q I rx ry h
 obtain⟨i,j,rfl,rfl,q⟩:=h
 obtain⟨t,rfl⟩:=rx
 obtain⟨t',rfl⟩:=ry
 exact in_str (y2i I q rfl)
theorem x5x : OpR X (compareOp .Is) (fun x y H Q => y = .non /\ Q (.bl (decide (x = .non))) H) := by
 intro pins s σ H x y v u Q I rx ry h
 obtain ⟨rfl, q⟩ := h
 cases ry
 refine is_none_gen (y2i I q ?_)
 cases x <;> first
  | (cases rx; rfl)
  | (obtain ⟨t, rfl⟩ := rx; rfl)
theorem x1c : OpR X (compareOp .IsNot) (fun x y H Q => y = .non /\ Q (.bl (!decide (x = .non))) H) := by
 intro pins s σ H x y v u Q I rx ry h
 obtain ⟨rfl, q⟩ := h
 cases ry
 refine isnot_none_gen (y2i I q ?_)
 cases x <;> first
  | (cases rx; rfl)
  | (obtain ⟨t, rfl⟩ := rx; rfl)
theorem q0u(b:Expr){op:CmpOp}(h:op≠.In:=by decide)(h2:op≠.NotIn:=by decide):behindInMarks op b=false:=by
 have e1:(op==CmpOp.In)=false:=by cases op<;>first|rfl|exact absurd rfl h
 have e2:(op==CmpOp.NotIn)=false:=by cases op<;>first|rfl|exact absurd rfl h2
 cases b<;>simp[behindInMarks,e1,e2]
theorem x0y{op:CmpOp}{r:R2}(ho:OpR X (compareOp op) r)(ha:PE X a ta)(hb:PE X b tb)(hm:behindInMarks op b=false):PE X (.Compare a [op] [b] pos) (tOp r ta tb):=by
 intro pins s σ H Q I h
 exact wpAny_Compare1 (binT ha hb I h fun v u s2 x y H2 I2 rx ry q=>ho pins s2 σ H2 x y v u Q I2 rx ry q) hm
def x3s(t:TE):TT:=fun σ H Q=>t σ H fun x H'=>∃k,x=.bl k/\Q k H'
theorem x0m{op:CmpOp}{r:R2}(ho:OpR X (compareOp op) r)(ha:PE X a ta)(hb:PE X b tb)(hm:behindInMarks op b=false):PT X (.Compare a [op] [b] pos) (x3s (tOp r ta tb)):=by
 intro pins s σ H Q I h
 refine wpAny_isTrue_Compare1 (thn (ha pins s σ H _ I h) fun v s1 ⟨x,H1,I1,r1,q1⟩=>thn (hb pins s1 σ H1 _ I1 q1) fun u s2 ⟨y,H2,I2,r2,q2⟩=>
  thn (ho pins s2 σ H2 x y v u _ I2 r1 r2 q2) fun c s3 ⟨z,H3,I3,r3,k,e,q3⟩=>?_) hm
 subst e
 cases r3
 exact wpAny_truthy_bool ⟨H3,I3,q3⟩
def TruV(K:Frag)(x:V)(H:Hp)(k:Bool):Prop:=
 match x with
 |.non=>k=false
 |.bl b=>k=b
 |.int i=>k=(i != 0)
 |.str y=>y.length<=sizeLine/\k=((y.length:Int) != 0)
 |.byt y=>y.size<=sizeLine/\k=((y.size:Int) != 0)
 |.ref p=>(∃xs,SqL K H p xs/\k=!xs.isEmpty)\/(∃xs,SqT K H p xs/\k=!xs.isEmpty)\/∃kvs,H p=some (.dK kvs)/\k=!kvs.isEmpty
 |_=>False
theorem z8w{κ:Type}{kvs:List (κ×V)}{vs:List (κ×Value)}(r:KV kvs vs):(!vs.isEmpty)=!kvs.isEmpty:=by
 cases r<;>rfl
theorem z1b{xs:List V}{its:List Value}(r:Vals xs its):(!its.toArray.isEmpty)=!xs.isEmpty:=by
 cases r<;>simp
theorem q9t:(sizeLine:Nat)<2 ^ 63:=by rw[sizeLine_eq];decide
theorem x3n:TruR X (fun x H Q=>∃k,TruV X.K x H k/\Q k H):=by
 intro pins s σ H x v Q I rx h
 obtain⟨k,e,q⟩:=h
 have hl:=q9t
 have hs:sizeLine=16777216:=sizeLine_eq
 cases x with
 |non=>
  cases rx
  have e':k=false:=e
  subst e'
  exact truthy_none ⟨H,I,q⟩
 |bl b=>
  cases rx
  have e':k=b:=e
  subst e'
  exact wpAny_truthy_bool ⟨H,I,q⟩
 |int i=>
  obtain⟨t,rfl⟩:=rx
  have e':k=(i != 0):=e
  subst e'
  exact PySem.P.truthy_int ⟨H,I,q⟩
 |str y=>
  obtain⟨t,rfl⟩:=rx
  obtain⟨hy,e'⟩:y.length<=sizeLine/\k=((y.length:Int) != 0):=e
  subst e'
  exact PySem.P.truthy_str (by omega) ⟨H,I.tok _,q⟩
 |byt y=>
  obtain⟨t,rfl⟩:=rx
  obtain⟨hy,e'⟩:y.size<=sizeLine/\k=((y.size:Int) != 0):=e
  subst e'
  exact PySem.W.truthy_bytes (by omega) ⟨H,I.tok _,q⟩
 |ref p=>
  cases rx
  have e':(∃xs,SqL X.K H p xs/\k=!xs.isEmpty)\/(∃xs,SqT X.K H p xs/\k=!xs.isEmpty)\/∃kvs,H p=some (.dK kvs)/\k=!kvs.isEmpty:=e
  rcases e' with⟨xs,hx,e'⟩|⟨xs,hx,e'⟩|⟨kvs,hx,e'⟩
  ·subst e'
   obtain⟨its,r,pl,hz⟩:=I.list hx
   have hlen:=r.length
   exact wpAny_truthy_list pl.isList (by simp only[List.size_toArray];omega) ⟨H,I.tok _,by rw[z1b r];exact q⟩
  ·subst e'
   obtain⟨its,r,pl,hz⟩:=I.tuple hx
   have hlen:=r.length
   exact truthy_tuple pl (by simp only[List.size_toArray];omega) ⟨H,I.tok _,by rw[z1b r];exact q⟩
  ·subst e'
   obtain⟨hz,hS,vs,r,m⟩:kvs.length<=sizeLine/\(p==sysModules)=false/\∃vs,KV kvs vs/\s.heap.DictOf (q1o X.prog X.w) p vs:=I.hok p _ hx
   have hlen:kvs.length=vs.length:=Paired.length r
   exact wpAny_truthy_dict hS m (by omega) ⟨H,I.tok _,by rw[z8w r];exact q⟩
 |_=>exact(show False from e).elim
theorem y5f(ha:PE X a ta)(he:∀whole,isTrue a X.env whole=(do let v <-whole;standAt a.pos;holding [v] (truthy v))) :
  PT X a (fun σ H Q=>ta σ H fun x H'=>∃k,TruV X.K x H' k/\Q k H'):=by
 intro pins s σ H Q I h
 exact isTrue_plain (thn (ha pins s σ H _ I h) fun v s1 hh1=>by obtain⟨x,H1,I1,r1,q1⟩:=hh1;exact(x3n pins s1 σ H1 x v Q I1 r1 q1)) (he _)
theorem z8l:OpR X (binaryOp .Add) (fun x y H Q=>∃i j,x=.str i/\y=.str j/\i.length+j.length<=sizeLine/\Q (.str (i++j)) H):=by
 intro pins s σ H x y v u Q I rx ry h
 obtain⟨i,j,rfl,rfl,hz,q⟩:=h
 obtain⟨t,rfl⟩:=rx
 obtain⟨t',rfl⟩:=ry
 exact add_str (fun t' tk=>⟨.str (i++j),H,I.tok _,⟨_,rfl⟩,q⟩) hz
theorem z7y{x:V}{us:List Value}(r:Vals [x] us):∃u,us=[u]/\RelV x u:=by
 cases r with
 |cons r1 r2=>cases r2;exact⟨_,rfl,r1⟩
theorem y9k{x y:V}{us:List Value}(r:Vals [x,y] us):∃u w',us=[u,w']/\RelV x u/\RelV y w':=by
 cases r with
 |cons r1 r2=>
  cases r2 with
  |cons r3 r4=>cases r4;exact⟨_,_,rfl,r1,r3⟩
end
structure ObjM(h:Heap)(x dx C:Addr)(mA:Str->Option Value):Prop where
 obj:h.get? x=some (PySem.W.instObj C dx)
 ns:h.Ns1 dx mA
 ne:dx≠x
theorem y1m{h:Heap}{dx:Addr}{mA:Str->Option Value}(n:h.Ns1 dx mA):∃od,h.get? dx=some od/\∀name,PySem.W.lookIn name od=some (mA name):=by
 obtain⟨o,es,ep,ho,hd,hk,_,hm⟩:=n
 refine⟨o,ho,fun name=>?_⟩
 have e:=hm name
 unfold nsFind findBy at e
 rw[<-Array.find?_toList]at e
 unfold PySem.W.lookIn
 rw[hd]
 dsimp only
 split
 ·rename_i y q
  rw[q]at e
  exact congrArg some e
 ·rename_i q
  rw[q]at e
  have a:es.toList.any (·.refKey)=false:=by
   rw[List.any_eq_false]
   intro y hy
   obtain⟨z,t,hkey⟩:=hk y (Array.mem_toList_iff.mp hy)
   simp[DictEntry.refKey,hkey]
  have a':¬es.toList.any (·.refKey)=true:=by rw[a];exact Bool.false_ne_true
  rw[if_neg a']
  exact congrArg some e
theorem ObjM.look{h:Heap}{x dx C:Addr}{mA:Str->Option Value}(I:ObjM h x dx C mA):∃od,PySem.W.InstAt h x (PySem.W.instObj C dx) C (some od)/\∀name,PySem.W.lookIn name od=some (mA name):=
 let ⟨od,ho,hl⟩:=y1m I.ns
 ⟨od,⟨I.obj,rfl,rfl,ho⟩,hl⟩
section
variable{prog:Program}{w:World}{A:Around}{E:Value->Shared->Prop}{s:Shared}{K:Frag}{x dx C f:Addr}{mA:Str->Option Value}{name:Str}{v:Value}
end
theorem RelO.some_of{v:V}{o:Option Value}(r:RelO (some v) o):∃u,o=some u/\RelV v u:=by
 cases o with
 |none=>exact(show False from r).elim
 |some u=>exact⟨u,rfl,r⟩
section
variable{P:Program}{w:World}{H H':Hp}{h h':Heap}{a C dx:Addr}{fs fs':List (Str×V)}
theorem x2p(hok:HOk P w H h)(e:H a=some (.ins C dx fs)):∃mA,ObjM h a dx C mA/\(∀f,RelO (fs.lookup f) (mA f))/\PySem.Within mA (fs.map (·.1))/\fs.length<=1000/\H dx=some (.own a):=by
 obtain⟨d,z,ne,ob,mA,n,r,q⟩:=(show q2q P w H h a (.ins C dx fs)from hok a _ e)
 exact⟨mA,⟨ob,n,ne⟩,r,q,z,d⟩
end
structure Cls(K:Frag)(C:Addr):Prop where
 pg:PySem.W.plainGet K C Str.empty=true
 hd:PySem.W.hasDictIn K C=true
 po:PySem.W.plainOver K C=true
 sa:PySem.W.findIn K (.ref C) "__setattr__" = some (some (.builtin "object.__setattr__"))
theorem Cls.get{K:Frag}{C:Addr}(c:Cls K C)(f:Str):PySem.W.plainGet K C f=true:=c.pg
structure Con(K:Frag)(C:Addr)(f:Str)(v:V)(u:Value):Prop where
 at_:PySem.W.findIn K (.ref C) f=some (some u)
 rel:RelV v u
 get:PySem.W.specialIn K u "__get__" = some none
 cp:PySem.W.copiedNames.contains f=false
structure Meth(K:Frag)(C:Addr)(m:Str)(f:Addr):Prop where
 at_:PySem.W.findIn K (.ref C) m=some (some (.ref f))
 fn:PySem.W.isFn K (.ref f)=true
 kp:PySem.W.keepIn K (.ref f)=true
section
variable{X:Cx}{pins:List (Addr×Obj)}{σ:St}{H:Hp}{s:Shared}{a C dx:Addr}{fs:List (Str×V)}{f:Str}{v:V}{A:Around}{E:Value->Shared->Prop}
end
section
variable{X:Cx}{o e value:Expr}{f:Str}{pos pos' tpos:Pos}{ta tv:TE}
end
section
variable{X:Cx}{pins:List (Addr×Obj)}{σ:St}{H:Hp}{s:Shared}{A:Around}{E:Value->Shared->Prop}{Q:Value->Shared->Prop}{c:Value}{b:Bool}
inductive TyOf(K:Frag)(H:Hp):V->Value->Prop where
 |non:TyOf K H .non (.type "NoneType")
 |bl (x:Bool):TyOf K H (.bl x) (.type "bool")
 |int (i:Int):TyOf K H (.int i) (.type "int")
 |str (x:Str):TyOf K H (.str x) (.type "str")
 |flt (x:UInt64):TyOf K H (.flt x) (.type "float")
 |lst {a:Addr} {xs:List V} (e:H a=some (.lst xs)):TyOf K H (.ref a) (.type "list")
 |frz {a:Addr} {o:Obj} {xs:List V} (e:H a=some (.frz o (.lst xs))):TyOf K H (.ref a) (.type "list")
 |tup {a:Addr} {xs:List V} (e:H a=some (.tup xs)):TyOf K H (.ref a) (.type "tuple")
 |dK {a:Addr} {kvs:List (Key×V)} (e:H a=some (.dK kvs)):TyOf K H (.ref a) (.type "dict")
 |dT {a:Addr} {kvs:List (List Key×V)} (e:H a=some (.dT kvs)):TyOf K H (.ref a) (.type "dict")
 |ins {a C dx:Addr} {fs:List (Str×V)} (e:H a=some (.ins C dx fs)) (cl:Cls K C) (ha:PySem.W.findIn K (.ref C) "__class__" = some (some (.builtin "object.__class__")))
   (hn:PySem.W.specialIn K (.builtin "object.__class__") "__get__" = some (some (.builtin "getset_descriptor.__get__"))) (htk:PySem.W.takesIn K (.builtin "object.__class__")=some true)
   (hm:PySem.W.mroIn K C (.type "object")=some true):TyOf K H (.ref a) (.ref C)
theorem z3s{x:V}{u t:Value}(I:Inv X pins σ H s)(rx:RelV x u)(ty:TyOf X.K H x t)(e:PySem.W.kitOne X.K t c=some b)(h:∀tk,Q (.bool b) {s with toks:=tk}) :
  wpAny (model X.prog X.w) A (call (.builtin "isinstance") [u,c]) Q E s:=by
 cases ty with
 |non=>cases(show u=Value.none from rx);exact PySem.W.kia_one PySem.W.kitx_none I.kIn True.intro e (fun z=>nomatch z) h
 |bl y=>cases(show u=Value.bool y from rx);exact PySem.W.kia_one PySem.W.kitx_bool I.kIn True.intro e (fun z=>nomatch z) h
 |int i=>obtain⟨t,q⟩:=(show ∃t,u=Value.int i t from rx);cases q;exact PySem.W.kia_one PySem.W.kitx_int I.kIn True.intro e (fun z=>nomatch z) h
 |str y=>obtain⟨t,q⟩:=(show ∃t,u=Value.str y t from rx);cases q;exact PySem.W.kia_one PySem.W.kitx_str I.kIn True.intro e (fun z=>nomatch z) h
 |flt y=>obtain⟨t,q⟩:=(show ∃t,u=Value.float y t from rx);cases q;exact PySem.W.kia_one PySem.W.kitx_float I.kIn True.intro e (fun z=>nomatch z) h
 |@lst a xs ea=>
  cases(show u=Value.ref a from rx)
  obtain⟨_,_,n,_,h1⟩:=(show q2q X.prog X.w H s.heap a (.lst xs)from I.hok a _ ea)
  exact PySem.W.kia_one PySem.W.kitx_list I.kIn ⟨_,h1,rfl⟩ e (fun z=>nomatch z) h
 |@frz a ob xs ea=>
  cases(show u=Value.ref a from rx)
  obtain⟨_,_,_,n,_,h1⟩:=(show q2q X.prog X.w H s.heap a (.frz ob (.lst xs))from I.hok a _ ea)
  exact PySem.W.kia_one PySem.W.kitx_list I.kIn ⟨_,h1,rfl⟩ e (fun z=>nomatch z) h
 |@tup a xs ea=>
  cases(show u=Value.ref a from rx)
  obtain⟨_,_,_,p⟩:=(show q2q X.prog X.w H s.heap a (.tup xs)from I.hok a _ ea)
  obtain⟨o,h1,h2,_⟩:=p
  exact PySem.W.kia_one PySem.W.kitx_tuple I.kIn ⟨o,h1,h2⟩ e (fun z=>nomatch z) h
 |@dK a kvs ea=>
  cases(show u=Value.ref a from rx)
  obtain⟨_,_,vs,_,p⟩:=(show q2q X.prog X.w H s.heap a (.dK kvs)from I.hok a _ ea)
  obtain⟨o,es,ep,h1,h2,_⟩:=p
  exact PySem.W.kia_one PySem.W.kitx_dict I.kIn ⟨o,h1,h2.1⟩ e (fun z=>nomatch z) h
 |@dT a kvs ea=>
  cases(show u=Value.ref a from rx)
  obtain⟨_,_,xs,_,o,es,ep,h1,h2,_⟩:=(show q2q X.prog X.w H s.heap a (.dT kvs)from I.hok a _ ea)
  exact PySem.W.kia_one PySem.W.kitx_dict I.kIn ⟨o,h1,h2.1⟩ e (fun z=>nomatch z) h
 |@ins a C dx fs ea cl ha hn htk hm=>
  cases(show u=Value.ref a from rx)
  obtain⟨mA,O,_⟩:=x2p I.hok ea
  obtain⟨od,J,_⟩:=O.look
  exact PySem.W.kia_one (PySem.W.kitx_own (cl.get _) cl.hd ha hn htk hm) I.kIn J e (fun z=>nomatch z) h
end
structure Room(k:Nat)(A:Around):Prop where
 hd:A.handled=none
 dp:A.depth+3*k+5<recursionLimit
 un:A.units+16*k+200<cLine
theorem Room.mono{j k:Nat}{A:Around}(r:Room k A)(h:j<=k):Room j A:=⟨r.hd,by have:=r.dp;omega,by have:=r.un;omega⟩
theorem Room.deeper{k:Nat}{A:Around}(r:Room (k+1) A)(env:Env):Room k (A.deeper env):=
 ⟨r.hd,by have:=r.dp;show A.depth+1+3*k+5<_;omega,by have:=r.un;show A.units+3+16*k+200<_;omega⟩
structure RoomW(k:Nat)(A:Around):Prop extends Room k A where
 wd:A.units+16*k+210<cLine
theorem Room.deeperW{k:Nat}{A:Around}(r:Room (k+1) A)(env:Env):RoomW k (A.deeper env):=⟨r.deeper env,by have:=r.un;show A.units+3+16*k+210<_;omega⟩
theorem Room.depth{k:Nat}{A:Around}(r:Room k A):A.depth<recursionLimit:=by have:=r.dp;omega
def tNil:TA:=fun _ H Q=>Q [] H
def x9a(ta:TE)(tr:TA):TA:=fun σ H Q=>ta σ H fun x H1=>tr σ H1 fun xs H2=>Q (x::xs) H2
section
variable{X:Cx}{e:Expr}{es:List Expr}{te:TE}{t:TA}{pos:Pos}
theorem y8g:PA X [] tNil:=fun _ _ _ _ H Q I h=>Calls.spliced_nil ⟨[],H,I,.nil,h⟩
theorem y0w(ha:PE X e te)(hr:PA X es t)(hs:starEach (e::es) X.env=(false,eval e X.env)::starEach es X.env:=by rfl):PA X (e::es) (x9a te t):=by
 intro pos pins s σ H Q I h
 rw[hs]
 show wpAny _ _ (spliced ((false,eval e X.env)::backTo pos (starEach es X.env))) _ _ s
 refine Calls.spliced_cons (thn (ha pins s σ H _ I h) fun u s1 hh1=>?_)
 obtain⟨x,H1,I1,r1,q1⟩:=hh1
 exact thn (hr pos pins s1 σ H1 _ I1 q1) fun us s2 hh2=>by obtain⟨xs,H2,I2,r2,q2⟩:=hh2;exact(⟨x::xs,H2,I2,.cons r1 r2,q2⟩)
def tTup(t:TA):TE:=fun σ H Q=>t σ H fun xs H1=>xs.length<=sizeLine/\∀p,H1 p=none->Q (.ref p) (upd H1 p (.tup xs))
def tLst(t:TA):TE:=fun σ H Q=>t σ H fun xs H1=>xs.length<=sizeLine/\∀p,H1 p=none->Q (.ref p) (upd H1 p (.lst xs))
theorem x5e {x1} (h:PA X es t):PE X (.Tuple es x1 pos) (tTup t):=by
 intro pins s σ H Q I hq
 refine wpAny_Tuple_spliced (thn (h pos pins s σ H _ I hq) fun us s1 ⟨xs,H1,I1,r,z,q⟩=>⟨by rw[<-r.length];exact z,?_⟩)
 have hf:H1 s1.heap.objs.size=none:=I1.hok.fresh (Nat.le_refl _)
 refine⟨.ref s1.heap.objs.size,upd H1 s1.heap.objs.size (.tup xs),I1.laid (t':=s1.toks) (fun b u e=>Heap.get?_push_of_some _ e) (Nat.le_refl _) ?_,rfl,q _ hf⟩
 exact⟨z,us,r,⟨_,Heap.get?_push_size _ rfl,rfl,_,rfl⟩⟩
theorem x5j(h:PA X es t):PE X (.List es pos) (tLst t):=by
 intro pins s σ H Q I hq
 refine wpAny_List_spliced (thn (h pos pins s σ H _ I hq) fun us s1 ⟨xs,H1,I1,r,z,q⟩=>⟨by rw[<-r.length];exact z,?_⟩)
 have hf:H1 s1.heap.objs.size=none:=I1.hok.fresh (Nat.le_refl _)
 refine⟨.ref s1.heap.objs.size,upd H1 s1.heap.objs.size (.lst xs),I1.laid (t':=s1.toks) (fun b u e=>Heap.get?_push_of_some _ e) (Nat.le_refl _) ?_,rfl,q _ hf⟩
 exact⟨z,us,0,r,Heap.get?_push_size _ rfl⟩
end
abbrev Sp:=List V->Hp->VK->XK->Prop
abbrev CXT:=List Env->Hp->Shared->XK->Value->Shared->Prop
structure Env0(P:Program)(w:World)(K:Frag)(mg:Str->Option Value)(base:Heap)(A:Around)(outer:List Env)(s:Shared)(H:Hp):Prop where
 frames:A.frames=some outer
 mod:Mod K mg base
 bs:∀b o,base.get? b=some o->s.heap.get? b=some o/\H b=none
 bsz:base.objs.size<=s.heap.objs.size
 funs:s.heap.FunFrames base outer
 frf:∀b∈frs outer,H b=none
 hok:HOk P w H s.heap
 bare:AllBare s.gens
def CE(outer:List Env)(P:Program)(w:World)(H:Hp)(s:Shared)(Q:VK)(u:Value)(s':Shared):Prop:=
 ∃v H',s'.os=s.os/\AllBare s'.gens/\Un (frs outer) [] H H' s.heap s'.heap/\HOk P w H' s'.heap/\RelV v u/\Q v H'
def CR(CX:CXT)(outer:List Env)(P:Program)(w:World)(H:Hp)(s:Shared)(Q:VK)(E:XK)(r:Result)(s':Shared):Prop:=
 match r with
 |.ok (.ret u)=>CE outer P w H s Q u s'
 |.ok _=>False
 |.error e=>CX outer H s E e s'
structure FnOk(P:Program)(w:World)(K:Frag)(mg:Str->Option Value)(base:Heap)(CX:CXT)(k:Nat)(f:Addr)(fd:FuncData)(ps:List Str)(sp:Sp):Prop where
 len:∀vs H Q E,sp vs H Q E->vs.length=ps.length
 run:∀(A:Around)(outer:List Env)(s:Shared)(H:Hp)(args:Args)(us:List Value)(vs:List V)(Q:VK)(E:XK),Room k A->Env0 P w K mg base A outer s H->BindsTo s fd args (ps.zip us)->Vals vs us->sp vs H Q E->
  codeAny (model P w) A (.call (.ref f) args) (CR CX outer P w H s Q E) s
theorem FnOk.mono{P:Program}{w:World}{K:Frag}{mg:Str->Option Value}{base:Heap}{CX:CXT}{j k:Nat}{f:Addr}{fd:FuncData}{ps:List Str}{sp:Sp}(F:FnOk P w K mg base CX j f fd ps sp)(h:j<=k) :
  FnOk P w K mg base CX k f fd ps sp:=⟨F.len,fun A outer s H args us vs Q E hr=>F.run A outer s H args us vs Q E (hr.mono h)⟩
section
variable{X:Cx}{pins:List (Addr×Obj)}{σ:St}{H:Hp}{s s':Shared}
theorem Inv.env0(I:Inv X pins σ H s):Env0 X.prog X.w X.K X.mg X.base X.A X.stack s H:=
 ⟨I.ok.frames,I.ok.mod,I.bs,Nat.le_trans I.ok.bsz I.sz,I.stack,I.stkFree,I.hok,I.bare⟩
theorem Inv.after{Q:VK}{u:Value}(I:Inv X pins σ H s)(h:CE X.stack X.prog X.w H s Q u s'):EP X pins σ Q u s':=by
 obtain⟨v,H',os,bare,un,hok,r,q⟩:=h
 obtain⟨hh,g,d,t,os'⟩:=s'
 obtain rfl:os'=s.os:=os
 exact⟨v,H',I.call (h':=hh) (g':=g) (d':=d) (t':=t) (ch:=[]) un hok bare (fun b z=>absurd z (by simp)),r,q⟩
end
def x9b(sp:Sp)(dvs:List V)(E:XK)(t:TA):TE:=fun σ H Q=>t σ H fun vs H1=>sp (vs++dvs) H1 Q E
def z6g(K:Frag)(fd:FuncData)(ps:List Str)(ds:List Value):Prop:=
 ∀(s:Shared)(us:List Value),K.In s.heap->(us++ds).length=ps.length->BindsTo s fd ⟨us,[]⟩ (ps.zip (us++ds))
theorem z6g.all{K:Frag}{fd:FuncData}{ps:List Str}(h:∀us:List Value,us.length=ps.length->bindArgs fd ⟨us,[]⟩=pure (ps.zip us)):z6g K fd ps []:=fun s us _ hl=>by
 rw[List.append_nil]at hl ⊢
 exact .of_eq (h us hl)
def q5x(CX:CXT)(X:Cx)(E:XK):Prop:=∀(pins:List (Addr×Obj))(σ:St)(H:Hp)(s:Shared)(e:Value)(s':Shared),Inv X pins σ H s->CX X.stack H s E e s'->X.xe e s'
section
variable{X:Cx}{CX:CXT}{k:Nat}{f C:Addr}{fd:FuncData}{ps:List Str}{sp:Sp}{dvs:List V}{ds:List Value}{E:XK}{x m:Str}{p pos apos:Pos}{e o:Expr}{es:List Expr}{ta:TE}{t:TA}
theorem x4h{pins:List (Addr×Obj)}{σ:St}{H:Hp}{s:Shared}{Q:VK}{us:List Value}{vs:List V}(F:FnOk X.prog X.w X.K X.mg X.base CX k f fd ps sp)(hr:Room k X.A)(hb:z6g X.K fd ps ds)(hd:Vals dvs ds)(hx:q5x CX X E)
  (I:Inv X pins σ H s) (r:Vals vs us) (h:sp (vs++dvs) H Q E):wpAny (model X.prog X.w) X.A (call (.ref f) us) (EP X pins σ Q) X.xe s:=by
 have r2:Vals (vs++dvs) (us++ds):=r.append hd
 have hl:(us++ds).length=ps.length:=by rw[<-r2.length];exact F.len _ _ _ _ h
 refine wpAny_call (codeAny_mono (F.run X.A X.stack s H ⟨us,[]⟩ (us++ds) (vs++dvs) Q E hr I.env0 (hb s us I.kIn hl) r2 h) fun r s' hq=>?_)
 cases r with
 |error e=>exact hx pins σ H s e s' I hq
 |ok fl=>
  cases fl with
  |ret u=>exact I.after hq
  |next=>exact False.elim hq
  |brk=>exact False.elim hq
  |cont=>exact False.elim hq
theorem x0z(F:FnOk X.prog X.w X.K X.mg X.base CX k f fd ps sp)(hr:Room k X.A)(hg:Gl X x)(hm:X.mg x=some (.ref f))(hk:PySem.W.keepIn X.K (.ref f)=true)(hb:z6g X.K fd ps ds)(hd:Vals dvs ds)(hx:q5x CX X E)
  (ha:PA X (e::es) t) (hdb:(x==("__debug__" : Str))=false:=by decide) (he:starEach (e::es) X.env=(false,eval e X.env)::starEach es X.env:=by rfl) (hpl:(backTo pos (starEach es X.env)).any (·.1)=false:=by rfl) :
  PE X (.Call (.Name x p) (e::es) [] pos) (x9b sp dvs E t):=by
 intro pins s σ H Q I h
 refine wpAny_Call_Name_kw (z5f I hg hm ?_ hdb)
 refine PySem.W.callWith_K (h₀:=X.base) I.ok.mod.kin hk (thn (ha pos pins s σ H _ I h) fun us s1 ⟨vs,H1,I1,r,q⟩=>⟨I1.kIn,?_⟩) he hpl
 exact x4h F hr hb hd hx I1 r q
structure Mk(K:Frag)(C f:Addr):Prop where
 makes:PySem.W.makesIn K C=true
 init:PySem.W.findIn K (.ref C) "__init__" = some (some (.ref f))
 fn:PySem.W.isFn K (.ref f)=true
 kp:PySem.W.keepIn K (.ref C)=true
end
section
variable{X:Cx}{CX:CXT}{k:Nat}{f C:Addr}{fd:FuncData}{ps ks:List Str}{sp:Sp}{E:XK}{x m:Str}{p pos apos kpos:Pos}{e o:Expr}{es:List Expr}{kws:List Keyword}{te ta:TE}{t tk:TA}{nm:Option Str}
structure KBinds(K:Frag)(fd:FuncData)(ps ks:List Str)(g:List Value->List Value->List Value)(gV:List V->List V->List V):Prop where
 to:∀(s:Shared)(us ws:List Value),K.In s.heap->(g us ws).length=ps.length->BindsTo s fd ⟨us,ks.zip ws⟩ (ps.zip (g us ws))
 rel:∀{vs:List V}{us:List Value}{zs:List V}{ws:List Value},Vals vs us->Vals zs ws->Vals (gV vs zs) (g us ws)
variable{g:List Value->List Value->List Value}{gV:List V->List V->List V}
end
structure FnScope(N P:List Str)(sc:Scope):Prop where
 kind:sc.kind=.function
 co:sc.isCoroutine=false
 gen:sc.isGenerator=false
 nd:N.Nodup
 pre:N.take P.length=P
 par:∀x∈P,sc.names.lookup x=some .local\/sc.names.lookup x=some .cell
 nofree:∀y∈sc.names,y.2≠.free
theorem z4h {kindOf : Str -> Option NameKind} {x : Str} : ∀ {binds : List (Str × Value)} {m : Str -> Option Value}, (∀ v, (x, v) ∉ binds) -> bindL kindOf binds m x = m x
 | [], _, _ => rfl
 | (n, v) :: r, m, h => by
  unfold bindL
  rw [z4h fun w hw => h w (List.mem_cons_of_mem _ hw)]
  split
  ·have : x ≠ n := by rintro rfl; exact h v List.mem_cons_self
   simp [this]
  ·rfl
theorem z4j {kindOf : Str -> Option NameKind} {x : Str} : ∀ {binds : List (Str × Value)} {m : Str -> Option Value}, (∀ v, (x, v) ∉ binds) -> bindC kindOf binds m x = m x
 | [], _, _ => rfl
 | (n, v) :: r, m, h => by
  unfold bindC
  rw [z4j fun w hw => h w (List.mem_cons_of_mem _ hw)]
  split
  ·rfl
  ·have : x ≠ n := by rintro rfl; exact h v List.mem_cons_self
   simp [this]
theorem z4i{kindOf:Str->Option NameKind}{x:Str}{v:Value}:∀{P:List Str}{vs:List Value}{i:Nat}{m:Str->Option Value},P.Nodup->P[i]?=some x->vs[i]?=some v->kindOf x=some .local->
  bindL kindOf (P.zip vs) m x=some v
 |[],_,_,_,_,h,_,_=>by simp at h
 |_::_,[],_,_,_,_,h,_=>by simp at h
 |p::P,w::vs,0,m,nd,h1,h2,hk=>by
  simp at h1 h2;subst h1;subst h2
  show bindL kindOf ((p,w)::P.zip vs) m p=_
  unfold bindL
  rw[z4h fun v hv=>(List.nodup_cons.mp nd).1 (List.of_mem_zip hv).1,if_pos hk]
  simp
 |p::P,w::vs,i+1,m,nd,h1,h2,hk=>by
  show bindL kindOf ((p,w)::P.zip vs) m x=_
  unfold bindL
  exact z4i (i:=i) (List.nodup_cons.mp nd).2 (by simpa using h1) (by simpa using h2) hk
theorem z4k{kindOf:Str->Option NameKind}{x:Str}{v:Value}:∀{P:List Str}{vs:List Value}{i:Nat}{m:Str->Option Value},P.Nodup->P[i]?=some x->vs[i]?=some v->kindOf x≠some .local->
  bindC kindOf (P.zip vs) m x=some v
 |[],_,_,_,_,h,_,_=>by simp at h
 |_::_,[],_,_,_,_,h,_=>by simp at h
 |p::P,w::vs,0,m,nd,h1,h2,hk=>by
  simp at h1 h2;subst h1;subst h2
  show bindC kindOf ((p,w)::P.zip vs) m p=_
  unfold bindC
  rw[z4j fun v hv=>(List.nodup_cons.mp nd).1 (List.of_mem_zip hv).1,if_neg hk]
  simp
 |p::P,w::vs,i+1,m,nd,h1,h2,hk=>by
  show bindC kindOf ((p,w)::P.zip vs) m x=_
  unfold bindC
  exact z4k (i:=i) (List.nodup_cons.mp nd).2 (by simpa using h1) (by simpa using h2) hk
def q9f(N:List Str)(vs:List V):St:=vs.map some++List.replicate (N.length-vs.length) none
def cxOf(CX:CXT)(P:Program)(w:World)(K:Frag)(mg:Str->Option Value)(base:Heap)(N:List Str)(qual:Str)(scope:Scope)(f:Addr)(cd:Value)(A:Around)(outer:List Env)(s:Shared)(H:Hp)(E:XK):Cx where
 prog:=P
 w:=w
 K:=K
 mg:=mg
 base:=base
 A:=A.deeper (envOfC qual scope s.heap.objs.size f cd)
 N:=N
 s₀:=s
 H₀:=H
 env:=envOfC qual scope s.heap.objs.size f cd
 outer:=outer
 stack:=envOfC qual scope s.heap.objs.size f cd::outer
 ex:=[]
 calm:=true
 fn:=fun _=>true
 pn:=[]
 xe:=fun e s'=>wpAny (model P w) (A.deeper (envOfC qual scope s.heap.objs.size f cd)) (leaving (envOfC qual scope s.heap.objs.size f cd) e) (fun _ s''=>CX outer H s E e s'') (fun e' s''=>CX outer H s E e' s'') s'
theorem z7q{sc:Scope}{n:Nat}{x:Str}(h:sc.names.lookup x=some .cell):∃c,(cellsFrom n sc.names []).lookup x=some c:=by
 have q:=PySem.W.cellsFrom_some sc.names n [] (.inl h)
 exact Option.isSome_iff_exists.mp q
theorem y2d{CX:CXT}{P:Program}{w:World}{K:Frag}{mg:Str->Option Value}{base:Heap}{N ps:List Str}{qual:Str}{scope:Scope}{f:Addr}{cd:Value}{A:Around}{outer:List Env}{s s1:Shared}{H:Hp}{E:XK}{us:List Value}{vs:List V}
  (S:FnScope N ps scope) (hd:A.handled=none) (e0:Env0 P w K mg base A outer s H) (hl:vs.length=ps.length) (r:Vals vs us)
  (x:InCallC s s.heap.objs.size (bindL (envOfC qual scope s.heap.objs.size f cd).kindOf (ps.zip us) fun _=>none) (cellsFrom (s.heap.objs.size+1) scope.names []) (bindC (envOfC qual scope s.heap.objs.size f cd).kindOf (ps.zip us) fun _=>none) s1) :
  Inv (cxOf CX P w K mg base N qual scope f cd A outer s H E) [] (q9f N vs) H s1:=by
 have hpl:ps.length<=N.length:=by have:=congrArg List.length S.pre;rw[List.length_take]at this;omega
 obtain⟨h1,tk,rfl,hk⟩:=x.done
 have noA:∀b:Addr,b∉(cxOf CX P w K mg base N qual scope f cd A outer s H E).ex:=fun b z=>absurd (show b∈([]:List Addr)from z) (by simp)
 refine⟨⟨e0.mod,S.kind,rfl,rfl,Nat.le_refl _,fun y z c h1 h2=>?_,fun y hy=>?_,fun y c _ h=>?_,fun _=>hd,Around.frames_deeper e0.frames,.inr ⟨rfl,rfl⟩,fun b z=>absurd z (noA b),e0.bs,e0.bsz,fun b _ _=>noA b,fun b z=>absurd z (noA b),e0.funs,e0.frf⟩,
  rfl,e0.bare,Un.kept hk,⟨_,x.toInCall.ns,fun i y v h1 h2 h3=>?_⟩,fun y c h=>⟨_,x.cell y c h⟩,e0.hok.fresh (Nat.le_refl _),fun y c h=>?_,fun p hp=>absurd (show p∈([]:List (Addr×Obj))from hp) (by simp),e0.hok.kept hk,?_⟩
 ·exact name_of_addr x.apart (PySem.mem_of_lookup h1) (PySem.mem_of_lookup h2)
 ·have hy:scope.names.lookup y=some .cell\/scope.names.lookup y=some .free:=hy
  rcases hy with hy|hy
  ·exact z7q hy
  ·exact absurd rfl (S.nofree _ (PySem.mem_of_lookup hy))
 ·exact Nat.le_of_lt (x.above y c (PySem.mem_of_lookup h))
 ·have hi:i<vs.length:=by
   unfold q9f at h2
   by_cases hi:i<vs.length
   ·exact hi
   ·rw[List.getElem?_append_right (by simpa using hi)]at h2
    rw[List.getElem?_replicate]at h2
    split at h2<;>cases h2
  have ha:vs[i]?=some v:=by
   unfold q9f at h2
   rw[List.getElem?_append_left (by simpa using hi),List.getElem?_map]at h2
   cases e:vs[i]? with
   |none=>rw[e]at h2;cases h2
   |some a=>rw[e]at h2;cases h2;rfl
  obtain⟨u,hu,rv⟩:=r.get ha
  have hp:ps[i]?=some y:=by
   rw[<-S.pre,List.getElem?_take_of_lt (by omega)];exact h1
  have ndP:ps.Nodup:=by rw[<-S.pre];exact S.nd.sublist (List.take_sublist _ _)
  refine⟨u,rv,?_⟩
  rcases S.par y (List.mem_of_getElem? hp)with k|k
  ·exact .inl ⟨k,z4i ndP hp hu k⟩
  ·obtain⟨c,e⟩:=z7q (n:=s.heap.objs.size+1) k
   refine .inr ⟨.inl k,c,e,?_⟩
   have q:=x.cell y c e
   rw[z4k ndP hp hu (by show scope.names.lookup y≠_;rw[k];decide)]at q
   exact q
 ·exact e0.hok.fresh (Nat.le_of_lt (x.above y c (PySem.mem_of_lookup h)))
 ·unfold q9f
  show _=N.length
  rw[List.length_append,List.length_map,List.length_replicate]
  omega
theorem w0h{CX:CXT}{P:Program}{w:World}{K:Frag}{mg:Str->Option Value}{base:Heap}{k:Nat}{f:Addr}{name qual:Str}{params:Arguments}{body:List Stmt}{scope:Scope}{dV kV doc pm cdv ct oc:Value}{an od:Option Addr}
  {osl:Array (Option Value)} {N ps:List Str} {sp:Sp} (lk:K.lookup f=some ⟨oc,od,.func (PySem.W.fnOf name qual params body scope dV kV doc pm an cdv ct),osl⟩) (hcd:PySem.W.codeIn K cdv qual=true) (S:FnScope N ps scope)
  (len:∀vs H Q E,sp vs H Q E->vs.length=ps.length)
  (hbody:∀(A:Around)(outer:List Env)(s:Shared)(H:Hp)(vs:List V)(Q:VK)(E:XK),RoomW k (A.deeper (envOfC qual scope s.heap.objs.size f cdv))->sp vs H Q E->
   ∃t,PSs (cxOf CX P w K mg base N qual scope f cdv A outer s H E) body t/\t {nx:=fun _ H'=>Q .non H',rt:=Q} (q9f N vs) H) :
  FnOk P w K mg base CX (k+1) f (PySem.W.fnOf name qual params body scope dV kV doc pm an cdv ct) ps sp:=by
 refine⟨len,fun A outer s H args us vs Q E hr e0 hb r hsp=>?_⟩
 have hl:=len _ _ _ _ hsp
 have KX:K.In s.heap:=e0.mod.kin.keeps fun b o e=>(e0.bs b o e).1
 have lim:s.heap.NoLimit:=e0.mod.nolimit.keeps fun b o e=>(e0.bs b o e).1
 have hkind:∀y∈ps.zip us,scope.names.lookup y.1=some .local\/(scope.names.lookup y.1=some .cell/\((cellsFrom (s.heap.objs.size+1) scope.names []).lookup y.1).isSome=true):=fun hh1 hy=>by
  obtain⟨n,v⟩:=hh1
  rcases S.par n (List.of_mem_zip hy).1 with q|q
  ·exact .inl q
  ·exact .inr ⟨q,PySem.W.cellsFrom_some _ _ _ (.inl q)⟩
 refine codeAny_call_function hr.depth (KX _ _ lk) rfl S.co S.gen rfl (PySem.W.codeRec_of KX hcd) (hb _ _ _ _ ?_)
 refine wpAny_newFunctionEnv_cells S.kind hkind fun env he s1 x=>?_
 subst he
 refine⟨lim.keeps x.toInCall.keep,codeAny_func ?_⟩
 obtain⟨t,ht,hq⟩:=hbody A outer s H vs Q E (hr.deeperW _) hsp
 have I:Inv (cxOf CX P w K mg base N qual scope f cdv A outer s H E) [] (q9f N vs) H s1:=y2d S hr.hd e0 hl r x
 refine wpAny_mono (ht [] s1 (q9f N vs) H _ I hq) (fun fl s' hs=>?_) fun e s' hs=>hs
 have fin:∀{σ':St}{H':Hp}{v:V}{u:Value},Inv (cxOf CX P w K mg base N qual scope f cdv A outer s H E) [] σ' H' s'->RelV v u->Q v H'->CE outer P w H s Q u s':=
  fun {σ' H' v u} J rv q=>⟨v,H',J.os,J.bare,J.base,J.hok,rv,q⟩
 cases fl with
 |ret u=>
  obtain⟨v,σ',H',J,rv,q⟩:=hs
  exact fin J rv q
 |next=>
  obtain⟨σ',H',J,q⟩:=hs
  exact fin (v:=V.non) (u:=Value.none) J rfl q
 |brk=>
  obtain⟨_,_,_,q⟩:=hs
  exact False.elim q
 |cont=>
  obtain⟨_,_,_,q⟩:=hs
  exact False.elim q
section
variable{X:Cx}{x:Str}{p pos:Pos}{e:Expr}{es:List Expr}{t:TA}{id T:String}{r:List V->Hp->VK->Prop}
def tCB(r:List V->Hp->VK->Prop)(t:TA):TE:=fun σ H Q=>t σ H fun vs H1=>r vs H1 Q
theorem y5r(hc:q7b X (.builtin id) r)(hg:Gl X x)(hm:X.mg x=none)(hv:bootBuiltins x=some (.builtin id))(ha:PA X (e::es) t)(hn:x≠ "__name__" :=by decide)(hdb:(x==("__debug__" : Str))=false:=by decide)
  (he:starEach (e::es) X.env=(false,eval e X.env)::starEach es X.env:=by rfl) (hpl:(backTo pos (starEach es X.env)).any (·.1)=false:=by rfl):PE X (.Call (.Name x p) (e::es) [] pos) (tCB r t):=by
 intro pins s σ H Q I h
 refine wpAny_Call_Name_kw (q7d I hg hm hv ?_ hn hdb)
 exact PyProof.Rows.callWith_builtin1 (thn (ha pos pins s σ H _ I h) fun us s1 hh1=>by obtain⟨vs,H1,I1,r1,q1⟩:=hh1;exact(hc pins s1 σ H1 vs us Q I1 r1 q1)) he hpl
theorem y0r(hc:q7b X (.type T) r)(hg:Gl X x)(hm:X.mg x=none)(hv:bootBuiltins x=some (.type T))(ha:PA X (e::es) t)(hn:x≠ "__name__" :=by decide)(hdb:(x==("__debug__" : Str))=false:=by decide)
  (he:starEach (e::es) X.env=(false,eval e X.env)::starEach es X.env:=by rfl) (hpl:(backTo pos (starEach es X.env)).any (·.1)=false:=by rfl):PE X (.Call (.Name x p) (e::es) [] pos) (tCB r t):=by
 intro pins s σ H Q I h
 refine wpAny_Call_Name_kw (q7d I hg hm hv ?_ hn hdb)
 exact PyProof.Rows.callWith_type1 (thn (ha pos pins s σ H _ I h) fun us s1 hh1=>by obtain⟨vs,H1,I1,r1,q1⟩:=hh1;exact(hc pins s1 σ H1 vs us Q I1 r1 q1)) he hpl
end
end L2
namespace HT
open PySem PyProof.Rows
section
open PySem.SeqAt
open PySem.AutoSeq1 (wpAny_loadPart')
open PySem.MeetsSeq PySem.MeetsSeq2 PySem.MeetsSeq3
end
section
variable{prog:Program}{w:World}{A:Around}{E:Value->Shared->Prop}{s:Shared}
theorem cat_tup{t b:Addr}{vs ws:List Value}{Q:Value->Shared->Prop}(ht:IsTup s.heap t vs.toArray)(hb:IsTup s.heap b ws.toArray)(hv:vs≠[])
  (h1:ws=[]->Q (.ref t) s) (h2:ws≠[]->Q (.ref s.heap.objs.size) {s with heap:=s.heap.push {cls:=.type "tuple",data:=.seq (vs++ws).toArray}})
  (hsz:vs.length+ws.length<=sizeLine):wpAny (model prog w) A (binaryOp .Add (.ref t) (.ref b)) Q E s:=by
 obtain⟨⟨cls,dd,data,sl⟩,ho,hc,n,hd⟩:=id ht
 obtain⟨⟨cls2,dd2,data2,sl2⟩,ho2,hc2,n2,hd2⟩:=id hb
 simp only at hc hd hc2 hd2
 subst hc hd hc2 hd2
 have e:vs.toArray++ws.toArray=(vs++ws).toArray:=by simp
 by_cases hw:ws=[]
 ·exact concat_meets ⟨_,ho,rfl⟩ ⟨_,ho2,rfl⟩ noFill_tuple_add seq_tuple_add PySem.F.slot_tuple_add PySem.F.entry_tuple_add (PySem.F.args_tuple_add_2 _ _)
   (tuple_addW1 t b vs.toArray ws.toArray n n2 dd dd2 sl sl2 (by simpa using hv) (by simp[hw])) ⟨ho,ho2,h1 hw⟩
 ·refine concat_meets ⟨_,ho,rfl⟩ ⟨_,ho2,rfl⟩ noFill_tuple_add seq_tuple_add PySem.F.slot_tuple_add PySem.F.entry_tuple_add (PySem.F.args_tuple_add_2 _ _)
   (tuple_addW2 t b vs.toArray ws.toArray n n2 dd dd2 sl sl2 (by simpa using hv) (by simpa using hw) (by rw[List.size_toArray,List.size_toArray];exact hsz)) ⟨ho,ho2,?_⟩
  rw[e]
  exact h2 hw
def sIx(n d:Nat):Option Int->Nat
 |none=>d
 |some v=>if v<0 then(v+(n:Int)).toNat else min v.toNat n
theorem sIx_none(n d:Nat):sIx n d none=d:=rfl
theorem sIx_nat(n d k:Nat):sIx n d (some (k:Int))=min k n:=by
 show(if(k:Int)<0 then((k:Int)+(n:Int)).toNat else min (k:Int).toNat n)=min k n
 rw[if_neg (by omega),Int.toNat_natCast]
theorem sIx_le(n d:Nat)(hd:d<=n)(o:Option Int):sIx n d o<=n:=by
 cases o with
 |none=>exact hd
 |some v=>
  show(if v<0 then(v+(n:Int)).toNat else min v.toNat n)<=n
  by_cases hv:v<0
  ·rw[if_pos hv];omega
  ·rw[if_neg hv];exact Nat.min_le_right _ _
theorem y3e(v:Int)(n d:Nat):(if v<0 then max (v+(n:Int)) 0 else min v (n:Int))=((sIx n d (some v):Nat):Int):=by
 show(if v<0 then max (v+(n:Int)) 0 else min v (n:Int))=(((if v<0 then(v+(n:Int)).toNat else min v.toNat n):Nat):Int)
 by_cases hv:v<0
 ·simp only[if_pos hv];omega
 ·simp only[if_neg hv];omega
theorem z9e(lo hi:Option Int)(n:Nat):Builtin.Slice.sliceAdjust lo hi 1 (n:Int)=(((sIx n 0 lo:Nat):Int),((sIx n n hi:Nat):Int)):=by
 have h1:¬((1:Int)<0):=by omega
 unfold Builtin.Slice.sliceAdjust
 simp only[h1,if_false]
 refine Prod.ext ?_ ?_
 ·cases lo with
  |none=>rfl
  |some v=>exact y3e v n 0
 ·cases hi with
  |none=>rfl
  |some v=>exact y3e v n n
theorem z8i(i j:Nat):Builtin.Slice.slicePlaces (i:Int) (j:Int) 1=j-i:=by
 unfold Builtin.Slice.slicePlaces
 have h1:(1:Int) > 0:=by omega
 simp only[h1,if_true,Int.ediv_one]
 split<;>omega
theorem z0u{v:Value}{o:Option Int}{Q:Option Int->Shared->Prop}(p:IsPart v o)(h:Q o s):wpAny (model prog w) A (Builtin.Slice.slicePartIndex v) Q E s:=by
 cases p with
 |none=>exact slicePart_none h
 |int i t=>exact slicePart_int h
theorem q8p{sl:Addr}{vl vu:Value}{lo hi:Option Int}{n:Nat}{Q:Int×Int×Nat->Shared->Prop}(hs:s.heap.IsSliceOf sl vl vu .none)(pl:IsPart vl lo)(pu:IsPart vu hi)
  (h:Q (((sIx n 0 lo:Nat):Int),1,sIx n n hi-sIx n 0 lo) s):wpAny (model prog w) A (Builtin.Slice.sliceApplied (.ref sl) (pure (n:Int))) Q E s:=by
 obtain⟨os,hos,hcs,hds⟩:=id hs
 unfold Builtin.Slice.sliceApplied Builtin.Slice.sliceFields
 refine wpAny_bind (wpAny_bind (wpAny_field hos hds (x:=vl) rfl (wpAny_bind (wpAny_field hos hds (x:=vu) rfl (wpAny_bind (wpAny_field hos hds (x:=.none) rfl (wpAny_pure ?_)))))))
 refine wpAny_bind (slicePart_none ?_)
 show wpAny _ _ (if((1:Int)==0)=true then _ else _) _ _ s
 rw[if_neg (by decide)]
 refine wpAny_bind (z0u pl (wpAny_bind (z0u pu (wpAny_bind (wpAny_pure ?_)))))
 show wpAny _ _ (match Builtin.Slice.sliceAdjust lo hi 1 (n:Int)with|(lo,hi)=>pure (lo,(1:Int),Builtin.Slice.slicePlaces lo hi 1)) _ _ s
 rw[z9e lo hi n]
 show wpAny _ _ (pure (((sIx n 0 lo:Nat):Int),(1:Int),Builtin.Slice.slicePlaces ((sIx n 0 lo:Nat):Int) ((sIx n n hi:Nat):Int) 1)) _ _ s
 rw[z8i]
 exact wpAny_pure h
theorem y5m(xs:Array Value)(i k:Nat):((List.range k).filterMap fun(m:Nat)=>xs[((i:Int)+(m:Int)*1).toNat]?).toArray=((xs.toList.drop i).take k).toArray:=by
 have e:(fun(m:Nat)=>xs[((i:Int)+(m:Int)*1).toNat]?)=fun m=>xs[i+m]?:=by
  funext m
  have:((i:Int)+(m:Int)*1).toNat=i+m:=by omega
  rw[this]
 rw[e]
 have:=pick_run xs i k
 rw[List.filterMap_map]at this
 have e2:((fun x=>xs[x]?)∘fun x=>i+x)=fun m=>xs[i+m]?:=rfl
 rw[e2]at this
 rw[this]
theorem getItem_tuple_cut{t sl:Addr}{items:Array Value}{vl vu:Value}{lo hi:Option Int}{Q:Value->Shared->Prop}(ht:IsTup s.heap t items)(hs:s.heap.IsSliceOf sl vl vu .none)(pl:IsPart vl lo)(pu:IsPart vu hi)
  (hw:¬(sIx items.size 0 lo=0/\sIx items.size items.size hi=items.size))
  (h:Q (.ref s.heap.objs.size) {s with heap:=s.heap.push {cls:=.type "tuple",data:=.seq ((items.toList.drop (sIx items.size 0 lo)).take (sIx items.size items.size hi-sIx items.size 0 lo)).toArray}})
  (hsz:items.size<=sizeLine):wpAny (model prog w) A (getItem (.ref t) (.ref sl)) Q E s:=by
 have htake:sizeOk (.seq ((items.toList.drop (sIx items.size 0 lo)).take (sIx items.size items.size hi-sIx items.size 0 lo)).toArray):=by
  show((items.toList.drop (sIx items.size 0 lo)).take (sIx items.size items.size hi-sIx items.size 0 lo)).toArray.size<=sizeLine
  rw[List.size_toArray,List.length_take,List.length_drop,Array.length_toList]
  omega
 have hj:sIx items.size items.size hi<=items.size:=sIx_le _ _ (Nat.le_refl _) hi
 obtain⟨os,hos,hcs,hds⟩:=id hs
 have hTs:s.TypeIs (.ref sl) "slice" :=⟨os,hos,hcs⟩
 unfold getItem
 try with_reducible refine wpAny_holding ?_
 first|refine wpAny_bind (wpAny_pure ?_)|skip
 refine wpAny_bind (wpAny_sequenceKey ht.typeIs (by decide) ?_)
 refine wpAny_bind (wpAny_callSpecial?_slot (name:=Str.ofString "__getitem__") ht.typeIs PyProof.Rows.slot_tuple_getitem
  (wpAny_call_entry PyProof.Rows.slot_tuple_getitem ht.typeIs entry_tuple_getitem ?_ (args_tuple_getitem _ _)))
 show wpAny _ _ (Builtin.Tuple.tupleItemsOf (.ref t) >>= _) _ _ s
 refine wpAny_bind (tupleItemsOf_ ht ?_)
 refine wpAny_bind (wpAny_typeOf hTs ?_)
 rw[if_pos (by decide)]
 refine wpAny_bind (q8p hs pl pu ?_)
 have hno:¬((((sIx items.size 0 lo:Nat):Int)==0&&(1:Int)==1&&(sIx items.size items.size hi-sIx items.size 0 lo)==items.size)=true):=by
  intro q
  rw[Bool.and_eq_true,Bool.and_eq_true]at q
  have q1:((sIx items.size 0 lo:Nat):Int)=0:=eq_of_beq q.1.1
  have q2:sIx items.size items.size hi-sIx items.size 0 lo=items.size:=eq_of_beq q.2
  exact hw ⟨by omega,by omega⟩
 show wpAny _ _ (if(((sIx items.size 0 lo:Nat):Int)==0&&(1:Int)==1&&(sIx items.size items.size hi-sIx items.size 0 lo)==items.size)=true then _ else _) _ _ s
 rw[if_neg hno,y5m]
 first
  |exact wpAny_bind (m:=Builtin.Tuple.tupleExact _) (wpAny_newObj_type (wpAny_pure ⟨_,rfl,wpAny_pure h⟩) htake)
  |exact wpAny_bind (m:=Builtin.Tuple.tupleExact _) (wpAny_newObj_type (wpAny_bind (wpAny_pure (wpAny_pure ⟨_,rfl,wpAny_pure h⟩))) htake)
  |exact wpAny_bind (wpAny_bind (m:=Builtin.Tuple.tupleExact _) (wpAny_newObj_type (wpAny_pure (wpAny_pure ⟨_,rfl,wpAny_pure h⟩)) htake))
  |exact wpAny_bind (wpAny_bind (m:=Builtin.Tuple.tupleExact _) (wpAny_newObj_type (wpAny_pure ⟨_,rfl,wpAny_pure h⟩) htake))
end
end HT
namespace L2
open PySem PySem.Spec PyProof.Rows
abbrev TO:=St->Hp->(Option Int->Hp->Prop)->Prop
def PO(X:Cx)(e:Option Expr)(t:TO):Prop:=
 ∀(pins:List (Addr×Obj))(s:Shared)(σ:St)(H:Hp)(Q:Option Int->Hp->Prop),Inv X pins σ H s->t σ H Q->
  wpAny (model X.prog X.w) X.A (evalPart e X.env) (fun u s'=>∃o H',Inv X pins σ H' s'/\IsPart u o/\Q o H') X.xe s
def y9p:TO:=fun _ H Q=>Q none H
def x8u(t:TE):TO:=fun σ H Q=>t σ H fun x H1=>∃i,x=.int i/\Q (some i) H1
theorem q8i{ns:List Int}:∀{us:List Value},Vals (ns.map V.int) us->IntsAre us ns:=by
 induction ns with
 |nil=>intro us r;rw[List.map_nil]at r;cases r;exact .nil
 |cons n ns ih=>
  intro us r
  rw[List.map_cons]at r
  cases r with
  |cons r1 r2=>
   obtain⟨t,e⟩:=r1
   subst e
   exact .cons n t (ih r2)
section
variable{X:Cx}{e:Expr}{te:TE}{lo hi:Option Expr}{tl th:TO}{pos p2:Pos}
theorem x0s:PO X none y9p:=by
 intro pins s σ H Q I h
 rw[evalPart_none]
 exact wpAny_pure ⟨none,H,I,.none,h⟩
theorem x0r(h:PE X e te):PO X (some e) (x8u te):=by
 intro pins s σ H Q I hw
 rw[evalPart_some]
 refine thn (h pins s σ H _ I hw) fun u s1 hh1=>?_
 obtain⟨x,H1,I1,r1,q1⟩:=hh1
 obtain⟨i,rfl,q⟩:=q1
 obtain⟨t,rfl⟩:=r1
 exact⟨some i,H1,I1,.int i t,q⟩
def SlR(X:Cx)(r:V->Option Int->Option Int->Hp->VK->Prop):Prop:=
 ∀(pins:List (Addr×Obj))(s:Shared)(σ:St)(H:Hp)(x:V)(v vl vu:Value)(lo hi:Option Int)(sl:Addr)(Q:VK),Inv X pins σ H s->RelV x v->s.heap.IsSliceOf sl vl vu .none->IsPart vl lo->IsPart vu hi->r x lo hi H Q->
  ∃T id,typeLookup (.type T) "__getitem__" = pure (some (.builtin id))/\s.TypeIs v T/\wpAny (model X.prog X.w) X.A (getItem v (.ref sl)) (EP X pins σ Q) X.xe s
def tSl(r:V->Option Int->Option Int->Hp->VK->Prop)(te:TE)(tl th:TO):TE:=fun σ H Q=>te σ H fun x H1=>tl σ H1 fun l H2=>th σ H2 fun u H3=>r x l u H3 Q
theorem y5o{r:V->Option Int->Option Int->Hp->VK->Prop}(hr:SlR X r)(he:PE X e te)(hl:PO X lo tl)(hu:PO X hi th):PE X (.Subscript e (.Slice lo hi none p2) pos) (tSl r te tl th):=by
 intro pins s σ H Q I h
 refine Subscript_ (thn (he pins s σ H _ I h) fun v s1 hh1=>?_)
 obtain⟨x,H1,I1,r1,q1⟩:=hh1
 refine wpAny_Slice (thn (hl pins s1 σ H1 _ I1 q1) fun vl s2 ⟨l,H2,I2,pl,q2⟩=>thn (hu pins s2 σ H2 _ I2 q2) fun vu s3 hh2=>?_)
 obtain⟨u,H3,I3,pu,q3⟩:=hh2
 rw[evalPart_none]
 refine wpAny_pure ?_
 have I4:Inv X pins σ H3 {s3 with heap:=s3.heap.push {cls:=.type "slice",data:=.fields #[vl,vu,.none]}}:=I3.kept (t':=s3.toks) fun b ob q=>Heap.get?_push_of_some _ q
 obtain⟨T,id,hT,ht,hg⟩:=hr pins {s3 with heap:=s3.heap.push {cls:=.type "slice",data:=.fields #[vl,vu,.none]}} σ H3 x v vl vu l u s3.heap.objs.size Q I4 r1 (Heap.IsSliceOf.new ..) pl pu q3
 show wpAny (model X.prog X.w) X.A (subscriptTail e (.Slice lo hi none p2) v (.ref s3.heap.objs.size)) (EP X pins σ Q) X.xe {s3 with heap:=s3.heap.push {cls:=.type "slice",data:=.fields #[vl,vu,.none]}}
 exact tail_any (ops:=[.ref s3.heap.objs.size,v]) ht hT hg (by with_unfolding_all rfl)
def cutV(xs:List V)(lo hi:Option Int):List V:=(xs.drop (HT.sIx xs.length 0 lo)).take (HT.sIx xs.length xs.length hi-HT.sIx xs.length 0 lo)
theorem z0f(xs:List V)(lo hi:Option Int):(cutV xs lo hi).length<=xs.length:=by
 unfold cutV
 rw[List.length_take,List.length_drop]
 omega
def rSlT(K:Frag):V->Option Int->Option Int->Hp->VK->Prop:=fun x lo hi H Q=>∃a xs,x=.ref a/\SqT K H a xs/\
 ¬(HT.sIx xs.length 0 lo=0/\HT.sIx xs.length xs.length hi=xs.length)/\∀p,H p=none->Q (.ref p) (upd H p (.tup (cutV xs lo hi)))
theorem x3z:SlR X (rSlT X.K):=by
 intro pins s σ H x v vl vu lo hi sl Q I rx hs pl pu h
 obtain⟨a,xs,rfl,hx,hw,q⟩:=h
 cases rx
 obtain⟨its,r,ht,hz⟩:=I.tuple hx
 have hlen:its.toArray.size=xs.length:=by rw[List.size_toArray];exact r.length.symm
 refine⟨"tuple",_,PyProof.Rows.slot_tuple_getitem.lookup,ht.typeIs,?_⟩
 refine HT.getItem_tuple_cut ht hs pl pu (by rw[hlen];exact hw) ?_ (by rw[hlen];exact hz)
 rw[hlen]
 refine⟨.ref s.heap.objs.size,_,I.laid (t':=s.toks) (o:=.tup (cutV xs lo hi)) (fun b ob q=>Heap.get?_push_of_some _ q) (Nat.le_refl _) ?_,rfl,q _ (I.hok.fresh (Nat.le_refl _))⟩
 exact⟨Nat.le_trans (z0f xs lo hi) hz,_,(r.drop (HT.sIx xs.length 0 lo)).take (HT.sIx xs.length xs.length hi-HT.sIx xs.length 0 lo),IsTup.new _ _⟩
def x4m(K:Frag):R2:=fun x y H Q=>∃a b xs ys,x=.ref a/\y=.ref b/\SqT K H a xs/\SqT K H b ys/\xs≠[]/\xs.length+ys.length<=sizeLine/\
 (ys=[]->Q (.ref a) H)/\(ys≠[]->∀p,H p=none->Q (.ref p) (upd H p (.tup (xs++ys))))
theorem Vals.nil_iff{xs:List V}{us:List Value}(r:Vals xs us):us=[]↔xs=[]:=by
 cases r with
 |nil=>simp
 |cons _ _=>simp
theorem x1d:OpR X (binaryOp .Add) (x4m X.K):=by
 intro pins s σ H x y v u Q I rx ry h
 obtain⟨a,b,xs,ys,rfl,rfl,ha,hb,hx,hz,q1,q2⟩:=h
 cases rx
 cases ry
 obtain⟨its,r1,p1,_⟩:=I.tuple ha
 obtain⟨its2,r2,p2,_⟩:=I.tuple hb
 refine HT.cat_tup p1 p2 (fun z=>hx (r1.nil_iff.mp z)) (fun z=>⟨.ref a,H,I,rfl,q1 (r2.nil_iff.mp z)⟩) (fun z=>?_) (by rw[<-r1.length,<-r2.length];exact hz)
 refine⟨.ref s.heap.objs.size,_,I.laid (t':=s.toks) (o:=.tup (xs++ys)) (fun b ob q=>Heap.get?_push_of_some _ q) (Nat.le_refl _) ?_,rfl,q2 (fun w=>z (r2.nil_iff.mpr w)) _ (I.hok.fresh (Nat.le_refl _))⟩
 exact⟨by rw[List.length_append];exact hz,_,r1.append r2,IsTup.new _ _⟩
end
def ixN(n:Nat)(i:Int):Option Nat:=if 0<=i then(if i<n then some i.toNat else none)else if -(n:Int)<=i then some (i+n).toNat else none
def atI{α:Type}(xs:List α)(i:Int):Option α:=(ixN xs.length i).bind fun j=>xs[j]?
theorem z5n{n:Nat}{i:Int}{j:Nat}(h:ixN n i=some j):seqIndex? i n=some j/\j<n/\-(n:Int)<=i/\i<n:=by
 unfold ixN at h
 by_cases h0:0<=i
 ·rw[if_pos h0]at h
  by_cases h1:i<n
  ·rw[if_pos h1]at h
   have e:i.toNat=j:=Option.some.inj h
   exact⟨by rw[seqIndex_of h0 h1,e],by omega,by omega,h1⟩
  ·rw[if_neg h1]at h;cases h
 ·rw[if_neg h0]at h
  by_cases h1:-(n:Int)<=i
  ·rw[if_pos h1]at h
   have e:(i+n).toNat=j:=Option.some.inj h
   exact⟨by rw[seqIndex_neg (by omega) h1,e],by omega,h1,by omega⟩
  ·rw[if_neg h1]at h;cases h
theorem z6d{α:Type}{xs:List α}{i:Int}{v:α}(h:atI xs i=some v):∃j,seqIndex? i xs.length=some j/\xs[j]?=some v/\j<xs.length/\-(xs.length:Int)<=i/\i<xs.length:=by
 unfold atI at h
 cases e:ixN xs.length i with
 |none=>rw[e]at h;cases h
 |some j=>
  rw[e]at h
  obtain⟨h1,h2,h3,h4⟩:=z5n e
  exact⟨j,h1,h,h2,h3,h4⟩
theorem x3b{α:Type}{xs:List α}{j:Nat}{v:α}(h:xs[j]?=some v):atI xs (j:Int)=some v:=by
 have hj:j<xs.length:=(List.getElem?_eq_some_iff.mp h).1
 have e:ixN xs.length (j:Int)=some j:=by
  unfold ixN
  rw[if_pos (by omega),if_pos (by omega)];simp
 unfold atI;rw[e];exact h
def z6f(b:Expr):Prop:=∀o i,subscripted b false o i=operate [o,i] (getItem o i)
def IxR(X:Cx)(r:R2):Prop:=
 ∀(value slice:Expr)(pins:List (Addr×Obj))(s:Shared)(σ:St)(H:Hp)(x y:V)(v u:Value)(Q:VK),Inv X pins σ H s->RelV x v->RelV y u->r x y H Q->
  subscripted slice false v u=operate [v,u] (getItem v u)->wpAny (model X.prog X.w) X.A (subscriptTail value slice v u) (EP X pins σ Q) X.xe s
def MtR(X:Cx)(id:String)(r:V->List V->Hp->VK->Prop):Prop:=
 ∀(pins:List (Addr×Obj))(s:Shared)(σ:St)(H:Hp)(x:V)(xs:List V)(v:Value)(us:List Value)(Q:VK),Inv X pins σ H s->RelV x v->Vals xs us->r x xs H Q->
  wpAny (model X.prog X.w) X.A (call (.builtin id) (v::us)) (EP X pins σ Q) X.xe s
section
variable{X:Cx}{a b:Expr}{ta tb:TE}{pos:Pos}
theorem x5k{r:R2}(hr:IxR X r)(ha:PE X a ta)(hb:PE X b tb)(hs:z6f b):PE X (.Subscript a b pos) (tOp r ta tb):=by
 intro pins s σ H Q I h
 exact Subscript_ (binT ha hb I h fun v u s2 x y H2 I2 rx ry q=>hr a b pins s2 σ H2 x y v u Q I2 rx ry q (hs _ _))
def rIxL(K:Frag):R2:=fun x y H Q=>∃p xs i v,x=.ref p/\y=.int i/\SqL K H p xs/\atI xs i=some v/\Q v H
def rIxT(K:Frag):R2:=fun x y H Q=>∃p xs i v,x=.ref p/\y=.int i/\SqT K H p xs/\atI xs i=some v/\Q v H
def rIxS:R2:=fun x y H Q=>∃z i c,x=.str z/\y=.int i/\z.length<=sizeLine/\atI z.cps.toList i=some c/\Q (.str ⟨#[c]⟩) H
theorem y2b:IxR X (rIxL X.K):=by
 intro value slice pins s σ H x y v u Q I rx ry h hs
 obtain⟨p,xs,i,z,rfl,rfl,hq,he,q⟩:=h
 cases rx
 obtain⟨t,rfl⟩:=ry
 obtain⟨its,r,pl,hz⟩:=I.list hq
 obtain⟨j,h1,h2,h3,h4,h5⟩:=z6d he
 obtain⟨w,ew,rw'⟩:=r.get h2
 have hl:=r.length
 have hn:=q9t
 have fin:EP X pins σ Q w s:=⟨z,H,I,rw',q⟩
 by_cases h0:0<=i
 ·have hj:i.toNat=j:=by
   rw[seqIndex_of h0 h5]at h1
   exact Option.some.inj h1
  exact item_listR pl.isList h0 (by omega) (by rw[hj];simpa using ew) fin hs
 ·have hj:(i+(its.toArray.size:Int)).toNat=j:=by
   rw[seqIndex_neg (by omega) h4]at h1
   rw[List.size_toArray,<-hl]
   exact Option.some.inj h1
  exact subscriptTail_builtinR (x:=w) pl.isList.typeIs slot_list_getitem.lookup
   (wpAny_getItem_list_neg (Q:=fun r s'=>r=w/\EP X pins σ Q r s') pl.isList (by omega) (by rw[List.size_toArray]<;>omega) (by omega) (by rw[hj];simpa using ew) ⟨rfl,fin⟩) hs
theorem x7n:IxR X (rIxT X.K):=by
 intro value slice pins s σ H x y v u Q I rx ry h hs
 obtain⟨p,xs,i,z,rfl,rfl,hq,he,q⟩:=h
 cases rx
 obtain⟨t,rfl⟩:=ry
 obtain⟨its,r,pl,hz⟩:=I.tuple hq
 obtain⟨j,h1,h2,h3,h4,h5⟩:=z6d he
 obtain⟨w,ew,rw'⟩:=r.get h2
 have hl:=r.length
 have hn:=q9t
 have fin:EP X pins σ Q w s:=⟨z,H,I,rw',q⟩
 exact subscriptTail_builtinR (x:=w) pl.typeIs slot_tuple_getitem.lookup
  (getItem_tuple (j:=j) (Q:=fun r s'=>r=w/\EP X pins σ Q r s') pl (by omega) (by omega) (by rw[List.size_toArray,<-hl];exact h1) (by simpa using ew) ⟨rfl,fin⟩) hs
theorem x7o:IxR X rIxS:=by
 intro value slice pins s σ H x y v u Q I rx ry h hs
 obtain⟨z,i,c,rfl,rfl,hz,he,q⟩:=h
 obtain⟨t,rfl⟩:=rx
 obtain⟨t',rfl⟩:=ry
 obtain⟨j,h1,h2,h3,h4,h5⟩:=z6d he
 have hl:z.cps.toList.length=z.length:=by simp[Str.length]
 rw[hl]at h1 h4 h5
 have hn:=q9t
 exact tail_any (typeIs_str s z t) slot_str_getitem.lookup (getItem_str (c:=c) (by
  have e1:decide (i < -(2 ^ 63:Int))=false:=decide_eq_false (by omega)
  have e2:decide (i>=2 ^ 63)=false:=decide_eq_false (by omega)
  rw [e1,e2,Bool.or_false]) (by rw [h1];simpa using h2) ⟨.str ⟨#[c]⟩,H,I.tok _,⟨_,rfl⟩,q⟩) hs
theorem z8n(its:List Value)(n j:Nat)(u:Value):Obj.mapSeq (·.setIfInBounds j u) {cls:=.type "list",data:=.seq its.toArray n}={cls:=.type "list",data:=.seq (its.set j u).toArray n}:=by
 simp[Obj.mapSeq]
theorem Inv.lst{pins:List (Addr×Obj)}{σ:St}{H:Hp}{s:Shared}{p:Addr}{xs:List V}(I:Inv X pins σ H s)(h:H p=some (.lst xs)) :
  ∃(its:List Value)(n:Nat),Vals xs its/\s.heap.get? p=some {cls:=.type "list",data:=.seq its.toArray n}/\xs.length<=sizeLine:=by
 obtain⟨z,its,n,r,e⟩:=I.hok p _ h
 exact⟨its,n,r,e,z⟩
theorem Inv.lstUpd{pins:List (Addr×Obj)}{σ:St}{H:Hp}{s:Shared}{p:Addr}{xs ys:List V}{its its':List Value}{n n':Nat}{f:Obj->Obj}(I:Inv X pins σ H s)(h:H p=some (.lst xs))
  (ho:s.heap.get? p=some {cls:=.type "list",data:=.seq its.toArray n}) (hf:f {cls:=.type "list",data:=.seq its.toArray n}={cls:=.type "list",data:=.seq its'.toArray n' }) (r:Vals ys its') (hz:ys.length<=sizeLine) (t:Nat) :
  Inv X pins σ (upd H p (.lst ys)) {s with heap:=s.heap.update p f,toks:=t}:=by
 have e:(s.heap.update p f).get? p=some {cls:=.type "list",data:=.seq its'.toArray n' }:=by
  rw[Heap.get?_update_self f ho (by rw[hf]<;>rfl),hf]
 refine I.write (x:=p) (e:=p) (by rw[h];trivial) (.inl rfl) (fun b u hb q=>(Heap.get?_update_other _ _ (Ne.symm hb)).trans q) ⟨_,e⟩ ?_
 exact⟨hz,its',n',r,e⟩
def x9h:V->V->V->Hp->(Hp->Prop)->Prop:=fun o i v H Q=>∃p xs k j,o=.ref p/\i=.int k/\H p=some (.lst xs)/\ixN xs.length k=some j/\Q (upd H p (.lst (xs.set j v)))
theorem y4y:PSet X x9h:=by
 intro pins s σ H o i v ov iv u Q I ro ri rv h
 obtain⟨p,xs,k,j,rfl,rfl,hp,hj,q⟩:=h
 cases ro
 obtain⟨t,rfl⟩:=ri
 obtain⟨its,n,r,ho,hz⟩:=I.lst hp
 obtain⟨h1,h2,h3,h4⟩:=z5n hj
 have hl:=r.length
 have hn:=q9t
 have I':Inv X pins σ (upd H p (.lst (xs.set j v))) {s with heap:=s.heap.update p (Obj.mapSeq (·.setIfInBounds j u))}:=
  I.lstUpd hp ho (z8n its n j u) (r.set rv j) (by rw[List.length_set];exact hz) s.toks
 by_cases h0:0<=k
 ·have hk:k.toNat=j:=by
   rw[seqIndex_of h0 h4]at h1
   exact Option.some.inj h1
  exact PySem.W.ki_setAt ho h0 (by omega) (by rw[List.size_toArray,<-hl];exact h4) (by rw[hk];exact⟨_,I',q⟩)
 ·have hk:(k+(its.toArray.size:Int)).toNat=j:=by
   rw[seqIndex_neg (by omega) h3]at h1
   rw[List.size_toArray,<-hl]
   exact Option.some.inj h1
  exact PySem.W.ki_setBack ho (by omega) (by rw[List.size_toArray,<-hl];exact h3) (by omega) (by rw[hk];exact⟨_,I',q⟩)
theorem z2s(lo hi:Option Int)(n:Nat):(sliceBounds lo hi none n).1=((HT.sIx n 0 lo:Nat):Int)/\(sliceBounds lo hi none n).2.1=((HT.sIx n n hi:Nat):Int)/\(sliceBounds lo hi none n).2.2=1:=by
 refine⟨?_,?_,rfl⟩
 ·cases lo with
  |none=>simp[sliceBounds,HT.sIx]
  |some i=>
   simp only[sliceBounds,HT.sIx,Option.getD_none,show(1:Int) > 0 by decide,if_true]
   by_cases h:i<0
   ·simp only[h,if_true]<;>omega
   ·simp only[h,if_false]<;>omega
 ·cases hi with
  |none=>simp[sliceBounds,HT.sIx]
  |some i=>
   simp only[sliceBounds,HT.sIx,Option.getD_none,show(1:Int) > 0 by decide,if_true]
   by_cases h:i<0
   ·simp only[h,if_true]<;>omega
   ·simp only[h,if_false]<;>omega
theorem z1p(its:List Value)(lo hi:Option Int):slicePick its.toArray lo hi none=((its.drop (HT.sIx its.length 0 lo)).take (HT.sIx its.length its.length hi-HT.sIx its.length 0 lo)).toArray:=by
 obtain⟨h1,h2,h3⟩:=z2s lo hi its.toArray.size
 unfold slicePick
 rw[h1,h2,h3]
 simp only[sliceRange_one,pick_run,List.size_toArray]<;>rfl
def rSlL(K:Frag):V->Option Int->Option Int->Hp->VK->Prop:=fun x lo hi H Q=>∃a xs,x=.ref a/\SqL K H a xs/\∀p,H p=none->Q (.ref p) (upd H p (.lst (cutV xs lo hi)))
theorem z9x:SlR X (rSlL X.K):=by
 intro pins s σ H x v vl vu lo hi sl Q I rx hs pl pu h
 obtain⟨a,xs,rfl,hx,q⟩:=h
 cases rx
 obtain⟨its,r,ht,hz⟩:=I.list hx
 have hlen:=r.length
 refine⟨"list",_,slot_list_getitem.lookup,ht.isList.typeIs,?_⟩
 refine wpAny_getItem_list_slice ht.isList hs pl pu .none (by simp) ?_ (by rw[List.size_toArray]<;>omega)
 rw[z1p,<-hlen]
 refine⟨.ref s.heap.objs.size,_,I.laid (t':=s.toks) (o:=.lst (cutV xs lo hi)) (fun b ob q=>Heap.get?_push_of_some _ q) (Nat.le_refl _) ?_,rfl,q _ (I.hok.fresh (Nat.le_refl _))⟩
 exact⟨Nat.le_trans (z0f xs lo hi) hz,_,0,(r.drop (HT.sIx xs.length 0 lo)).take (HT.sIx xs.length xs.length hi-HT.sIx xs.length 0 lo),Heap.get?_push_size _ rfl⟩
theorem z3a:OpR X (compareOp .NotIn) (fun x y H Q=>∃i j,x=.str i/\y=.str j/\Q (.bl (!(!(Builtin.Str.occurrences j i 0 j.length 1).isEmpty))) H):=by
 intro pins s σ H x y v u Q I rx ry h
 obtain⟨i,j,rfl,rfl,q⟩:=h
 obtain⟨t,rfl⟩:=rx
 obtain⟨t',rfl⟩:=ry
 exact notIn_str ⟨.bl _,H,I,rfl,q⟩
theorem q6u:q7b X (.builtin "len") (fun xs H Q=>∃p ys,xs=[.ref p]/\(SqL X.K H p ys\/SqT X.K H p ys)/\Q (.int ys.length) H):=by
 intro pins s σ H xs us Q I r h
 obtain⟨p,ys,rfl,hq,q⟩:=h
 obtain⟨u,rfl,rx⟩:=z7y r
 cases rx
 have hn:=q9t
 rcases hq with hq|hq
 ·obtain⟨its,r',pl,hz⟩:=I.list hq
  have hlen:=r'.length
  exact Calls.call_len_list pl.isList (by simp only[List.size_toArray]<;>omega) ⟨.int ys.length,H,I.tok _,⟨s.toks+1,by rw[List.size_toArray,hlen]⟩,q⟩
 ·obtain⟨its,r',pl,hz⟩:=I.tuple hq
  have hlen:=r'.length
  exact len_tuple pl (by simp only[List.size_toArray]<;>omega) ⟨.int ys.length,H,I.tok _,⟨s.toks+1,by rw[List.size_toArray,hlen]⟩,q⟩
theorem z4f:q7b X (.builtin "len") (fun xs H Q=>∃z,xs=[.str z]/\z.length<=sizeLine/\Q (.int z.length) H):=by
 intro pins s σ H xs us Q I r h
 obtain⟨z,rfl,hz,q⟩:=h
 obtain⟨u,rfl,t,rfl⟩:=z7y r
 have hn:=q9t
 exact len_str (by omega) ⟨.int z.length,H,I.tok _,⟨_,rfl⟩,q⟩
theorem q7y:q7b X (.type "tuple") (fun xs H Q=>∃p ys,xs=[.ref p]/\((SqL X.K H p ys/\∀l,H l=none->Q (.ref l) (upd H l (.tup ys)))\/(SqT X.K H p ys/\Q (.ref p) H))):=by
 intro pins s σ H xs us Q I r h
 obtain⟨p,ys,rfl,h⟩:=h
 obtain⟨u,rfl,rx⟩:=z7y r
 cases rx
 rcases h with⟨hq,q⟩|⟨hq,q⟩
 ·obtain⟨its,r',pl,hz⟩:=I.list hq
  have hlen:=r'.length
  refine call_tuple_list pl.isList (fun h' kp=>?_) (by simp only[List.size_toArray]<;>omega)
  have I1:Inv X pins σ H {s with heap:=h' }:=I.kept (t':=s.toks) kp
  have I2:Inv X pins σ (upd H h'.objs.size (.tup ys)) {s with heap:=h'.push {cls:=.type "tuple",data:=.seq its.toArray}}:=
   I1.laid (t':=s.toks) (fun b o e=>Heap.get?_push_of_some _ e) (Nat.le_refl _) (show q2q X.prog X.w _ _ _ (.tup ys)from⟨hz,its,r',IsTup.new _ _⟩)
  exact⟨.ref h'.objs.size,_,I2,rfl,q _ (I1.hok.fresh (Nat.le_refl _))⟩
 ·obtain⟨its,r',pl,hz⟩:=I.tuple hq
  exact call_tuple_same pl ⟨.ref p,H,I,rfl,q⟩
def tyV(K:Frag)(T:String)(x:V)(H:Hp):Prop:=match x with
 |.str _=>T = "str"
 |.int _=>T = "int"
 |.ref p=>(T = "list" /\∃xs,SqL K H p xs)\/(T = "tuple" /\∃o,K.lookup p=some o/\o.cls=.type "tuple" /\o.dict=none)\/
   (T = "dict" /\((∃kvs,H p=some (.dK kvs))\/∃kvs,H p=some (.dT kvs)))\/(T = "set" /\∃S n,H p=some (.set S n))
 |_=>False
theorem y7z{pins:List (Addr×Obj)}{σ:St}{H:Hp}{s:Shared}{T:String}{x:V}{v:Value}(I:Inv X pins σ H s)(r:RelV x v)(ty:tyV X.K T x H) :
  s.TypeIs v T/\∀a,v=.ref a->∃ob,s.heap.get? a=some ob/\ob.dict=none:=by
 cases x with
 |str z=>
  obtain⟨t,rfl⟩:=r
  cases(show T = "str" from ty)
  exact⟨typeIs_str s z t,fun _ e=>nomatch e⟩
 |int i=>
  obtain⟨t,rfl⟩:=r
  cases(show T = "int" from ty)
  exact⟨typeIs_int s i t,fun _ e=>nomatch e⟩
 |ref p=>
  cases r
  rcases ty with⟨rfl,xs,hq⟩|⟨rfl,o,hk,hc,hd⟩|⟨rfl,hk⟩|⟨rfl,S,n,hk⟩
  ·obtain⟨its,_,pl,_⟩:=I.list hq
   refine⟨pl.isList.typeIs,fun a e=>?_⟩
   cases e
   obtain⟨o,n,e,c,hd,_⟩:=pl
   exact⟨o,e,hd⟩
  ·refine⟨⟨o,I.kIn p o hk,hc⟩,fun a e=>?_⟩
   cases e
   exact⟨o,I.kIn _ o hk,hd⟩
  ·have z:∃o,s.heap.get? p=some o/\o.ExactDict:=by
    rcases hk with⟨kvs,hk⟩|⟨kvs,hk⟩
    ·obtain⟨_,_,_,_,o,_,_,e,ex,_⟩:=I.hok p _ hk
     exact⟨o,e,ex⟩
    ·obtain⟨_,_,_,_,o,_,_,e,ex,_⟩:=I.hok p _ hk
     exact⟨o,e,ex⟩
   obtain⟨o,e,ex⟩:=z
   refine⟨⟨o,e,ex.1⟩,fun a e2=>?_⟩
   cases e2
   exact⟨o,e,ex.2.1⟩
  ·obtain⟨o,_,_,_,e,ex,_⟩:=I.hok p _ hk
   refine⟨⟨o,e,ex.1⟩,fun a e2=>?_⟩
   cases e2
   exact⟨o,e,ex.2.1⟩
 |_=>exact False.elim ty
def tBM0(K:Frag)(T:String)(r:V->List V->Hp->VK->Prop)(to:TE):TE:=fun σ H Q=>to σ H fun x H1=>tyV K T x H1/\r x [] H1 Q
def tBM(K:Frag)(T:String)(r:V->List V->Hp->VK->Prop)(to:TE)(t:TA):TE:=fun σ H Q=>to σ H fun x H1=>tyV K T x H1/\t σ H1 fun xs H2=>r x xs H2 Q
variable{o e:Expr}{es:List Expr}{to:TE}{t:TA}{name:Str}{apos cpos:Pos}{T id:String}{r:V->List V->Hp->VK->Prop}
theorem x5n(pa:PlainAttrs T)(slot:Slot T name id)(hty:typeOf (.builtin id)=pure (.type "method_descriptor"))(hm:MtR X id r)(ho:PE X o to)
  (hbase:attributeBase o name X.env (eval o X.env)=eval o X.env:=by rfl) (hline:(apos.endLine==cpos.line)=true:=by rfl):PE X (.Call (.Attribute o name apos) [] [] cpos) (tBM0 X.K T r to):=by
 intro pins s σ H Q I h
 refine wpAny_Call_method0_late hbase hline (thn (ho pins s σ H _ I h) fun v s1 hh1=>?_)
 obtain⟨x,H1,I1,r1,ty,q1⟩:=hh1
 obtain⟨h1,h2⟩:=y7z I1 r1 ty
 exact⟨T,id,pa,slot,hty,h1,h2,Calls.callWith_builtin rfl (PySem.evalArgs_none (hm pins s1 σ H1 x [] v [] Q I1 r1 .nil q1))⟩
theorem x9m(pa:PlainAttrs T)(slot:Slot T name id)(hty:typeOf (.builtin id)=pure (.type "method_descriptor"))(hm:MtR X id r)(ho:PE X o to)(ha:PA X (e::es) t)
  (hbase:attributeBase o name X.env (eval o X.env)=eval o X.env:=by rfl)
  (hfew:((backTo cpos (starEach (e::es) X.env)).all (fun x=>!x.1)&&(backToKw cpos (keywordEach [] X.env)).all (fun x=>x.1.isSome)
   && decide ((e::es).length+([]:List Keyword).length+(if ([]:List Keyword).isEmpty then 0 else 1)<30))=true:=by rfl)
  (hline:(apos.endLine==cpos.line)=true:=by rfl) (hs:starEach (e::es) X.env=(false,eval e X.env)::starEach es X.env:=by rfl) (hplain:(backTo cpos (starEach es X.env)).any (·.1)=false:=by rfl) :
  PE X (.Call (.Attribute o name apos) (e::es) [] cpos) (tBM X.K T r to t):=by
 intro pins s σ H Q I h
 refine wpAny_Call_method_late hbase hfew hline rfl (thn (ho pins s σ H _ I h) fun v s1 hh1=>?_)
 obtain⟨x,H1,I1,r1,ty,q1⟩:=hh1
 obtain⟨h1,h2⟩:=y7z I1 r1 ty
 refine⟨T,id,pa,slot,hty,h1,h2,?_⟩
 have hA:=ha cpos pins s1 σ H1 _ I1 q1
 rw[hs]at hA ⊢
 refine Calls.callWith_builtin (by show(false||(backTo cpos (starEach es X.env)).any (·.1))=false;rw[hplain]<;>rfl) (Calls.evalArgs_plain ?_)
 exact thn hA fun us s2 hh2=>by obtain⟨vs,H2,I2,r2,q2⟩:=hh2;exact(hm pins s2 σ H2 x vs v us Q I2 r1 r2 q2)
/- xs.append(e),list.index on a module's tuple .. are MtR facts of 06m -/
end
def MtM(X:Cx)(id:String)(r:V->List V->Hp->VK->Prop):Prop:=
 ∀(pins:List (Addr×Obj))(s:Shared)(σ:St)(H:Hp)(x:V)(xs:List V)(v:Value)(us:List Value)(Q:VK),Inv X pins σ H s->RelV x v->Vals xs us->r x xs H Q->
  wpAny (model X.prog X.w) X.A (call (.builtin id) (v::us)) (EP X pins σ Q) X.xe s
theorem Vals.one:∀{x:V}{us:List Value},Vals [x] us->∃u,us=[u]/\RelV x u
 |_,_,.cons r .nil=>⟨_,rfl,r⟩
theorem Vals.zero:∀{us:List Value},Vals [] us->us=[]
 |_,.nil=>rfl
theorem Vals.dropLast{xs:List V}{us:List Value}(h:Vals xs us):Vals xs.dropLast us.dropLast:=by
 induction h with
 |nil=>exact .nil
 |cons r t ih=>
  cases t with
  |nil=>exact .nil
  |cons q t'=>exact .cons r ih
theorem Vals.eraseIdx:∀{xs:List V}{us:List Value}(i:Nat),Vals xs us->Vals (xs.eraseIdx i) (us.eraseIdx i)
 |_,_,_,.nil=>.nil
 |_,_,0,.cons _ t=>t
 |_,_,i+1,.cons r t=>.cons r (Vals.eraseIdx i t)
theorem Vals.reverse{xs:List V}{us:List Value}(h:Vals xs us):Vals xs.reverse us.reverse:=by
 induction h with
 |nil=>exact .nil
 |cons r t ih=>rw[List.reverse_cons,List.reverse_cons];exact Vals.append ih (.cons r .nil)
theorem Vals.rep{xs:List V}{us:List Value}(h:Vals xs us):∀k:Nat,Vals (List.replicate k xs).flatten (List.replicate k us).flatten
 |0=>.nil
 |k+1=>by
  rw[List.replicate_succ,List.replicate_succ,List.flatten_cons,List.flatten_cons]
  exact Vals.append h (Vals.rep h k)
theorem z8z{α:Type}(l:List α):l.eraseIdx (l.length-1)=l.dropLast:=by
 induction l with
 |nil=>rfl
 |cons a r ih=>
  cases r with
  |nil=>rfl
  |cons b r=>
   have e:(a::b::r).length-1=((b::r).length-1)+1:=by
    have h1:(a::b::r).length=r.length+2:=rfl
    have h2:(b::r).length=r.length+1:=rfl
    omega
   rw[e,List.eraseIdx_cons_succ,ih]
   all_goals rfl
theorem z3f{α:Type}:∀(l:List α)(i:Nat),(l.eraseIdx i).length<=l.length
 |[],_=>Nat.le_refl _
 |_::_,0=>Nat.le_succ _
 |_::r,i+1=>Nat.succ_le_succ (z3f r i)
theorem z3w(its:List Value):∀(k:Nat)(acc:List Value),
  List.foldl (fun x1 x2=>x1++x2) acc.toArray (List.replicate k its.toArray)=(acc++(List.replicate k its).flatten).toArray
 |0,acc=>by simp
 |k+1,acc=>by
  have e:acc.toArray++its.toArray=(acc++its).toArray:=by simp
  have e2:(acc++its)++(List.replicate k its).flatten=acc++(List.replicate (k+1) its).flatten:=by
   rw[List.replicate_succ,List.flatten_cons,List.append_assoc]
  rw[<-e2,<-z3w its k (acc++its),<-e,List.replicate_succ,List.foldl_cons]
section
variable{X:Cx}{pins:List (Addr×Obj)}{σ:St}{H:Hp}{s:Shared}{l b:Addr}{xs ys zs:List V}
theorem Inv.lset{its its':List Value}{n:Nat}{f:Array Value->Array Value}{t':Nat}(I:Inv X pins σ H s)(hH:H l=some (.lst xs))
  (e:s.heap.get? l=some {cls:=.type "list",data:=.seq its.toArray n}) (hf:f its.toArray=its'.toArray) (hv:Vals ys its') (hz:ys.length<=sizeLine) :
  Inv X pins σ (upd H l (.lst ys)) {s with heap:=s.heap.update l (Obj.mapSeq f),toks:=t' }:=by
 have q:=PySem.IsL.update e f
 rw[hf]at q
 refine I.write (x:=l) (e:=l) (by rw[hH];exact trivial) (.inl rfl) (fun b' u hb hu=>(Heap.get?_update_other s.heap (Obj.mapSeq f) (Ne.symm hb)).trans hu) ⟨_,q⟩ ?_
 exact⟨hz,its',_,hv,q⟩
theorem Inv.lnew{its:List Value}{t':Nat}(I:Inv X pins σ H s)(hv:Vals ys its)(hz:ys.length<=sizeLine) :
  Inv X pins σ (upd H s.heap.objs.size (.lst ys)) {s with heap:=s.heap.push {cls:=.type "list",data:=.seq its.toArray},toks:=t' }:=
 I.laid (fun _ _ q=>Heap.get?_push_of_some _ q) (Nat.le_refl _) ⟨hz,its,0,hv,Heap.get?_push_size _ rfl⟩
theorem Inv.fresh(I:Inv X pins σ H s):H s.heap.objs.size=none:=I.hok.fresh (Nat.le_refl _)
theorem Inv.lstM(I:Inv X pins σ H s)(hH:H l=some (.lst xs)):xs.length<=sizeLine/\∃(its:List Value)(n:Nat),Vals xs its/\xs.length=its.length/\s.heap.get? l=some {cls:=.type "list",data:=.seq its.toArray n}:=by
 obtain⟨z,its,n,r,e⟩:=I.hok l _ hH
 exact⟨z,its,n,r,r.length,e⟩
theorem z1w{n:Nat}(h:n<=sizeLine):Builtin.List.listTooLong n=false:=by
 unfold Builtin.List.listTooLong
 exact decide_eq_false (by omega)
end
section
variable{X:Cx}
def x0j:V->List V->Hp->VK->Prop:=fun x vs H Q=>∃l xs y,x=.ref l/\vs=[y]/\H l=some (.lst xs)/\xs.length<sizeLine/\Q .non (upd H l (.lst (xs++[y])))
theorem y1j:MtM X "list.append" x0j:=by
 intro pins s σ H x vs v us Q I rx rv h
 obtain⟨l,xs,y,rfl,rfl,hH,hz,q⟩:=h
 cases rx
 obtain⟨u,rfl,ru⟩:=rv.one
 obtain⟨z,its,n,r,hl,e⟩:=I.lstM hH
 refine call_meets F.slot_list_append ⟨_,e,rfl⟩ F.entry_list_append (F.args_list_append_2 _ _) (PySem.list_append l its.toArray n u (by rw[List.size_toArray];omega)) ⟨e,?_⟩
 refine⟨.non,_,I.lset (its':=its++[u]) hH e (by simp) (r.append (.cons ru .nil)) ?_,rfl,q⟩
 rw[List.length_append,List.length_singleton]
 omega
def x0i:V->List V->Hp->VK->Prop:=fun x vs H Q=>∃l b xs zs,x=.ref l/\vs=[.ref b]/\H l=some (.lst xs)/\H b=some (.lst zs)/\xs.length+zs.length<=sizeLine/\Q .non (upd H l (.lst (xs++zs)))
theorem y1i:MtM X "list.extend" x0i:=by
 intro pins s σ H x vs v us Q I rx rv h
 obtain⟨l,b,xs,zs,rfl,rfl,hH,hB,hz,q⟩:=h
 cases rx
 obtain⟨u,rfl,ru⟩:=rv.one
 cases ru
 obtain⟨z,its,n,r,hl,e⟩:=I.lstM hH
 obtain⟨z2,its2,n2,r2,hl2,e2⟩:=I.lstM hB
 have hsz:its.toArray.size+its2.toArray.size<=sizeLine:=by rw[List.size_toArray,List.size_toArray];omega
 have hlong:¬(!its.toArray.isEmpty&&Builtin.List.listTooLong (its.toArray.size+its2.toArray.size))=true:=by
  rw[z1w hsz,Bool.and_false]
  exact Bool.false_ne_true
 refine call_meets F.slot_list_extend ⟨_,e,rfl⟩ F.entry_list_extend (F.args_list_extend_2 _ _)
  (AutoSeq1.list_extend_list_list_0 l its.toArray n b its2.toArray n2 hlong (by rw[List.size_toArray];omega) (by omega)) ⟨e,e2,?_⟩
 refine⟨.non,_,I.lset (its':=its++its2) hH e (by simp) (r.append r2) ?_,rfl,q⟩
 rw[List.length_append]
 omega
def rPop:V->List V->Hp->VK->Prop:=fun x vs H Q=>∃l xs y,x=.ref l/\vs=[]/\H l=some (.lst xs)/\xs[xs.length-1]?=some y/\Q y (upd H l (.lst xs.dropLast))
theorem x6f:MtM X "list.pop" rPop:=by
 intro pins s σ H x vs v us Q I rx rv h
 obtain⟨l,xs,y,rfl,rfl,hH,hy,q⟩:=h
 cases rx
 have hus:=rv.zero
 subst hus
 obtain⟨z,its,n,r,hl,e⟩:=I.lstM hH
 obtain⟨u,hu,ru⟩:=r.get hy
 have hy':its.toArray[its.toArray.size-1]?=some u:=by
  show its.toArray[its.length-1]?=some u
  rw[<-Array.getElem?_toList,<-hl]
  exact hu
 refine call_meets F.slot_list_pop ⟨_,e,rfl⟩ F.entry_list_pop (F.args_list_pop_1 _) (MeetsSeq.list_pop_last l its.toArray n u hy' (by rw[List.size_toArray];omega)) ⟨e,?_⟩
 refine⟨y,_,I.lset (its':=its.dropLast) hH e ?_ r.dropLast ?_,ru,q⟩
 ·show its.toArray.eraseIdxIfInBounds (its.toArray.size-1)=its.dropLast.toArray
  rw[List.size_toArray,List.eraseIdxIfInBounds_toArray,z8z]
 ·rw[List.length_dropLast]
  omega
def x4l:V->List V->Hp->VK->Prop:=fun x vs H Q=>∃l xs i k y,x=.ref l/\vs=[.int i]/\H l=some (.lst xs)/\-(2 ^ 63)<=i/\i<2 ^ 63/\seqIndex? i xs.length=some k/\xs[k]?=some y/\Q y (upd H l (.lst (xs.eraseIdx k)))
theorem y6e:MtM X "list.pop" x4l:=by
 intro pins s σ H x vs v us Q I rx rv h
 obtain⟨l,xs,i,k,y,rfl,rfl,hH,h1,h2,hk,hy,q⟩:=h
 cases rx
 obtain⟨u,rfl,ru⟩:=rv.one
 obtain⟨t,rfl⟩:=ru
 obtain⟨z,its,n,r,hl,e⟩:=I.lstM hH
 obtain⟨w,hw,rw'⟩:=r.get hy
 refine call_meets F.slot_list_pop ⟨_,e,rfl⟩ F.entry_list_pop (F.args_list_pop_2 _ _)
  (MeetsSeq.list_pop_at l its.toArray n i t k w (fitsIndex_both h1 h2) (by rw[List.size_toArray,<-hl];exact hk) (by rw[<-Array.getElem?_toList];exact hw) (by rw[List.size_toArray];omega)) ⟨e,?_⟩
 refine⟨y,_,I.lset (its':=its.eraseIdx k) hH e ?_ (r.eraseIdx k) ?_,rw',q⟩
 ·show its.toArray.eraseIdxIfInBounds k=(its.eraseIdx k).toArray
  rw[List.eraseIdxIfInBounds_toArray]
 ·have:=z3f xs k
  omega
def rCat:R2:=fun x y H Q=>∃l b xs zs,x=.ref l/\y=.ref b/\H l=some (.lst xs)/\H b=some (.lst zs)/\xs.length+zs.length<=sizeLine/\∀p,H p=none->Q (.ref p) (upd H p (.lst (xs++zs)))
theorem x5y:OpR X (binaryOp .Add) rCat:=by
 intro pins s σ H x y v u Q I rx ry h
 obtain⟨l,b,xs,zs,rfl,rfl,hH,hB,hz,q⟩:=h
 cases rx
 cases ry
 obtain⟨z,its,n,r,hl,e⟩:=I.lstM hH
 obtain⟨z2,its2,n2,r2,hl2,e2⟩:=I.lstM hB
 refine PySem.P.add_list e e2 ?_ (by rw[List.size_toArray,List.size_toArray];omega)
 have ea:its.toArray++its2.toArray=(its++its2).toArray:=by simp
 rw[ea]
 exact⟨.ref _,_,I.lnew (t':=s.toks) (r.append r2) (by rw[List.length_append];omega),rfl,q _ I.fresh⟩
def rRep:R2:=fun x y H Q=>∃l k xs,x=.ref l/\y=.int k/\H l=some (.lst xs)/\-(2 ^ 63)<=k/\k<2 ^ 63/\xs.length*k.toNat<=sizeLine/\
 ∀p,H p=none->Q (.ref p) (upd H p (.lst (List.replicate k.toNat xs).flatten))
theorem x1s{α:Type}(xs:List α)(k:Nat):(List.replicate k xs).flatten.length=k*xs.length:=by
 induction k with
 |zero=>simp
 |succ k ih=>rw[List.replicate_succ,List.flatten_cons,List.length_append,ih,Nat.succ_mul,Nat.add_comm]
theorem x5t:OpR X (binaryOp .Mult) rRep:=by
 intro pins s σ H x y v u Q I rx ry h
 obtain⟨l,k,xs,rfl,rfl,hH,h1,h2,hz,q⟩:=h
 cases rx
 obtain⟨t,rfl⟩:=ry
 obtain⟨z,its,n,r,hl,e⟩:=I.lstM hH
 have hlen:its.toArray.size*k.toNat<=sizeLine:=by rw[List.size_toArray,<-hl];exact hz
 have hcap:¬its.toArray.size*k.toNat > (2 ^ 63-1) / 8:=by
  have:(sizeLine:Nat)<=(2 ^ 63-1) / 8:=by decide
  omega
 have hfit:¬(!Builtin.List.listFitsIndex k)=true:=by
  rw[fitsIndex_both h1 h2]
  exact Bool.false_ne_true
 have hlong:¬Builtin.List.listTooLong (its.toArray.size*k.toNat)=true:=by
  rw[z1w hlen]
  exact Bool.false_ne_true
 have hnew:List.foldl (fun x1 x2=>x1++x2) #[] (List.replicate (if its.toArray.isEmpty=true then 0 else k.toNat) its.toArray)=(List.replicate k.toNat its).flatten.toArray:=by
  have f0:∀m:Nat,List.foldl (fun x1 x2=>x1++x2) #[] (List.replicate m its.toArray)=(List.replicate m its).flatten.toArray:=fun m=>by
   have:=z3w its m []
   rw[List.nil_append]at this
   exact this
  rw[f0]
  cases its with
  |nil=>simp
  |cons a r'=>rw[if_neg (by simp)]
 refine wpAny_binaryOp_repeat_ref (T:= "list") (U:= "int") (by decide) ⟨_,e,rfl⟩ (fun s'=>typeIs_int s' k t) noFill_list_mul F.fills_int_mul F.slot_int_rmul repeat_list F.slot_int_index.lookup
  (call_meets F.slot_int_rmul (typeIs_int s k t) F.entry_int_rmul (F.args_int_rmul_2 _ _) (int___rmul___int_list k t l its.toArray n)
   ⟨e,rfl,⟨_,e,rfl⟩,call_meets F.slot_list_mul ⟨_,e,rfl⟩ F.entry_list_mul (F.args_list_mul_2 _ _) (AutoListH.list___mul___list_int_3 l its.toArray n k t hfit hcap hlong) ⟨e,?_⟩⟩)
 rw[hnew]
 exact⟨.ref _,_,I.lnew (t':=s.toks) (r.rep k.toNat) (by rw[x1s,Nat.mul_comm];exact hz),rfl,q _ I.fresh⟩
end
section
variable{prog:Program}{w:World}{A:Around}{E:Value->Shared->Prop}{s:Shared}
end
section
variable{X:Cx}
end
end L2
namespace Att
open PySem PySem.W PySem.Calls PyProof.Rows
theorem q9y{P:Params}{h:Heap}:∀(ns:List Int)(vs:List Value),WellAll P h vs (ns.map WData.int)->IntsAre vs ns:=by
 intro ns
 induction ns with
 |nil=>
  intro vs w
  rw[List.map_nil]at w
  cases w
  exact .nil
 |cons n ns ih=>
  intro vs w
  rw[List.map_cons]at w
  cases w with
  |cons a b=>
   cases a
   exact .cons _ _ (ih _ b)
theorem y0e {l : OpenLaw} {n : Nat} (hn : l.most = some n) {P : Params} {h : Heap} {args : List WData} {vals : List Value}
  (hpre : l.row.toRowW.claim.pre args = true) (hwl : WellAll P h vals args) :
  ∃ a vs ns, vals = [Value.ref a] /\ args = [WData.list (ns.map WData.int)] /\ h.get? a = some { cls := .type "list", data := .seq vs.toArray } /\ IntsAre vs ns /\ ns.length <= n := by
 have hsh : WShape.hasAll [] args [.list .int] = true := (pre_splitW hpre).1
 have hc : l.pre.holds [] { args := args } = true := (pre_splitW hpre).2
 obtain ⟨d, r, rfl, h1, h2⟩ := hasAllW_cons hsh
 obtain rfl := hasAllW_nil h2
 obtain ⟨xs, rfl, h3⟩ := hasW_list h1
 obtain ⟨ns, rfl⟩ := items_int h3
 have hlen : ns.length <= n := by
  unfold OpenLaw.pre at hc
  have h4 : (WTm.not (.lt (.lit (.int (n : Int))) (.len (.arg 0)))).holds [] { args := [.list (ns.map .int)] } = true := by
   have h4 := (holds_andW hc).1
   rw [hn] at h4
   exact h4
  have h5 := condW_of h4 (w_not (w_lt w_lit (w_len_list (w_arg rfl))))
  rw [List.length_map] at h5
  refine Nat.le_of_not_lt fun q => ?_
  have q' : (n : Int) < ((ns.length : Nat) : Int) := by omega
  first
   | (rw [decide_eq_true q'] at h5; exact absurd h5 (by decide))
   | (simp at h5; omega)
 cases hwl with
 | cons w1 w2 =>
  cases w2
  cases w1 with
  | list ho hall => exact ⟨_, _, ns, rfl, rfl, ho, q9y ns _ hall, hlen⟩
theorem y0k(l:OpenLaw)(args:List WData):l.row.toRowW.claim.post args (.bool true) args=true:=
 postW_of (r:=l.row.toRowW) (X:=(true==true))
  (show WShape.has [] (.bool true) .bool=true by first|rfl|decide|simp[WShape.has,WShape.arms,WShape.armsAll])
  (show(WTm.eq .res (.lit (.bool true))).value [] {args:=args,res:=some (.bool true),after:=args}=some (.bool (true==true))from w_eq_bool (w_res rfl) w_lit) rfl
theorem attach_call{l:OpenLaw}{n:Nat}{q:Program}{loose:List Str}{XP:(Str->Option Value)->Heap->Prop}{YP:World->Heap->Prop}{d:DefRec}
  (hn:l.most=some n) (hdf:d.params.defaults=[])
  (call:∀(w:World)(s₀ s₁:Shared)(mg mb:Str->Option Value)(fa:Addr)(o:Obj)(pm cd doc:Value)(a:Addr)(vs:List Value)(ns:List Int),
   Ground q loose [] XP w s₀ mg mb s₁.heap->YP w s₁.heap->
   s₁.heap.get? fa=some o->o.data=.func (docDef d.name d.params d.body d.scope pm cd doc)->s₁.heap.CodeRec cd d.name->mg d.name=some (.ref fa)->
   s₁.heap.get? a=some {cls:=.type "list",data:=.seq vs.toArray}->IntsAre vs ns->ns.length<=n->s₁.gens=#[]->
   codeAny (model l.prog w) callerA (.call (.ref fa) ⟨[.ref a],[]⟩) (fun r s'=>r=.ok (.ret (.bool true))/\OldK s₁.heap s'.heap/\s'.os=s₁.os/\AllBare s'.gens) s₁) :
  WalkO q loose XP YP l.row.toRowW d [] (fun f vs=>PySem.call f vs):=by
 intro w s₀ s₁ mg mb G Y fa o pm cd doc dV kV ho hd hcd hD hmg hg args vals as hpre hlay hrd hwl hlo
 obtain rfl:dV=.none:=Dflts.none hD hdf
 obtain rfl:kV=.none:=Dflts.noKw hD
 obtain⟨a,vs,ns,rfl,rfl,hobj,hints,hlen⟩:=y0e hn hpre hwl
 refine enter_call (codeAny_mono (call w s₀ s₁ mg mb fa o pm cd doc a vs ns G Y ho (fd_plain hd) hcd hmg hobj hints hlen hg) fun r s' hq=>?_)
 obtain⟨rfl,h2,h3,h4⟩:=hq
 exact⟨.inl ⟨.bool true,.bool true,[],rfl,fun _=>rfl,.bool true,y0k l _,fun _=>⟨List.Pairwise.nil,fun _ hm=>(nomatch hm)⟩⟩,h2,h3,h4⟩
section
variable{prog:Program}{w:World}{A:Around}{E:Value->Shared->Prop}{s:Shared}{K:Frag}
end
end Att
namespace L2
open PySem PySem.Spec PyProof.Rows
theorem q7m:∀{vs:List Value}{ns:List Int},IntsAre vs ns->Vals (ns.map V.int) vs
 |_,_,.nil=>.nil
 |_,_,.cons n t h=>.cons ⟨t,rfl⟩ (q7m h)
def Only(H:Hp):Prop:=∀b,H b=none\/∃o xs,H b=some (.frz o (.lst xs))
theorem y6j{P:Program}{w:World}{K:Frag}{mg mb:Str->Option Value}{CX:CXT}{k:Nat}{fa a:Addr}{fd:FuncData}{x:Str}{sp:Sp}{s₁:Shared}{vs:List Value}{ns:List Int}
  (KX:K.In s₁.heap) (hns:s₁.heap.Ns mainGlobals mg) (hb:s₁.heap.Ns builtinsNs mb) (hbb:∀x:Str,x≠ "__name__" ->mb x=bootBuiltins x) (hlim:s₁.heap.NoLimit) (hg:s₁.gens=#[])
  (ha:s₁.heap.get? a=some {cls:=.type "list",data:=.seq vs.toArray}) (hi:IntsAre vs ns) (hl:ns.length<=sizeLine) (hr:Room k callerA)
  (F:∀base:Heap,K.In base->base.Ns mainGlobals mg->FnOk P w K mg base CX k fa fd [x] sp) (hbind:∀(s:Shared)(u:Value),BindsTo s fd ⟨[u],[]⟩ [(x,u)])
  (hsp:∀H:Hp,Only H->SqL K H a (ns.map V.int)->sp [.ref a] H (fun v _=>v=.bl true) fun _ _ _=>False)
  (hCX:∀H e s',CX [] H s₁ (fun _ _ _=>False) e s'->False) :
  codeAny (model P w) callerA (.call (.ref fa) ⟨[.ref a],[]⟩) (fun r s'=>r=.ok (.ret (.bool true))/\OldK s₁.heap s'.heap/\s'.os=s₁.os/\AllBare s'.gens) s₁:=by
 have rv:=q7m hi
 have lenV:=hi.length
 have core:∀H:Hp,Only H->SqL K H a (ns.map V.int)->HOk P w H s₁.heap->(∀b,H b≠none->b=a)->(H a≠none->K.lookup a=none)->
   codeAny (model P w) callerA (.call (.ref fa) ⟨[.ref a],[]⟩) (fun r s'=>r=.ok (.ret (.bool true))/\OldK s₁.heap s'.heap/\s'.os=s₁.os/\AllBare s'.gens) s₁:=by
  intro H hO hS hok hA hK
  have base_of:∀{b:Addr}{o:Obj},s₁.heap.get? b=some o->H b=none->(hidT s₁.heap H).get? b=some o:=fun e n=>y6r e n
  have noA:∀{b:Addr}{o:Obj}{es:Array DictEntry}{ep:Nat},s₁.heap.get? b=some o->o.data=.dict es ep->H b=none:=fun {b o es ep} e d=>by
   cases q:H b with
   |none=>rfl
   |some u=>
    have e':b=a:=hA b (by rw[q];simp)
    subst e'
    rw[ha]at e;cases e
    have d':Data.seq vs.toArray _=Data.dict es ep:=d
    cases d'
  have nsK:∀{b:Addr}{m:Str->Option Value},s₁.heap.Ns b m->(hidT s₁.heap H).Ns b m:=fun {b m} ⟨o,es,ep,e,d,r⟩=>⟨o,es,ep,base_of e (noA e d),d,r⟩
  have hKb:K.In (hidT s₁.heap H):=fun b o e=>base_of (KX b o e) (by
   cases q:H b with
   |none=>rfl
   |some u=>
    have e':b=a:=hA b (by rw [q];simp)
    subst e'
    rw [hK (by rw [q];simp)]at e;cases e)
  have hM:Mod K mg (hidT s₁.heap H):=⟨hKb,nsK hns,⟨mb,nsK hb,hbb⟩,let ⟨mc,h1,h2⟩:=hlim;⟨mc,nsK h1,h2⟩⟩
  have e0:Env0 P w K mg (hidT s₁.heap H) callerA [] s₁ H:=⟨rfl,hM,fun b o e=>x1g e,Nat.le_of_eq (y2e _ _),trivial,fun b hb=>absurd (show b∈([]:List Addr)from hb) (by simp),hok,.of_eq hg⟩
  refine codeAny_mono ((F _ hKb (nsK hns)).run callerA [] s₁ H ⟨[.ref a],[]⟩ [.ref a] [.ref a] _ _ hr e0 (hbind s₁ (.ref a)) (.cons rfl .nil) (hsp H hO hS)) fun r s' h=>?_
  cases r with
  |error e=>exact(hCX H e s' h).elim
  |ok fl=>
   cases fl with
   |next=>exact False.elim h
   |brk=>exact False.elim h
   |cont=>exact False.elim h
   |ret u=>
    obtain⟨v,H',os,bare,un,hok',r',q⟩:=h
    have q':v=.bl true:=q
    subst q'
    obtain rfl:u=Value.bool true:=r'
    refine⟨rfl,OldK.of_keep fun b o e=>?_,os,bare⟩
    cases q:H b with
    |none=>exact un.keep b o e q (by intro z;exact absurd (show b∈([]:List Addr)from z) (by simp)) (by simp)
    |some u=>
     rcases hO b with z|⟨ob,xs,z⟩
     ·rw[q]at z;cases z
     ·have z2:=un.frzs b ob _ z
      obtain⟨e1,_⟩:=hok b _ z
      obtain⟨e2,_⟩:=hok' b _ z2
      rw[e]at e1;cases e1
      exact e2
 cases hk:K.lookup a with
 |some o=>
  have e:=KX a o hk
  rw[ha]at e
  cases e
  refine core (fun _=>none) (fun _=>.inl rfl) (.inr ⟨_,vs.toArray,_,hk,rfl,rfl,rfl,by rw[List.size_toArray,lenV];exact hl,by simpa using rv⟩) (fun b u z=>by have z':(none:Option HO)=some u:=z;cases z') (fun b z=>absurd rfl z) fun z=>absurd rfl z
 |none=>
  refine core (fun b=>if b=a then some (.frz {cls:=.type "list",data:=.seq vs.toArray} (.lst (ns.map V.int)))else none) (fun b=>?_) (.inl (.inr ⟨{cls:=.type "list",data:=.seq vs.toArray},if_pos rfl⟩)) (fun b u z=>?_) (fun b z=>?_) fun _=>hk
  ·by_cases hb:b=a
   ·exact .inr ⟨_,_,if_pos hb⟩
   ·exact .inl (if_neg hb)
  ·by_cases hb:b=a
   ·have z':=(if_pos hb).symm.trans z
    cases z'
    subst hb
    exact⟨ha,by rw[List.length_map];exact hl,vs,_,rv,ha⟩
   ·have z':=(if_neg hb).symm.trans z
    cases z'
  ·by_cases hb:b=a
   ·exact hb
   ·exact absurd (if_neg hb) z
theorem z9l{l:PySem.W.OpenLaw}{n k:Nat}{q:Program}{loose:List Str}{XP:(Str->Option Value)->Heap->Prop}{YP:World->Heap->Prop}{d:DefRec}{K:Params->Frag}{CX:World->CXT}{sp:World->Sp}{x:Str}
  (hn:l.most=some n) (hn2:n<=sizeLine) (hdf:d.params.defaults=[]) (hr:Room k callerA)
  (hY:∀(w:World)(h:Heap),YP w h->(K w.params).In h)
  (F:∀(w:World)(mg:Str->Option Value)(fa:Addr)(h:Heap),(K w.params).In h->h.Ns mainGlobals mg->mg d.name=some (.ref fa)->
   ∃fd:FuncData,(∀(s:Shared)(u:Value),BindsTo s fd ⟨[u],[]⟩ [(x,u)])/\
    ∀base:Heap,(K w.params).In base->base.Ns mainGlobals mg->FnOk l.prog w (K w.params) mg base (CX w) k fa fd [x] (sp w))
  (hsp:∀(w:World)(H:Hp)(a:Addr)(ns:List Int),ns.length<=n->Only H->SqL (K w.params) H a (ns.map V.int)->sp w [.ref a] H (fun v _=>v=.bl true) fun _ _ _=>False)
  (hCX:∀(w:World)(H:Hp)(s:Shared)(e:Value)(s':Shared),CX w [] H s (fun _ _ _=>False) e s'->False) :
  PySem.W.WalkO q loose XP YP l.row.toRowW d [] (fun f vs=>PySem.call f vs):=by
 refine Att.attach_call hn hdf fun w s₀ s₁ mg mb fa o pm cd doc a vs ns G Y ho hd hcd hmg hobj hints hlen hg=>?_
 have KX:=hY w _ Y
 obtain⟨fd,hb,hF⟩:=F w mg fa _ KX G.T.g hmg
 exact y6j KX G.T.g G.T.b G.T.builtins G.T.nolimit hg hobj hints (Nat.le_trans hlen hn2) hr hF hb (fun H hO hS=>hsp w H a ns hlen hO hS) fun H e s'=>hCX w H s₁ e s'
end L2
/- THE LAST THEOREM (shape;LID,My.* are yours):
   My.Adr: a structure of the addresses that your layer names (classes,functions);My.Txt K t: a structure (Prop) of the equations over K;
   My.txt_mk:{K} {implicit addresses ..} (e1:nsIn K mainGlobals "law" = some (some (.ref f))) (e2:K.lookup f=some ⟨oc,od,.func (fnOf "law" "law" params body scope dV kV doc pm an cdv ct),sl⟩) (e3:codeIn K cdv "law" = true) ..:∃t,My.Txt K t
set_option maxRecDepth 100000 in
set_option maxHeartbeats 0 in
theorem PySem.Challenge.cw_LID_holds : PySem.Challenge.rw_LID.Holds := by
 w_on;o_law;k_head;(case hw => w_witness2)
 k_fill
 refine L2.z9l (l := PySem.Challenge.rw_LID) (n := 63) (k := 40) (x := "script") (CX := fun w => ..) (sp := fun _ => My.sp_law) rfl (by decide) rfl ⟨rfl, by decide, by decide⟩ (fun w h Y => PySem.W.kIn_of Y) ?F ?S ?C
 case F =>
  intro w mg fa h KX G hmg
  have T : ∃ t, My.Txt (L2.KOf KX) t := by
   dsimp only[L2.KOf]                          -- K must stand as «<heap const> w.params» for k_is
   refine' My.txt_mk ?e1 ?e2 ?e3 ..
   (case e1 => PySem.W.k_is)                    -- in the order: a name -> its address -> its object -> its parts
   (case e2 => PySem.W.k_is)
   ..
  obtain⟨t, T⟩ := T
  have e0 := hmg.symm.trans (PySem.W.mg_of KX G T.law)
  cases e0                                       -- fa is the law's own address
  exact⟨_, fun s u => .of_eq rfl, fun base kb nb => My.law_fn T kb nb⟩     -- if «.of_eq rfl» comes too early: refine' ⟨_, ?b, fun base kb nb => My.law_fn T kb nb⟩;exact fun s u => .of_eq rfl
 case S => exact fun w H a ns hl hO hS => ..
 case C => exact ..
(the tactic k_is has no namespace: write k_is) -/
namespace L2
open PySem PySem.Spec PyProof.Rows
def q8j(s:Stmt):Arguments:=match s with
 |.FunctionDef _ a _ _ _ _ _ _ _ _=>a
 |_=>{posonlyargs:=[],args:=[],vararg:=none,kwonlyargs:=[],kw_defaults:=[],kwarg:=none,defaults:=[]}
def q6e(s:Stmt):List Stmt:=match s with
 |.FunctionDef _ _ b _ _ _ _ _ _ _=>b
 |_=>[]
def q1t(s:Stmt):Scope:=match s with
 |.FunctionDef _ _ _ _ _ _ sc _ _ _=>sc
 |_=>{kind:=.function,names:=[],isGenerator:=false,isCoroutine:=false}
abbrev E0:XK:=fun _ _ _=>False
structure Fun(K:Frag)(x qual:Str)(st:Stmt)(f:Addr)(fd:FuncData):Prop where
 ex:∃(oc:Value)(od:Option Addr)(kV doc pm:Value)(an:Option Addr)(cdv ct:Value)(osl:Array (Option Value)),
  fd=PySem.W.fnOf x qual (q8j st) (q6e st) (q1t st) .none kV doc pm an cdv ct/\K.lookup f=some ⟨oc,od,.func fd,osl⟩/\PySem.W.codeIn K cdv qual=true
 kp:PySem.W.keepIn K (.ref f)=true
section
variable{P:Program}{w:World}{K:Frag}{mg:Str->Option Value}{base:Heap}
theorem Fun.binds{x qual:Str}{st:Stmt}{f:Addr}{fd:FuncData}{ps:List Str}(F:Fun K x qual st f fd)
  (h:∀(kV doc pm:Value)(an:Option Addr)(cdv ct:Value)(us:List Value),us.length=ps.length->bindArgs (PySem.W.fnOf x qual (q8j st) (q6e st) (q1t st) .none kV doc pm an cdv ct) ⟨us,[]⟩=pure (ps.zip us)):z6g K fd ps []:=by
 obtain⟨oc,od,kV,doc,pm,an,cdv,ct,osl,rfl,lk,hcd⟩:=F.ex
 exact .all (h kV doc pm an cdv ct)
theorem x7t{x qual:Str}{st:Stmt}{f:Addr}{oc:Value}{od an:Option Addr}{osl:Array (Option Value)}{kV doc pm cdv ct:Value}(l:K.lookup f=some ⟨oc,od,.func (PySem.W.fnOf x qual (q8j st) (q6e st) (q1t st) .none kV doc pm an cdv ct),osl⟩)
  (c:PySem.W.codeIn K cdv qual=true) (k:PySem.W.keepIn K (.ref f)=true):Fun K x qual st f (PySem.W.fnOf x qual (q8j st) (q6e st) (q1t st) .none kV doc pm an cdv ct):=⟨⟨oc,od,kV,doc,pm,an,cdv,ct,osl,rfl,l,c⟩,k⟩
end
theorem z9w{n:Nat}(h:n<=1000):n<sizeLine:=Nat.lt_of_le_of_lt h (by decide)
section
variable{X:Cx}
end
theorem ite2{c A B:Prop} [Decidable c] (h1:c->A) (h2:¬c->B):if c then A else B:=by
 by_cases h:c
 ·rw[if_pos h]
  exact h1 h
 ·rw[if_neg h]
  exact h2 h
def Same(H H':Hp):Prop:=∀b o,H b=some o->H' b=some o
structure Fly(e:Addr)(cls:Value)(own:List Addr)(h:Heap):Prop where
 is:∃(oe:Obj)(vs:Array Value)(hd:Value),h.get? e=some oe/\oe.cls=cls/\oe.data=.fields vs/\vs[1]?=some hd/\
  (hd=.none\/∃(T:Addr)(oT:Obj)(ts:Array Value),hd=.ref T/\T∈own/\T≠e/\h.get? T=some oT/\oT.data=.fields ts/\ts[3]?=some .none)
structure Past(fs own:List Addr)(h h':Heap):Prop where
 keep:∀b o,h.get? b=some o->b∉own->b∉fs->h'.get? b=some o
 slot:∀b o,h.get? b=some o->b∉own->b∈fs->∃sl,h'.get? b=some {o with slots:=sl}
 there:∀b o,h.get? b=some o->∃o',h'.get? b=some o'
theorem Past.refl(fs own:List Addr)(h:Heap):Past fs own h h:=⟨fun _ _ q _ _=>q,fun _ o q _ _=>⟨o.slots,q⟩,fun _ o q=>⟨o,q⟩⟩
theorem Past.trans{fs own:List Addr}{h1 h2 h3:Heap}(a:Past fs own h1 h2)(b:Past fs own h2 h3):Past fs own h1 h3 where
 keep:=fun c o q n m=>b.keep c o (a.keep c o q n m) n m
 slot:=fun c o q n m=>by
  obtain⟨sl,q1⟩:=a.slot c o q n m
  obtain⟨sl2,q2⟩:=b.slot c _ q1 n m
  exact⟨sl2,q2⟩
 there:=fun c o q=>by
  obtain⟨o1,q1⟩:=a.there c o q
  exact b.there c o1 q1
theorem Past.mono{fs own own':List Addr}{h h':Heap}(a:Past fs own h h')(k:∀b∈own,b∈own'):Past fs own' h h':=
 ⟨fun b o q n m=>a.keep b o q (fun z=>n (k b z)) m,fun b o q n m=>a.slot b o q (fun z=>n (k b z)) m,a.there⟩
theorem z8j{fs own:List Addr}{h h':Heap}(x:Heap.SlotsOnly fs h h'):Past fs own h h' where
 keep:=fun b o q _ m=>by rw[x.2.1 b m];exact q
 slot:=fun b o q _ _=>x.2.2 b o q
 there:=fun b o q=>let ⟨_,z⟩:=x.2.2 b o q;⟨_,z⟩
theorem y0t{fs own:List Addr}(h:Heap)(o:Obj):Past fs own h (h.push o) where
 keep:=fun b u q _ _=>Heap.get?_push_of_some o q
 slot:=fun b u q _ _=>⟨u.slots,Heap.get?_push_of_some o q⟩
 there:=fun b u q=>⟨u,Heap.get?_push_of_some o q⟩
theorem z0x{fs own:List Addr}{h:Heap}{a:Addr}{oa:Obj}{vs:Array Value}(g:Array Value->Array Value)(ha:a∈own)(q:h.get? a=some oa)(hd:oa.data=.fields vs):Past fs own h (h.update a (Obj.mapFields g)) where
 keep:=fun b u z n _=>by rw[Heap.get?_update_other _ _ (fun w=>n (by rw[<-w];exact ha))];exact z
 slot:=fun b u z n _=>⟨u.slots,by rw[Heap.get?_update_other _ _ (fun w=>n (by rw[<-w];exact ha))];exact z⟩
 there:=fun b u z=>by
  by_cases w:a=b
  ·subst w
   exact⟨_,Heap.get?_update_self _ q (Obj.isFreed_of_fields (Obj.data_mapFields hd g))⟩
  ·exact⟨u,by rw[Heap.get?_update_other _ _ w];exact z⟩
section
variable{M:Model}{A:Around}{E:Value->Shared->Prop}{s:Shared}
theorem z6x{base:Heap}{env:Env}{outer:List Env}{L e:Addr}{oe:Obj}{vs:Array Value}{head:Value}{hn:Bool}{own:List Addr}{Q:Unit->Shared->Prop}(hfr:A.frames=some (env::outer))(hl:s.heap.FunFrames base (env::outer))
  (hf:env.frame=some L) (he:s.heap.get? e=some oe) (hd:oe.data=.fields vs) (hsz:1<vs.size) (ho:e∈own)
  (h:∀h' T,s.heap.get? T=none->Past ((env::outer).filterMap (·.frame)) own s.heap h'->Fly e oe.cls [T] h'->Q () {s with heap:=h' }) :
  wpAny M A (do let a <-frameOf env;let pl <-entryPlaceOf L hn;let b <-EntryCells.newEntry head a .none (rawInt L) .none pl;setField (.ref e) 1 b) (fun _ s'=>wpAny M A (setFlight (.ref e) none) Q E s') E s:=by
 have nfr:e∉(env::outer).filterMap (·.frame):=fun z=>by
  obtain⟨-,o,q,nd⟩:=hl.mem z
  rw[he]at q;cases q
  exact nd vs hd
 refine wpAny_bind (wpAny_frameOf_fun hfr hl hf fun g1 s1=>wpAny_bind (wpAny_entryPlaceOf fun pl hpl=>?_))
 have P1:Past ((env::outer).filterMap (·.frame)) own s.heap g1:=z8j s1
 unfold EntryCells.newEntry newFields
 refine wpAny_bind (wpAny_newObj_type ?_ (hpl.sizeOk5 _ _ _ _ _))
 have e1:g1.get? e=some oe:=by rw[s1.2.1 e nfr];exact he
 generalize hto:({cls:=.type "traceback",dict:=none,data:=.fields ([head,.ref L,.none,rawInt L,.none]++(if pl.isEmpty then List.replicate 6 Value.none else pl)).toArray}:Obj)=to
 have P2:Past ((env::outer).filterMap (·.frame)) own g1 (g1.push to):=y0t g1 to
 have e2:=Heap.get?_push_of_some (h:=g1) to e1
 have Tnew:s.heap.get? g1.objs.size=none:=by
  cases q:s.heap.get? g1.objs.size with
  |none=>rfl
  |some o=>exact absurd (Heap.lt_size q) (by rw[s1.1];exact Nat.lt_irrefl _)
 have T2:(g1.push to).get? g1.objs.size=some to:=Heap.get?_push_size g1 (by subst hto;rfl)
 refine wpAny_setField e2 hd hsz ?_
 have Te:g1.objs.size≠e:=Nat.ne_of_gt (Heap.lt_size e1)
 have P3:Past ((env::outer).filterMap (·.frame)) own (g1.push to) _:=z0x (·.setIfInBounds 1 (Value.ref g1.objs.size)) ho e2 hd
 have d3:=Obj.data_mapFields hd (·.setIfInBounds 1 (Value.ref g1.objs.size))
 have e3:=Heap.get?_update_self (Obj.mapFields (·.setIfInBounds 1 (Value.ref g1.objs.size))) e2 (Obj.isFreed_of_fields d3)
 have T3:=(Heap.get?_update_other (g1.push to) (Obj.mapFields (·.setIfInBounds 1 (Value.ref g1.objs.size))) (Ne.symm Te)).trans T2
 have tod:to.data=.fields ([head,.ref L,.none,rawInt L,.none]++(if pl.isEmpty then List.replicate 6 Value.none else pl)).toArray:=by subst hto;rfl
 unfold setFlight
 refine wpAny_bind (wpAny_field e3 d3 (x:=.ref g1.objs.size) (by simp[hsz]) ?_)
 rw[if_pos (show(Value.ref g1.objs.size != Value.none)=true by simp)]
 have sz3:3<([head,.ref L,.none,rawInt L,.none]++(if pl.isEmpty then List.replicate 6 Value.none else pl)).toArray.size:=by
  simp only[List.size_toArray,List.length_append,List.length_cons,List.length_nil];omega
 refine wpAny_setField T3 tod sz3 (h _ g1.objs.size Tnew ?_ ?_)
 ·have P:=(P1.trans P2).trans P3
  have nT:∀b u,s.heap.get? b=some u->g1.objs.size≠b:=fun b u z w=>by rw[w,z]at Tnew;cases Tnew
  refine⟨fun b u z n m=>?_,fun b u z n m=>?_,fun b u z=>?_⟩
  ·rw[Heap.get?_update_other _ _ (nT b u z)]
   exact P.keep b u z n m
  ·obtain⟨sl,q⟩:=P.slot b u z n m
   exact⟨sl,by rw[Heap.get?_update_other _ _ (nT b u z)];exact q⟩
  ·obtain⟨o',q⟩:=P.there b u z
   exact⟨o',by rw[Heap.get?_update_other _ _ (nT b u z)];exact q⟩
 ·have T4:=Heap.get?_update_self (Obj.mapFields (·.setIfInBounds 3 ((none:Option Addr).elim Value.none fun f=>rawInt f))) T3 (Obj.isFreed_of_fields (Obj.data_mapFields tod _))
  refine⟨_,_,.ref g1.objs.size,?_,Obj.cls_mapFields _ _,d3,by simp[hsz],.inr ⟨g1.objs.size,_,_,rfl,by simp,Te,T4,Obj.data_mapFields tod _,?_⟩⟩
  ·rw[Heap.get?_update_other _ _ Te]
   exact e3
  ·rw[Array.getElem?_setIfInBounds_self_of_lt sz3]
   rfl
theorem y6b{base:Heap}{env:Env}{outer:List Env}{L e:Addr}{cls:Value}{own:List Addr}{Q:Unit->Shared->Prop}(hfr:A.frames=some (env::outer))(hl:s.heap.FunFrames base (env::outer))(hf:env.frame=some L)(F:Fly e cls own s.heap)
  (h:∀h' T,s.heap.get? T=none->Past ((env::outer).filterMap (·.frame)) (e::own) s.heap h'->Fly e cls [T] h'->Q () {s with heap:=h' }):wpAny M A (noteFrame (.ref e) env) (fun _ s2=>wpAny M A (setFlight (.ref e) none) Q E s2) E s:=by
 obtain⟨oe,vs,hd,he,hc,hdt,h1,hh⟩:=F.is
 subst hc
 have hsz:1<vs.size:=(Array.getElem?_eq_some_iff.mp h1).1
 unfold noteFrame
 simp only[hf]
 refine wpAny_bind (wpAny_field he hdt h1 ?_)
 rcases hh with rfl|⟨T,oT,ts,rfl,hT,Te,gT,dT,h3⟩
 ·rw[if_neg (by decide)]
  exact z6x hfr hl hf he hdt hsz (by simp) h
 ·rw[if_pos (show(Value.ref T != Value.none)=true by simp)]
  refine wpAny_bind (wpAny_field gT dT h3 ?_)
  rw[if_neg (show ¬((Value.none==rawInt L)=true) by simp[rawInt])]
  refine wpAny_bind (wpAny_setField gT dT (Array.getElem?_eq_some_iff.mp h3).1 ?_)
  have P:Past ((env::outer).filterMap (·.frame)) (e::own) s.heap _:=z0x (·.setIfInBounds 3 Value.none) (List.mem_cons_of_mem _ hT) gT dT
  have hl2:(s.heap.update T (Obj.mapFields (·.setIfInBounds 3 Value.none))).FunFrames base (env::outer):=hl.of_keeps fun b o q nd=>⟨o,by
   rw [Heap.get?_update_other _ _ (fun w=>by subst w;rw [gT]at q;cases q;exact nd ts dT)];exact q,rfl⟩
  refine z6x (own:=e::own) hfr hl2 hf (oe:=oe) (by rw[Heap.get?_update_other _ _ Te];exact he) hdt hsz (by simp) fun h' T' n' P' F'=>h h' T' ?_ (P.trans P') F'
  cases q:s.heap.get? T' with
  |none=>rfl
  |some o=>
   obtain⟨o',z⟩:=P.there T' o q
   rw[z]at n'
   cases n'
theorem y1r{base:Heap}{env:Env}{outer:List Env}{L e:Addr}{cls:Value}{own:List Addr}{Q:Unit->Shared->Prop}(hfr:A.frames=some (env::outer))(hl:s.heap.FunFrames base (env::outer))(hf:env.frame=some L)(F:Fly e cls own s.heap)
  (h:∀h' T,s.heap.get? T=none->Past ((env::outer).filterMap (·.frame)) (e::own) s.heap h'->Fly e cls [T] h'->Q () {s with heap:=h' }):wpAny M A (leaving env (.ref e)) Q E s:=by
 unfold leaving
 exact wpAny_bind (y6b hfr hl hf F h)
end
def CXE(P:Program)(w:World):CXT:=fun outer H s E e s'=>∃(a:Addr)(cls:Value)(own:List Addr)(H':Hp),e=.ref a/\s'.os=s.os/\AllBare s'.gens/\Un (frs outer) [] H H' s.heap s'.heap/\HOk P w H' s'.heap/\Fly a cls own s'.heap/\
 (∀b∈a::own,s.heap.get? b=none/\H' b=none)/\E cls none H'
theorem HOk.past{P:Program}{w:World}{H:Hp}{h h':Heap}{fs own:List Addr}(ok:HOk P w H h)(p:Past fs own h h')(n1:∀b∈fs,H b=none)(n2:∀b∈own,H b=none):HOk P w H h':=fun a o q=>
 (ok a o q).stay (fun b u hb z=>p.keep b u z (fun m=>by
   rcases hb with rfl|hb
   ·rw [n2 _ m]at q;cases q
   ·rw [n2 _ m]at hb;cases hb) (fun m=>by
   rcases hb with rfl|hb
   ·rw [n1 _ m]at q;cases q
   ·rw [n1 _ m]at hb;cases hb)) (fun _ q=>q) fun _ _ q=>q
theorem q2q.ex{P:Program}{w:World}{H:Hp}{h:Heap}{a:Addr}{o:HO}(x:q2q P w H h a o):∃u,h.get? a=some u:=by
 cases o with
 |lst xs=>obtain⟨_,_,_,_,e⟩:=x;exact⟨_,e⟩
 |tup xs=>obtain⟨_,_,_,_,e,_⟩:=x;exact⟨_,e⟩
 |dK kvs=>obtain⟨_,_,_,_,o,_,_,e,_⟩:=x;exact⟨_,e⟩
 |dT kvs=>obtain⟨_,_,_,_,o,_,_,e,_⟩:=x;exact⟨_,e⟩
 |dH c kvs=>obtain⟨_,_,_,_,o,_,e,_⟩:=x;exact⟨_,e⟩
 |set S n=>obtain⟨o,_,_,_,e,_⟩:=x;exact⟨_,e⟩
 |ins C dx fs=>obtain⟨_,_,_,e,_⟩:=x;exact⟨_,e⟩
 |own _=>exact x
 |xd fs=>obtain⟨_,⟨_,_,_,e,_⟩,_⟩:=x;exact⟨_,e⟩
 |rng lo hi=>obtain⟨_,_,_,e⟩:=x;exact⟨_,e⟩
 |frz o u=>exact⟨_,x.1⟩
 |tbl ps=>exact⟨_,x⟩
 |met f y=>exact⟨_,x⟩
 |ext φ=>exact x.2.1
theorem HOk.none_of{P:Program}{w:World}{H:Hp}{h:Heap}{b:Addr}(ok:HOk P w H h)(n:h.get? b=none):H b=none:=by
 cases q:H b with
 |none=>rfl
 |some o=>
  obtain⟨u,z⟩:=q2q.ex (ok b o q)
  rw[n]at z;cases z
theorem x9o{P:Program}{w:World}{K:Frag}{mg:Str->Option Value}{base:Heap}{N:List Str}{qual:Str}{scope:Scope}{f:Addr}{cd:Value}{A:Around}{outer:List Env}{s:Shared}{H:Hp}{E:XK} :
  q5x (CXE P w) (cxOf (CXE P w) P w K mg base N qual scope f cd A outer s H E) E:=by
 intro pins σ H1 s1 e s2 I1 hx
 obtain⟨a,cls,own,H2,rfl,os,bare,un,hok,F,new,q⟩:=hx
 have I2:=I1.call' os un hok bare (fun b z=>absurd z (by simp))
 have n0:∀b,(∃o,s.heap.get? b=some o)->∃o,s1.heap.get? b=some o:=fun b ⟨o,z⟩=>I1.base.there b o z (by intro y;cases y)
 have old:∀b,(∃o,s.heap.get? b=some o)->b∉a::own:=fun b z m=>by
  obtain⟨o,y⟩:=n0 b z
  rw[(new b m).1]at y;cases y
 have n2:∀b,(∃o,s.heap.get? b=some o)->∃o,s2.heap.get? b=some o:=fun b ⟨o,z⟩=>I2.base.there b o z (by intro y;cases y)
 refine y1r (base:=base) I2.ok.frames I2.stack rfl F fun h' T nT P' F'=>?_
 have hfr:∀b,(∃o,s.heap.get? b=some o)->b∉frs outer->b∉frs (envOfC qual scope s.heap.objs.size f cd::outer):=fun b ⟨o,z⟩ m y=>by
  have lt:=Heap.lt_size z
  have y':b∈s.heap.objs.size::frs outer:=y
  rcases List.mem_cons.mp y' with r|r
  ·rw[r]at lt;exact absurd lt (Nat.lt_irrefl _)
  ·exact m r
 refine⟨a,cls,[T],H2,rfl,I2.os,I2.bare,⟨fun b o z n m _=>?_,fun b o z n m _=>?_,fun b o z n x=>I2.base.free b o z n x,fun b o z x=>?_,I2.base.tups,I2.base.frzs,I2.base.tbls⟩,?_,F',?_,q⟩
 ·exact P'.keep b o (I2.base.keep b o z n m (by intro y;cases y)) (old b ⟨o,z⟩) (hfr b ⟨o,z⟩ m)
 ·obtain⟨sl,y⟩:=I2.base.slot b o z n m (by intro y;cases y)
  obtain⟨sl2,y2⟩:=P'.slot b _ y (old b ⟨o,z⟩) (show b∈s.heap.objs.size::frs outer from List.mem_cons_of_mem _ m)
  exact⟨sl2,y2⟩
 ·obtain⟨o2,y⟩:=n2 b ⟨o,z⟩
  exact P'.there b o2 y
 ·exact HOk.past I2.hok P' I2.stkFree fun b m=>(new b m).2
 ·intro b m
  simp only[List.mem_cons,List.not_mem_nil,or_false]at m
  rcases m with rfl|rfl
  ·refine⟨?_,(new b (by simp)).2⟩
   cases z:s.heap.get? b with
   |none=>rfl
   |some o=>exact absurd (by simp) (old b ⟨o,z⟩)
  ·refine⟨?_,HOk.none_of I2.hok nT⟩
   cases z:s.heap.get? b with
   |none=>rfl
   |some o=>
    obtain⟨o',y⟩:=n2 b ⟨o,z⟩
    rw[nT]at y;cases y
theorem x2u{K:Frag}{h:Heap}{C:Addr}{bmB:List Value}{newId:String}(X:K.In h)(q:PySem.W.excIn K C bmB newId=true) :
  ∃bm N nm qn bs hd sn sub ab col dd k0 k1 k2 k3 k5 mN,h.get? C=some (excClassObj nm qn C N bs bm hd sn sub ab col dd k0 k1 k2 k3 k5 newId)/\h.Ns N mN/\mN "__init__" = none/\OwnTail h bmB bm:=by
 unfold PySem.W.excIn at q
 split at q
 ·rename_i d0 cl slots lk
  split at q
  ·rename_i C1 rest j0 j1 j2 j3 id j5 hm hs
   simp only[Bool.and_eq_true,beq_iff_eq,Bool.not_eq_true']at q
   obtain⟨⟨⟨⟨⟨rfl,rfl⟩,nodel⟩,tl⟩,okN⟩,noI⟩:=q
   obtain⟨c1,c2,c3,c4,c5,c6,c7,c8,c9,c10,c11⟩:=cl
   dsimp only at hm nodel okN noI
   subst hm nodel
   have es:slots=#[j0,j1,j2,j3,some (.builtin id),j5]:=by
    cases slots with
    |mk l=>simp only at hs;rw[hs]
   subst es
   refine⟨rest,c4,c1,c5,c2,c6,c7,c8,c9,c10,d0,j0,j1,j2,j3,j5,h.nsMap c4,X _ _ lk,?_,?_,?_⟩
   ·exact Heap.Ns.of_isNs (PySem.W.isNs_of_in X okN)
   ·exact PySem.W.nsMap_none_of_in X okN noI
   ·exact PySem.W.tail_of_in X tl
  ·cases q
 ·cases q
def vErr:List Value:=[.type "ValueError",.type "Exception",.type "BaseException",.type "object"]
section
variable{X:Cx}{E:XK}
theorem y6h{pins:List (Addr×Obj)}{σ:St}{H:Hp}{s:Shared}{h':Heap}{a C:Addr}{vs:List Value}(I:Inv X pins σ H s)(m:Heap.MadeExcOf s.heap h' a (.ref C) vs)(q:E (.ref C) none H):CXE X.prog X.w X.stack H s E (.ref a) {s with heap:=h' }:=by
 obtain⟨t,he,htn,ht⟩:=m.there
 refine⟨a,.ref C,[],H,rfl,rfl,I.bare,Un.kept m.keeps,I.hok.kept m.keeps,⟨_,_,.none,he,rfl,rfl,rfl,.inl rfl⟩,fun b hb=>?_,q⟩
 have:b=a:=by simpa using hb
 subst this
 exact⟨m.new,HOk.none_of I.hok m.new⟩
theorem y5j{x:Str}{C:Addr}{np cpos pos:Pos}{e0:Expr}{ta:TA}(hp:q5x (CXE X.prog X.w) X E)(hc:X.calm=true)(hg:Gl X x)(hm:X.mg x=some (.ref C))(q:PySem.W.excIn X.K C vErr "ValueError.__new__" = true)(ha:PA X [e0] ta)
  (hd:(x==("__debug__" : Str))=false:=by decide) (he:starEach [e0] X.env=(false,eval e0 X.env)::starEach [] X.env:=by rfl) :
  PS X (.Raise (some (.Call (.Name x np) [e0] [] cpos)) none pos) (fun _ σ H=>ta σ H fun vs H1=>vs.length<=sizeLine/\E (.ref C) none H1):=by
 intro pins s σ H D I h
 obtain⟨bm,N,nm,qn,bs,hdd,sn,sub,ab,col,dd,k0,k1,k2,k3,k5,mN,hC,hN,hni,T⟩:=x2u I.ok.mod.kin q
 have FB:=PySem.F.excBase_ValueError
 refine wpAny_Raise_call_subT (C:=C) (N:=N) (nm:=nm) (q:=qn) (bs:=bs) (bm:=bm) (hdct:=hdd) (sn:=sn) (sub:=sub) (ab:=ab) (col:=col) (dd:=dd) (k0:=k0) (k1:=k1) (k2:=k2) (k3:=k3) (k5:=k5) (mN:=mN) FB (T.hasType FB.hasBase) (I.ok.hd hc) (by rw[he];rfl) hni ?_
 refine z5f I hg hm ⟨rfl,?_⟩ hd
 have hs:=ha cpos pins s σ H _ I h
 rw[he]at hs ⊢
 refine Calls.evalArgs_plain (wpAny_mono hs (fun us s2 ⟨vs,H1,I1,r,hl,hE⟩=>?_) fun _ _ z=>z)
 refine⟨rfl,by rw[<-r.length];exact hl,I1.bk _ _ hC,hN.keeps I1.bk,T.keeps I1.bk,fun h' a m=>?_⟩
 exact hp pins σ H1 s2 (.ref a) _ I1 (y6h I1 m hE)
end
theorem Inv.stepX{X:Cx}{pins:List (Addr×Obj)}{σ:List (Option V)}{H H':Hp}{s:Shared}{h':Heap}{g':Array GenState}{t':Nat}{d':Drawn}{ch:List Addr}(I:Inv X pins σ H s)
  (hch:∀b∈ch,(b∈X.ex\/X.s₀.heap.get? b=none)/\b≠X.env.locals/\(∀x c,X.env.cells.lookup x=some c->c≠b)/\∀p∈X.pn++pins,p.1≠b)
  (keep:∀b o,b≠X.env.locals->b∉X.fs->b∉ch->s.heap.get? b=some o->H b=none->h'.get? b=some o)
  (slot:∀b o,b≠X.env.locals->b∈X.fs->b∉ch->s.heap.get? b=some o->H b=none->∃sl,h'.get? b=some {o with slots:=sl}) (free:∀b o,b∉ch->s.heap.get? b=some o->H b=none->H' b=none)
  (there:∀b o,b∉ch->s.heap.get? b=some o->∃o',h'.get? b=some o')
  (tups:∀b xs,H b=some (.tup xs)->H' b=some (.tup xs)) (frzs:∀b o u,H b=some (.frz o u)->H' b=some (.frz o u)) (tbls:∀b ps,H b=some (.tbl ps)->∃more,H' b=some (.tbl (ps++more)))
  (ns:∀m,s.heap.Ns X.env.locals m->h'.Ns X.env.locals m) (hok:HOk X.prog X.w H' h') (hg:AllBare g') :
  Inv X pins σ H' {s with heap:=h',gens:=g',drawn:=d',toks:=t' }:=by
 have neL:∀b o,X.s₀.heap.get? b=some o->b≠X.env.locals:=fun b o e=>Nat.ne_of_lt (Nat.lt_of_lt_of_le (Heap.lt_size e) I.ok.above)
 have neC:∀b o,X.s₀.heap.get? b=some o->b∉X.ex->b∉ch:=fun b o e hx hb=>by
  rcases(hch b hb).1 with z|z
  ·exact hx z
  ·rw[e]at z;cases z
 have cellK:∀x c,X.env.cells.lookup x=some c->∀v,s.heap.IsCell c v->h'.IsCell c v:=fun x c e v hh1=>by
  obtain⟨o,ho,hd⟩:=hh1
  have nch:c∉ch:=fun z=>(hch c z).2.2.1 x c e rfl
  by_cases hc:c∈X.fs
  ·obtain⟨sl,q⟩:=slot c o (I.cne x c e) hc nch ho (I.freeC x c e)
   exact⟨_,q,hd⟩
  ·exact⟨o,keep c o (I.cne x c e) hc nch ho (I.freeC x c e),hd⟩
 refine⟨I.ok,I.os,hg,⟨fun b o e n hb hx=>?_,fun b o e n hb hx=>?_,fun b o e n hx=>?_,fun b o e hx=>?_,fun b xs e=>tups b xs (I.base.tups b xs e),fun b o xs e=>frzs b o xs (I.base.frzs b o xs e),fun b ps e=>?_⟩,?_,fun x c e=>?_,?_,fun x c e=>?_,fun p hp=>?_,hok,I.len⟩
 ·exact keep b o (neL b o e) hb (neC b o e hx) (I.base.keep b o e n hb hx) (I.base.free b o e n hx)
 ·obtain⟨sl,e1⟩:=I.base.slot b o e n hb hx
  obtain⟨sl',e2⟩:=slot b _ (neL b o e) hb (neC b o e hx) e1 (I.base.free b o e n hx)
  exact⟨sl',e2⟩
 ·obtain⟨o',e1⟩:=I.base.there b o e hx
  exact free b o' (neC b o e hx) e1 (I.base.free b o e n hx)
 ·obtain⟨o',e1⟩:=I.base.there b o e hx
  exact there b o' (neC b o e hx) e1
 ·obtain⟨m1,e1⟩:=I.base.tbls b ps e
  obtain⟨m2,e2⟩:=tbls b _ e1
  exact⟨m1++m2,by rw[e2,Array.append_assoc]⟩
 ·obtain⟨m,hn,hl⟩:=I.loc
  refine⟨m,ns m hn,fun i x v e1 e2 e3=>?_⟩
  obtain⟨u,r,l⟩:=hl i x v e1 e2 e3
  refine⟨u,r,?_⟩
  rcases l with l|⟨k,c,e,z⟩
  ·exact .inl l
  ·exact .inr ⟨k,c,e,cellK x c e _ z⟩
 ·obtain⟨v,z⟩:=I.cell x c e
  exact⟨v,cellK x c e v z⟩
 ·obtain⟨m,⟨o,_,_,ho,_⟩,_⟩:=I.loc
  exact free _ o (fun z=>(hch _ z).2.1 rfl) ho I.free
 ·obtain⟨v,o,ho,hd⟩:=I.cell x c e
  exact free c o (fun z=>(hch c z).2.2.1 x c e rfl) ho (I.freeC x c e)
 ·obtain⟨e,n,ne,nf,d⟩:=I.pin p hp
  have nch:p.1∉ch:=fun z=>(hch p.1 z).2.2.2 p hp rfl
  exact⟨keep p.1 p.2 ne nf nch e n,free p.1 p.2 nch e n,ne,nf,d⟩
theorem x5p{P:Program}{w:World}{X:Cx}:q5x (CXE P w) X E0:=fun _ _ _ _ _ _ _ hh1=>by obtain⟨_,_,_,_,_,_,_,_,_,_,_,q⟩:=hh1;exact(q.elim)
theorem CXE.imp{P:Program}{w:World}{outer:List Env}{H:Hp}{s s':Shared}{E E':XK}{e:Value}(h:CXE P w outer H s E e s')(i:∀c d H',E c d H'->E' c d H'):CXE P w outer H s E' e s':=
 let ⟨a,cls,own,H',h1,h2,h3,h4,h5,h6,h7,q⟩:=h;⟨a,cls,own,H',h1,h2,h3,h4,h5,h6,h7,i _ _ _ q⟩
theorem q5x.imp{P:Program}{w:World}{X:Cx}{E E':XK}(h:q5x (CXE P w) X E)(i:∀c d H',E' c d H'->E c d H'):q5x (CXE P w) X E':=fun pins σ H s e s' I q=>h pins σ H s e s' I (q.imp i)
theorem Fun.okX{P:Program}{w:World}{K:Frag}{mg:Str->Option Value}{base:Heap}{x qual:Str}{st:Stmt}{f:Addr}{fd:FuncData}{N ps:List Str}{k:Nat}{sp:Sp}(F:Fun K x qual st f fd)(S:FnScope N ps (q1t st))(len:∀vs H Q E,sp vs H Q E->vs.length=ps.length)
  (hbody:∀(cdv:Value)(A:Around)(outer:List Env)(s:Shared)(H:Hp)(vs:List V)(Q:VK)(E:XK),RoomW k (A.deeper (envOfC qual (q1t st) s.heap.objs.size f cdv))->sp vs H Q E->
   ∃t,PSs (cxOf (CXE P w) P w K mg base N qual (q1t st) f cdv A outer s H E) (q6e st) t/\t {nx:=fun _ H'=>Q .non H',rt:=Q} (q9f N vs) H):FnOk P w K mg base (CXE P w) (k+1) f fd ps sp:=by
 obtain⟨oc,od,kV,doc,pm,an,cdv,ct,osl,rfl,lk,hcd⟩:=F.ex
 exact w0h lk hcd S len fun A outer s H vs Q E hr hsp=>hbody cdv A outer s H vs Q E hr hsp
section
variable(P:Program)(w:World)
end
section
variable{P:Program}{w:World}{H H':Hp}{h h':Heap}{a:Addr}{o:HO}
end
section
variable{P:Program}{w:World}{H:Hp}{h h':Heap}{x e:Addr}{o':HO}
end
section
variable{fs fs' ex ex':List Addr}{H H1 H2:Hp}{h h1 h2 h':Heap}{a x e:Addr}{o:HO}
end
section
variable{X:Cx}{pins:List (Addr×Obj)}{σ:List (Option V)}{H H':Hp}{s:Shared}{h':Heap}
end
section
variable{X:Cx}
variable{a b:Expr}{ta tb:TE}{pos:Pos}
variable{tA tB':TT}{rest:List Expr}
end
section
variable{X:Cx}{pins:List (Addr×Obj)}{σ:St}{H:Hp}{s:Shared}{a:Addr}{xs ys:List V}
end
section
variable{X:Cx}{pins:List (Addr×Obj)}{σ:St}{H:Hp}{s:Shared}{E:Value->Shared->Prop}
end
section
variable{X:Cx}{st:Stmt}{rest:List Stmt}{t u:TS}{e:Expr}{te:TE}{pos:Pos}
end
section
variable{X:Cx}{pos:Pos}
end
section
variable{X:Cx}{pos:Pos}
end
section
variable{X:Cx}{tg:Expr}
end
section
variable{X:Cx}{a b c:Expr}{ta tb tc:TE}{pos:Pos}
end
section
variable{X:Cx}{a b c:Expr}{ta tb tc:TE}{pos:Pos}
end
section
variable{prog:Program}{w:World}{A:Around}{E:Value->Shared->Prop}{s:Shared}{K:Frag}{x dx C f:Addr}{mA:Str->Option Value}{name:Str}{v:Value}
end
section
variable{P:Program}{w:World}{H H':Hp}{h h':Heap}{a C dx:Addr}{fs fs':List (Str×V)}
end
section
variable{X:Cx}{pins:List (Addr×Obj)}{σ:St}{H:Hp}{s:Shared}{a C dx:Addr}{fs:List (Str×V)}{f:Str}{v:V}{A:Around}{E:Value->Shared->Prop}
end
section
variable{X:Cx}{o e value:Expr}{f:Str}{pos pos' tpos:Pos}{ta tv:TE}
end
section
variable{X:Cx}{pins:List (Addr×Obj)}{σ:St}{H:Hp}{s:Shared}{A:Around}{E:Value->Shared->Prop}{Q:Value->Shared->Prop}{c:Value}{b:Bool}
end
section
variable{X:Cx}{e:Expr}{es:List Expr}{te:TE}{t:TA}{pos:Pos}
end
section
variable{X:Cx}{pins:List (Addr×Obj)}{σ:St}{H:Hp}{s s':Shared}
end
section
variable{X:Cx}{CX:CXT}{k:Nat}{f C:Addr}{fd:FuncData}{ps:List Str}{sp:Sp}{dvs:List V}{ds:List Value}{E:XK}{x m:Str}{p pos apos:Pos}{e o:Expr}{es:List Expr}{ta:TE}{t:TA}
end
section
variable{X:Cx}{CX:CXT}{k:Nat}{f C:Addr}{fd:FuncData}{ps ks:List Str}{sp:Sp}{E:XK}{x m:Str}{p pos apos kpos:Pos}{e o:Expr}{es:List Expr}{kws:List Keyword}{te ta:TE}{t tk:TA}{nm:Option Str}
variable{g:List Value->List Value->List Value}{gV:List V->List V->List V}
end
section
variable{X:Cx}{x:Str}{p pos:Pos}{e:Expr}{es:List Expr}{t:TA}{id T:String}{r:List V->Hp->VK->Prop}
end
section
variable{κ:Type} [DecidableEq κ]
def valV(kvs:List (κ×V))(k:κ):Option V:=(kvs.find? fun kv=>decide (kv.1=k)).map (·.2)
def putK(kvs:List (κ×V))(k:κ)(v:V):List (κ×V):=
 if(kvs.any fun kv=>decide (kv.1=k))=true then kvs.map (fun kv=>if kv.1=k then(kv.1,v)else kv)else kvs++[(k,v)]
theorem q8v{p:κ×V}{r:List (κ×V)}{k:κ}(e:p.1=k):valV (p::r) k=some p.2:=by simp[valV,List.find?_cons,e]
theorem q8w{p:κ×V}{r:List (κ×V)}{k:κ}(e:¬p.1=k):valV (p::r) k=valV r k:=by simp[valV,List.find?_cons,e]
theorem z6j(k:κ):∀kvs:List (κ×V),(kvs.any fun kv=>decide (kv.1=k))=(valV kvs k).isSome
 |[]=>rfl
 |p::r=>by
  rw[List.any_cons]
  by_cases e:p.1=k
  ·simp only[q8v e,decide_eq_true e,Bool.true_or,Option.isSome_some]
  ·rw[q8w e,decide_eq_false e,Bool.false_or];exact z6j k r
theorem q6c(kvs:List (κ×V))(k:κ)(v:V):(putK kvs k v).length<=kvs.length+1:=by
 unfold putK
 split
 ·rw[List.length_map];omega
 ·rw[List.length_append,List.length_cons,List.length_nil];omega
theorem RelO.isSome_eq{o:Option V}{u:Option Value}(r:RelO o u):o.isSome=u.isSome:=by
 cases o with
 |none=>cases u with
  |none=>rfl
  |some _=>exact(show False from r).elim
 |some _=>cases u with
  |none=>exact(show False from r).elim
  |some _=>rfl
theorem RelO.getD{o:Option V}{u:Option Value}{d:V}{d':Value}(r:RelO o u)(rd:RelV d d'):RelV (o.getD d) (u.getD d'):=by
 cases o with
 |none=>cases u with
  |none=>exact rd
  |some _=>exact(show False from r).elim
 |some _=>cases u with
  |none=>exact(show False from r).elim
  |some _=>exact r
theorem KV.val{kvs:List (κ×V)}{vs:List (κ×Value)}(r:KV kvs vs)(k:κ):RelO (valV kvs k) (valueAt vs k):=by
 unfold KV at r
 induction r with
 |nil=>exact True.intro
 |@cons p q ps qs h t ih=>
  obtain⟨h1,h2⟩:=h
  by_cases e:p.1=k
  ·have e':q.1=k:=h1.symm.trans e
   have b:valueAt (q::qs) k=some q.2:=by simp[valueAt,List.find?_cons,e']
   rw[q8v e,b];exact h2
  ·have e':¬q.1=k:=fun z=>e (h1.trans z)
   have b:valueAt (q::qs) k=valueAt qs k:=by simp[valueAt,List.find?_cons,e']
   rw[q8w e,b];exact ih
theorem KV.any{kvs:List (κ×V)}{vs:List (κ×Value)}(r:KV kvs vs)(k:κ):(kvs.any fun kv=>decide (kv.1=k))=vs.any fun kv=>decide (kv.1=k):=by
 unfold KV at r
 induction r with
 |nil=>rfl
 |cons h t ih=>rw[List.any_cons,List.any_cons,ih,h.1]
theorem KV.repl{kvs:List (κ×V)}{vs:List (κ×Value)}(r:KV kvs vs)(k:κ){y:V}{u:Value}(ry:RelV y u) :
  KV (kvs.map fun kv=>if kv.1=k then(kv.1,y)else kv) (vs.map fun kv=>if kv.1=k then(kv.1,u)else kv):=by
 unfold KV at r ⊢
 induction r with
 |nil=>exact .nil
 |@cons p q ps qs h t ih=>
  rw[List.map_cons,List.map_cons]
  refine .cons ?_ ih
  obtain⟨h1,h2⟩:=h
  by_cases e:p.1=k
  ·rw[if_pos e,if_pos (h1.symm.trans e)];exact⟨h1,ry⟩
  ·rw[if_neg e,if_neg (fun z=>e (h1.trans z))];exact⟨h1,h2⟩
theorem KV.put{kvs:List (κ×V)}{vs:List (κ×Value)}(r:KV kvs vs)(k:κ){y:V}{u:Value}(ry:RelV y u):KV (putK kvs k y) (stored vs k u):=by
 unfold putK stored
 rw[r.any k]
 by_cases e:(vs.any fun kv=>decide (kv.1=k))=true
 ·rw[if_pos e,if_pos e];exact r.repl k ry
 ·rw[if_neg e,if_neg e];exact Paired.snoc r ⟨rfl,ry⟩
theorem KV.length{kvs:List (κ×V)}{vs:List (κ×Value)}(r:KV kvs vs):kvs.length=vs.length:=Paired.length r
end
theorem z5m{P:Program}{w:World}{k:Key}{u:Value}(r:RelV (kV k) u):(q1o P w).is k u=true:=by
 cases k with
 |inl i=>obtain⟨t,e⟩:=(show ∃t,u=Value.int i t from r);subst e;exact q9q P w i t
 |inr x=>obtain⟨t,e⟩:=(show ∃t,u=Value.str x t from r);subst e;exact q9p P w x t
theorem z3j{P:Program}{w:World}:∀{ks:List Key}{us:List Value},Vals (ks.map kV) us->ItemsAre (q1o P w) ks us
 |[],_,r=>by rw[List.map_nil]at r;cases r;exact .nil
 |k::ks,_,r=>by
  rw[List.map_cons]at r
  cases r with
  |cons h t=>exact .cons (z5m h) (z3j t)
abbrev KT(H:Hp):List (List Key×V)->List (List Key×Addr×Value)->Prop:=Paired fun p q=>p.1=q.1/\H q.2.1=some (.tup (p.1.map kV))/\RelV p.2 q.2.2
theorem KT.val{H:Hp}{kvs:List (List Key×V)}{xs:List (List Key×Addr×Value)}(r:KT H kvs xs)(k:List Key):RelO (valV kvs k) ((atKey xs k).map (·.2)):=by
 induction r with
 |nil=>exact True.intro
 |@cons p q ps qs h t ih=>
  obtain⟨h1,_,h2⟩:=h
  by_cases e:p.1=k
  ·have e':q.1=k:=h1.symm.trans e
   have b:atKey (q::qs) k=some q.2:=by simp[atKey,List.find?_cons,e']
   rw[q8v e,b];exact h2
  ·have e':¬q.1=k:=fun z=>e (h1.trans z)
   have b:atKey (q::qs) k=atKey qs k:=by simp[atKey,List.find?_cons,e']
   rw[q8w e,b];exact ih
theorem KT.repl{H:Hp}{kvs:List (List Key×V)}{xs:List (List Key×Addr×Value)}(r:KT H kvs xs)(k:List Key){y:V}{u:Value}(ry:RelV y u) :
  KT H (kvs.map fun kv=>if kv.1=k then(kv.1,y)else kv) (xs.map (putAt k u)):=by
 induction r with
 |nil=>exact .nil
 |@cons p q ps qs h t ih=>
  rw[List.map_cons,List.map_cons]
  refine .cons ?_ ih
  obtain⟨h1,h2,h3⟩:=h
  unfold putAt
  by_cases e:p.1=k
  ·rw[if_pos e,if_pos (h1.symm.trans e)];exact⟨h1,h2,ry⟩
  ·rw[if_neg e,if_neg (fun z=>e (h1.trans z))];exact⟨h1,h2,h3⟩
theorem KT.put{H:Hp}{kvs:List (List Key×V)}{xs:List (List Key×Addr×Value)}(r:KT H kvs xs)(k:List Key){b:Addr}{y:V}{u:Value}(hb:H b=some (.tup (k.map kV)))(ry:RelV y u) :
  KT H (putK kvs k y) (storedH xs k b u):=by
 have e:(kvs.any fun kv=>decide (kv.1=k))=(atKey xs k).isSome:=by
  rw[z6j,(r.val k).isSome_eq,Option.isSome_map]
 unfold putK storedH
 rw[e]
 by_cases q:(atKey xs k).isSome=true
 ·rw[if_pos q,if_pos q];exact r.repl k ry
 ·rw[if_neg q,if_neg q];exact Paired.snoc r ⟨rfl,hb,ry⟩
theorem KT.keeps{H H':Hp}{kvs:List (List Key×V)}{xs:List (List Key×Addr×Value)}(r:KT H kvs xs)(ht:∀b ys,H b=some (.tup ys)->H' b=some (.tup ys)):KT H' kvs xs:=
 Paired.mapP r fun _ _ z=>⟨z.1,ht _ _ z.2.1,z.2.2⟩
section
variable{P:Program}{w:World}{H:Hp}{h:Heap}{a:Addr}
theorem x4k{u:HO}(ok:HOk P w H h)(e:Rd H a u):q2q P w H h a u:=e.ok ok
theorem y2t{kvs:List (Key×V)}(ok:HOk P w H h)(e:Rd H a (.dK kvs)):kvs.length<=sizeLine/\(a==sysModules)=false/\∃vs,KV kvs vs/\h.DictOf (q1o P w) a vs:=
 show q2q P w H h a (.dK kvs)from x4k ok e
theorem x2w{kvs:List (Key×V)}(ok:HOk P w H h)(e:H a=some (.dK kvs)):kvs.length<=sizeLine/\(a==sysModules)=false/\∃vs,KV kvs vs/\h.DictOf (q1o P w) a vs:=y2t ok (.inl e)
theorem z3i{ks:List Key}(ok:HOk P w H h)(e:H a=some (.tup (ks.map kV))):(tupleKind (q1o P w)).is h ks a:=by
 obtain⟨_,its,r,o,h1,h2,n,h3⟩:=(show q2q P w H h a (.tup (ks.map kV))from ok a _ e)
 exact⟨o,its.toArray,n,h1,h2,h3,by simpa using z3j r⟩
theorem y2o{kvs:List (List Key×V)}(ok:HOk P w H h)(e:Rd H a (.dT kvs)):kvs.length<=sizeLine/\(a==sysModules)=false/\
  ∃xs,KT H kvs xs/\h.DictOfH (tupleKind (q1o P w)) a xs:=by
 obtain⟨z,y,xs,r,o,es,ep,h1,h2,h3,h4,h5⟩:=(show q2q P w H h a (.dT kvs)from x4k ok e)
 refine⟨z,y,xs,r,o,es,ep,h1,h2,h3,h4,fun x hx=>?_,h5⟩
 have all:∀{l:List (List Key×V)}{m:List (List Key×Addr×Value)},KT H l m->∀x∈m,(tupleKind (q1o P w)).is h x.1 x.2.1:=by
  intro l m q
  induction q with
  |nil=>intro x hx;exact nomatch hx
  |@cons p q ps qs hq t ih=>
   intro x hx
   rcases List.mem_cons.mp hx with e|hx
   ·subst e
    exact z3i ok (by rw[<-hq.1];exact hq.2.1)
   ·exact ih x hx
 exact all r x hx
theorem w0i{kvs:List (List Key×V)}(ok:HOk P w H h)(e:H a=some (.dT kvs)):kvs.length<=sizeLine/\(a==sysModules)=false/\
  ∃xs,KT H kvs xs/\h.DictOfH (tupleKind (q1o P w)) a xs:=y2o ok (.inl e)
end
def DGet(H:Hp)(a:Addr)(y:V)(r:Option V):Prop:=
 (∃kvs k,Rd H a (.dK kvs)/\y=kV k/\r=valV kvs k)\/∃kvs k b,Rd H a (.dT kvs)/\y=.ref b/\H b=some (.tup (k.map kV))/\r=valV kvs k
def DPut(H:Hp)(a:Addr)(y v:V)(H':Hp):Prop:=
 (∃kvs k,H a=some (.dK kvs)/\y=kV k/\kvs.length<sizeLine/\H'=upd H a (.dK (putK kvs k v)))\/
 ∃kvs k b,H a=some (.dT kvs)/\y=.ref b/\H b=some (.tup (k.map kV))/\kvs.length<sizeLine/\H'=upd H a (.dT (putK kvs k v))
theorem DGet.k{H:Hp}{a:Addr}{kvs:List (Key×V)}{k:Key}(e:H a=some (.dK kvs)):DGet H a (kV k) (valV kvs k):=.inl ⟨kvs,k,.inl e,rfl,rfl⟩
theorem DPut.k{H:Hp}{a:Addr}{kvs:List (Key×V)}{k:Key}{v:V}(e:H a=some (.dK kvs))(hl:kvs.length<sizeLine):DPut H a (kV k) v (upd H a (.dK (putK kvs k v))):=.inl ⟨kvs,k,e,rfl,hl,rfl⟩
section
variable{X:Cx}{pins:List (Addr×Obj)}{σ:St}{H:Hp}{s:Shared}{a:Addr}{y v:V}{u r:Value}{o:Option V}{A:Around}{E:Value->Shared->Prop}
theorem Inv.big(I:Inv X pins σ H s):sysModules<s.heap.objs.size:=by
 have h:mainGlobals<s.heap.objs.size:=(I.mod.glob.keeps I.bk).lt
 exact Nat.lt_trans (by decide) h
theorem y3a{Q:Value->Shared->Prop}(hu:A.units+1<cLine)(I:Inv X pins σ H s)(g:DGet H a y (some v))(ry:RelV y u)(h:∀w' s',Inv X pins σ H s'->RelV v w'->Q w' s') :
  wpAny (model X.prog X.w) A (getItem (.ref a) u) Q E s:=by
 rcases g with⟨kvs,k,e,ey,l⟩|⟨kvs,k,b,e,ey,eb,l⟩
 ·subst ey
  obtain⟨z,hd,vs,rel,dd⟩:=y2t I.hok e
  obtain⟨w',hw,rw'⟩:=RelO.some_of (v:=v) (o:=valueAt vs k) (by rw[l];exact rel.val k)
  exact wpAny_getItem_of (z5m ry) dd.mapOf hw (h w' _ (I.tok _) rw')
 ·subst ey
  cases(show u=Value.ref b from ry)
  obtain⟨z,hd,xs,rel,dd⟩:=y2o I.hok e
  obtain⟨w',hw,rw'⟩:=RelO.some_of (v:=v) (o:=(atKey xs k).map (·.2)) (by rw[l];exact rel.val k)
  obtain⟨p,hp,hp2⟩:=Option.map_eq_some_iff.mp hw
  refine wpAny_getItem_heap (tupleKind_room_in1 hu) (z3i I.hok eb) dd hp ?_
  rw[hp2]
  exact h w' _ (I.tok _) rw'
theorem x2z{Q:Value->Shared->Prop}(hu:A.units+1<cLine)(I:Inv X pins σ H s)(g:DGet H a y o)(ry:RelV y u)(h:∀s',Inv X pins σ H s'->Q (.bool (!o.isSome)) s') :
  wpAny (model X.prog X.w) A (compareOp .NotIn u (.ref a)) Q E s:=by
 rcases g with⟨kvs,k,e,ey,l⟩|⟨kvs,k,b,e,ey,eb,l⟩
 ·subst ey
  obtain⟨z,hd,vs,rel,dd⟩:=y2t I.hok e
  refine wpAny_notIn_of (z5m ry) hd dd.mapOf ?_
  rw[<-(rel.val k).isSome_eq,<-l]
  exact h _ (I.tok _)
 ·subst ey
  cases(show u=Value.ref b from ry)
  obtain⟨z,hd,xs,rel,dd⟩:=y2o I.hok e
  refine wpAny_notIn_heap (tupleKind_room_in1 hu) (z3i I.hok eb) hd dd ?_
  have q:=(rel.val k).isSome_eq
  rw[Option.isSome_map]at q
  rw[<-q,<-l]
  exact h _ (I.tok _)
theorem z0e{h':Heap}{t':Nat}{ob:HO}(I:Inv X pins σ H s)(mu:Mut (H a))(hs:Heap.SameBut a s.heap h')(he:∃q,h'.get? a=some q)(new:q2q X.prog X.w (upd H a ob) h' a ob) :
  Inv X pins σ (upd H a ob) {s with heap:=h',toks:=t' }:=
 I.write (x:=a) (e:=a) mu (.inl rfl) (fun b q hb z=>(hs.2 b hb).trans z) he new
theorem y2u{P:Program}{w:World}{H':Hp}{h':Heap}{kvs:List (Key×V)}{vs:List (Key×Value)}(z:kvs.length<=sizeLine)(hd:(a==sysModules)=false)(rel:KV kvs vs)(dd:h'.DictOf (q1o P w) a vs) :
  q2q P w H' h' a (.dK kvs):=⟨z,hd,vs,rel,dd⟩
theorem y2z{H':Hp}{Q:Unit->Shared->Prop}(hu:A.units+1<cLine)(I:Inv X pins σ H s)(g:DPut H a y v H')(ry:RelV y u)(rv:RelV v r)(h:∀s',Inv X pins σ H' s'->Q () s') :
  wpAny (model X.prog X.w) A (setItem (.ref a) u r) Q E s:=by
 rcases g with⟨kvs,k,e,ey,l,eH⟩|⟨kvs,k,b,e,ey,eb,l,eH⟩
 ·subst ey eH
  obtain⟨z,hd,vs,rel,dd⟩:=x2w I.hok e
  have hz:vs.length<=sizeLine:=by rw[<-rel.length];exact z
  have hl:(putK kvs k v).length<=sizeLine:=by have:=q6c kvs k v;omega
  refine wpAny_setItem_pairs (hsz:=hz) (z5m ry) dd fun h' dd' hs=>h _ ?_
  have he:∃q,h'.get? a=some q:=let ⟨q,_,_,hq,_⟩:=dd';⟨q,hq⟩
  exact z0e I (by rw[e];exact True.intro) hs he (y2u hl hd (rel.put k rv) dd')
 ·subst ey eH
  cases(show u=Value.ref b from ry)
  obtain⟨z,hd,xs,rel,dd⟩:=w0i I.hok e
  have hz:xs.length<=sizeLine:=by rw[<-Paired.length rel];exact z
  have hl:(putK kvs k v).length<=sizeLine:=by have:=q6c kvs k v;omega
  refine wpAny_setItem_heap (hsz:=hz) (tupleKind_room_in1 hu) (z3i I.hok eb) dd fun h' dd' hs=>h _ ?_
  obtain⟨q,es,ep,hq,h2,h3,h4,_,h5⟩:=dd'
  refine z0e I (by rw[e];exact True.intro) hs ⟨q,hq⟩ ⟨hl,hd,_,(rel.put k eb rv).keeps fun c ys ec=>?_,q,es,ep,hq,h2,h3,h4,h5⟩
  rw[q1c (q8q ec e (fun z=>nomatch z))]
  exact ec
end
section
variable{X:Cx}{pins:List (Addr×Obj)}{σ:St}{H:Hp}{s:Shared}{a:Addr}{kvs:List (Key×V)}{k:Key}{u:Value}{A:Around}{E:Value->Shared->Prop}
end
theorem z5w{X:Cx}{pins:List (Addr×Obj)}{σ:St}{H:Hp}{s:Shared}{a:Addr}{y:V}{o:Option V}(I:Inv X pins σ H s)(g:DGet H a y o):s.TypeIs (.ref a) "dict" :=by
 rcases g with⟨kvs,k,e,_,_⟩|⟨kvs,k,b,e,_,_,_⟩
 ·obtain⟨_,_,vs,_,dd⟩:=y2t I.hok e
  exact dd.typeIs
 ·obtain⟨_,_,xs,_,dd⟩:=y2o I.hok e
  exact dd.typeIs
section
variable{X:Cx}{o i e value:Expr}{pos pos' tpos:Pos}{td ty tv:TE}
end
theorem z7n{P:Program}{w:World}{H:Hp}(h:Heap)(hb:sysModules<h.objs.size):q2q P w H (h.push {cls:=.type "dict",data:=.dict #[]}) h.objs.size (.dK []):=
 ⟨Nat.zero_le _,beq_eq_false_iff_ne.mpr (Ne.symm (Nat.ne_of_lt hb)),[],.nil,Heap.DictOf.new h⟩
def x3u:TE:=fun _ H Q=>∀p,H p=none->Q (.ref p) (upd H p (.dK []))
section
variable{X:Cx}{pos:Pos}
theorem y5p:PE X (.Dict [] [] pos) x3u:=fun pins s σ H Q I h=>
 wpAny_Dict_empty ⟨.ref s.heap.objs.size,_,I.laid (a:=s.heap.objs.size) (o:=.dK []) (t':=s.toks) (fun _ _ q=>Heap.get?_push_of_some _ q) (Nat.le_refl _) (z7n s.heap I.big),rfl,h _ (I.hok.fresh (Nat.le_refl _))⟩
end
def z6l : List (TE × TE) -> St -> Hp -> (List (V × V) -> Hp -> Prop) -> Prop
 | [], _, H, Q => Q [] H
 | (tk, tv) :: r, σ, H, Q => tk σ H fun x H1 => tv σ H1 fun y H2 => z6l r σ H2 fun ps H3 => Q ((x, y) :: ps) H3
abbrev VV:List (V×V)->List (Value×Value)->Prop:=Paired fun p q=>RelV p.1 q.1/\RelV p.2 q.2
def PPs(X:Cx)(pos:Pos)(keys:List (Option Expr))(values:List Expr)(trs:List (TE×TE)):Prop:=
 ∀(pins:List (Addr×Obj))(s:Shared)(σ:St)(H:Hp)(Q:List (V×V)->Hp->Prop),Inv X pins σ H s->z6l trs σ H Q->
  wpAny (model X.prog X.w) X.A (evalPairs (pairTrees keys values X.env pos)) (fun vs s'=>∃ps H',Inv X pins σ H' s'/\VV ps vs/\Q ps H') X.xe s
theorem x0q{X:Cx}{pos:Pos}:PPs X pos [] [] []:=fun pins s σ H Q I h=>pairTrees_nil_walk ⟨[],H,I,.nil,h⟩
theorem y5l{X:Cx}{pos:Pos}{k v:Expr}{ks:List (Option Expr)}{vs:List Expr}{tk tv:TE}{trs:List (TE×TE)}(hk:PE X k tk)(hv:PE X v tv)(hr:PPs X pos ks vs trs) :
  PPs X pos (some k::ks) (v::vs) ((tk,tv)::trs):=fun pins s σ H Q I h=>
 pairTrees_cons_walk (thn (hk pins s σ H _ I h) fun u s1 hh1=>by obtain⟨x,H1,I1,rx,q1⟩:=hh1;exact(thn (hv pins s1 σ H1 _ I1 q1) fun w2 s2 ⟨y,H2,I2,ry,q2⟩=>
  thn (hr pins s2 σ H2 _ I2 q2) fun ws s3 hh2=>by obtain ⟨ps,H3,I3,rel,q3⟩:=hh2;exact (⟨(x,y)::ps,H3,I3,.cons ⟨rx,ry⟩ rel,q3⟩)))
def z0y(kvs more:List (Key×V)):List (Key×V):=more.foldl (fun acc kv=>putK acc kv.1 kv.2) kvs
theorem KV.merge:∀{more:List (Key×V)}{rs:List (Key×Value)}{kvs:List (Key×V)}{vs:List (Key×Value)},KV more rs->KV kvs vs->KV (z0y kvs more) (merged vs rs):=by
 intro more rs kvs vs r
 unfold KV at r
 induction r generalizing kvs vs with
 |nil=>intro q;exact q
 |@cons p q ps qs h t ih=>
  intro r0
  have e:KV (putK kvs p.1 p.2) (stored vs q.1 q.2):=by
   have:=r0.put p.1 h.2
   rw[<-h.1];exact this
  exact ih e
theorem q7t:∀(more kvs:List (Key×V)),(z0y kvs more).length<=kvs.length+more.length
 |[],kvs=>by show kvs.length<=kvs.length+0;omega
 |p::r,kvs=>by
  have h1:=q7t r (putK kvs p.1 p.2)
  have h2:=q6c kvs p.1 p.2
  show(z0y (putK kvs p.1 p.2) r).length<=_
  rw[List.length_cons];omega
theorem z1e{P:Program}{w:World}:∀{kvs:List (Key×V)}{ws:List (Value×Value)},VV (kvs.map fun kv=>(kV kv.1,kv.2)) ws->∃rs,Carries (q1o P w) ws rs/\KV kvs rs
 |[],_,r=>by rw[List.map_nil]at r;cases r;exact⟨[],True.intro,.nil⟩
 |p::kvs,_,r=>by
  rw[List.map_cons]at r
  cases r with
  |@cons a b as bs h t=>
   obtain⟨rs,c,q⟩:=z1e (P:=P) (w:=w) t
   obtain⟨b1,b2⟩:=b
   exact⟨(p.1,b2)::rs,⟨z5m h.1,rfl,c⟩,.cons ⟨rfl,h.2⟩ q⟩
def x8z(trs:List (TE×TE)):TE:=fun σ H Q=>∀p,H p=none->z6l trs σ (upd H p (.dK [])) fun ps H2=>H2 p=some (.dK [])/\∃kvs:List (Key×V),ps=kvs.map (fun kv=>(kV kv.1,kv.2))/\kvs.length<=15/\Q (.ref p) (upd H2 p (.dK (z0y [] kvs)))
theorem x0x{X:Cx}{pos:Pos}{keys:List (Option Expr)}{values:List Expr}{trs:List (TE×TE)}(h:PPs X pos keys values trs)(hall:keys.all (·.isSome)=true)(hl:keys.length=values.length)(h0:keys≠[])
  (h15:keys.length<=15):PE X (.Dict keys values pos) (x8z trs):=by
 intro pins s σ H Q I q
 have hn:=I.hok.fresh (Nat.le_refl s.heap.objs.size)
 have I1:=I.laid (a:=s.heap.objs.size) (o:=.dK []) (h':=s.heap.push {cls:=.type "dict",data:=.dict #[]}) (t':=s.toks) (fun _ _ q=>Heap.get?_push_of_some _ q) (Nat.le_refl _) (z7n s.heap I.big)
 refine wpAny_Dict_walk (knd:=q1o X.prog X.w) hall hl h0 h15 (thn (h pins _ σ _ _ I1 (q _ hn)) fun ws s2 hh1=>?_)
 obtain⟨ps,H2,I2,rel,e,kvs,ep,lk,q2⟩:=hh1
 subst ep
 obtain⟨rs,c,rk⟩:=z1e (P:=X.prog) (w:=X.w) rel
 obtain⟨z,hd,vs0,r0,dd⟩:=x2w I2.hok e
 cases r0
 refine⟨rs,c,dd,fun h' dd' hs=>⟨.ref s.heap.objs.size,_,?_,rfl,q2⟩⟩
 have hz:(z0y [] kvs).length<=sizeLine:=by
  have h1:=q7t kvs []
  rw[List.length_nil]at h1
  rw[sizeLine_eq];omega
 have he:∃q,h'.get? s.heap.objs.size=some q:=let ⟨q,_,_,hq,_⟩:=dd';⟨q,hq⟩
 exact z0e I2 (by rw[e];exact True.intro) hs he (y2u hz hd (rk.merge .nil) dd')
structure M1(X:Cx)(o:Expr)(m:Str)(apos:Pos)(e:Expr)(cpos:Pos):Prop where
 base:attributeBase o m X.env (eval o X.env)=eval o X.env
 few:((backTo cpos (starEach [e] X.env)).all (fun x=>!x.1)&&(backToKw cpos (keywordEach [] X.env)).all (fun x=>x.1.isSome)
  && decide (([e]:List Expr).length+([]:List Keyword).length+(if ([]:List Keyword).isEmpty then 0 else 1)<30))=true
 line:(apos.endLine==cpos.line)=true
 trees:backTo cpos (starEach [e] X.env)=[(false,eval e X.env)]
structure M2(X:Cx)(o:Expr)(m:Str)(apos:Pos)(e f:Expr)(cpos:Pos):Prop where
 base:attributeBase o m X.env (eval o X.env)=eval o X.env
 few:((backTo cpos (starEach [e,f] X.env)).all (fun x=>!x.1)&&(backToKw cpos (keywordEach [] X.env)).all (fun x=>x.1.isSome)
  && decide (([e,f]:List Expr).length+([]:List Keyword).length+(if ([]:List Keyword).isEmpty then 0 else 1)<30))=true
 line:(apos.endLine==cpos.line)=true
 trees:backTo cpos (starEach [e,f] X.env)=[(false,eval e X.env),(false,eval f X.env)]
section
variable{X:Cx}{pins:List (Addr×Obj)}{σ:St}{H:Hp}{s:Shared}{a:Addr}{y d:V}{u r:Value}{o:Option V}{A:Around}{E:Value->Shared->Prop}
theorem x7v{Q:Value->Shared->Prop}(hu:A.units+1<cLine)(I:Inv X pins σ H s)(g:DGet H a y o)(ry:RelV y u)(h:∀w' s',Inv X pins σ H s'->RelV (o.getD .non) w'->Q w' s') :
  wpAny (model X.prog X.w) A (call (.builtin "dict.get") [.ref a,u]) Q E s:=by
 rcases g with⟨kvs,k,e,ey,l⟩|⟨kvs,k,b,e,ey,eb,l⟩
 ·subst ey
  obtain⟨z,hd,vs,rel,dd⟩:=y2t I.hok e
  refine call_meetsIn PySem.F.slot_dict_get dd.typeIs PySem.F.entry_dict_get (PySem.F.args_dict_get_2 _ _) (meets_dict_get (q1o X.prog X.w) a (z5m ry) hd) ⟨_,dd.mapOf,h _ _ (I.tok _) ?_⟩
  rw[l]
  exact(rel.val k).getD rfl
 ·subst ey
  cases(show u=Value.ref b from ry)
  obtain⟨z,hd,xs,rel,dd⟩:=y2o I.hok e
  refine call_meetsIn PySem.F.slot_dict_get dd.typeIs PySem.F.entry_dict_get (PySem.F.args_dict_get_2 _ _) (meetsH_dict_get (tupleKind (q1o X.prog X.w)) a b hd) ⟨tupleKind_room_in1 hu,k,xs,z3i I.hok eb,dd,h _ _ (I.tok _) ?_⟩
  rw[l]
  exact(rel.val k).getD rfl
end
section
variable{X:Cx}{o e f:Expr}{apos cpos:Pos}{td ty tx:TE}
end
section
variable{X:Cx}{pins:List (Addr×Obj)}{σ:St}{H:Hp}{s:Shared}{a:Addr}{kvs:List (Key×V)}{A:Around}{E:Value->Shared->Prop}
end
section
variable{X:Cx}{pins:List (Addr×Obj)}{σ:St}{H:Hp}{s:Shared}{a:Addr}{y:V}{u:Value}{A:Around}{E:Value->Shared->Prop}
end
end L2
namespace Att
open PySem PySem.W PySem.Calls PyProof.Rows
section
variable{prog:Program}{w:World}{A:Around}{E:Value->Shared->Prop}{s:Shared}{K:Frag}
end
end Att
namespace L2
open PySem PySem.Spec PyProof.Rows
section
variable{P:Program}{w:World}{K:Frag}{mg:Str->Option Value}{base:Heap}
end
section
variable{X:Cx}
end
section
variable{κ:Type} [DecidableEq κ]
end
theorem z4e(env:Env):∀(names:List (Str×NameKind))(acc:List (Str×Addr)),
  (∀p∈names,p.2=.free->∃c,env.cells.lookup p.1=some c)->
  (∀x c,acc.lookup x=some c->env.cells.lookup x=some c)->
  ∃cl,(forIn names acc (fun(x:Str×NameKind) cs=>
    (if (x.2==NameKind.free)=true then (do let a <-cellOf env x.1;pure (ForInStep.yield ((x.1,a)::cs)))else pure (ForInStep.yield cs))):Sem (List (Str×Addr)))=pure cl/\
   (∀x c,cl.lookup x=some c->env.cells.lookup x=some c)/\
   (∀x,(names.lookup x=some .free\/(acc.lookup x).isSome=true)->∃c,cl.lookup x=some c):=by
 intro names
 induction names with
 |nil=>
  intro acc _ ha
  refine⟨acc,rfl,ha,fun x hx=>?_⟩
  rcases hx with hx|hx
  ·simp at hx
  ·exact Option.isSome_iff_exists.mp hx
 |cons p r ih=>
  intro acc hf ha
  obtain⟨n,k⟩:=p
  have hr:∀p∈r,p.2=.free->∃c,env.cells.lookup p.1=some c:=fun p hp=>hf p (List.mem_cons_of_mem _ hp)
  by_cases hk:k=.free
  ·subst hk
   obtain⟨c,hc⟩:=hf (n,.free) List.mem_cons_self rfl
   obtain⟨cl,h1,h2,h3⟩:=ih ((n,c)::acc) hr (fun x c' e=>by
    rw [List.lookup_cons]at e
    cases hx:x==n with
    |true=>
     rw [hx]at e
     have:=eq_of_beq hx
     subst this
     cases e
     exact hc
    |false=>rw [hx]at e;exact ha x c' e)
   refine⟨cl,?_,h2,fun x hx=>h3 x ?_⟩
   ·rw[List.forIn_cons]
    have:cellOf env n=pure c:=by unfold cellOf;rw[hc]
    simp only[beq_self_eq_true,if_true,this]
    exact h1
   ·rcases hx with hx|hx
    ·rw[List.lookup_cons]at hx
     cases hq:x==n with
     |true=>right;rw[List.lookup_cons,hq];rfl
     |false=>rw[hq]at hx;exact .inl hx
    ·right
     rw[List.lookup_cons]
     cases hq:x==n with
     |true=>rfl
     |false=>exact hx
  ·have hb:(k==NameKind.free)=false:=by simpa using hk
   obtain⟨cl,h1,h2,h3⟩:=ih acc hr ha
   refine⟨cl,?_,h2,fun x hx=>h3 x ?_⟩
   ·rw[List.forIn_cons]
    simp only[hb,Bool.false_eq_true,if_false]
    exact h1
   ·rcases hx with hx|hx
    ·rw[List.lookup_cons]at hx
     cases hq:x==n with
     |true=>rw[hq]at hx;cases hx;exact absurd rfl hk
     |false=>rw[hq]at hx;exact .inl hx
    ·exact .inr hx
theorem q6t{scope:Scope}{env:Env}(hf:∀p∈scope.names,p.2=.free->∃c,env.cells.lookup p.1=some c) :
  ∃cl,closureFor scope env=pure cl/\(∀x c,cl.lookup x=some c->env.cells.lookup x=some c)/\(∀x,scope.names.lookup x=some .free->∃c,cl.lookup x=some c):=by
 obtain⟨cl,h1,h2,h3⟩:=z4e env scope.names [] hf (fun _ _ e=>by simp at e)
 refine⟨cl,?_,h2,fun x hx=>h3 x (.inl hx)⟩
 unfold closureFor
 simp only[]
 have:((forIn scope.names ([]:List (Str×Addr)) (fun(x:Str×NameKind) cs=>
    (if (x.2==NameKind.free)=true then (do let a <-cellOf env x.1;pure (ForInStep.yield ((x.1,a)::cs)))else pure (ForInStep.yield cs))):Sem (List (Str×Addr))) >>= fun r=>pure r)=pure cl:=by
  rw[h1];rfl
 exact this
def IxOk(N:List Str)(around:Scope)(scope:Scope):List Str->List (Option Nat)->Prop
 |[],[]=>True
 |y::r,some j::t=>(N[j]?=some y/\scope.names.lookup y=some .free/\(around.names.lookup y=some .cell\/around.names.lookup y=some .free))/\IxOk N around scope r t
 |_::r,none::t=>IxOk N around scope r t
 |_,_=>False
theorem IxOk.at{N:List Str}{around scope:Scope}:∀{N':List Str}{ix:List (Option Nat)},IxOk N around scope N' ix->∀(i:Nat)(y:Str)(j:Nat),N'[i]?=some y->ix[i]?=some (some j)->
  N[j]?=some y/\scope.names.lookup y=some .free/\(around.names.lookup y=some .cell\/around.names.lookup y=some .free)
 |[],_,_,i,y,j,e,_=>by simp at e
 |_::_,[],h,_,_,_,_,_=>h.elim
 |y'::r,some j'::t,h,0,y,j,e,e'=>by
  simp at e e'
  subst e e'
  exact h.1
 |y'::r,some j'::t,h,i+1,y,j,e,e'=>IxOk.at (N':=r) (ix:=t) h.2 i y j (by simpa using e) (by simpa using e')
 |y'::r,none::t,h,0,y,j,e,e'=>by simp at e'
 |y'::r,none::t,h,i+1,y,j,e,e'=>IxOk.at (N':=r) (ix:=t) h i y j (by simpa using e) (by simpa using e')
theorem IxOk.len{N:List Str}{around scope:Scope}:∀{N':List Str}{ix:List (Option Nat)},IxOk N around scope N' ix->ix.length=N'.length
 |[],[],_=>rfl
 |[],_::_,h=>h.elim
 |_::_,[],h=>h.elim
 |_::r,some _::t,h=>by simp[IxOk.len (N':=r) (ix:=t) h.2]
 |_::r,none::t,h=>by simp[IxOk.len (N':=r) (ix:=t) h]
def q3d(ix:List (Option Nat))(σ:St):St:=ix.map fun o=>match o with
 |none=>none
 |some j=>match σ[j]? with
  |some v=>v
  |none=>none
structure CompOk(X:Cx)(scope:Scope)(N':List Str)(ix:List (Option Nat)):Prop where
 kind:scope.kind=.function
 cell:∀y∈scope.names,y.2≠.cell
 names:∀y∈scope.names,y.2=.local->scope.names.lookup y.1=some .local
 free:∀y∈scope.names,y.2=.free->X.env.scope.names.lookup y.1=some .cell\/X.env.scope.names.lookup y.1=some .free
 ixs:IxOk X.N X.env.scope scope N' ix
def Cx.comp(X:Cx)(scope:Scope)(N':List Str)(cl:List (Str×Addr))(C:Addr)(s:Shared)(H:Hp)(fp:List Addr):Cx where
 prog:=X.prog
 w:=X.w
 K:=X.K
 mg:=X.mg
 base:=X.base
 A:=X.A
 N:=N'
 s₀:=s
 H₀:=H
 env:=compEnvC scope cl C X.env
 outer:=X.stack
 stack:=X.stack
 ex:=fp
 fn:=fun _=>false
 calm:=true
 pn:=[]
 xe:=fun _ _=>False
theorem z0l{env:Env}{scope:Scope}{x:Str}{k:NameKind}:(relabel scope env).names.lookup x=some k->k=.cell\/k=.free->(∀y∈scope.names,y.2≠.cell)->scope.names.lookup x=some .free:=by
 unfold relabel
 dsimp only
 generalize scope.names=names
 intro h hk hc
 induction names with
 |nil=>simp at h
 |cons p r ih=>
  obtain⟨n,k'⟩:=p
  rw[List.map_cons,List.lookup_cons]at h
  rw[List.lookup_cons]
  by_cases hf:k'=.free
  ·subst hf
   cases hq:x==n with
   |true=>rfl
   |false=>
    refine ih ?_ fun y hy=>hc y (List.mem_cons_of_mem _ hy)
    split at h
    ·rename_i hh;simp only[hq]at hh;split at hh<;>exact absurd hh (by simp[hq])
    ·exact h
  ·have hb:(k' == NameKind.free)=false:=by simpa using hf
   simp only[hb,Bool.false_and,Bool.false_eq_true,if_false]at h
   cases hq:x==n with
   |true=>
    rw[hq]at h
    simp only[Option.some.injEq]at h
    subst h
    rcases hk with hk|hk
    ·exact absurd hk (hc (n,k') List.mem_cons_self)
    ·exact absurd hk hf
   |false=>
    rw[hq]at h
    exact ih h fun y hy=>hc y (List.mem_cons_of_mem _ hy)
theorem z2u{env:Env}{scope:Scope}{x:Str}(h:scope.names.lookup x=some .free):(relabel scope env).names.lookup x=some .cell\/(relabel scope env).names.lookup x=some .free:=by
 unfold relabel
 dsimp only
 generalize scope.names=names at h
 induction names with
 |nil=>simp at h
 |cons p r ih=>
  obtain⟨n,k'⟩:=p
  rw[List.lookup_cons]at h
  rw[List.map_cons]
  cases hq:x==n with
  |true=>
   rw[hq]at h
   simp only[Option.some.injEq]at h
   subst h
   by_cases hc:(env.scope.kind==ScopeKind.function&&env.kindOf n==some NameKind.cell)=true
   ·left
    simp only[beq_self_eq_true,Bool.true_and,hc,if_true,List.lookup_cons,hq]
   ·right
    simp only[beq_self_eq_true,Bool.true_and,hc,Bool.false_eq_true,if_false,List.lookup_cons,hq]
  |false=>
   rw[hq]at h
   have:=ih h
   by_cases hc:(k' == NameKind.free&&env.scope.kind==ScopeKind.function&&env.kindOf n==some NameKind.cell)=true
   ·simp only[hc,if_true,List.lookup_cons,hq];exact this
   ·simp only[hc,Bool.false_eq_true,if_false,List.lookup_cons,hq];exact this
section
variable{X:Cx}{pins:List (Addr×Obj)}{σ:St}{H:Hp}{s:Shared}
theorem Inv.track{D:Addr}{its:List Value}{n:Nat}{ys:List V}(I:Inv X pins σ H s)(hn:H D=none)(hL:D≠X.env.locals)(h1:X.s₀.heap.objs.size<=D)
  (h2:∀x c,X.env.cells.lookup x=some c->c≠D) (h3:∀p∈X.pn++pins,p.1≠D) (ho:s.heap.get? D=some {cls:=.type "list",data:=.seq its.toArray n}) (r:Vals ys its) (hz:ys.length<=sizeLine) :
  Inv X pins σ (upd H D (.lst ys)) s:=by
 have ne:∀b u,H b=some u->b≠D:=fun b u e z=>by rw[z,hn]at e;cases e
 have ne0:∀b o,X.s₀.heap.get? b=some o->b≠D:=fun b o e=>Nat.ne_of_lt (Nat.lt_of_lt_of_le (Heap.lt_size e) h1)
 refine⟨I.ok,I.os,I.bare,⟨I.base.keep,I.base.slot,fun b o e n' hx=>?_,I.base.there,fun b xs e=>?_,fun b o u e=>?_,fun b ps e=>?_⟩,I.loc,I.cell,?_,fun x c e=>?_,fun p hp=>?_,fun b u e=>?_,I.len⟩
 ·rw[q1c (ne0 b o e)];exact I.base.free b o e n' hx
 ·have q:=I.base.tups b xs e
  rw[q1c (ne _ _ q)];exact q
 ·have q:=I.base.frzs b o u e
  rw[q1c (ne _ _ q)];exact q
 ·obtain⟨more,q⟩:=I.base.tbls b ps e
  exact⟨more,by rw[q1c (ne _ _ q)];exact q⟩
 ·rw[q1c (Ne.symm hL)];exact I.free
 ·rw[q1c (h2 x c e)];exact I.freeC x c e
 ·obtain⟨a1,a2,a3⟩:=I.pin p hp
  exact⟨a1,by rw[q1c (h3 p hp)];exact a2,a3⟩
 ·by_cases hb:b=D
  ·subst hb
   rw[q1r]at e
   cases e
   exact⟨hz,its,n,r,ho⟩
  ·rw[q1c hb]at e
   refine(I.hok b u e).stay (fun c v hc q=>q) (fun c q=>?_) fun c xs q=>?_
   ·rw[q1c (ne _ _ q)];exact q
   ·rw[q1c (ne _ _ q)];exact q
theorem Inv.comp{scope:Scope}{N':List Str}{ix:List (Option Nat)}{cl:List (Str×Addr)}{C:Addr}{fp:List Addr}{h':Heap}{t':Nat}(I:Inv X pins σ H s)(co:CompOk X scope N' ix)
  (hcl1:∀x c,cl.lookup x=some c->X.env.cells.lookup x=some c) (hcl2:∀x,scope.names.lookup x=some .free->∃c,cl.lookup x=some c) (hc:X.calm=true)
  (hC:s.heap.objs.size<=C) (hns:h'.Ns C fun _=>none) (hk:∀b o,s.heap.get? b=some o->h'.get? b=some o) (hf:∀b∈fp,FpOk X pins H b) (hfz:∀b∈fp,b<s.heap.objs.size) :
  Inv (X.comp scope N' cl C s H fp) [] (q3d ix σ) H {s with heap:=h',toks:=t' }:=by
 have lookK:∀x k,(compEnvC scope cl C X.env).kindOf x=some k->k=.cell\/k=.free->scope.names.lookup x=some .free:=fun x k e hk'=>z0l (env:=X.env) e hk' co.cell
 have ok:(X.comp scope N' cl C s H fp).Ok:=by
  refine⟨I.ok.mod,co.kind,I.ok.glob,I.ok.blt,hC,fun x y c e1 e2=>I.ok.inj x y c (hcl1 x c e1) (hcl1 y c e2),fun x hx=>?_,fun x c e=>(by cases e),fun _=>I.ok.hd hc,I.ok.frames,.inl rfl,fun b hb=>⟨?_,fun x c e=>?_⟩,I.bs,?_,fun b o e hb=>?_,fun b hb z=>?_,I.stack,I.stkFree⟩
  ·refine hcl2 x ?_
   rcases hx with e|e
   ·exact lookK x _ e (.inl rfl)
   ·exact lookK x _ e (.inr rfl)
  ·exact Nat.ne_of_lt (Nat.lt_of_lt_of_le (hfz b hb) hC)
  ·exact(hf b hb).2.2.2.2.1 x c (hcl1 x c e)
  ·exact Nat.le_trans I.ok.bsz I.sz
  ·rcases(hf b hb).2.2.2.1 with z|z
   ·exact I.ok.noex b o e z
   ·exact absurd (Nat.lt_of_lt_of_le (Heap.lt_size (I.ok.bs b o e).1) z) (Nat.lt_irrefl _)
  ·rcases List.mem_cons.mp (I.stkSub b z)with q|q
   ·exact(hf b hb).2.1 q
   ·exact(hf b hb).2.2.1 q
 refine⟨ok,rfl,I.bare,Un.kept hk,⟨_,hns,fun i y v e1 e2 e3=>?_⟩,fun x c e=>?_,?_,fun x c e=>I.freeC x c (hcl1 x c e),(fun p hp=>by cases hp),I.hok.kept hk,?_⟩
 ·-- a name of the frame around
  have e1':N'[i]?=some y:=e1
  have e2':(q3d ix σ)[i]?=some (some v):=e2
  unfold q3d at e2'
  rw[List.getElem?_map]at e2'
  cases hix:ix[i]? with
  |none=>rw[hix]at e2';cases e2'
  |some o=>
   rw[hix]at e2'
   cases o with
   |none=>cases e2'
   |some j=>
    have hj:σ[j]?=some (some v):=by
     cases hs:σ[j]? with
     |none=>simp only[Option.map_some,hs]at e2';cases e2'
     |some o=>
      simp only[Option.map_some,hs,Option.some.injEq]at e2'
      rw[e2']
    obtain⟨a1,a2,a3⟩:=co.ixs.at i y j e1' hix
    obtain⟨m,hm,hl⟩:=I.loc
    obtain⟨u,r,l⟩:=hl j y v a1 hj (by rcases a3 with z|z;exact .inr (.inl z);exact .inr (.inr z))
    refine⟨u,r,.inr ⟨z2u a2,?_⟩⟩
    obtain⟨c,hc'⟩:=hcl2 y a2
    refine⟨c,hc',?_⟩
    rcases l with⟨z,_⟩|⟨_,c',e',o,ho,hd⟩
    ·have z':X.env.scope.names.lookup y=some .local:=z
     rcases a3 with q|q<;>rw[z']at q<;>cases q
    ·have:c'=c:=Option.some.inj (e'.symm.trans (hcl1 y c hc'))
     subst this
     exact⟨o,hk _ _ ho,hd⟩
 ·obtain⟨v,o,ho,hd⟩:=I.cell x c (hcl1 x c e)
  exact⟨v,o,hk _ _ ho,hd⟩
 ·exact I.hok.fresh hC
 ·show(q3d ix σ).length=N'.length
  unfold q3d
  rw[List.length_map]
  exact co.ixs.len
end
def z7w(J:It)(g:TG)(tc:TT)(te:TE)(Q:VK)(σ₀:St)(H1:Hp):Prop:=∃(W:Nat->List V->St->Hp->Prop)(n:Nat),n<=sizeLine/\W 0 [] σ₀ H1/\∀i ys σ H,i<=n->W i ys σ H->
 (J.stop i H/\∀p,H p=none->Q (.ref p) (upd H p (.lst ys)))\/(i<n/\J.go i H/\∀x H',J.yld i H x H'->g x σ H' fun σ2 H2=>tc σ2 H2 fun b H3=>if b=true then te σ2 H3 fun y H4=>W (i+1) (ys++[y]) σ2 H4 else W (i+1) ys σ2 H3)
def z4u(wi:TI)(ix:List (Option Nat))(g:TG)(tc:TT)(te:TE):TE:=fun σ H Q=>wi σ H fun J H1=>z7w J g tc te Q (q3d ix σ) H1
section
variable{X:Cx}{tg iter elt c:Expr}{scope:Scope}{pos:Pos}{N':List Str}{ix:List (Option Nat)}{wi:TI}{g:TG}{te:TE}{tc:TT}
structure CompMid(X:Cx)(scope:Scope)(N':List Str)(cl:List (Str×Addr))(C D:Addr)(s₂:Shared)(H₂:Hp)(fp:List Addr)(tn:Nat->Heap->Prop)(W:Nat->List V->St->Hp->Prop)(i:Nat)(ys:List V)(σ':St)(H':Hp)(s':Shared):Prop where
 inv:∃us:List Value,Vals ys us/\Inv (X.comp scope N' cl C s₂ H₂ fp) [(D,{cls:=.type "list",data:=.seq us.toArray us.length})] σ' H' s'
 tn:tn i s'.heap
 fpn:∀b∈fp,H' b=none
 len:ys.length<=i
 w:W i ys σ' H'
theorem y7a{pins:List (Addr×Obj)}{σ:St}{H₂:Hp}{s₂:Shared}{cl:List (Str×Addr)}{C D:Addr}{fp:List Addr}{Q:VK}{ys:List V}{us:List Value}{σ':St}{H':Hp}{s':Shared}
  (I₂:Inv X pins σ H₂ s₂) (f2:∀b∈fp,FpOk X pins H₂ b) (hD:s₂.heap.objs.size<=D) (hC:s₂.heap.objs.size<=C) (hDC:D≠C) (r:Vals ys us)
  (I':Inv (X.comp scope N' cl C s₂ H₂ fp) [(D,{cls:=.type "list",data:=.seq us.toArray us.length})] σ' H' s') (hz:ys.length<=sizeLine) (q:∀p,H' p=none->Q (.ref p) (upd H' p (.lst ys))) :
  ∃m,s'.heap.Ns C m/\∀h',Heap.SameBut C s'.heap h'->EP X pins σ Q (.ref D) {s' with heap:=h' }:=by
 obtain⟨m,hm,_⟩:=I'.loc
 refine⟨m,hm,fun h' sb=>?_⟩
 have new:∀a,s₂.heap.objs.size<=a->a≠X.env.locals/\X.s₀.heap.objs.size<=a/\(∀x c,X.env.cells.lookup x=some c->c≠a)/\∀p∈X.pn++pins,p.1≠a:=fun a ha=>by
  refine⟨Nat.ne_of_gt (Nat.lt_of_lt_of_le I₂.lt ha),Nat.le_trans I₂.sz ha,fun x c e=>?_,fun p hp=>?_⟩
  ·obtain⟨v,o,ho,_⟩:=I₂.cell x c e
   exact Nat.ne_of_lt (Nat.lt_of_lt_of_le (Heap.lt_size ho) ha)
  ·exact Nat.ne_of_lt (Nat.lt_of_lt_of_le (Heap.lt_size (I₂.pin p hp).1) ha)
 have I3:Inv X pins σ H' s':=I₂.call' I'.os I'.base I'.hok I'.bare fun b hb=>⟨(f2 b hb).2.2.2.1,(f2 b hb).2.1,(f2 b hb).2.2.2.2.1,(f2 b hb).2.2.2.2.2⟩
 obtain⟨eD,nD,_,_,_⟩:=I'.pin (D,{cls:=.type "list",data:=.seq us.toArray us.length}) (by simp)
 obtain⟨c1,c2,c3,c4⟩:=new C hC
 have I4:Inv X pins σ H' {s' with heap:=h' }:=I3.turned (t':=s'.toks) (it:=C) (fun b o hb e=>(sb.2 b hb).trans e) I'.free c1 (.inr c2) c3 c4
 obtain⟨d1,d2,d3,d4⟩:=new D hD
 have I5:=I4.track (D:=D) (ys:=ys) nD d1 d2 d3 d4 ((sb.2 D hDC).trans eD) r hz
 exact⟨.ref D,_,I5,rfl,q D nD⟩
theorem y7b{H₂:Hp}{s₂:Shared}{cl:List (Str×Addr)}{C D:Addr}{fp:List Addr}{ys:List V}{us:List Value}{σ':St}{H':Hp}{s':Shared}{pl:List (Addr×Obj)}{y:V}{u:Value}{Q:Value->Shared->Prop}{E:Value->Shared->Prop}
  (hD:s₂.heap.objs.size<=D) (hDC:D≠C) (hcl:∀x c,cl.lookup x=some c->c≠D) (r:Vals ys us) (ry:RelV y u) (hz:ys.length<sizeLine)
  (I':Inv (X.comp scope N' cl C s₂ H₂ fp) ([(D,{cls:=.type "list",data:=.seq us.toArray us.length})]++pl) σ' H' s') (hp:∀p∈pl,p.1≠D)
  (h:∀s'',Inv (X.comp scope N' cl C s₂ H₂ fp) ([(D,{cls:=.type "list",data:=.seq (us++[u]).toArray (us++[u]).length})]++pl) σ' H' s''->Q .none s'') :
  wpAny (model X.prog X.w) X.A (call (.builtin "list.append") [.ref D,u]) Q E s':=by
 obtain⟨eD,nD,neD,nfD,ndD⟩:=I'.pin (D,{cls:=.type "list",data:=.seq us.toArray us.length}) (by simp)
 refine append_at eD (fun h₅ hs₅ hD₅=>h _ ?_) (by simp only[List.size_toArray];rw[<-r.length];exact Nat.le_of_lt hz)
 have I1:Inv (X.comp scope N' cl C s₂ H₂ fp) pl σ' H' s':=I'.pins_of fun p hp'=>I'.pin p (List.mem_append_right _ (List.mem_append_right _ hp'))
 have I2:Inv (X.comp scope N' cl C s₂ H₂ fp) pl σ' H' {s' with heap:=h₅}:=I1.turned (t':=s'.toks) (it:=D) (fun b o hb e=>(hs₅.2 b hb).trans e) nD neD (.inr hD) hcl (fun p hp'=>hp p (by simpa[Cx.comp]using hp'))
 refine I2.pins_of fun p hp'=>?_
 rcases List.mem_append.mp hp' with z|z
 ·obtain rfl:=List.mem_singleton.mp z
  refine⟨?_,nD,neD,nfD,fun v z=>by cases z⟩
  rw[hD₅,List.length_append,List.length_singleton,List.push_toArray]
 ·exact I2.pin p (List.mem_append_right _ z)
end
section
variable{X:Cx}{tg iter elt c:Expr}{scope:Scope}{pos:Pos}{N':List Str}{ix:List (Option Nat)}{wi:TI}{g:TG}{te:TE}{tc:TT}
theorem z4c{pins:List (Addr×Obj)}{σ:St}{H₂:Hp}{s₂:Shared}{cl:List (Str×Addr)}{C D:Addr}{fp:List Addr}{ys:List V}{us:List Value}{σ':St}{H':Hp}{s':Shared}{i:Nat}{x:Str}{py:Pos}{Q:Value->Shared->Prop}
  (hN:X.N.Nodup) (hi:X.N[i]?=some x) (hx:Loc X.env.scope x) (hf:X.fn x=true\/X.env.scope.names.lookup x=some .local)
  (I₂:Inv X pins σ H₂ s₂) (f2:∀b∈fp,FpOk X pins H₂ b) (hD:s₂.heap.objs.size<=D) (hC:s₂.heap.objs.size<=C) (hDC:D≠C) (r:Vals ys us)
  (I':Inv (X.comp scope N' cl C s₂ H₂ fp) [(D,{cls:=.type "list",data:=.seq us.toArray us.length})] σ' H' s') (hz:ys.length<=sizeLine)
  (q:∀s'',Inv X pins (σ.set i (some (.ref D))) (upd H' D (.lst ys)) s''->H' D=none->Q .none s'') :
  wpAny (model X.prog X.w) X.A (assign (.Name x py) X.env (.ref D)) (fun _ s''=>∃m,s''.heap.Ns C m/\∀h',Heap.SameBut C s''.heap h'->Q .none {s'' with heap:=h' }) X.xe s':=by
 obtain⟨m,hm,_⟩:=I'.loc
 have new:∀a,s₂.heap.objs.size<=a->a≠X.env.locals/\X.s₀.heap.objs.size<=a/\(∀x c,X.env.cells.lookup x=some c->c≠a)/\∀p∈X.pn++pins,p.1≠a:=fun a ha=>by
  refine⟨Nat.ne_of_gt (Nat.lt_of_lt_of_le I₂.lt ha),Nat.le_trans I₂.sz ha,fun x c e=>?_,fun p hp=>?_⟩
  ·obtain⟨v,o,ho,_⟩:=I₂.cell x c e
   exact Nat.ne_of_lt (Nat.lt_of_lt_of_le (Heap.lt_size ho) ha)
  ·exact Nat.ne_of_lt (Nat.lt_of_lt_of_le (Heap.lt_size (I₂.pin p hp).1) ha)
 have I3:Inv X pins σ H' s':=I₂.call' I'.os I'.base I'.hok I'.bare fun b hb=>⟨(f2 b hb).2.2.2.1,(f2 b hb).2.1,(f2 b hb).2.2.2.2.1,(f2 b hb).2.2.2.2.2⟩
 obtain⟨eD,nD,_,_,_⟩:=I'.pin (D,{cls:=.type "list",data:=.seq us.toArray us.length}) (by simp)
 obtain⟨c1,c2,c3,c4⟩:=new C hC
 obtain⟨d1,d2,d3,d4⟩:=new D hD
 have I5:=I3.track (D:=D) (ys:=ys) nD d1 d2 d3 d4 eD r hz
 refine wpAny_assign_Name (q9e I5 hN hi hx (v:=.ref D) rfl (fun s'' I'' ⟨a,sb,ha⟩=>?_) hf)
 have haC:a≠C:=by
  rcases ha with rfl|ha
  ·exact c1.symm
  ·exact c3 _ _ ha
 refine⟨m,hm.sameBut sb haC.symm,fun h' sb'=>q _ ?_ nD⟩
 exact I''.turned (t':=s''.toks) (it:=C) (fun b o hb e=>(sb'.2 b hb).trans e) (by rw[q1c hDC.symm];exact I'.free) c1 (.inr c2) c3 c4
theorem y6l{prog:Program}{w:World}{A:Around}{s:Shared}{elt target iter:Expr}{ifs:List Expr}{scope:Scope}{pos:Pos}{it acc:Value}{env:Env}{R:Result->Shared->Prop}(I:Nat->Shared->Prop)
  (turn:∀n s,I n s->wpAny (model prog w) A (pyNext it) (fun r s₁=>match r with
   |none=>R (.ok .next) s₁
   |some v=>wpAny (model prog w) A (letOwnedTupleGo target it v) (fun _ s₀=>wpAny (model prog w) A (assign target env v) (fun _ s₂=>
     wpAny (model prog w) A (forIn ifs true fun c r=>if r=true then do let ok <-isTrue c env (eval c env);pure (ForInStep.yield ok)else pure (ForInStep.yield r)) (fun ok s₃=>if ok=true then wpAny (model prog w) A (eval elt env) (fun x s₄=>
      wpAny (model prog w) A (call (.builtin "list.append") [acc,x]) (fun _ s₅=>∃m,m<n/\I m s₅) (notedBy (model prog w) A env fun e s'=>R (.error e) s') s₄) (notedBy (model prog w) A env fun e s'=>R (.error e) s') s₃
      else ∃m,m<n/\I m s₃) (notedBy (model prog w) A env fun e s'=>R (.error e) s') s₂)
     (notedBy (model prog w) A env fun e s'=>R (.error e) s') s₀) (notedBy (model prog w) A env fun e s'=>R (.error e) s') s₁) (notedBy (model prog w) A env fun e s'=>R (.error e) s') s)
  (n:Nat) (h:I n s):codeAny (model prog w) A (.compLoop (.ListComp elt [⟨target,iter,ifs,0⟩] scope pos) 0 it acc env) R s:=by
 refine codeAny_loop rfl I (fun n s hI=>?_) n h
 show wpAny _ A ((compTurn (.ListComp elt [⟨target,iter,ifs,0⟩] scope pos) 0 it acc env).onRaise (fun x=>do noteFrame x env;theTreesLotGoes x)) _ _ s
 refine wpAny_noted ?_
 rw[compTurn_list]
 refine wpAny_bind (wpAny_standAt (wpAny_bind (wpAny_mono (turn n s hI) (fun r s₁ h₁=>?_) fun _ _ h'=>h')))
 cases r with
 |none=>exact wpAny_pure h₁
 |some v=>
  refine wpAny_bind (wpAny_mono h₁ (fun _ s₀ h₀'=>?_) fun _ _ h'=>h')
  refine wpAny_bind (wpAny_mono h₀' (fun _ s₂ h₂=>?_) fun _ _ h'=>h')
  refine wpAny_bind (wpAny_mono h₂ (fun okb s₃ h₃=>?_) fun _ _ h'=>h')
  cases okb with
  |false=>exact wpAny_pure ⟨rfl,h₃⟩
  |true=>exact wpAny_bind (wpAny_bind (wpAny_mono h₃ (fun x s₄ h₄=>wpAny_bind (wpAny_mono h₄ (fun _ s₅ h₅=>wpAny_pure (wpAny_pure ⟨rfl,h₅⟩)) fun _ _ h'=>h')) fun _ _ h'=>h'))
def PTs(X:Cx)(ifs:List Expr)(t:TT):Prop:=
 ∀(pins:List (Addr×Obj))(s:Shared)(σ:St)(H:Hp)(Q:Bool->Hp->Prop),Inv X pins σ H s->t σ H Q->wpAny (model X.prog X.w) X.A (forIn ifs true fun c r=>if r=true then do let ok <-isTrue c X.env (eval c X.env);pure (ForInStep.yield ok)else pure (ForInStep.yield r)) (TP X pins σ Q) X.xe s
theorem y0j(h:PT X c tc):PTs X [c] tc:=fun pins s σ H Q I q=>wpAny_tests_one (h pins s σ H Q I q)
theorem x0l(h:∀σ H Q,tc σ H Q->Q true H):PTs X [] tc:=fun pins s σ H Q I q=>wpAny_tests_nil ⟨H,I,h σ H Q q⟩
theorem z4b{ifs:List Expr}{use:Option (Value->Sem Unit)}{Qf:Value->Shared->Prop}{pins:List (Addr×Obj)}{s:Shared}{σ:St}{H:Hp}{ps:Pos}(hc:X.calm=true)(co:CompOk X scope N' ix)(hi:PI X tg iter wi)(hg:∀cl C s H fp,PG (X.comp scope N' cl C s H fp) tg g)(ht:∀cl C s H fp,PTs (X.comp scope N' cl C s H fp) ifs tc)(he:∀cl C s H fp,PE (X.comp scope N' cl C s H fp) elt te)
  (hs:∀x,foldedSetIterable iter X.env x=pure x:=by intro _;rfl)
  (I:Inv X pins σ H s) (h:wi σ H fun J H1=>∃Q:VK,z7w J g tc te Q (q3d ix σ) H1/\∀{H₂:Hp}{s₂:Shared}{cl:List (Str×Addr)}{C D:Addr}{fp:List Addr}{ys:List V}{us:List Value}{σ':St}{H':Hp}{s':Shared},Inv X pins σ H₂ s₂->(∀b∈fp,FpOk X pins H₂ b)->s₂.heap.objs.size<=D->s₂.heap.objs.size<=C->D≠C->Vals ys us->
   Inv (X.comp scope N' cl C s₂ H₂ fp) [(D,{cls:=.type "list",data:=.seq us.toArray us.length})] σ' H' s'->ys.length<=sizeLine->(∀p,H' p=none->Q (.ref p) (upd H' p (.lst ys)))->compPost (model X.prog X.w) X.A X.xe use Qf (.ref D) C (.ok .next) s') :
  wpAny (model X.prog X.w) X.A (comprehension (.ListComp elt [⟨tg,iter,ifs,0⟩] scope pos) scope X.env ps (newList []) false (eval iter X.env) use) Qf X.xe s:=by
 obtain⟨cl,hclos,hcl1,hcl2⟩:=q6t (scope:=scope) (env:=X.env) fun p hp e=>by
  rcases co.free p hp e with z|z
  ·exact I.ok.has p.1 (.inl z)
  ·exact I.ok.has p.1 (.inr z)
 refine wpAny_comprehension_free (use:=use) rfl hs hclos co.kind co.names (thn (hi pins s σ H _ I h) fun v s1 h1=>thn h1 fun itv s₂ h2=>?_)
 obtain⟨it,fp,tn,J,H₂,rfl,I₂,T,st2,f2,Q,⟨W,n,hn,w0,turn⟩,fin⟩:=h2
 refine wpAny_newObj_type (wpAny_newFunctionEnv co.cell (by intro y hy;simp at hy) (fun h₁ hns₁ hsb₁=>?_) co.kind)
 dsimp only at hns₁ hsb₁ ⊢
 generalize hH2:s₂.heap.push {cls:=.type "list",dict:=none,data:=.seq ([]:List Value).toArray}=H2 at hns₁ hsb₁ ⊢
 have hC:H2.objs.size=s₂.heap.objs.size+1:=by rw[<-hH2,Heap.size_push]
 have hCle:s₂.heap.objs.size<=H2.objs.size:=by omega
 have hDC:s₂.heap.objs.size≠H2.objs.size:=by omega
 have old:∀b o,s₂.heap.get? b=some o->h₁.get? b=some o:=fun b o e=>hsb₁.extBut b o (Nat.ne_of_lt (by rw[hC];exact Nat.lt_succ_of_lt (Heap.lt_size e))) (Heap.get?_push_of_some _ (hH2▸Heap.get?_push_of_some _ e))
 have hacc:h₁.get? s₂.heap.objs.size=some {cls:=.type "list",data:=.seq ([]:List Value).toArray}:=hsb₁.extBut _ _ hDC (Heap.get?_push_of_some _ (hH2▸Heap.get?_push_size _ rfl))
 have hfz:∀b∈fp,b<s₂.heap.objs.size:=fun b hb=>by
  obtain⟨o,e,_⟩:=T.obj _ _ st2 b hb
  exact Heap.lt_size e
 have hclD:∀x c,cl.lookup x=some c->c≠s₂.heap.objs.size:=fun x c e=>by
  obtain⟨v,o,ho,_⟩:=I₂.cell x c (hcl1 x c e)
  exact Nat.ne_of_lt (Heap.lt_size ho)
 have st0:tn 0 h₁:=T.keep _ _ _ st2 fun b hb o e=>old b o e
 have loop:∀s₃:Shared,s₃={s₂ with heap:=h₁,toks:=s₂.toks+([]:List (Str×Value)).length}->
   codeAny (model X.prog X.w) X.A (.compLoop (.ListComp elt [⟨tg,iter,ifs,0⟩] scope pos) 0 (.ref it) (.ref s₂.heap.objs.size) (compEnvC scope cl H2.objs.size X.env))
    (compPost (model X.prog X.w) X.A X.xe use Qf (.ref s₂.heap.objs.size) H2.objs.size) s₃:=by
  rintro s₃ rfl
  have I0:=I₂.comp (t':=s₂.toks+([]:List (Str×Value)).length) co hcl1 hcl2 hc hCle hns₁ old f2 hfz
  have nof:s₂.heap.objs.size∉(X.comp scope N' cl H2.objs.size s₂ H₂ fp).fs:=fun z=>by
   obtain⟨_,o,ho,_⟩:=I0.ok.funs.mem z
   exact absurd (Heap.lt_size ho) (Nat.lt_irrefl _)
  have I0':Inv (X.comp scope N' cl H2.objs.size s₂ H₂ fp) [(s₂.heap.objs.size,{cls:=.type "list",data:=.seq ([]:List Value).toArray ([]:List Value).length})] (q3d ix σ) H₂ {s₂ with heap:=h₁,toks:=s₂.toks+([]:List (Str×Value)).length}:=I0.pins_of fun p hp=>by
   obtain rfl:=List.mem_singleton.mp hp
   exact⟨hacc,I₂.fresh,hDC,nof,fun v z=>by cases z⟩
  have hclC:∀x c,cl.lookup x=some c->c≠s₂.heap.objs.size:=hclD
  have fpok:∀{us:List Value}{H':Hp},(∀b∈fp,H' b=none)->∀b∈fp,FpOk (X.comp scope N' cl H2.objs.size s₂ H₂ fp) [(s₂.heap.objs.size,{cls:=.type "list",data:=.seq us.toArray us.length})] H' b:=fun hn' b hb=>
   ⟨hn' b hb,(I0.ok.exf b hb).1,I0.ok.exfs b hb,.inl hb,(I0.ok.exf b hb).2,fun p hp=>by
    have hp':p∈[(s₂.heap.objs.size,({cls:=.type "list",data:=.seq _ _}:Obj))]:=hp
    obtain rfl:=List.mem_singleton.mp hp'
    exact Nat.ne_of_gt (hfz b hb)⟩
  refine y6l (fun k s'=>∃i ys σ' H',i<=n/\k=n-i/\CompMid X scope N' cl H2.objs.size s₂.heap.objs.size s₂ H₂ fp tn W i ys σ' H' s') ?_ n
   ⟨0,[],q3d ix σ,H₂,Nat.zero_le _,rfl,⟨[],.nil,I0'⟩,st0,fun b hb=>(f2 b hb).1,Nat.le_refl _,w0⟩
  rintro k s3 ⟨i,ys,σ3,H3,hi3,rfl,⟨us,r3,I3⟩,st3,fr3,hl3,w3⟩
  have weak:∀{e:Value}{s':Shared},False->notedBy (model X.prog X.w) X.A (compEnvC scope cl H2.objs.size X.env) (fun e s'=>compPost (model X.prog X.w) X.A X.xe use Qf (.ref s₂.heap.objs.size) H2.objs.size (.error e) s') e s':=fun z=>z.elim
  rcases turn i ys σ3 H3 hi3 w3 with⟨stop,q⟩|⟨hlt,go,step⟩
  ·refine thn (T.done (X.comp scope N' cl H2.objs.size s₂ H₂ fp) rfl rfl rfl rfl i _ s3 σ3 H3 _ I3 (fpok fr3) st3 stop) fun r s4 hh1=>?_
   obtain⟨hr,I4⟩:=hh1
   subst hr
   exact fin I₂ f2 (Nat.le_refl _) hCle hDC r3 I4 (by omega) q
  ·refine thn (T.item (X.comp scope N' cl H2.objs.size s₂ H₂ fp) rfl rfl rfl rfl i _ s3 σ3 H3 _ I3 (fpok fr3) st3 go) fun r s4 hh2=>?_
   obtain⟨u,hr,h4⟩:=hh2
   subst hr
   refine thn h4 fun _ s5 hh3=>?_
   obtain⟨x,H5,I5,r5,y5,st5,fr5⟩:=hh3
   have I5':=I5.pinned (fpok fr5) (T.obj _ _ st5)
   refine wpAny_mono (hg cl _ s₂ H₂ fp _ s5 σ3 H5 x u _ I5' r5 (step x H5 y5)) (fun _ s6 ⟨σ6,H6,I6,q6⟩=>?_) fun _ _ z=>weak z
   refine wpAny_mono (ht cl _ s₂ H₂ fp _ s6 σ6 H6 _ I6 q6) (fun b6 s6' ⟨H6',I6',q6'⟩=>?_) fun _ _ z=>weak z
   have hpl:∀p∈z0w fp s5.heap,p.1≠s₂.heap.objs.size:=fun p hp=>Nat.ne_of_lt (hfz p.1 (z3b hp).1)
   cases b6 with
   |false=>
    have q6'':W (i+1) ys σ6 H6':=by simpa using q6'
    have g6:¬(false=true):=by decide
    rw[if_neg g6]
    refine⟨n-(i+1),by omega,i+1,ys,σ6,H6',hlt,rfl,⟨us,r3,I6'.unpinned⟩,?_,fun b hb=>?_,by omega,q6''⟩
    ·exact T.keep _ _ _ st5 fun b hb o e=>(I6'.pin (b,o) (List.mem_append_right _ (List.mem_append_right _ (q2m hb e)))).1
    ·obtain⟨o,e,d⟩:=T.obj _ _ st5 b hb
     exact(I6'.pin (b,o) (List.mem_append_right _ (List.mem_append_right _ (q2m hb e)))).2.1
   |true=>
    have q6'':te σ6 H6' fun y H4=>W (i+1) (ys++[y]) σ6 H4:=by simpa using q6'
    have g6:true=true:=rfl
    rw[if_pos g6]
    refine wpAny_mono (he cl _ s₂ H₂ fp _ s6' σ6 H6' _ I6' q6'') (fun u7 s7 ⟨y7,H7,I7,r7,q7⟩=>?_) fun _ _ z=>weak z
    refine y7b (pl:=z0w fp s5.heap) (Nat.le_refl _) hDC hclD r3 r7 (by omega) I7 hpl fun s8 I8=>?_
    refine⟨n-(i+1),by omega,i+1,ys++[y7],σ6,H7,hlt,rfl,⟨us++[u7],r3.append (.cons r7 .nil),I8.unpinned⟩,?_,fun b hb=>?_,by rw[List.length_append,List.length_singleton];omega,q7⟩
    ·exact T.keep _ _ _ st5 fun b hb o e=>(I8.pin (b,o) (List.mem_append_right _ (List.mem_append_right _ (q2m hb e)))).1
    ·obtain⟨o,e,d⟩:=T.obj _ _ st5 b hb
     exact(I8.pin (b,o) (List.mem_append_right _ (List.mem_append_right _ (q2m hb e)))).2.1
 exact codeAny_compStart_list (loop _ rfl) (T.self _ 0 _ _ _ st0 (loop _ rfl))
theorem z6r{ifs:List Expr}(hc:X.calm=true)(co:CompOk X scope N' ix)(hit:PI X tg iter wi)(hm:∀σ H R R',(∀J H1,R J H1->R' J H1)->wi σ H R->wi σ H R')(hg:∀cl C s H fp,PG (X.comp scope N' cl C s H fp) tg g)(ht:∀cl C s H fp,PTs (X.comp scope N' cl C s H fp) ifs tc)(he:∀cl C s H fp,PE (X.comp scope N' cl C s H fp) elt te)
  (hs:∀x,foldedSetIterable iter X.env x=pure x:=by intro _;rfl):PE X (.ListComp elt [⟨tg,iter,ifs,0⟩] scope pos) (z4u wi ix g tc te):=by
 intro pins s σ H Q I h
 rw[eval_ListComp]
 refine z4b (use:=none) (Qf:=EP X pins σ Q) hc co hit hg ht he hs I (hm σ H _ _ (fun J H1 q=>⟨_,q,?_⟩) h)
 intro H₂ s₂ cl C DD fp ys us σ' H' s' I₂ f2 hD hC hDC r I' hz q
 exact y7a I₂ f2 hD hC hDC r I' hz q
def z8c(wi:TI)(ix:List (Option Nat))(g:TG)(tc:TT)(te:TE)(i:Nat):TS:=fun D σ H=>z4u wi ix g tc te σ H fun v H1=>D.nx (σ.set i (some v)) H1
theorem PI.mono{wi wi':TI}(h:PI X tg iter wi)(i:∀σ H R,wi' σ H R->wi σ H R):PI X tg iter wi':=fun pins s σ H R I q=>h pins s σ H R I (i σ H R q)
theorem z4z{ifs:List Expr}{i:Nat}{x:Str}{px sp:Pos}(hsw:swapsWith (.ListComp elt [⟨tg,iter,ifs,0⟩] scope pos) (some (.Name x px)) sp.line X.env=pure true)(hN:X.N.Nodup)(hi:X.N[i]?=some x)(hx:Loc X.env.scope x)
  (hc:X.calm=true) (co:CompOk X scope N' ix) (hit:PI X tg iter wi) (hm:∀σ H R R',(∀J H1,R J H1->R' J H1)->wi σ H R->wi σ H R') (hg:∀cl C s H fp,PG (X.comp scope N' cl C s H fp) tg g) (ht:∀cl C s H fp,PTs (X.comp scope N' cl C s H fp) ifs tc) (he:∀cl C s H fp,PE (X.comp scope N' cl C s H fp) elt te)
  (hs:∀x,foldedSetIterable iter X.env x=pure x:=by intro _;rfl) (hf:X.fn x=true\/X.env.scope.names.lookup x=some .local:=by first|exact .inl rfl|exact .inr rfl|assumption) :
  PS X (.Assign [.Name x px] (.ListComp elt [⟨tg,iter,ifs,0⟩] scope pos) sp) (z8c wi ix g tc te i):=by
 intro pins s σ H D I h
 rw[exec_Assign_Name_used _ _ _ _ hsw]
 refine wpAny_bind (wpAny_standAt (wpAny_bind ?_))
 show wpAny _ X.A (do let _ <-comprehension (.ListComp elt [⟨tg,iter,ifs,0⟩] scope pos) scope X.env _ (newList []) false (eval iter X.env) (some (assign (.Name x px) X.env))) _ _ s
 refine wpAny_bind (wpAny_mono (z4b (use:=some (assign (.Name x px) X.env)) (Qf:=fun _ s'=>SP X pins D .next s') hc co hit hg ht he hs I (hm σ H _ _ (fun J H1 q=>⟨_,q,?_⟩) h)) (fun _ s' hq=>wpAny_pure (wpAny_pure hq)) fun _ _ e=>e)
 intro H₂ s₂ cl C DD fp ys us σ' H' s' I₂ f2 hD hC hDC r I' hz q
 exact z4c (py:=px) (Q:=fun _ s'=>SP X pins D .next s') hN hi hx hf I₂ f2 hD hC hDC r I' hz fun s'' I'' nD=>⟨_,_,I'',q DD nD⟩
end
section
variable{prog:Program}{w:World}{A:Around}{E:Value->Shared->Prop}{s:Shared}
theorem z1h{j t:Addr}{k:Nat}{xs:Array Value}{v:Value}{R:Value->Shared->Prop}(g:s.heap.IsTupleIter j t k)(gt:s.heap.IsTuple t xs)(gv:xs[k]?=some v)
  (gR:∀h',h'.IsTupleIter j t (k+1)->Heap.SameBut j s.heap h'->R v {s with heap:=h' }):wpAny (model prog w) A (Builtin.SmallTypes.nextOf (.ref j)) R E s:=by
 obtain⟨oj,gj,cj,dj⟩:=id g
 obtain⟨ot,got,_,nt,dt⟩:=gt
 unfold Builtin.SmallTypes.nextOf
 refine wpAny_bind (wpAny_callSpecial?_slot (name:=Str.ofString "__next__") g.typeIs F.slot_tuple_iterator_next (wpAny_call_entry F.slot_tuple_iterator_next g.typeIs F.entry_tuple_iterator_next ?_ (F.args_tuple_iterator_next_1 _)))
 show wpAny _ _ (field (.ref j) 0 >>= _) _ _ s
 refine wpAny_bind (wpAny_field gj dj (x:=.ref t) rfl ?_)
 show wpAny _ _ (ite ((Value.ref t==Value.none)=true) _ _) _ _ s
 rw[if_neg (show(Value.ref t==Value.none)≠true from Bool.false_ne_true)]
 show wpAny _ _ (field (.ref j) 1 >>= _) _ _ s
 refine wpAny_bind (wpAny_field gj dj (x:=.int k 0) rfl ?_)
 show wpAny _ _ (seqItems? (.ref t) >>= _) _ _ s
 refine wpAny_bind (wpAny_seqItems got dt ?_)
 simp only[Int.toNat_natCast,gv]
 refine wpAny_bind (wpAny_setField gj dj (by simp) (wpAny_pure ⟨v,rfl,wpAny_pure (gR _ ?_ (Heap.SameBut.update ..))⟩))
 refine⟨_,Heap.get?_update_self _ gj (Obj.isFreed_of_fields (Obj.data_mapFields dj _)),(Obj.cls_mapFields ..).trans cj,?_⟩
 rw[Obj.data_mapFields dj];simp[rawInt]
theorem z1i{j t:Addr}{k:Nat}{xs:Array Value}{R:Value->Shared->Prop}(gh:A.handled=none)(g:s.heap.IsTupleIter j t k)(gt:s.heap.IsTuple t xs)(gv:xs[k]?=none)
  (gE:∀h' e,Heap.ExtBut j s.heap h'->(∃o,h'.get? e=some o/\o.cls=.type "StopIteration")->E (.ref e) {s with heap:=h' }):wpAny (model prog w) A (Builtin.SmallTypes.nextOf (.ref j)) R E s:=by
 obtain⟨oj,gj,cj,dj⟩:=id g
 obtain⟨ot,got,_,nt,dt⟩:=gt
 unfold Builtin.SmallTypes.nextOf
 refine wpAny_bind (wpAny_callSpecial?_slot (name:=Str.ofString "__next__") g.typeIs F.slot_tuple_iterator_next (wpAny_call_entry F.slot_tuple_iterator_next g.typeIs F.entry_tuple_iterator_next ?_ (F.args_tuple_iterator_next_1 _)))
 show wpAny _ _ (field (.ref j) 0 >>= _) _ _ s
 refine wpAny_bind (wpAny_field gj dj (x:=.ref t) rfl ?_)
 show wpAny _ _ (ite ((Value.ref t==Value.none)=true) _ _) _ _ s
 rw[if_neg (show(Value.ref t==Value.none)≠true from Bool.false_ne_true)]
 show wpAny _ _ (field (.ref j) 1 >>= _) _ _ s
 refine wpAny_bind (wpAny_field gj dj (x:=.int k 0) rfl ?_)
 show wpAny _ _ (seqItems? (.ref t) >>= _) _ _ s
 refine wpAny_bind (wpAny_seqItems got dt ?_)
 simp only[Int.toNat_natCast,gv]
 refine wpAny_bind (wpAny_rule (wpAny_bind (wpAny_setField gj dj (by simp) ?_)))
 show wpAny _ _ (newExc (.type "StopIteration") [] >>= _) _ _ _
 refine wpAny_bind ?_
 simp only[newExc,newTuple]
 refine wpAny_bind (wpAny_newObj_type ?_ (by size_fits))
 refine wpAny_bind (m:=firstArgMember _ _) (wpAny_of_eq (a:=Value.none) (by simp only[firstArgMember];rfl) ?_)
 refine wpAny_newObj_type ?_ (by size_fits)
 simp only[raiseNew]
 refine wpAny_bind (wpAny_handled ?_)
 rw[show A.in1.handled=none from gh]
 refine wpAny_bind (wpAny_pure (wpAny_throw ?_))
 exact gE _ _ (((Heap.SameBut.update ..).extBut.push _).push _) ⟨_,Heap.get?_push_size _ rfl,rfl⟩
end
def ZIt(tp:Bool)(it l:Addr)(i:Nat)(h:Heap):Prop:=if tp=true then h.IsTupleIter it l i else h.IsListIter it l i
def ZSrc(tp:Bool)(l:Addr)(xs:Array Value)(h:Heap):Prop:=if tp=true then h.IsTuple l xs else h.IsList l xs
theorem ZIt.get{tp:Bool}{it l:Addr}{i:Nat}{h:Heap}(x:ZIt tp it l i h):∃o,h.get? it=some o/\∀v,o.data≠.cell v:=by
 unfold ZIt at x
 split at x
 ·obtain⟨o,e,c,d⟩:=x
  exact⟨o,e,fun v z=>by rw[d]at z;cases z⟩
 ·obtain⟨o,e,c,d⟩:=x
  exact⟨o,e,fun v z=>by rw[d]at z;cases z⟩
theorem ZIt.at{tp:Bool}{it l:Addr}{i:Nat}{h h':Heap}(x:ZIt tp it l i h)(k:∀o,h.get? it=some o->h'.get? it=some o):ZIt tp it l i h':=by
 unfold ZIt at x ⊢
 split at x
 ·rename_i c;rw[if_pos c];obtain⟨o,e,r⟩:=x;exact⟨o,k o e,r⟩
 ·rename_i c;rw[if_neg c];obtain⟨o,e,r⟩:=x;exact⟨o,k o e,r⟩
theorem ZSrc.at{tp:Bool}{l:Addr}{xs:Array Value}{h h':Heap}(x:ZSrc tp l xs h)(k:∀o,h.get? l=some o->h'.get? l=some o):ZSrc tp l xs h':=by
 unfold ZSrc at x ⊢
 split at x
 ·rename_i c;rw[if_pos c];obtain⟨o,e,r⟩:=x;exact⟨o,k o e,r⟩
 ·rename_i c;rw[if_neg c];obtain⟨o,e,r⟩:=x;exact⟨o,k o e,r⟩
section
variable{prog:Program}{w:World}{A:Around}{E:Value->Shared->Prop}{s:Shared}
theorem z4o{tp:Bool}{j t:Addr}{k:Nat}{xs:Array Value}{v:Value}{R:Value->Shared->Prop}(g:ZIt tp j t k s.heap)(gt:ZSrc tp t xs s.heap)(gv:xs[k]?=some v)
  (gR:∀h',ZIt tp j t (k+1) h'->Heap.SameBut j s.heap h'->R v {s with heap:=h' }):wpAny (model prog w) A (Builtin.SmallTypes.nextOf (.ref j)) R E s:=by
 cases tp with
 |true=>exact z1h g gt gv gR
 |false=>exact wpAny_nextOf_list_item g gt gv gR
theorem z9g{tp:Bool}{j t:Addr}{k:Nat}{xs:Array Value}{R:Value->Shared->Prop}(gh:A.handled=none)(g:ZIt tp j t k s.heap)(gt:ZSrc tp t xs s.heap)(gv:xs[k]?=none)
  (gE:∀h' e,Heap.ExtBut j s.heap h'->(∃o,h'.get? e=some o/\o.cls=.type "StopIteration")->E (.ref e) {s with heap:=h' }):wpAny (model prog w) A (Builtin.SmallTypes.nextOf (.ref j)) R E s:=by
 cases tp with
 |true=>exact z1i gh g gt gv gE
 |false=>exact wpAny_nextOf_list_end gh g gt gv gE
structure ZAp(z ti to j1 j2 t1 t2:Addr):Prop where
 a1:ti≠z
 a2:to≠z
 a3:j1≠z
 a4:j2≠z
 a5:ti≠to
 a6:ti≠j1
 a7:ti≠j2
 a8:to≠j1
 a9:to≠j2
 b1:j1≠j2
 b2:t1≠z
 b3:t1≠to
 b4:t1≠j1
 b5:t1≠j2
 b6:t2≠z
 b7:t2≠to
 b8:t2≠j1
 b9:t2≠j2
theorem x3j{tp tq:Bool}{z ti to j1 j2 t1 t2:Addr}{k1 k2:Nat}{xs ys:Array Value}{x y p q:Value}{R:Value->Shared->Prop}(D:ZAp z ti to j1 j2 t1 t2)
  (gz:IsZip s.heap z ti to .none) (gi:IsPair s.heap ti (.ref j1) (.ref j2)) (go:IsPair s.heap to p q)
  (g1:ZIt tp j1 t1 k1 s.heap) (g2:ZIt tq j2 t2 k2 s.heap) (l1:ZSrc tp t1 xs s.heap) (l2:ZSrc tq t2 ys s.heap) (ex:xs[k1]?=some x) (ey:ys[k2]?=some y)
  (gR:∀h',IsZip h' z ti to (rawInt s.heap.objs.size)->IsPair h' to x y->ZIt tp j1 t1 (k1+1) h'->ZIt tq j2 t2 (k2+1) h'->IsPair h' s.heap.objs.size x y->
   (∀c o,c≠z->c≠to->c≠j1->c≠j2->s.heap.get? c=some o->h'.get? c=some o)->R (.ref s.heap.objs.size) {s with heap:=h' }) :
  wpAny (model prog w) A (Builtin.«zip.__next__» ⟨[.ref z],[]⟩) (fun fin s'=>∃v,fin=.done (.ret v)/\R v s') E s:=by
 show wpAny _ _ (field (.ref z) 2 >>= _) _ _ _
 refine wpAny_bind (wpAny_field gz rfl (x:=.bool false) rfl ?_)
 show wpAny _ _ (field (.ref z) 3 >>= _) _ _ _
 refine wpAny_bind (wpAny_field gz rfl (x:=.ref ti) rfl ?_)
 refine wpAny_bind (wpAny_seqItems gi rfl ?_)
 show wpAny _ _ (Builtin.SmallTypes.ownedTupleIsFree (.ref z) >>= _) _ _ _
 refine wpAny_bind ?_
 unfold Builtin.SmallTypes.ownedTupleIsFree
 refine wpAny_bind (wpAny_field gz rfl (x:=.none) rfl (wpAny_pure ?_))
 simp only[if_true]
 refine wpAny_bind (wpAny_rule ?_)
 refine wpAny_bind (wpAny_field gz rfl (x:=.ref to) rfl ?_)
 refine wpAny_bind (wpAny_setField_rec gz (by simp) fun H1 gz1 e1=>?_)
 replace gz1:IsZip H1 z ti to .ellipsis:=gz1
 refine wpAny_bind ?_
 simp only[List.zipIdx_cons,List.zipIdx_nil,List.forIn_cons,List.forIn_nil]
 refine wpAny_bind (wpAny_bind (wpAny_onRaise ?_))
 show wpAny _ _ (Builtin.SmallTypes.nextOf (.ref j1) >>= _) _ _ _
 refine wpAny_bind (z4o (g1.at fun o e=>e1.extBut _ _ D.a3 e) (l1.at fun o e=>e1.extBut _ _ D.b2 e) ex fun H2 n1 e2=>wpAny_pure ?_)
 have go2:IsPair H2 to p q:=e2.extBut _ _ D.a8 (e1.extBut _ _ D.a2 go)
 refine wpAny_bind (wpAny_seqItems go2 rfl ?_)
 refine wpAny_bind (wpAny_updateSeq_pair go2 fun H3 go3 e3=>?_)
 replace go3:IsPair H3 to x q:=go3
 refine wpAny_bind (wpAny_letGo (wpAny_pure ?_))
 refine wpAny_bind (wpAny_bind (wpAny_onRaise ?_))
 show wpAny _ _ (Builtin.SmallTypes.nextOf (.ref j2) >>= _) _ _ _
 refine wpAny_bind (z4o (g2.at fun o e=>e3.extBut _ _ D.a9.symm (e2.extBut _ _ D.b1.symm (e1.extBut _ _ D.a4 e))) (l2.at fun o e=>e3.extBut _ _ D.b7 (e2.extBut _ _ D.b8 (e1.extBut _ _ D.b6 e))) ey fun H4 n2 e4=>wpAny_pure ?_)
 have go4:IsPair H4 to x q:=e4.extBut _ _ D.a9 go3
 refine wpAny_bind (wpAny_seqItems go4 rfl ?_)
 refine wpAny_bind (wpAny_updateSeq_pair go4 fun H5 go5 e5=>?_)
 replace go5:IsPair H5 to x y:=go5
 refine wpAny_bind (wpAny_letGo (wpAny_pure (wpAny_pure ?_)))
 refine wpAny_bind (wpAny_seqItems go5 rfl ?_)
 refine wpAny_bind (wpAny_newTuple ?_)
 have sz5:H5.objs.size=s.heap.objs.size:=by rw[e5.1,e4.1,e3.1,e2.1,e1.1]
 have gz5:IsZip H5 z ti to .ellipsis:=e5.extBut _ _ D.a2.symm (e4.extBut _ _ D.a4.symm (e3.extBut _ _ D.a2.symm (e2.extBut _ _ D.a3.symm gz1)))
 have kk5:∀c o,c≠z->c≠to->c≠j1->c≠j2->s.heap.get? c=some o->H5.get? c=some o:=fun c o c1 c2 c3 c4 e=>
  e5.extBut _ _ c2 (e4.extBut _ _ c4 (e3.extBut _ _ c2 (e2.extBut _ _ c3 (e1.extBut _ _ c1 e))))
 have n15:ZIt tp j1 t1 (k1+1) H5:=n1.at fun o e=>e5.extBut _ _ D.a8.symm (e4.extBut _ _ D.b1 (e3.extBut _ _ D.a8.symm e))
 have n25:ZIt tq j2 t2 (k2+1) H5:=n2.at fun o e=>e5.extBut _ _ D.a9.symm e
 have lz:z<H5.objs.size:=Heap.lt_size gz5
 show wpAny _ _ (Builtin.SmallTypes.ownedTupleHandOut (.ref z) (.ref H5.objs.size) >>= _) _ _ _
 refine wpAny_bind ?_
 unfold Builtin.SmallTypes.ownedTupleHandOut
 have gz6:IsZip (H5.push {cls:=.type "tuple",data:=.seq #[x,y]}) z ti to .ellipsis:=Heap.get?_push_of_some _ gz5
 refine wpAny_bind (wpAny_setField_rec gz6 (by simp) fun H7 gz7 e7=>?_)
 replace gz7:IsZip H7 z ti to (rawInt H5.objs.size):=gz7
 refine wpAny_setField_rec gz7 (by simp) fun H8 gz8 e8=>?_
 replace gz8:IsZip H8 z ti to (rawInt H5.objs.size):=gz8
 have up:∀c o,c≠z->H5.get? c=some o->H8.get? c=some o:=fun c o c1 e=>e8.extBut _ _ c1 (e7.extBut _ _ c1 (Heap.get?_push_of_some _ e))
 have gT8:IsPair H8 H5.objs.size x y:=e8.extBut _ _ (Nat.ne_of_gt lz) (e7.extBut _ _ (Nat.ne_of_gt lz) (Heap.get?_push_size _ rfl))
 rw[sz5]at gz8 gT8
 refine wpAny_pure ⟨_,rfl,?_⟩
 show R (.ref H5.objs.size) _
 rw[sz5]
 exact gR H8 gz8 (up _ _ D.a2 go5) (n15.at fun o e=>up _ o D.a3 e) (n25.at fun o e=>up _ o D.a4 e) gT8 fun c o c1 c2 c3 c4 e=>up c o c1 (kk5 c o c1 c2 c3 c4 e)
theorem x3k{tp tq:Bool}{z ti to j1 j2 t1 t2:Addr}{k1 k2:Nat}{xs ys:Array Value}{p q:Value}{R:Fin->Shared->Prop}(gh:A.handled=none)(D:ZAp z ti to j1 j2 t1 t2)
  (gz:IsZip s.heap z ti to .none) (gi:IsPair s.heap ti (.ref j1) (.ref j2)) (go:IsPair s.heap to p q)
  (g1:ZIt tp j1 t1 k1 s.heap) (g2:ZIt tq j2 t2 k2 s.heap) (l1:ZSrc tp t1 xs s.heap) (l2:ZSrc tq t2 ys s.heap) (hend:xs[k1]?=none\/ys[k2]?=none)
  (gE:∀h' e,(∀c o,c≠z->c≠to->c≠j1->c≠j2->s.heap.get? c=some o->h'.get? c=some o)->(∃o,h'.get? e=some o/\o.cls=.type "StopIteration")->E (.ref e) {s with heap:=h' }) :
  wpAny (model prog w) A (Builtin.«zip.__next__» ⟨[.ref z],[]⟩) R E s:=by
 show wpAny _ _ (field (.ref z) 2 >>= _) _ _ _
 refine wpAny_bind (wpAny_field gz rfl (x:=.bool false) rfl ?_)
 show wpAny _ _ (field (.ref z) 3 >>= _) _ _ _
 refine wpAny_bind (wpAny_field gz rfl (x:=.ref ti) rfl ?_)
 refine wpAny_bind (wpAny_seqItems gi rfl ?_)
 show wpAny _ _ (Builtin.SmallTypes.ownedTupleIsFree (.ref z) >>= _) _ _ _
 refine wpAny_bind ?_
 unfold Builtin.SmallTypes.ownedTupleIsFree
 refine wpAny_bind (wpAny_field gz rfl (x:=.none) rfl (wpAny_pure ?_))
 simp only[if_true]
 refine wpAny_bind (wpAny_rule ?_)
 refine wpAny_bind (wpAny_field gz rfl (x:=.ref to) rfl ?_)
 refine wpAny_bind (wpAny_setField_rec gz (by simp) fun H1 gz1 e1=>?_)
 replace gz1:IsZip H1 z ti to .ellipsis:=gz1
 refine wpAny_bind ?_
 simp only[List.zipIdx_cons,List.zipIdx_nil,List.forIn_cons,List.forIn_nil]
 refine wpAny_bind (wpAny_bind (wpAny_onRaise ?_))
 show wpAny _ _ (Builtin.SmallTypes.nextOf (.ref j1) >>= _) _ _ _
 cases ex:xs[k1]? with
 |none=>
  refine wpAny_bind (z9g gh (g1.at fun o e=>e1.extBut _ _ D.a3 e) (l1.at fun o e=>e1.extBut _ _ D.b2 e) ex fun H2 e e2 ge=>?_)
  obtain⟨oe,goe,gce⟩:=ge
  have gz2:IsZip H2 z ti to .ellipsis:=e2 _ _ D.a3.symm gz1
  have ne:e≠z:=fun x=>by subst x;rw[gz2]at goe;cases goe;simp at gce
  refine wpAny_setField_rec gz2 (by simp) fun H3 _ e3=>gE H3 e (fun c o c1 _ c3 _ x=>e3.extBut _ _ c1 (e2 _ _ c3 (e1.extBut _ _ c1 x))) ⟨oe,e3.extBut _ _ ne goe,gce⟩
 |some x=>
  have ey:ys[k2]?=none:=by
   rcases hend with h|h
   ·rw[ex]at h;cases h
   ·exact h
  refine wpAny_bind (z4o (g1.at fun o e=>e1.extBut _ _ D.a3 e) (l1.at fun o e=>e1.extBut _ _ D.b2 e) ex fun H2 n1 e2=>wpAny_pure ?_)
  have go2:IsPair H2 to p q:=e2.extBut _ _ D.a8 (e1.extBut _ _ D.a2 go)
  refine wpAny_bind (wpAny_seqItems go2 rfl ?_)
  refine wpAny_bind (wpAny_updateSeq_pair go2 fun H3 go3 e3=>?_)
  refine wpAny_bind (wpAny_letGo (wpAny_pure ?_))
  refine wpAny_bind (wpAny_bind (wpAny_onRaise ?_))
  show wpAny _ _ (Builtin.SmallTypes.nextOf (.ref j2) >>= _) _ _ _
  refine wpAny_bind (z9g gh (g2.at fun o e=>e3.extBut _ _ D.a9.symm (e2.extBut _ _ D.b1.symm (e1.extBut _ _ D.a4 e))) (l2.at fun o e=>e3.extBut _ _ D.b7 (e2.extBut _ _ D.b8 (e1.extBut _ _ D.b6 e))) ey fun H4 e e4 ge=>?_)
  obtain⟨oe,goe,gce⟩:=ge
  have gz4:IsZip H4 z ti to .ellipsis:=e4 _ _ D.a4.symm (e3.extBut _ _ D.a2.symm (e2.extBut _ _ D.a3.symm gz1))
  have ne:e≠z:=fun x=>by subst x;rw[gz4]at goe;cases goe;simp at gce
  refine wpAny_setField_rec gz4 (by simp) fun H5 _ e5=>gE H5 e (fun c o c1 c2 c3 c4 x=>e5.extBut _ _ c1 (e4 _ _ c4 (e3.extBut _ _ c2 (e2.extBut _ _ c3 (e1.extBut _ _ c1 x))))) ⟨oe,e5.extBut _ _ ne goe,gce⟩
end
section
variable{X:Cx}{pins:List (Addr×Obj)}{σ:St}{H:Hp}{s:Shared}{h':Heap}
theorem Inv.turneds{t':Nat}{ch:List Addr}(I:Inv X pins σ H s)(k:∀b o,b∉ch->s.heap.get? b=some o->h'.get? b=some o)(hf:∀b∈ch,FpOk X pins H b):Inv X pins σ H {s with heap:=h',toks:=t' }:=by
 have nit:∀b u,H b=some u->b∉ch:=fun b u e z=>by have q:=(hf b z).1;rw[q]at e;cases e
 refine I.step (g':=s.gens) (d':=s.drawn) (ch:=ch) (fun b hb=>?_) (fun b o _ _ hc e _=>k b o hc e) (fun b o _ _ hc e _=>⟨o.slots,k b o hc e⟩) (fun _ _ _ _ n=>n)
  (fun b o hc e=>⟨o,k b o hc e⟩) (fun _ _ e=>e) (fun _ _ _ e=>e) (fun b ps e=>⟨#[],by rw[e];simp⟩) (fun m hm=>?_) (fun b u e=>?_) I.bare
 ·exact⟨(hf b hb).2.2.2.1,(hf b hb).2.1,(hf b hb).2.2.2.2.1,(hf b hb).2.2.2.2.2⟩
 ·obtain⟨o,es,ep,ho,r⟩:=hm
  exact⟨o,es,ep,k _ o (fun z=>(hf _ z).2.1 rfl) ho,r⟩
 ·refine(I.hok b u e).stay (fun c v hc q=>k c v ?_ q) (fun _ q=>q) fun _ _ q=>q
  rcases hc with z|z
  ·rw[z];exact nit b u e
  ·exact nit c _ z
theorem Inv.trackO{D:Addr}{ob:HO}(I:Inv X pins σ H s)(hf:FpOk X pins H D)(h1:X.s₀.heap.objs.size<=D)(new:q2q X.prog X.w (upd H D ob) s.heap D ob):Inv X pins σ (upd H D ob) s:=by
 obtain⟨hn,hL,_,_,h2,h3⟩:=hf
 have ne:∀b u,H b=some u->b≠D:=fun b u e z=>by rw[z,hn]at e;cases e
 have ne0:∀b o,X.s₀.heap.get? b=some o->b≠D:=fun b o e=>Nat.ne_of_lt (Nat.lt_of_lt_of_le (Heap.lt_size e) h1)
 refine⟨I.ok,I.os,I.bare,⟨I.base.keep,I.base.slot,fun b o e n' hx=>?_,I.base.there,fun b xs e=>?_,fun b o u e=>?_,fun b ps e=>?_⟩,I.loc,I.cell,?_,fun x c e=>?_,fun p hp=>?_,fun b u e=>?_,I.len⟩
 ·rw[q1c (ne0 b o e)];exact I.base.free b o e n' hx
 ·have q:=I.base.tups b xs e
  rw[q1c (ne _ _ q)];exact q
 ·have q:=I.base.frzs b o u e
  rw[q1c (ne _ _ q)];exact q
 ·obtain⟨more,q⟩:=I.base.tbls b ps e
  exact⟨more,by rw[q1c (ne _ _ q)];exact q⟩
 ·rw[q1c (Ne.symm hL)];exact I.free
 ·rw[q1c (h2 x c e)];exact I.freeC x c e
 ·obtain⟨a1,a2,a3⟩:=I.pin p hp
  exact⟨a1,by rw[q1c (h3 p hp)];exact a2,a3⟩
 ·by_cases hb:b=D
  ·subst hb
   rw[q1r]at e
   cases e
   exact new
  ·rw[q1c hb]at e
   refine(I.hok b u e).stay (fun c v hc q=>q) (fun c q=>?_) fun c xs q=>?_
   ·rw[q1c (ne _ _ q)];exact q
   ·rw[q1c (ne _ _ q)];exact q
end
def Sq(tp:Bool)(K:Frag)(H:Hp)(a:Addr)(xs:List V):Prop:=if tp=true then SqT K H a xs else SqL K H a xs
theorem Inv.sq{X:Cx}{pins:List (Addr×Obj)}{σ:St}{H:Hp}{s:Shared}{tp:Bool}{a:Addr}{xs:List V}(I:Inv X pins σ H s)(h:Sq tp X.K H a xs):∃its:List Value,Vals xs its/\ZSrc tp a its.toArray s.heap/\xs.length<=sizeLine:=by
 cases tp with
 |true=>
  obtain⟨its,r,t,z⟩:=I.tuple h
  exact⟨its,r,t,z⟩
 |false=>
  obtain⟨its,r,t,z⟩:=I.list h
  exact⟨its,r,t.isList,z⟩
theorem Inv.sq_inj{X:Cx}{pins:List (Addr×Obj)}{σ:St}{H:Hp}{s:Shared}{tp:Bool}{a:Addr}{xs ys:List V}(I:Inv X pins σ H s)(h:Sq tp X.K H a xs)(h':Sq tp X.K H a ys):xs=ys:=by
 cases tp with
 |true=>exact I.tuple_inj h h'
 |false=>exact I.list_inj h h'
theorem Inv.sq_fp{X:Cx}{pins:List (Addr×Obj)}{σ:St}{H:Hp}{s:Shared}{tp:Bool}{a b:Addr}{xs:List V}(I:Inv X pins σ H s)(h:Sq tp X.K H a xs)(hf:FpOk X pins H b):a≠b:=by
 rintro rfl
 have look:∀o,X.K.lookup a=some o->False:=fun o e=>by
  have e':=I.ok.mod.kin a o e
  rcases hf.2.2.2.1 with z|z
  ·exact I.ok.noex a o e' z
  ·exact absurd (Nat.lt_of_lt_of_le (Heap.lt_size (I.ok.bs a o e').1) z) (Nat.lt_irrefl _)
 have rd:∀u,Rd H a u->False:=fun u e=>by
  rcases e with e|⟨o,e⟩<;>rw[hf.1]at e<;>cases e
 cases tp with
 |true=>
  rcases h with e|⟨o,its,n,e,_⟩
  ·exact rd _ e
  ·exact look o e
 |false=>
  rcases h with e|⟨o,its,n,e,_⟩
  ·exact rd _ e
  ·exact look o e
def Itz(tp tq:Bool)(K:Frag)(a b:Addr):It:=
  ⟨fun i H=>∃xs ys x y,Sq tp K H a xs/\Sq tq K H b ys/\xs[i]?=some x/\ys[i]?=some y,
   fun i H v H'=>∃p x y,v=.ref p/\H p=none/\H'=upd H p (.tup [x,y])/\(∀xs,Sq tp K H a xs->xs[i]?=some x)/\(∀ys,Sq tq K H b ys->ys[i]?=some y),
   fun i H=>∃xs ys,Sq tp K H a xs/\Sq tq K H b ys/\(xs.length<=i\/ys.length<=i)⟩
structure ZAt(tp tq:Bool)(z ti to j1 j2 a b:Addr)(i:Nat)(h:Heap):Prop where
 gz:IsZip h z ti to .none
 gi:IsPair h ti (.ref j1) (.ref j2)
 go:∃p q,IsPair h to p q
 g1:ZIt tp j1 a i h
 g2:ZIt tq j2 b i h
theorem y4g{P:Program}{w:World}{K:Frag}{es:List Expr}{k:Nat}{ps:Pos}{tp tq:Bool}(a b z ti to j1 j2:Addr)(n1:ti≠z)(n2:to≠z)(n3:j1≠z)(n4:j2≠z)(n5:ti≠to)(n6:ti≠j1)(n7:ti≠j2)(n8:to≠j1)(n9:to≠j2)(n0:j1≠j2) :
  Turn P w K (.Tuple es k ps) (Itz tp tq K a b) [z,ti,to,j1,j2] z (ZAt tp tq z ti to j1 j2 a b) where
 mem:=by simp
 obj:=fun i h st c hc=>by
  obtain⟨gz,gi,⟨p,q,go⟩,g1,g2⟩:=st
  simp only[List.mem_cons,List.not_mem_nil,or_false]at hc
  rcases hc with rfl|rfl|rfl|rfl|rfl
  ·exact⟨_,gz,fun v e=>by cases e⟩
  ·exact⟨_,gi,fun v e=>by cases e⟩
  ·exact⟨_,go,fun v e=>by cases e⟩
  ·exact g1.get
  ·exact g2.get
 keep:=fun i h h' st kk=>by
  obtain⟨gz,gi,⟨p,q,go⟩,g1,g2⟩:=st
  exact⟨kk z (by simp) _ gz,kk ti (by simp) _ gi,⟨p,q,kk to (by simp) _ go⟩,g1.at fun o e=>kk j1 (by simp) o e,g2.at fun o e=>kk j2 (by simp) o e⟩
 item:=by
  intro X hP hw hK hc i pins s σ H E I hf st hg
  subst hP hw hK
  obtain⟨gz,gi,⟨p,q,go⟩,g1,g2⟩:=st
  obtain⟨xs,ys,x,y,sx,sy,ex,ey⟩:=hg
  obtain⟨is,rx,lx,zx⟩:=I.sq sx
  obtain⟨js,ry,ly,zy⟩:=I.sq sy
  obtain⟨u,eu,ru⟩:=rx.get ex
  obtain⟨v,ev,rv⟩:=ry.get ey
  have D:ZAp z ti to j1 j2 a b:=⟨n1,n2,n3,n4,n5,n6,n7,n8,n9,n0,I.sq_fp sx (hf z (by simp)),I.sq_fp sx (hf to (by simp)),I.sq_fp sx (hf j1 (by simp)),I.sq_fp sx (hf j2 (by simp)),I.sq_fp sy (hf z (by simp)),I.sq_fp sy (hf to (by simp)),I.sq_fp sy (hf j1 (by simp)),I.sq_fp sy (hf j2 (by simp))⟩
  have hT:s.TypeIs (.ref z) "zip" :=⟨_,gz,rfl⟩
  unfold pyNext
  refine wpAny_bind (wpAny_attempt (wpAny_callSpecial?_slot (name:=Str.ofString "__next__") hT F.slot_zip_next (wpAny_call_entry F.slot_zip_next hT F.entry_zip_next
   (x3j (x:=u) (y:=v) D gz gi go g1 g2 lx ly (by simpa using eu) (by simpa using ev) fun h1 b1 b2 b3 b4 b5 b6=>wpAny_pure ⟨_,rfl,?_⟩) (F.args_zip_next_1 _))))
  refine wpAny_letOwnedTupleGo_zip b1 fun h2 c1 c2=>?_
  have hsz:s.heap.objs.size≠z:=Nat.ne_of_gt (Heap.lt_size gz)
  have up:∀c o,c∉[z,ti,to,j1,j2]->s.heap.get? c=some o->h2.get? c=some o:=fun c o hc' e=>by
   simp only[List.mem_cons,List.not_mem_nil,or_false,not_or]at hc'
   exact c2.extBut _ _ hc'.1 (b6 c o hc'.1 hc'.2.2.1 hc'.2.2.2.1 hc'.2.2.2.2 e)
  have I1:Inv X pins σ H {s with heap:=h2}:=I.turneds (t':=s.toks) (ch:=[z,ti,to,j1,j2]) up hf
  have f1:FpOk X pins H s.heap.objs.size:=I.fpOk (Nat.le_refl _) I.fresh
  have gT:IsPair h2 s.heap.objs.size u v:=c2.extBut _ _ hsz b5
  have I2:Inv X pins σ (upd H s.heap.objs.size (.tup [x,y])) {s with heap:=h2}:=I1.trackO f1 I.sz ⟨by show 2<=sizeLine;decide,[u,v],.cons ru (.cons rv .nil),⟨_,gT,rfl,_,rfl⟩⟩
  have lt:∀c∈[z,ti,to,j1,j2],c≠s.heap.objs.size:=fun c hc'=>by
   simp only[List.mem_cons,List.not_mem_nil,or_false]at hc'
   rcases hc' with rfl|rfl|rfl|rfl|rfl
   ·exact Nat.ne_of_lt (Heap.lt_size gz)
   ·exact Nat.ne_of_lt (Heap.lt_size gi)
   ·exact Nat.ne_of_lt (Heap.lt_size go)
   ·obtain⟨o,e,_⟩:=g1.get;exact Nat.ne_of_lt (Heap.lt_size e)
   ·obtain⟨o,e,_⟩:=g2.get;exact Nat.ne_of_lt (Heap.lt_size e)
  refine⟨.ref s.heap.objs.size,_,I2,rfl,⟨_,x,y,rfl,I.fresh,rfl,fun zs hz=>by rw[I.sq_inj hz sx];exact ex,fun zs hz=>by rw[I.sq_inj hz sy];exact ey⟩,⟨c1,c2.extBut _ _ n1 (b6 _ _ n1 n5 n6 n7 gi),⟨_,_,c2.extBut _ _ n2 b2⟩,b3.at fun o e=>c2.extBut _ _ n3 e,b4.at fun o e=>c2.extBut _ _ n4 e⟩,fun c hc'=>?_⟩
  rw[q1c (lt c hc')]
  exact(hf c hc').1
 done:=by
  intro X hP hw hK hc i pins s σ H E I hf st hg
  subst hP hw hK
  obtain⟨gz,gi,⟨p,q,go⟩,g1,g2⟩:=st
  obtain⟨xs,ys,sx,sy,he⟩:=hg
  obtain⟨is,rx,lx,zx⟩:=I.sq sx
  obtain⟨js,ry,ly,zy⟩:=I.sq sy
  have D:ZAp z ti to j1 j2 a b:=⟨n1,n2,n3,n4,n5,n6,n7,n8,n9,n0,I.sq_fp sx (hf z (by simp)),I.sq_fp sx (hf to (by simp)),I.sq_fp sx (hf j1 (by simp)),I.sq_fp sx (hf j2 (by simp)),I.sq_fp sy (hf z (by simp)),I.sq_fp sy (hf to (by simp)),I.sq_fp sy (hf j1 (by simp)),I.sq_fp sy (hf j2 (by simp))⟩
  have hT:s.TypeIs (.ref z) "zip" :=⟨_,gz,rfl⟩
  have l1:=rx.length
  have l2:=ry.length
  unfold pyNext
  refine wpAny_bind (wpAny_attempt (wpAny_callSpecial?_slot (name:=Str.ofString "__next__") hT F.slot_zip_next (wpAny_call_entry F.slot_zip_next hT F.entry_zip_next
   (x3k (I.ok.hd hc) D gz gi go g1 g2 lx ly (by rcases he with z|z;exact .inl (by simp;omega);exact .inr (by simp;omega)) fun h1 e kk ge=>?_) (F.args_zip_next_1 _))))
  obtain⟨oe,goe,gce⟩:=ge
  refine wpAny_bind (wpAny_isInstance (T:= "StopIteration") (b:=true) ⟨oe,goe,gce⟩ isSubtype_stop ?_)
  refine wpAny_pure ⟨rfl,I.turneds (t':=s.toks) (ch:=[z,ti,to,j1,j2]) (fun c o hc' e=>?_) hf⟩
  simp only[List.mem_cons,List.not_mem_nil,or_false,not_or]at hc'
  exact kk c o hc'.1 hc'.2.2.1 hc'.2.2.2.1 hc'.2.2.2.2 e
 self:=fun _ _ _ _ _ st h=>wpAny_pyIter_zip st.gz h
abbrev z2q(tp:Bool)(a:Addr):Obj:={cls:=.type (if tp=true then "tuple_iterator" else "list_iterator"),data:=.fields #[.ref a,.int 0 0]}
theorem y7u{prog:Program}{w:World}{A:Around}{E:Value->Shared->Prop}{s:Shared}{tp:Bool}{a:Addr}{xs:Array Value}{R:Value->Shared->Prop}(g:ZSrc tp a xs s.heap)
  (h:R (.ref s.heap.objs.size) {s with heap:=s.heap.push (z2q tp a)}):wpAny (model prog w) A (pyIter (.ref a)) R E s:=by
 cases tp with
 |true=>exact wpAny_pyIter_tuple g h
 |false=>exact wpAny_pyIter_list g h
theorem ZIt.new{tp:Bool}{a:Addr}{h:Heap}{it:Addr}(g:h.get? it=some (z2q tp a)):ZIt tp it a 0 h:=by
 cases tp with
 |true=>exact⟨_,g,rfl,rfl⟩
 |false=>exact⟨_,g,rfl,rfl⟩
abbrev zz1(h:Heap)(tp:Bool)(a:Addr):Heap:=h.push (z2q tp a)
abbrev zz2(h:Heap)(tp tq:Bool)(a b:Addr):Heap:=(zz1 h tp a).push (z2q tq b)
abbrev zz3(h:Heap)(tp tq:Bool)(a b:Addr):Heap:=(zz2 h tp tq a b).push {cls:=.type "tuple",data:=.seq #[.ref h.objs.size,.ref (zz1 h tp a).objs.size]}
abbrev zz4(h:Heap)(tp tq:Bool)(a b:Addr):Heap:=(zz3 h tp tq a b).push {cls:=.type "tuple",data:=.seq #[.none,.none]}
abbrev zz5(h:Heap)(tp tq:Bool)(a b:Addr):Heap:=(zz4 h tp tq a b).push {cls:=.type "zip",data:=.fields #[.none,.bool false,.bool false,.ref (zz2 h tp tq a b).objs.size,.ref (zz3 h tp tq a b).objs.size]}
theorem x8m(tp tq:Bool)(a b:Addr)(xs ys:Array Value) :
  Meets (Builtin.«zip.__new__» ⟨[.type "zip",.ref a,.ref b],[]⟩) (fun _ R s=>ZSrc tp a xs s.heap/\ZSrc tq b ys s.heap/\R (.ok (.ret (.ref (zz4 s.heap tp tq a b).objs.size))) {s with heap:=zz5 s.heap tp tq a b}):=
 .of_wp fun prog w A R s h=>by
  obtain⟨hp,g,d,tk,os⟩:=s;obtain⟨s1,s2,h⟩:=h
  have hsub:=sub_zip
  have S1:ZSrc tp a xs (Shared.heap ⟨hp,g,d,tk,os⟩):=s1
  have S2:ZSrc tq b ys (Shared.heap ⟨hp.push (z2q tp a),g,d,tk,os⟩):=ZSrc.at s2 fun o e=>Heap.get?_push_of_some _ e
  wp_walk using y7u S1,y7u S2
  exact⟨_,rfl,h⟩
theorem x3a{prog:Program}{w:World}{A:Around}{E:Value->Shared->Prop}{s:Shared}{tp tq:Bool}{a b:Addr}{xs ys:Array Value}{Q:Value->Shared->Prop}(s1:ZSrc tp a xs s.heap)(s2:ZSrc tq b ys s.heap)
  (h:∀h',ZAt tp tq (s.heap.objs.size+4) (s.heap.objs.size+2) (s.heap.objs.size+3) s.heap.objs.size (s.heap.objs.size+1) a b 0 h'->(∀c o,s.heap.get? c=some o->h'.get? c=some o)->Q (.ref (s.heap.objs.size+4)) {s with heap:=h' }) :
  wpAny (model prog w) A (call (.type "zip") [.ref a,.ref b]) Q E s:=by
 refine callType_new F.called_zip (by decide) (F.typeCall_zip_2 _ _) (F.newCall_zip_2 _ _) (fun obj=>F.args_object_init_3 obj _ _) F.entry_zip_new (x8m tp tq a b xs ys) ⟨s1,s2,?_⟩
 have z1:(zz1 s.heap tp a).objs.size=s.heap.objs.size+1:=Heap.size_push ..
 have z2:(zz2 s.heap tp tq a b).objs.size=s.heap.objs.size+2:=by rw[Heap.size_push,z1]
 have z3:(zz3 s.heap tp tq a b).objs.size=s.heap.objs.size+3:=by rw[Heap.size_push,z2]
 have z4:(zz4 s.heap tp tq a b).objs.size=s.heap.objs.size+4:=by rw[Heap.size_push,z3]
 have g5:(zz5 s.heap tp tq a b).get? (zz4 s.heap tp tq a b).objs.size=some _:=Heap.get?_push_size _ rfl
 have g4:(zz5 s.heap tp tq a b).get? (zz3 s.heap tp tq a b).objs.size=some _:=Heap.get?_push_of_some _ (Heap.get?_push_size _ rfl)
 have g3:(zz5 s.heap tp tq a b).get? (zz2 s.heap tp tq a b).objs.size=some _:=Heap.get?_push_of_some _ (Heap.get?_push_of_some _ (Heap.get?_push_size _ rfl))
 have g2:(zz5 s.heap tp tq a b).get? (zz1 s.heap tp a).objs.size=some _:=Heap.get?_push_of_some _ (Heap.get?_push_of_some _ (Heap.get?_push_of_some _ (Heap.get?_push_size _ rfl)))
 have g1:(zz5 s.heap tp tq a b).get? s.heap.objs.size=some _:=Heap.get?_push_of_some _ (Heap.get?_push_of_some _ (Heap.get?_push_of_some _ (Heap.get?_push_of_some _ (Heap.get?_push_size _ rfl))))
 show _/\_
 rw[z2,z3,z4]at g5
 rw[z1,z2]at g3
 rw[z3]at g4
 rw[z1]at g2
 rw[z4]
 exact⟨⟨_,g5,rfl⟩,h _ ⟨g5,g3,⟨_,_,g4⟩,ZIt.new g1,ZIt.new g2⟩ fun c o x=>Heap.get?_push_of_some _ (Heap.get?_push_of_some _ (Heap.get?_push_of_some _ (Heap.get?_push_of_some _ (Heap.get?_push_of_some _ x))))⟩
theorem y7d:bootBuiltins "zip" = some (.type "zip"):=by kernel_rfl
def iZip(K:Frag)(ta:TA):TI:=fun σ H R=>ta σ H fun vs H1=>∃tp tq a b xs ys,vs=[.ref a,.ref b]/\Sq tp K H1 a xs/\Sq tq K H1 b ys/\R (Itz tp tq K a b) H1
theorem x4x{X:Cx}{es:List Expr}{k:Nat}{ps:Pos}{a b:Expr}{ta:TA}{p pos:Pos}(hg:Gl X "zip")(hm:X.mg "zip" = none)(ha:PA X [a,b] ta)(hs:starEach [a,b] X.env=[(false,eval a X.env),(false,eval b X.env)]:=by rfl)(hs2:starEach [b] X.env=[(false,eval b X.env)]:=by rfl) :
  PI X (.Tuple es k ps) (.Call (.Name "zip" p) [a,b] [] pos) (iZip X.K ta):=by
 intro pins s σ H R I h
 refine Call_ (q7d I hg hm y7d (PyProof.Rows.callWith_type1 (thn (ha pos pins s σ H _ I h) fun us s1 ⟨vs,H1,I1,r1,q1⟩=>?_) (by rw[hs,hs2]) (by rw[hs2];rfl)))
 obtain⟨tp,tq,a,b,xs,ys,e,sx,sy,q⟩:=q1
 subst e
 cases r1 with
 |cons r rr=>
  cases rr with
  |cons r' rr=>
   cases rr
   cases r
   cases r'
   obtain⟨is,rx,lx,zx⟩:=I1.sq sx
   obtain⟨js,ry,ly,zy⟩:=I1.sq sy
   have d:∀i j:Nat,i≠j->s1.heap.objs.size+i≠s1.heap.objs.size+j:=fun i j q z=>q (Nat.add_left_cancel z)
   refine x3a lx ly fun h' st kk=>wpAny_pyIter_zip st.gz ?_
   refine⟨_,[s1.heap.objs.size+4,s1.heap.objs.size+2,s1.heap.objs.size+3,s1.heap.objs.size,s1.heap.objs.size+1],_,_,H1,rfl,I1.kept (t':=s1.toks) kk,
    y4g a b _ _ _ _ _ (d 2 4 (by decide)) (d 3 4 (by decide)) (d 0 4 (by decide)) (d 1 4 (by decide)) (d 2 3 (by decide)) (d 2 0 (by decide)) (d 2 1 (by decide)) (d 3 0 (by decide)) (d 3 1 (by decide)) (d 0 1 (by decide)),st,fun c hc=>?_,q⟩
   have hle:s1.heap.objs.size<=c:=by
    simp only[List.mem_cons,List.not_mem_nil,or_false]at hc
    rcases hc with z|z|z|z|z<;>rw[z]<;>first|exact Nat.le_add_right _ _|exact Nat.le_refl _
   exact I1.fpOk hle (I1.hok.fresh hle)
section
variable{X:Cx}
theorem y5w:OpR X (binaryOp .FloorDiv) (rI (fun _ j=>0<j/\j<2 ^ 100) fun i j=>.int (i / j)):=opI fun i j _ _ s Q E hc q=>by
 refine floordiv_int (by omega) ?_ (.inl (PyProof.noPylong_of_log2 ?_))
 ·rw[Int.fdiv_eq_ediv_of_nonneg _ (by omega)];exact q
 ·have:j.natAbs<2 ^ 100:=by omega
  have h2:j.natAbs.log2<100:=(Nat.log2_lt (by omega)).mpr this
  omega
theorem z7r:X.calm=true->q7b X (.builtin "sum") (fun xs H Q=>∃(p:Addr)(ns:List Int),xs=[.ref p]/\SqL X.K H p (ns.map V.int)/\Q (.int ns.sum) H):=by
 intro hc pins s σ H xs us Q I r h
 obtain⟨p,ns,rfl,hp,q⟩:=h
 obtain⟨u,rfl,ru⟩:=z7y r
 cases ru
 obtain⟨is,r1,p1,_⟩:=I.list hp
 have hi:=q8i r1
 obtain⟨zs,hz⟩:=hi.allInts.items
 refine sum_intListG (I.ok.hd hc) (by rw[<-hz];exact p1.isList) fun h' tk t' hk=>?_
 refine⟨.int _,H,I.kept hk,⟨t',rfl⟩,?_⟩
 have e:preSum (numAt zs) zs.size=ns.sum:=by
  rw[preSum_eq,List.take_of_length_le (by simp)]
  have e2:=hi.numsOf
  have e3:is=(intItems zs).toList:=by rw[<-hz]
  rw[e3,nums_intItems]at e2
  rw[<-e2]
 rw[e];exact q
theorem y7k{bs:List Bool}{us:List Value}(r:Vals (bs.map V.bl) us){i:Nat}{v:Value}(e:us[i]?=some v):v=.bool (bs.getD i true):=by
 have hl:=r.length
 rw[List.length_map]at hl
 obtain⟨hi,rfl⟩:=List.getElem?_eq_some_iff.mp e
 have hi':i<bs.length:=by omega
 have:(bs.map V.bl)[i]?=some (.bl bs[i]):=by simp[hi']
 obtain⟨u,eu,ru⟩:=r.get this
 rw[e]at eu
 cases eu
 have hd:bs.getD i true=bs[i]:=by simp[List.getD,hi']
 rw[hd]
 exact ru
theorem y0g(bs:List Bool):(List.range bs.length).all (fun i=>bs.getD i true)=bs.all id:=by
 rw[Bool.eq_iff_iff,List.all_eq_true,List.all_eq_true]
 constructor
 ·intro h x hx
  obtain⟨i,hi,rfl⟩:=List.mem_iff_getElem.mp hx
  have:=h i (by simp[hi])
  simpa[List.getD,hi]using this
 ·intro h i hi
  have hi':i<bs.length:=by simpa using hi
  have:=h bs[i] (List.getElem_mem hi')
  simpa[List.getD,hi']using this
theorem y7c:X.calm=true->q7b X (.builtin "all") (fun xs H Q=>∃(p:Addr)(bs:List Bool),xs=[.ref p]/\SqL X.K H p (bs.map V.bl)/\Q (.bl (bs.all id)) H):=by
 intro hc pins s σ H xs us Q I r h
 obtain⟨p,bs,rfl,hp,q⟩:=h
 obtain⟨u,rfl,ru⟩:=z7y r
 cases ru
 obtain⟨is,r1,p1,_⟩:=I.list hp
 have hl:=r1.length
 rw[List.length_map]at hl
 have hlt:p<s.heap.objs.size:=by obtain⟨_,e,_⟩:=p1.isList;exact Heap.lt_size e
 refine call_all_walk (wpAny_pyIter_list p1.isList ?_)
 refine⟨s.heap.objs.size,_,_,_,_,_,(fun i=>bs.getD i true),rfl,Walks.list (A:=X.A.in1) (I.ok.hd hc) s.heap.objs.size p (Nat.ne_of_lt hlt) is.toArray,⟨⟨_,Heap.get?_push_size _ rfl,rfl,rfl⟩,p1.isList.push _⟩,fun i v s' Q' E' hv hQ'=>?_,fun h' tk hk=>?_⟩
 ·have e:=y7k r1 (i:=i) (v:=v) (by simpa using hv)
  subst e
  exact wpAny_pure hQ'
 ·refine⟨.bl _,H,I.kept (fun b o e=>hk b o (by have:=Heap.lt_size e;simp;exact Nat.ne_of_lt this) (Heap.get?_push_of_some _ e)),rfl,?_⟩
  have e:(List.range is.toArray.size).all (fun i=>bs.getD i true)=bs.all id:=by
   rw[List.size_toArray,<-hl];exact y0g bs
  show Q (.bl ((List.range is.toArray.size).all fun i=>bs.getD i true)) H
  rw[e];exact q
theorem z8v{h:Heap}{sl:Addr}{vl vu:Value}{lo hi:Option Int}(hs:h.IsSliceOf sl vl vu .none)(pl:IsPart vl lo)(pu:IsPart vu hi):∃l u:Option (Int×Tok),h.IsSlice sl l u none/\l.map (·.1)=lo/\u.map (·.1)=hi:=by
 cases pl with
 |none=>
  cases pu with
  |none=>exact⟨none,none,hs,rfl,rfl⟩
  |int i t=>exact⟨none,some (_,_),hs,rfl,rfl⟩
 |int i t=>
  cases pu with
  |none=>exact⟨some (_,_),none,hs,rfl,rfl⟩
  |int i t=>exact⟨some (_,_),some (_,_),hs,rfl,rfl⟩
theorem x4a:SlR X (fun x lo hi H Q=>∃z:Str,x=.str z/\z.length<=sizeLine/\Q (.str (Txt.slice z lo hi)) H):=by
 intro pins s σ H x v vl vu lo hi sl Q I rx hs pl pu h
 obtain⟨z,rfl,hz,q⟩:=h
 obtain⟨t,rfl⟩:=rx
 obtain⟨l,u,hsl,rfl,rfl⟩:=z8v hs pl pu
 refine⟨"str",_,F.slot_str_getitem.lookup,typeIs_str _ _ _,wpAny_getItem_str_slice (l:=l) (u:=u) (st:=none) hsl rfl ?_⟩
 exact post_val_or_str ⟨Nat.le_trans (Txt.slice_le z _ _) hz,fun t' k=>⟨.str _,H,I.tok k,⟨t',rfl⟩,q⟩⟩
end
section
variable{X:Cx}
end
theorem y3n:bootBuiltins "list" = some (.type "list"):=by kernel_rfl
theorem q3e:bootBuiltins "tuple" = some (.type "tuple"):=by kernel_rfl
theorem z2i:bootBuiltins "str" = some (.type "str"):=by kernel_rfl
theorem y7i:bootBuiltins "int" = some (.type "int"):=by kernel_rfl
theorem y3o:bootBuiltins "bool" = some (.type "bool"):=by kernel_rfl
theorem q2l:bootBuiltins "isinstance" = some (.builtin "isinstance"):=by kernel_rfl
theorem y7e:bootBuiltins "sum" = some (.builtin "sum"):=by kernel_rfl
theorem y7j:bootBuiltins "all" = some (.builtin "all"):=by kernel_rfl
inductive Ty(H:Hp):V->String->Prop where
 |non:Ty H .non "NoneType"
 |bl (x:Bool):Ty H (.bl x) "bool"
 |int (i:Int):Ty H (.int i) "int"
 |str (x:Str):Ty H (.str x) "str"
 |lst {a:Addr} {xs:List V} (e:H a=some (.lst xs)):Ty H (.ref a) "list"
 |tup {a:Addr} {xs:List V} (e:H a=some (.tup xs)):Ty H (.ref a) "tuple"
section
variable{X:Cx}
theorem Ty.of{K:Frag}{H:Hp}{x:V}{T:String}(h:Ty H x T):TyOf K H x (.type T):=by
 cases h with
 |non=>exact .non
 |bl x=>exact .bl x
 |int i=>exact .int i
 |str x=>exact .str x
 |lst e=>exact .lst e
 |tup e=>exact .tup e
theorem y6k{K:Frag}{T C D:String}{b c:Bool}(h1:PySem.W.kitOne K (.type T) (.type C)=some b)(h2:PySem.W.kitOne K (.type T) (.type D)=some c):PySem.W.kitAny K (.type T) [.type C,.type D]=some (b||c):=by
 unfold PySem.W.kitAny
 rw[h1]
 cases b with
 |true=>rfl
 |false=>
  show PySem.W.kitAny K (.type T) [.type D]=_
  unfold PySem.W.kitAny
  rw[h2]
  cases c<;>rfl
end
structure Cal(P:Program)(w:World)(K:Frag)(mg:Str->Option Value)(base:Heap)(k:Nat)(name:Str)(ps:List Str)(sp:Sp)(f:Addr)(fd:FuncData):Prop where
 G:FnOk P w K mg base (CXE P w) k f fd ps sp
 m:mg name=some (.ref f)
 kp:PySem.W.keepIn K (.ref f)=true
 b:z6g K fd ps []
theorem Cal.mono{P:Program}{w:World}{K:Frag}{mg:Str->Option Value}{base:Heap}{j k:Nat}{name:Str}{ps:List Str}{sp:Sp}{f:Addr}{fd:FuncData}(c:Cal P w K mg base j name ps sp f fd)(h:j<=k):Cal P w K mg base k name ps sp f fd:=⟨c.G.mono h,c.m,c.kp,c.b⟩
structure Loc2(K:Frag)(mg:Str->Option Value)(name:Str)(st:Stmt)(ps:List Str)(f:Addr)(fd:FuncData):Prop where
 F:Fun K name name st f fd
 m:mg name=some (.ref f)
 b:z6g K fd ps []
theorem Loc2.cal{P:Program}{w:World}{K:Frag}{mg:Str->Option Value}{base:Heap}{k:Nat}{name:Str}{st:Stmt}{ps:List Str}{sp:Sp}{f:Addr}{fd:FuncData}(l:Loc2 K mg name st ps f fd)(G:FnOk P w K mg base (CXE P w) k f fd ps sp):Cal P w K mg base k name ps sp f fd:=⟨G,l.m,l.F.kp,l.b⟩
structure Zs(mg:Str->Option Value):Prop where
 len:mg "len" = none
 range:mg "range" = none
 isinstance:mg "isinstance" = none
 list:mg "list" = none
 tuple:mg "tuple" = none
 str:mg "str" = none
 int:mg "int" = none
 bool:mg "bool" = none
 sum:mg "sum" = none
 all:mg "all" = none
 zip:mg "zip" = none
def z2n(l:Addr)(H H':Hp):Prop:=∀b o,b≠l->H b=some o->H' b=some o
theorem Same.x{H H':Hp}(h:Same H H')(l:Addr):z2n l H H':=fun b o _ e=>h b o e
theorem z2n.trans{l:Addr}{H H1 H2:Hp}(a:z2n l H H1)(b:z2n l H1 H2):z2n l H H2:=fun c o n e=>b c o n (a c o n e)
theorem z2n.refl(l:Addr)(H:Hp):z2n l H H:=fun _ _ _ e=>e
theorem z2n.seq{K:Frag}{l:Addr}{H H':Hp}{a:Addr}{xs:List V}(e:z2n l H H')(n:a≠l)(h:SqL K H a xs):SqL K H' a xs:=by
 rcases h with h|h
 ·left
  rcases h with q|⟨ob,q⟩
  ·exact .inl (e _ _ n q)
  ·exact .inr ⟨ob,e _ _ n q⟩
 ·exact .inr h
theorem small{n:Nat}(h:n<=1000):n<=sizeLine:=Nat.le_of_lt (z9w h)
end L2
namespace My
open PySem L2
def wd(ks:List Nat):Str:=⟨(ks.map (97+·)).toArray⟩
theorem z4v{x y:Str}(h:x.cps.toList=y.cps.toList):x=y:=by
 obtain⟨a⟩:=x
 obtain⟨b⟩:=y
 have:a=b:=by rw[<-Array.toList_inj];exact h
 rw[this]
theorem y9j(ks:List Nat):(wd ks).cps.toList=ks.map (97+·):=rfl
theorem y7x(ks:List Nat):(wd ks).length=ks.length:=by simp[wd,Str.length]
theorem y7n(x y:Str):(x++y).cps.toList=x.cps.toList++y.cps.toList:=by
 show(x.cps++y.cps).toList=_
 simp
theorem z0z:(Str.ofString "abcdefghijklmnopqrstuvwxyz")=wd (List.range 26):=by decide +kernel
theorem z8o{i:Int}(h0:0<=i)(h1:i<26):atI (Str.ofString "abcdefghijklmnopqrstuvwxyz").cps.toList i=some (97+i.toNat):=by
 obtain⟨m,rfl⟩:∃m:Nat,i=(m:Int):=⟨i.toNat,by omega⟩
 have hm:m<26:=by omega
 rw[z0z]
 refine x3b ?_
 rw[y9j]
 simp[hm]
theorem z5e:(Str.ofString "abcdefghijklmnopqrstuvwxyz").length<=sizeLine:=by rw[z0z,y7x];decide
theorem x7p(lo hi:Option Int)(n:Nat):Builtin.Str.strSliceIndices lo hi 1 n=(List.range (HT.sIx n n hi-HT.sIx n 0 lo)).map fun k=>HT.sIx n 0 lo+k:=by
 have clip:∀(v:Option Int)(d:Nat),(match v with|none=>((d:Nat):Int)|some i=>max 0 (min (if i<0 then i+(n:Int)else i) (n:Int)))=((HT.sIx n d v:Nat):Int):=by
  intro v d
  cases v with
  |none=>rfl
  |some i=>
   unfold HT.sIx
   dsimp only
   split
   ·omega
   ·omega
 unfold Builtin.Str.strSliceIndices
 simp only[show((1:Int) > 0) by decide,if_true]
 have e1:=clip lo 0
 have e2:=clip hi n
 simp only[Int.ofNat_zero]at e1
 have key:∀a b a' b':Int,a=a'->b=b'->sliceRange a b 1=sliceRange a' b' 1:=fun a b a' b' h1 h2=>by rw[h1,h2]
 refine(key _ _ _ _ e1 e2).trans ?_
 unfold sliceRange
 simp only[show((1:Int) > 0) by decide,if_true]
 have e3:(if((HT.sIx n 0 lo:Nat):Int)<((HT.sIx n n hi:Nat):Int)then(((HT.sIx n n hi:Nat):Int)-((HT.sIx n 0 lo:Nat):Int)+1-1) / 1 else 0).toNat=HT.sIx n n hi-HT.sIx n 0 lo:=by
  split
  ·rw[Int.ediv_one];omega
  ·omega
 rw[e3]
 apply List.map_congr_left
 intro k _
 omega
theorem x0t(xs:List Nat)(a c:Nat)(hc:a+c<=xs.length):((List.range c).map fun k=>a+k).filterMap (fun i=>xs[i]?)=(xs.drop a).take c:=by
 induction c generalizing a with
 |zero=>simp
 |succ c ih=>
  have ha:a<xs.length:=by omega
  rw[List.range_succ_eq_map,List.map_cons,List.map_map,List.filterMap_cons]
  have e0:xs[a+0]?=some xs[a]:=by simp[ha]
  rw[e0]
  dsimp only
  rw[List.drop_eq_getElem_cons ha,List.take_succ_cons]
  congr 1
  have:=ih (a+1) (by omega)
  rw[<-this]
  congr 1
  apply List.map_congr_left
  intro k _
  simp only[Function.comp]
  omega
theorem z0t(x:Str)(lo hi:Option Int):(Txt.slice x lo hi).cps.toList=(x.cps.toList.drop (HT.sIx x.length 0 lo)).take (HT.sIx x.length x.length hi-HT.sIx x.length 0 lo):=by
 have hn:x.cps.toList.length=x.length:=by simp[Str.length]
 have hb:=HT.sIx_le x.length x.length (Nat.le_refl _) hi
 have ha:=HT.sIx_le x.length 0 (Nat.zero_le _) lo
 unfold Txt.slice
 rw[x7p,List.length_map,List.length_range]
 split
 ·rename_i h
  have h':HT.sIx x.length x.length hi-HT.sIx x.length 0 lo=x.length:=by simpa using h
  have h2:HT.sIx x.length 0 lo=0\/x.length=0:=by omega
  rw[h']
  rcases h2 with h2|h2
  ·rw[h2,List.drop_zero,List.take_of_length_le (by omega)]
  ·have:x.cps.toList=[]:=List.length_eq_zero_iff.mp (by omega)
   rw[this];simp
 ·show List.filterMap _ _=_
  have e:(fun(i:Nat)=>x.cps[i]?)=fun i=>x.cps.toList[i]?:=by funext i;simp
  rw[e]
  by_cases hle:HT.sIx x.length 0 lo<=HT.sIx x.length x.length hi
  ·exact x0t _ _ _ (by omega)
  ·have:HT.sIx x.length x.length hi-HT.sIx x.length 0 lo=0:=by omega
   rw[this];simp
def Nm(x:Str):Prop:=∃ks:List Nat,x=wd ks/\ks≠[]/\ks.length<=8/\∀k∈ks,k<26
theorem Nm.len{x:Str}(h:Nm x):x.length<=8:=by
 obtain⟨ks,rfl,_,h,_⟩:=h
 rw[y7x];exact h
end My
namespace L2
open PySem PySem.Spec PyProof.Rows
theorem q6s{X:Cx}{scope:Scope}{N':List Str}{ix:List (Option Nat)}(kind:scope.kind=.function)(cell:∀y∈scope.names,y.2≠.cell)(names:∀y∈scope.names,y.2=.local->scope.names.lookup y.1=some .local)
  (free:(scope.names.all fun y=>!(y.2==.free)||X.env.scope.names.lookup y.1==some .cell||X.env.scope.names.lookup y.1==some .free)=true) (ixs:IxOk X.N X.env.scope scope N' ix):CompOk X scope N' ix:=
 ⟨kind,cell,names,fun y hy e=>by
  have h:=List.all_eq_true.mp free y hy
  simp only [e,beq_self_eq_true,Bool.not_true,Bool.false_or,Bool.or_eq_true,beq_iff_eq]at h
  exact h,ixs⟩
section
variable{X:Cx}{K:Frag}
end
end L2
namespace My
open PySem L2
end My
namespace L2
open PySem PySem.Spec PyProof.Rows
def Its(z:Str):It:=⟨fun i _=>i<z.length,fun i H v H'=>H'=H/\∃c,z.cps[i]?=some c/\v=.str ⟨#[c]⟩,fun i _=>z.length<=i⟩
theorem z9s{P:Program}{w:World}{A:Around}(hh:A.handled=none)(it:Addr)(x:Str)(t:Tok):Walks P w A it [it] [it] x.cps.size (SignAt x) fun i h=>h.IsStrIter it (strIterType x) x t i:=by
 unfold strIterType
 split
 ·exact Walks.strAscii hh it x t
 ·exact Walks.strWide hh it x t
theorem x7r{M:Model}{A:Around}{E:Value->Shared->Prop}{s:Shared}{tg:Expr}{it:Addr}{u:Value}{x:Str}{t:Tok}{i:Nat}{Q:Unit->Shared->Prop}(h:s.heap.IsStrIter it (strIterType x) x t i)(hQ:Q () s):wpAny M A (letOwnedTupleGo tg (.ref it) u) Q E s:=by
 obtain⟨o,e,c,d⟩:=h
 refine z8y e c d ?_ hQ
 unfold strIterType
 split<;>decide
theorem y4h{P:Program}{w:World}{K:Frag}{tg:Expr}(it:Addr)(x:Str)(t:Tok):Turn P w K tg (Its x) [it] it (fun i h=>i<=x.length/\h.IsStrIter it (strIterType x) x t i) where
 mem:=by simp
 obj:=fun i h st b hb=>by
  obtain rfl:=List.mem_singleton.mp hb
  obtain⟨_,o,e,c,d⟩:=st
  exact⟨o,e,fun v z=>by rw[d]at z;cases z⟩
 keep:=fun i h h' st k=>by
  obtain⟨hi,o,e,r⟩:=st
  exact⟨hi,o,k it (by simp) o e,r⟩
 item:=by
  intro X hP hw hK hc i pins s σ H E I hf st hg
  subst hP hw hK
  obtain⟨f0,f1,f2,f3,f4,f5⟩:=hf it (by simp)
  have hg':i<x.length:=hg
  refine(z9s (P:=X.prog) (w:=X.w) (I.ok.hd hc) it x t).item i s _ _ hg' st.2 fun v h' tk hv st' kk=>?_
  have I1:Inv X pins σ H {s with heap:=h',toks:=tk}:=I.turned (fun b o hb e=>kk b o (by simpa using hb) e) f0 f1 f3 f4 f5
  obtain⟨c,u,hc',rfl⟩:=hv
  exact⟨_,rfl,x7r (s:={s with heap:=h',toks:=tk}) st' ⟨.str ⟨#[c]⟩,H,I1,⟨u,rfl⟩,⟨rfl,c,hc',rfl⟩,⟨hg',st'⟩,fun b hb=>(hf b hb).1⟩⟩
 done:=by
  intro X hP hw hK hc i pins s σ H E I hf st hg
  subst hP hw hK
  obtain⟨f0,f1,f2,f3,f4,f5⟩:=hf it (by simp)
  have hg':x.length<=i:=hg
  have e:i=x.cps.size:=Nat.le_antisymm st.1 hg'
  subst e
  exact(z9s (P:=X.prog) (w:=X.w) (I.ok.hd hc) it x t).done s _ _ st.2 fun h' tk kk=>⟨rfl,I.turned (fun b o hb e=>kk b o (by simpa using hb) e) f0 f1 f3 f4 f5⟩
 self:=fun A i s Q E st h=>by
  have st':=st.2
  unfold strIterType at st'
  split at st'
  ·exact wpAny_pyIter_striter_ascii st' h
  ·exact wpAny_pyIter_striter_wide st' h
section
variable{X:Cx}{tg:Expr}
end
abbrev TJ:=St->Hp->Str->(Str->Hp->Prop)->Prop
def PJ(X:Cx)(es:List Expr)(t:TJ):Prop:=∀(pins:List (Addr×Obj))(s:Shared)(σ:St)(H:Hp)(acc:Str)(Q:Str->Hp->Prop),Inv X pins σ H s->t σ H acc Q->
 Joins (model X.prog X.w) X.A X.xe (evalEach es X.env) acc (fun out s₁=>∃H',Inv X pins σ H' s₁/\Q out H') s
section
variable{X:Cx}{e:Expr}{es:List Expr}{t:TJ}{te:TE}{pos p2:Pos}
theorem y1a:OpR X (compareOp .IsNot) (fun x y H Q=>∃a b,x=.bl a/\y=.bl b/\Q (.bl (!decide (a=b))) H):=by
 intro pins s σ H x y v u Q I rx ry h
 obtain⟨a,b,rfl,rfl,q⟩:=h
 cases(show v=Value.bool a from rx)
 cases(show u=Value.bool b from ry)
 refine wpAny_isNot_plain rfl ⟨.bl (!decide (a=b)),H,I,?_,q⟩
 show Value.bool _=Value.bool _
 cases a<;>cases b<;>rfl
end
section
variable{X:Cx}
theorem extT(lA:Addr)(xsA:Array Value)(nA:Nat)(tB:Addr)(ysB:Array Value)(nB:Nat)(ddB:Option Addr)(slB:Array (Option Value))(h0:¬(!xsA.isEmpty&&Builtin.List.listTooLong (xsA.size+ysB.size))=true)(h1:xsA.size<=sizeLine)(h2:xsA.size+ysB.size<=sizeLine+1) :
  Meets (Builtin.«list.extend» ⟨[.ref lA,.ref tB],[]⟩) (fun _ R s=>s.heap.get? lA=some {cls:=.type "list",dict:=none,data:=.seq xsA nA,slots:=#[]}/\s.heap.get? tB=some {cls:=.type "tuple",dict:=ddB,data:=.seq ysB nB,slots:=slB}/\R (.ok (.ret Value.none)) {s with heap:=s.heap.update lA (Obj.mapSeq fun u=>u++ysB),toks:=s.toks}):=
 .of_wp fun prog w A R s h=>by
  obtain⟨hp,g,d,tk,os⟩:=s
  obtain⟨hl,hb,h⟩:=h
  have f1:=AutoSeq1.idx_int
  have f2:=AutoSeq1.sub_tuple_tuple
  have f3:=AutoSeq1.sub_list_list
  have f4:=AutoSeq1.sub_tuple_list
  have f5:=AutoSeq1.sub_list_tuple
  have hz':(xsA++ysB).size<=sizeLine+1:=by rw[Array.size_append];exact h2
  wp_walk using(wpAny_updateSeq hl rfl (hz:=h1) (_hz':=hz')),AutoSeq1.wpAny_loadPart' hl,AutoSeq1.wpAny_loadPart' hb
  exact⟨_,rfl,h⟩
theorem y5x:OpR X (binaryOp .Add) (fun x y H Q=>(∃a b ys,x=.ref a/\y=.ref b/\SqT X.K H a []/\SqT X.K H b ys/\Q (.ref b) H)\/x4m X.K x y H Q):=by
 intro pins s σ H x y v u Q I rx ry h
 rcases h with h|h
 ·obtain⟨a,b,ys,rfl,rfl,ha,hb,q⟩:=h
  cases rx
  cases ry
  obtain⟨its,r1,p1,_⟩:=I.tuple ha
  obtain⟨its2,r2,p2,hz⟩:=I.tuple hb
  cases r1
  obtain⟨⟨c1,e1,t1,l1⟩,ho,hc,n,hd⟩:=p1
  obtain⟨⟨c2,e2,t2,l2⟩,ho2,hc2,n2,hd2⟩:=p2
  simp only at hc hd hc2 hd2
  subst hc hd hc2 hd2
  refine concat_meets ⟨_,ho,rfl⟩ ⟨_,ho2,rfl⟩ noFill_tuple_add seq_tuple_add PySem.F.slot_tuple_add PySem.F.entry_tuple_add (PySem.F.args_tuple_add_2 _ _)
   (tuple_addW0 a b _ its2.toArray n n2 e1 e2 l1 l2 (by rfl)) ⟨ho,ho2,⟨.ref b,H,I,rfl,q⟩⟩
 ·exact x1d pins s σ H x y v u Q I rx ry h
end
end L2
namespace Ev
open PySem L2
inductive PV where
 |non|bl (b:Bool)|int (i:Int)|str (x:Str)|ty (n:String)
 |tup (xs:List PV)|frl (xs:List PV)|ref (n:Nat)|exc (c:String)
inductive SO where
 |lst (xs:List PV)|dK (kvs:List (Key×PV))|dN (kvs:List (KTr×PV))
abbrev q0h:=List SO
abbrev Loc:=List (Option PV)
def SqF(K:Frag)(H:Hp)(a:Addr)(xs:List V):Prop:=
 (∃o,H a=some (.frz o (.lst xs)))\/∃(o:Obj)(its:Array Value)(n:Nat),K.lookup a=some o/\o.cls=.type "list" /\o.dict=none/\o.data=.seq its n/\its.size<=sizeLine/\Vals xs its.toList
theorem SqF.sq{K:Frag}{H:Hp}{a:Addr}{xs:List V}(h:SqF K H a xs):SqL K H a xs:=by
 rcases h with⟨o,h⟩|h
 ·exact .inl (.inr ⟨o,h⟩)
 ·exact .inr h
def w0p(K:Frag)(H:Hp)(a:Addr)(c:String):Prop:=∃(f:Heap->Prop)(C:Addr),H a=some (.ext f)/\PySem.W.nsIn K mainGlobals (Str.ofString c)=some (some (.ref C))/\∀h,f h->∃o,h.get? a=some o/\o.cls=.ref C
mutual
def RV(K:Frag)(H:Hp)(φ:List Addr):PV->V->Prop
 |.non,v=>v=.non
 |.bl b,v=>v=.bl b
 |.int i,v=>v=.int i
 |.str x,v=>v=.str x
 |.ty n,v=>v=.ty n
 |.tup xs,v=>∃a vs,v=.ref a/\SqT K H a vs/\RVs K H φ xs vs
 |.frl xs,v=>∃a vs,v=.ref a/\SqF K H a vs/\RVs K H φ xs vs
 |.ref n,v=>∃a,v=.ref a/\φ[n]?=some a
 |.exc c,v=>∃a,v=.ref a/\w0p K H a c
def RVs(K:Frag)(H:Hp)(φ:List Addr):List PV->List V->Prop
 |[],vs=>vs=[]
 |x::xs,vs=>∃y ys,vs=y::ys/\RV K H φ x y/\RVs K H φ xs ys
end
structure Mono(H H':Hp):Prop where
 tup:∀a xs,H a=some (.tup xs)->H' a=some (.tup xs)
 frz:∀a o u,H a=some (.frz o u)->H' a=some (.frz o u)
 ext:∀a f,H a=some (.ext f)->H' a=some (.ext f)
 dic:∀a c ws,H a=some (.dH c ws)->∃ws',H' a=some (.dH c ws')
theorem Mono.refl(H:Hp):Mono H H:=⟨fun _ _ h=>h,fun _ _ _ h=>h,fun _ _ h=>h,fun _ _ ws h=>⟨ws,h⟩⟩
theorem Mono.trans{H H1 H2:Hp}(a:Mono H H1)(b:Mono H1 H2):Mono H H2:=⟨fun c xs h=>b.tup c xs (a.tup c xs h),fun c o u h=>b.frz c o u (a.frz c o u h),fun c f h=>b.ext c f (a.ext c f h),fun c n ws h=>let ⟨ws',h'⟩:=a.dic c n ws h;b.dic c n ws' h'⟩
theorem Mono.new{H:Hp}{p:Addr}(o:HO)(h:H p=none):Mono H (upd H p o):=⟨fun b u q=>by rw[q1c (q2f q h)];exact q,fun b u v q=>by rw[q1c (q2f q h)];exact q,fun b f q=>by rw[q1c (q2f q h)];exact q,fun b c ws q=>⟨ws,by rw[q1c (q2f q h)];exact q⟩⟩
theorem Mono.rd{H H':Hp}(m:Mono H H'){a:Addr}{xs:List V}(h:Rd H a (.tup xs)):Rd H' a (.tup xs):=by
 rcases h with h|⟨o,h⟩
 ·exact .inl (m.tup _ _ h)
 ·exact .inr ⟨o,m.frz _ _ _ h⟩
theorem Mono.sqT{K:Frag}{H H':Hp}(m:Mono H H'){a:Addr}{xs:List V}(h:SqT K H a xs):SqT K H' a xs:=by
 rcases h with h|h
 ·exact .inl (m.rd h)
 ·exact .inr h
theorem Mono.sqF{K:Frag}{H H':Hp}(m:Mono H H'){a:Addr}{xs:List V}(h:SqF K H a xs):SqF K H' a xs:=by
 rcases h with⟨o,h⟩|h
 ·exact .inl ⟨o,m.frz _ _ _ h⟩
 ·exact .inr h
theorem q4u{φ φ':List Addr}(h:φ <+: φ'){n:Nat}{a:Addr}(e:φ[n]?=some a):φ'[n]?=some a:=by
 obtain⟨t,rfl⟩:=h
 rw[List.getElem?_append_left (by
  have:=List.getElem?_eq_some_iff.mp e
  exact this.1)]
 exact e
section
variable{K:Frag}{H H':Hp}{φ φ':List Addr}
mutual
theorem RV.mono(m:Mono H H')(p:φ <+: φ'):∀(v:PV)(x:V),RV K H φ v x->RV K H' φ' v x
 |.non,_,h=>h
 |.bl _,_,h=>h
 |.int _,_,h=>h
 |.str _,_,h=>h
 |.ty _,_,h=>h
 |.tup xs,_,⟨a,vs,e,s,r⟩=>⟨a,vs,e,m.sqT s,RVs.mono m p xs vs r⟩
 |.frl xs,_,⟨a,vs,e,s,r⟩=>⟨a,vs,e,m.sqF s,RVs.mono m p xs vs r⟩
 |.ref _,_,⟨a,e,q⟩=>⟨a,e,q4u p q⟩
 |.exc _,_,⟨a,e,f,C,h1,h2,h3⟩=>⟨a,e,f,C,m.ext _ _ h1,h2,h3⟩
theorem RVs.mono(m:Mono H H')(p:φ <+: φ'):∀(xs:List PV)(vs:List V),RVs K H φ xs vs->RVs K H' φ' xs vs
 |[],_,h=>h
 |x::xs,_,⟨y,ys,e,r,t⟩=>⟨y,ys,e,RV.mono m p x y r,RVs.mono m p xs ys t⟩
end
theorem RVs.length:∀{xs:List PV}{vs:List V},RVs K H φ xs vs->xs.length=vs.length
 |[],_,h=>by rw[show _=[]from h];rfl
 |_::xs,_,⟨y,ys,e,_,t⟩=>by rw[e,List.length_cons,List.length_cons,RVs.length t]
theorem RVs.get:∀{xs:List PV}{vs:List V}{i:Nat}{x:PV},RVs K H φ xs vs->xs[i]?=some x->∃y,vs[i]?=some y/\RV K H φ x y
 |[],_,_,_,_,e=>by simp at e
 |x::xs,_,0,x',⟨y,ys,e,r,t⟩,q=>by
  simp at q;subst q;subst e
  exact⟨y,by simp,r⟩
 |x::xs,_,i+1,x',⟨y,ys,e,r,t⟩,q=>by
  subst e
  obtain⟨z,h1,h2⟩:=RVs.get (i:=i) t (by simpa using q)
  exact⟨z,by simpa using h1,h2⟩
theorem RVs.append:∀{xs ys:List PV}{vs ws:List V},RVs K H φ xs vs->RVs K H φ ys ws->RVs K H φ (xs++ys) (vs++ws)
 |[],_,_,_,h,s=>by rw[show _=[]from h];exact s
 |x::xs,_,_,_,⟨y,ys,e,r,t⟩,s=>by subst e;exact⟨y,_,rfl,r,RVs.append t s⟩
theorem RVs.one{x:PV}{y:V}(r:RV K H φ x y):RVs K H φ [x] [y]:=⟨y,[],rfl,r,rfl⟩
theorem RVs.cons{x:PV}{y:V}{xs:List PV}{ys:List V}(r:RV K H φ x y)(t:RVs K H φ xs ys):RVs K H φ (x::xs) (y::ys):=⟨y,ys,rfl,r,t⟩
theorem RVs.take:∀{xs:List PV}{vs:List V}(n:Nat),RVs K H φ xs vs->RVs K H φ (xs.take n) (vs.take n)
 |_,_,0,_=>by simp;exact rfl
 |[],_,_+1,h=>by rw[show _=[]from h];exact rfl
 |x::xs,_,n+1,⟨y,ys,e,r,t⟩=>by subst e;exact⟨y,_,rfl,r,RVs.take n t⟩
theorem RVs.drop:∀{xs:List PV}{vs:List V}(n:Nat),RVs K H φ xs vs->RVs K H φ (xs.drop n) (vs.drop n)
 |_,_,0,h=>h
 |[],_,_+1,h=>by rw[show _=[]from h];exact rfl
 |x::xs,_,n+1,⟨y,ys,e,r,t⟩=>by subst e;exact RVs.drop n t
theorem RVs.set{z:PV}{u:V}(q:RV K H φ z u):∀{xs:List PV}{vs:List V}(n:Nat),RVs K H φ xs vs->RVs K H φ (xs.set n z) (vs.set n u)
 |[],_,_,h=>by rw[show _=[]from h];exact rfl
 |x::xs,_,0,⟨y,ys,e,r,t⟩=>by subst e;exact⟨u,_,rfl,q,t⟩
 |x::xs,_,n+1,⟨y,ys,e,r,t⟩=>by subst e;exact⟨y,_,rfl,r,RVs.set q n t⟩
theorem RVs.eraseIdx:∀{xs:List PV}{vs:List V}(n:Nat),RVs K H φ xs vs->RVs K H φ (xs.eraseIdx n) (vs.eraseIdx n)
 |[],_,_,h=>by rw[show _=[]from h];exact rfl
 |x::xs,_,0,⟨y,ys,e,r,t⟩=>by subst e;exact t
 |x::xs,_,n+1,⟨y,ys,e,r,t⟩=>by subst e;exact⟨y,_,rfl,r,RVs.eraseIdx n t⟩
theorem RVs.dropLast{xs:List PV}{vs:List V}(h:RVs K H φ xs vs):RVs K H φ xs.dropLast vs.dropLast:=by
 rw[List.dropLast_eq_take,List.dropLast_eq_take,<-h.length]
 exact h.take _
theorem RVs.reverse:∀{xs:List PV}{vs:List V},RVs K H φ xs vs->RVs K H φ xs.reverse vs.reverse
 |[],_,h=>by rw[show _=[]from h];exact rfl
 |x::xs,_,⟨y,ys,e,r,t⟩=>by
  subst e
  rw[List.reverse_cons,List.reverse_cons]
  exact(RVs.reverse t).append (.one r)
theorem RVs.rep{xs:List PV}{vs:List V}(h:RVs K H φ xs vs):∀n,RVs K H φ (List.replicate n xs).flatten (List.replicate n vs).flatten
 |0=>rfl
 |n+1=>by
  rw[List.replicate_succ,List.replicate_succ,List.flatten_cons,List.flatten_cons]
  exact h.append (RVs.rep h n)
theorem RVs.ints:∀{ns:List Int}{vs:List V},RVs K H φ (ns.map PV.int) vs->vs=ns.map V.int
 |[],_,h=>h
 |_::ns,_,⟨y,ys,e,r,t⟩=>by rw[e,show y=_ from r,RVs.ints t];rfl
theorem RVs.strs:∀{ns:List Str}{vs:List V},RVs K H φ (ns.map PV.str) vs->vs=ns.map V.str
 |[],_,h=>h
 |_::ns,_,⟨y,ys,e,r,t⟩=>by rw[e,show y=_ from r,RVs.strs t];rfl
theorem RVs.bls:∀{ns:List Bool}{vs:List V},RVs K H φ (ns.map PV.bl) vs->vs=ns.map V.bl
 |[],_,h=>h
 |_::ns,_,⟨y,ys,e,r,t⟩=>by rw[e,show y=_ from r,RVs.bls t];rfl
theorem RVs.of_ints:∀(ns:List Int),RVs K H φ (ns.map PV.int) (ns.map V.int)
 |[]=>rfl
 |_::ns=>⟨_,_,rfl,rfl,RVs.of_ints ns⟩
def RKs(K:Frag)(H:Hp)(φ:List Addr):List (Key×PV)->List (Key×V)->Prop:=Paired fun p q=>p.1=q.1/\RV K H φ p.2 q.2
theorem RKs.mono(m:Mono H H')(p:φ <+: φ'){xs:List (Key×PV)}{ys:List (Key×V)}(h:RKs K H φ xs ys):RKs K H' φ' xs ys:=Paired.mapP h fun _ _ hh1=>by obtain⟨a,b⟩:=hh1;exact(⟨a,RV.mono m p _ _ b⟩)
mutual
def ktP:KTr->PV
 |.int i=>.int i
 |.str x=>.str x
 |.tup xs=>.tup (ktPs xs)
def ktPs:List KTr->List PV
 |[]=>[]
 |x::xs=>ktP x::ktPs xs
end
def RNs(K:Frag)(H:Hp)(φ:List Addr):List (KTr×PV)->List (KTr×Addr×V)->Prop:=Paired fun p q=>p.1=q.1/\((∃ys,p.1=.tup ys)/\kdep p.1<=8)/\RV K H φ (ktP p.1) (.ref q.2.1)/\RV K H φ p.2 q.2.2
theorem RNs.mono(m:Mono H H')(p:φ <+: φ'){xs:List (KTr×PV)}{ys:List (KTr×Addr×V)}(h:RNs K H φ xs ys):RNs K H' φ' xs ys:=Paired.mapP h fun _ _ hh1=>by obtain⟨a,c,b,d⟩:=hh1;exact(⟨a,c,RV.mono m p _ _ b,RV.mono m p _ _ d⟩)
def ObjR(K:Frag)(H:Hp)(φ:List Addr):SO->Addr->Prop
 |.lst xs,a=>∃vs,H a=some (.lst vs)/\RVs K H φ xs vs
 |.dK kvs,a=>∃ws,H a=some (.dK ws)/\RKs K H φ kvs ws
 |.dN kvs,a=>∃c ws,H a=some (.dH c ws)/\RNs K H φ kvs ws
theorem ObjR.some{o:SO}{a:Addr}(h:ObjR K H φ o a):∃u,H a=Option.some u:=by
 cases o with
 |lst xs=>obtain⟨vs,e,_⟩:=h;exact⟨_,e⟩
 |dK xs=>obtain⟨vs,e,_⟩:=h;exact⟨_,e⟩
 |dN xs=>obtain⟨_,vs,e,_⟩:=h;exact⟨_,e⟩
theorem ObjR.mono(m:Mono H H')(p:φ <+: φ'){o:SO}{a:Addr}(e:∀u,H a=Option.some u->H' a=Option.some u)(h:ObjR K H φ o a):ObjR K H' φ' o a:=by
 cases o with
 |lst xs=>obtain⟨vs,q,r⟩:=h;exact⟨vs,e _ q,RVs.mono m p _ _ r⟩
 |dK xs=>obtain⟨vs,q,r⟩:=h;exact⟨vs,e _ q,RKs.mono m p r⟩
 |dN xs=>obtain⟨c,vs,q,r⟩:=h;exact⟨c,vs,e _ q,RNs.mono m p r⟩
structure Rel(K:Frag)(φ:List Addr)(S:q0h)(H:Hp):Prop where
 len:φ.length=S.length
 nd:φ.Nodup
 obj:∀(n:Nat)(a:Addr)(o:SO),φ[n]?=some a->S[n]?=some o->ObjR K H φ o a
theorem Rel.at{S:q0h}(h:Rel K φ S H){n:Nat}{o:SO}(e:S[n]?=some o):∃a,φ[n]?=some a/\ObjR K H φ o a:=by
 have hn:n<φ.length:=by rw[h.len];exact(List.getElem?_eq_some_iff.mp e).1
 exact⟨φ[n],List.getElem?_eq_getElem hn,h.obj n _ o (List.getElem?_eq_getElem hn) e⟩
theorem Rel.at'{S:q0h}(h:Rel K φ S H){n:Nat}{a:Addr}(e:φ[n]?=some a):∃o,S[n]?=some o/\ObjR K H φ o a:=by
 have hn:n<S.length:=by rw[<-h.len];exact(List.getElem?_eq_some_iff.mp e).1
 exact⟨S[n],List.getElem?_eq_getElem hn,h.obj n a _ e (List.getElem?_eq_getElem hn)⟩
theorem Rel.frame{S:q0h}(h:Rel K φ S H){p:Addr}(o:HO)(hp:H p=none):Rel K φ S (upd H p o):=
 ⟨h.len,h.nd,fun n a o' e q=>(h.obj n a o' e q).mono (Mono.new o hp) (List.prefix_refl _) fun u z=>by rw[q1c (q2f z hp)];exact z⟩
theorem Rel.new{S:q0h}(h:Rel K φ S H){p:Addr}{o:SO}{u:HO}(hp:H p=none)(ho:ObjR K (upd H p u) (φ++[p]) o p):Rel K (φ++[p]) (S++[o]) (upd H p u):=by
 refine⟨by simp[h.len],?_,fun n a o' e q=>?_⟩
 ·refine List.nodup_append.mpr ⟨h.nd,by simp,fun a ha b hb=>?_⟩
  rw[List.mem_singleton]at hb
  subst hb
  intro z
  subst z
  obtain⟨n,hn,e⟩:=List.mem_iff_getElem.mp ha
  obtain⟨o',_,r⟩:=h.at' (n:=n) (a:=a) (by rw[List.getElem?_eq_getElem hn,e])
  obtain⟨u',z⟩:=r.some
  rw[hp]at z
  cases z
 ·by_cases hn:n<φ.length
  ·rw[List.getElem?_append_left hn]at e
   rw[List.getElem?_append_left (by rw[<-h.len];exact hn)]at q
   exact(h.obj n a o' e q).mono (Mono.new u hp) (List.prefix_append _ _) fun u' z=>by rw[q1c (q2f z hp)];exact z
  ·have hn':n=φ.length:=by
    have:=(List.getElem?_eq_some_iff.mp e).1
    simp at this
    omega
   subst hn'
   rw[List.getElem?_append_right (Nat.le_refl _)]at e
   rw[h.len,List.getElem?_append_right (Nat.le_refl _)]at q
   simp at e q
   subst e q
   exact ho
theorem Rel.put{S:q0h}(h:Rel K φ S H){n:Nat}{a:Addr}{o:SO}{u:HO}(e:φ[n]?=some a)(m:Mono H (upd H a u))(ho:ObjR K (upd H a u) φ o a):Rel K φ (S.set n o) (upd H a u):=by
 refine⟨by simp[h.len],h.nd,fun i b o' q r=>?_⟩
 by_cases hi:i=n
 ·subst hi
  rw[e]at q
  cases q
  have hl:i<S.length:=by rw[<-h.len];exact(List.getElem?_eq_some_iff.mp e).1
  rw[List.getElem?_set_self hl]at r
  cases r
  exact ho
 ·rw[List.getElem?_set_ne (fun z=>hi z.symm)]at r
  have hb:b≠a:=fun z=>by
   subst z
   have h1:=List.getElem?_eq_some_iff.mp q
   have h2:=List.getElem?_eq_some_iff.mp e
   obtain⟨l1,e1⟩:=h1
   obtain⟨l2,e2⟩:=h2
   exact hi ((List.getElem_inj h.nd).mp (e1.trans e2.symm))
  exact(h.obj i b o' q r).mono m (List.prefix_refl _) fun u' z=>by rw[q1c hb];exact z
theorem Mono.lst{a:Addr}{xs:List V}{u:HO}(e:H a=some (.lst xs)):Mono H (upd H a u):=
 ⟨fun b xs q=>by rw[q1c (q8q q e (by intro z;cases z))];exact q,fun b o w q=>by rw[q1c (q8q q e (by intro z;cases z))];exact q,fun b f q=>by rw[q1c (q8q q e (by intro z;cases z))];exact q,fun b c ws q=>⟨ws,by rw[q1c (q8q q e (by intro z;cases z))];exact q⟩⟩
theorem Mono.dicH{a:Addr}{c:Nat}{xs ys:List (KTr×Addr×V)}(e:H a=some (.dH c xs)):Mono H (upd H a (.dH c ys)):=
 ⟨fun b xs q=>by rw[q1c (q8q q e (by intro z;cases z))];exact q,fun b o w q=>by rw[q1c (q8q q e (by intro z;cases z))];exact q,fun b f q=>by rw[q1c (q8q q e (by intro z;cases z))];exact q,fun b c' ws q=>by
  by_cases hb:b=a
  ·subst hb;rw [e]at q;cases q;exact ⟨ys,q1r⟩
  ·exact ⟨ws,by rw [q1c hb];exact q⟩⟩
theorem Mono.dict{a:Addr}{xs:List (Key×V)}{u:HO}(e:H a=some (.dK xs)):Mono H (upd H a u):=
 ⟨fun b xs q=>by rw[q1c (q8q q e (by intro z;cases z))];exact q,fun b o w q=>by rw[q1c (q8q q e (by intro z;cases z))];exact q,fun b f q=>by rw[q1c (q8q q e (by intro z;cases z))];exact q,fun b c ws q=>⟨ws,by rw[q1c (q8q q e (by intro z;cases z))];exact q⟩⟩
abbrev EK:=PV->q0h->Prop
structure GX where
 ek:EK
 xh:PV->Hp->Prop
structure LRel(K:Frag)(G:GX)(H:Hp)(φ:List Addr)(σ:Loc)(σV:St):Prop where
 len:σ.length=σV.length
 at':∀(i:Nat)(v:PV),σ[i]?=some (some v)->∃x,σV[i]?=some (some x)/\RV K H φ v x
 kx:∀v S' φ' H',G.ek v S'->φ <+: φ'->Mono H H'->Rel K φ' S' H'->G.xh v H'
theorem LRel.mono{G:GX}(m:Mono H H')(p:φ <+: φ'){σ:Loc}{σV:St}(h:LRel K G H φ σ σV):LRel K G H' φ' σ σV:=
 ⟨h.len,fun i v e=>let ⟨x,a,b⟩:=h.at' i v e;⟨x,a,RV.mono m p _ _ b⟩,fun v S1 φ1 H1 g p1 m1 r=>h.kx v S1 φ1 H1 g (p.trans p1) (m.trans m1) r⟩
theorem LRel.set{G:GX}{σ:Loc}{σV:St}(h:LRel K G H φ σ σV)(i:Nat){v:PV}{x:V}(r:RV K H φ v x):LRel K G H φ (σ.set i (some v)) (σV.set i (some x)):=by
 refine⟨by simp[h.len],fun j u e=>?_,h.kx⟩
 by_cases hj:j=i
 ·subst hj
  have hl:j<σ.length:=by
   have:=(List.getElem?_eq_some_iff.mp e).1
   simpa using this
  rw[List.getElem?_set_self hl]at e
  cases e
  exact⟨x,List.getElem?_set_self (by rw[<-h.len];exact hl),r⟩
 ·rw[List.getElem?_set_ne (fun z=>hj z.symm)]at e
  rw[List.getElem?_set_ne (fun z=>hj z.symm)]
  exact h.at' j u e
end
end Ev
namespace Ev
open PySem L2
abbrev VC:=PV->q0h->Prop
abbrev WE:=Loc->q0h->EK->VC->Prop
abbrev WT:=Loc->q0h->EK->(Bool->q0h->Prop)->Prop
abbrev WA:=Loc->q0h->EK->(List PV->q0h->Prop)->Prop
def KE(K:Frag)(φ:List Addr)(H:Hp)(Q0:VC)(Q:VK):Prop:=∀v S' φ' H' x,Q0 v S'->φ <+: φ'->Mono H H'->Rel K φ' S' H'->RV K H' φ' v x->Q x H'
def KB(K:Frag)(φ:List Addr)(H:Hp)(Q0:Bool->q0h->Prop)(Q:Bool->Hp->Prop):Prop:=∀v S' φ' H',Q0 v S'->φ <+: φ'->Mono H H'->Rel K φ' S' H'->Q v H'
def KL(K:Frag)(φ:List Addr)(H:Hp)(Q0:List PV->q0h->Prop)(Q:List V->Hp->Prop):Prop:=∀v S' φ' H' x,Q0 v S'->φ <+: φ'->Mono H H'->Rel K φ' S' H'->RVs K H' φ' v x->Q x H'
theorem KE.up{K:Frag}{φ φ1:List Addr}{H H1:Hp}{Q0:VC}{Q:VK}(k:KE K φ H Q0 Q)(p:φ <+: φ1)(m:Mono H H1):KE K φ1 H1 Q0 Q:=fun v S' φ' H' x q p' m'=>k v S' φ' H' x q (p.trans p') (m.trans m')
theorem KB.up{K:Frag}{φ φ1:List Addr}{H H1:Hp}{Q0:Bool->q0h->Prop}{Q:Bool->Hp->Prop}(k:KB K φ H Q0 Q)(p:φ <+: φ1)(m:Mono H H1):KB K φ1 H1 Q0 Q:=fun v S' φ' H' q p' m'=>k v S' φ' H' q (p.trans p') (m.trans m')
theorem KL.up{K:Frag}{φ φ1:List Addr}{H H1:Hp}{Q0:List PV->q0h->Prop}{Q:List V->Hp->Prop}(k:KL K φ H Q0 Q)(p:φ <+: φ1)(m:Mono H H1):KL K φ1 H1 Q0 Q:=fun v S' φ' H' x q p' m'=>k v S' φ' H' x q (p.trans p') (m.trans m')
def q6b(K:Frag)(G:GX)(w:WE):TE:=fun σV H Q=>∃φ σ S Q0,LRel K G H φ σ σV/\Rel K φ S H/\w σ S G.ek Q0/\KE K φ H Q0 Q
def z3d(K:Frag)(G:GX)(w:WT):TT:=fun σV H Q=>∃φ σ S Q0,LRel K G H φ σ σV/\Rel K φ S H/\w σ S G.ek Q0/\KB K φ H Q0 Q
def x6o(K:Frag)(G:GX)(w:WA):TA:=fun σV H Q=>∃φ σ S Q0,LRel K G H φ σ σV/\Rel K φ S H/\w σ S G.ek Q0/\KL K φ H Q0 Q
def SimE(X:Cx)(G:GX)(e:Expr)(w:WE):Prop:=PE X e (q6b X.K G w)
def SimT(X:Cx)(G:GX)(e:Expr)(w:WT):Prop:=PT X e (z3d X.K G w)
def SimW(X:Cx)(G:GX)(e:Expr)(w:WT):Prop:=PW X e (z3d X.K G w)
def SimA(X:Cx)(G:GX)(es:List Expr)(w:WA):Prop:=PA X es (x6o X.K G w)
theorem _root_.L2.PE.imp{X:Cx}{e:Expr}{t t':TE}(h:PE X e t)(i:∀σ H Q,t' σ H Q->t σ H Q):PE X e t':=fun pins s σ H Q I q=>h pins s σ H Q I (i σ H Q q)
theorem _root_.L2.PT.imp{X:Cx}{e:Expr}{t t':TT}(h:PT X e t)(i:∀σ H Q,t' σ H Q->t σ H Q):PT X e t':=fun pins s σ H Q I q=>h pins s σ H Q I (i σ H Q q)
theorem _root_.L2.PW.imp{X:Cx}{e:Expr}{t t':TT}(h:PW X e t)(i:∀σ H Q,t' σ H Q->t σ H Q):PW X e t':=fun wh pins s σ H Q I q=>h wh pins s σ H Q I (i σ H Q q)
theorem _root_.L2.PA.imp{X:Cx}{e:List Expr}{t t':TA}(h:PA X e t)(i:∀σ H Q,t' σ H Q->t σ H Q):PA X e t':=fun pos pins s σ H Q I q=>h pos pins s σ H Q I (i σ H Q q)
def wVar(i:Nat):WE:=fun σ S _ Q=>match σ[i]? with
 |some (some v)=>Q v S
 |_=>False
def wC(v:PV):WE:=fun _ S _ Q=>Q v S
section
variable{X:Cx}{G:GX}{pos:Pos}
theorem q0b(i:Nat){x:Str}(hN:X.N[i]?=some x:=by rfl)(hv:Vis X.env.scope x:=by first|exact Or.inl rfl|exact Or.inr (Or.inl rfl)|exact Or.inr (Or.inr rfl))(hd:(x==("__debug__" : Str))=false:=by decide)(hcd:(x==("__classdict__" : Str))=false:=by decide) :
  SimE X G (.Name x pos) (wVar i):=by
 refine(x5d (i:=i) hN hv hd hcd).imp fun σV H Q hh1=>?_
 obtain⟨φ,σ,S,Q0,L,R,h,k⟩:=hh1
 unfold wVar at h
 split at h
 ·rename_i v e
  obtain⟨x,e',r⟩:=L.at' i v e
  exact⟨x,e',k v S φ H x h (List.prefix_refl _) (.refl _) R r⟩
 ·exact h.elim
theorem q9i{e:Expr}{v:V}(p:PV)(h:PE X e (tC v))(r:∀H φ,RV X.K H φ p v):SimE X G e (wC p):=
 h.imp fun σV H Q hh1=>by obtain⟨φ,σ,S,Q0,L,R,h,k⟩:=hh1;exact(k p S φ H v h (List.prefix_refl _) (.refl _) R (r H φ))
theorem q0f {i j}:SimE X G (.Constant (.int i) j pos) (wC (.int i)):=q9i _ x5l fun _ _=>rfl
theorem q7c {i j}:SimE X G (.Constant (.bool i) j pos) (wC (.bl i)):=q9i _ x9n fun _ _=>rfl
theorem q0k {i j}:SimE X G (.Constant (.str i) j pos) (wC (.str i)):=q9i _ x5f fun _ _=>rfl
theorem q4d {j}:SimE X G (.Constant .none j pos) (wC .non):=q9i _ x5i fun _ _=>rfl
structure GlobV(K:Frag)(mg:Str->Option Value)(x:Str)(p:PV):Prop where
 is:∃u v,mg x=some u/\RelV v u/\∀H φ,RV K H φ p v
theorem q7n{x:Str}{T:String}(hm:X.mg x=none)(hb:bootBuiltins x=some (.type T))(hg:Gl X x:=by rfl)(hn:x≠ "__name__" :=by decide)(hd:(x==("__debug__" : Str))=false:=by decide):SimE X G (.Name x pos) (wC (.ty T)):=
 q9i (v:=.ty T) _ (y0s hg hm hb rfl hn hd) fun _ _=>rfl
end
abbrev F2:=PV->PV->q0h->VC->Prop
def wBin(f:F2)(wa wb:WE):WE:=fun σ S E Q=>wa σ S E fun x S1=>wb σ S1 E fun y S2=>f x y S2 Q
def q4v(K:Frag)(f:F2):R2:=fun x' y' H Q=>∃φ S x y Q0,Rel K φ S H/\RV K H φ x x'/\RV K H φ y y'/\f x y S Q0/\KE K φ H Q0 Q
section
variable{X:Cx}{G:GX}{pos:Pos}{a b:Expr}{wa wb:WE}{f:F2}
theorem q7s{σV:St}{H:Hp}{Q:VK}(h:q6b X.K G (wBin f wa wb) σV H Q):tOp (q4v X.K f) (q6b X.K G wa) (q6b X.K G wb) σV H Q:=by
 obtain⟨φ,σ,S,Q0,L,R,h,k⟩:=h
 refine⟨φ,σ,S,_,L,R,h,fun v S1 φ1 H1 x q p1 m1 R1 r1=>?_⟩
 refine⟨φ1,σ,S1,_,L.mono m1 p1,R1,q,fun u S2 φ2 H2 y q2 p2 m2 R2 r2=>?_⟩
 exact⟨φ2,S2,v,u,Q0,R2,RV.mono m2 p2 _ _ r1,r2,q2,k.up (p1.trans p2) (m1.trans m2)⟩
theorem q0n{op:Operator}(ho:OpR X (binaryOp op) (q4v X.K f))(ha:SimE X G a wa)(hb:SimE X G b wb):SimE X G (.BinOp a op b pos) (wBin f wa wb):=(x9l ho ha hb).imp fun _ _ _ h=>q7s h
theorem q6m{op:CmpOp}(ho:OpR X (compareOp op) (q4v X.K f))(ha:SimE X G a wa)(hb:SimE X G b wb)(hm:behindInMarks op b=false):SimE X G (.Compare a [op] [b] pos) (wBin f wa wb):=(x0y ho ha hb hm).imp fun _ _ _ h=>q7s h
def q0y(w:WE):WT:=fun σ S E Q=>w σ S E fun x S1=>match x with
 |.bl c=>Q c S1
 |_=>False
theorem y1o{w:WE}{t:TE}(i:∀σ H Q,q6b X.K G w σ H Q->t σ H Q){σV:St}{H:Hp}{Q:Bool->Hp->Prop}(h:z3d X.K G (q0y w) σV H Q):x3s t σV H Q:=by
 obtain⟨φ,σ,S,Q0,L,R,h,k⟩:=h
 refine i _ _ _ ⟨φ,σ,S,_,L,R,h,fun v S1 φ1 H1 x q p1 m1 R1 r1=>?_⟩
 cases v with
 |bl c=>exact⟨c,r1,k c S1 φ1 H1 q p1 m1 R1⟩
 |_=>exact q.elim
theorem q0l{op:CmpOp}(ho:OpR X (compareOp op) (q4v X.K f))(ha:SimE X G a wa)(hb:SimE X G b wb)(hm:behindInMarks op b=false):SimT X G (.Compare a [op] [b] pos) (q0y (wBin f wa wb)):=
 (x0m ho ha hb hm).imp fun _ _ _ h=>y1o (fun _ _ _ h=>q7s h) h
end
def truK(x:PV)(S:q0h)(Q:Bool->q0h->Prop):Prop:=match x with
 |.non=>Q false S
 |.bl b=>Q b S
 |.int i=>Q (i != 0) S
 |.str y=>y.length<=sizeLine/\Q (!decide (y.length=0)) S
 |.tup xs=>Q (!xs.isEmpty) S
 |.frl xs=>Q (!xs.isEmpty) S
 |.ref n=>match S[n]? with
  |some (.lst xs)=>Q (!xs.isEmpty) S
  |some (.dK xs)=>Q (!xs.isEmpty) S
  |_=>False
 |.ty _=>False
 |.exc _=>False
def wTru(w:WE):WT:=fun σ S E Q=>w σ S E fun x S1=>truK x S1 Q
theorem y2n{K:Frag}{H:Hp}{φ:List Addr}{xs:List PV}{vs:List V}(r:RVs K H φ xs vs):(!xs.isEmpty)=!vs.isEmpty:=by
 have:=r.length
 cases xs<;>cases vs<;>simp_all
theorem y9n{K:Frag}{H:Hp}{φ:List Addr}{S:q0h}{x:PV}{x':V}{Q0:Bool->q0h->Prop}{Q:Bool->Hp->Prop}(R:Rel K φ S H)(r:RV K H φ x x')(h:truK x S Q0)(k:∀b,Q0 b S->Q b H):∃b,TruV K x' H b/\Q b H:=by
 unfold truK at h
 cases x with
 |non=>cases r;exact⟨false,rfl,k _ h⟩
 |bl b=>cases r;exact⟨b,rfl,k _ h⟩
 |int i=>cases r;exact⟨_,rfl,k _ h⟩
 |str y=>
  cases r
  obtain⟨hz,h⟩:=h
  refine⟨!decide (y.length=0),⟨hz,?_⟩,k _ h⟩
  by_cases e:y.length=0
  ·rw[e];rfl
  ·rw[decide_eq_false e]
   symm
   simp only[bne_iff_ne,Bool.not_false]
   intro z
   exact e (by exact_mod_cast z)
 |tup xs=>
  obtain⟨a,vs,rfl,s,rs⟩:=r
  exact⟨_,.inr (.inl ⟨vs,s,rfl⟩),k _ (by rw[<-y2n rs];exact h)⟩
 |frl xs=>
  obtain⟨a,vs,rfl,s,rs⟩:=r
  exact⟨_,.inl ⟨vs,s.sq,rfl⟩,k _ (by rw[<-y2n rs];exact h)⟩
 |ref n=>
  obtain⟨a,rfl,e⟩:=r
  dsimp only at h
  split at h
  ·rename_i xs es
   obtain⟨vs,e1,rs⟩:=R.obj n a _ e es
   exact⟨_,.inl ⟨vs,SqL.of e1,rfl⟩,k _ (by rw[<-y2n rs];exact h)⟩
  ·rename_i xs es
   obtain⟨vs,e1,rs⟩:=R.obj n a _ e es
   have:(!xs.isEmpty)=!vs.isEmpty:=by cases rs<;>rfl
   exact⟨_,.inr (.inr ⟨vs,e1,rfl⟩),k _ (by rw[<-this];exact h)⟩
  ·exact h.elim
 |ty n=>exact h.elim
 |exc c=>exact h.elim
section
variable{X:Cx}{G:GX}{pos:Pos}{a b c:Expr}{wa wb:WE}{ta tb:WT}{rest:List Expr}
theorem q2w(ha:SimE X G a wa)(he:∀whole,isTrue a X.env whole=(do let v <-whole;standAt a.pos;holding [v] (truthy v)):=by intro _;rfl):SimT X G a (wTru wa):=
 (y5f ha he).imp fun σV H Q hh1=>by obtain⟨φ,σ,S,Q0,L,R,h,k⟩:=hh1;exact(⟨φ,σ,S,_,L,R,h,fun v S1 φ1 H1 x q p1 m1 R1 r1=>y9n R1 r1 q fun b q=>k b S1 φ1 H1 q p1 m1 R1⟩)
def wAnd(ta tb:WT):WT:=fun σ S E Q=>ta σ S E fun c S1=>if c=true then tb σ S1 E Q else Q false S1
def wOr(ta tb:WT):WT:=fun σ S E Q=>ta σ S E fun c S1=>if c=true then Q true S1 else tb σ S1 E Q
def wNot(ta:WT):WT:=fun σ S E Q=>ta σ S E fun c S1=>Q (!c) S1
theorem SimW.t{e:Expr}{w:WT}(h:SimW X G e w):SimT X G e w:=h _
theorem q3k(ha:SimT X G a ta):SimW X G (.BoolOp .And [a] pos) ta:=x0k ha
theorem q4q(ha:SimT X G a ta):SimW X G (.BoolOp .Or [a] pos) ta:=x4n ha
theorem q4r(ha:SimT X G a ta)(hb:SimW X G (.BoolOp .And (b::rest) pos) tb):SimW X G (.BoolOp .And (a::b::rest) pos) (wAnd ta tb):=
 (x4o ha hb).imp fun σV H Q hh1=>by obtain⟨φ,σ,S,Q0,L,R,h,k⟩:=hh1;exact(⟨φ,σ,S,_,L,R,h,fun c S1 φ1 H1 q p1 m1 R1=>by
  cases c with
  |true=>exact ⟨φ1,σ,S1,_,L.mono m1 p1,R1,q,k.up p1 m1⟩
  |false=>exact k false S1 φ1 H1 q p1 m1 R1⟩)
theorem q4e(ha:SimT X G a ta)(hb:SimW X G (.BoolOp .Or (b::rest) pos) tb):SimW X G (.BoolOp .Or (a::b::rest) pos) (wOr ta tb):=
 (x9i ha hb).imp fun σV H Q hh1=>by obtain⟨φ,σ,S,Q0,L,R,h,k⟩:=hh1;exact(⟨φ,σ,S,_,L,R,h,fun c S1 φ1 H1 q p1 m1 R1=>by
  cases c with
  |false=>exact ⟨φ1,σ,S1,_,L.mono m1 p1,R1,q,k.up p1 m1⟩
  |true=>exact k true S1 φ1 H1 q p1 m1 R1⟩)
theorem q5f(ha:SimT X G a ta):SimT X G (.UnaryOp .Not a pos) (wNot ta):=
 (x4q ha).imp fun σV H Q hh1=>by obtain⟨φ,σ,S,Q0,L,R,h,k⟩:=hh1;exact(⟨φ,σ,S,_,L,R,h,fun c S1 φ1 H1 q p1 m1 R1=>k (!c) S1 φ1 H1 q p1 m1 R1⟩)
def z1j(wa wb:WE):WE:=fun σ S E Q=>wa σ S E fun x S1=>match x with
 |.bl c=>if c=true then wb σ S1 E Q else Q (.bl false) S1
 |_=>False
def y4a(wa:WE):WE:=fun σ S E Q=>wa σ S E fun x S1=>match x with
 |.bl c=>Q (.bl (!c)) S1
 |_=>False
theorem q9h {op} (h:SimE X G a wa):SimE X G (.BoolOp op [a] pos) wa:=x5g h
theorem q8c(ha:SimE X G a wa)(hb:SimE X G (.BoolOp .And (b::rest) pos) wb):SimE X G (.BoolOp .And (a::b::rest) pos) (z1j wa wb):=
 (x5o ha hb).imp fun σV H Q hh1=>by obtain⟨φ,σ,S,Q0,L,R,h,k⟩:=hh1;exact(⟨φ,σ,S,_,L,R,h,fun v S1 φ1 H1 x q p1 m1 R1 r1=>by
  cases v with
  |bl c=>
   refine ⟨c,r1,?_⟩
   cases c with
   |true=>exact ⟨φ1,σ,S1,_,L.mono m1 p1,R1,q,k.up p1 m1⟩
   |false=>exact k _ S1 φ1 H1 _ q p1 m1 R1 rfl
  |_=>exact q.elim⟩)
theorem y9y(ha:SimE X G a wa):SimE X G (.UnaryOp .Not a pos) (y4a wa):=
 (x5h ha).imp fun σV H Q hh1=>by obtain⟨φ,σ,S,Q0,L,R,h,k⟩:=hh1;exact(⟨φ,σ,S,_,L,R,h,fun v S1 φ1 H1 x q p1 m1 R1 r1=>by
  cases v with
  |bl c=>exact ⟨c,r1,k _ S1 φ1 H1 _ q p1 m1 R1 rfl⟩
  |_=>exact q.elim⟩)
def wNeg(wa:WE):WE:=fun σ S E Q=>wa σ S E fun x S1=>match x with
 |.int i=>Q (.int (-i)) S1
 |_=>False
theorem z1q(ha:SimE X G a wa):SimE X G (.UnaryOp .USub a pos) (wNeg wa):=
 (x9k x3l ha).imp fun σV H Q hh1=>by obtain⟨φ,σ,S,Q0,L,R,h,k⟩:=hh1;exact(⟨φ,σ,S,_,L,R,h,fun v S1 φ1 H1 x q p1 m1 R1 r1=>by
  cases v with
  |int c=>exact ⟨c,r1,k _ S1 φ1 H1 _ q p1 m1 R1 rfl⟩
  |_=>exact q.elim⟩)
def wNil:WA:=fun _ S _ Q=>Q [] S
def q0d(wa:WE)(wr:WA):WA:=fun σ S E Q=>wa σ S E fun x S1=>wr σ S1 E fun xs S2=>Q (x::xs) S2
theorem q0c:SimA X G [] wNil:=y8g.imp fun σV H Q hh1=>by obtain⟨φ,σ,S,Q0,L,R,h,k⟩:=hh1;exact(k [] S φ H [] h (List.prefix_refl _) (.refl _) R rfl)
theorem q0a{e:Expr}{es:List Expr}{we:WE}{wr:WA}(ha:SimE X G e we)(hr:SimA X G es wr)(hs:starEach (e::es) X.env=(false,eval e X.env)::starEach es X.env:=by rfl):SimA X G (e::es) (q0d we wr):=
 (y0w ha hr hs).imp fun σV H Q hh1=>by obtain⟨φ,σ,S,Q0,L,R,h,k⟩:=hh1;exact(⟨φ,σ,S,_,L,R,h,fun v S1 φ1 H1 x q p1 m1 R1 r1=>
  ⟨φ1,σ,S1,_,L.mono m1 p1,R1,q,fun vs S2 φ2 H2 xs q2 p2 m2 R2 r2=>k (v::vs) S2 φ2 H2 (x::xs) q2 (p1.trans p2) (m1.trans m2) R2 (.cons (RV.mono m2 p2 _ _ r1) r2)⟩⟩)
def wTup(w:WA):WE:=fun σ S E Q=>w σ S E fun xs S1=>xs.length<=sizeLine/\Q (.tup xs) S1
def wLst(w:WA):WE:=fun σ S E Q=>w σ S E fun xs S1=>xs.length<=sizeLine/\Q (.ref S1.length) (S1++[.lst xs])
variable{es:List Expr}{w:WA}
theorem KE.tup{K:Frag}{φ:List Addr}{H:Hp}{Q0:VC}{Q:VK}{S:q0h}{xs:List PV}{vs:List V}(k:KE K φ H Q0 Q)(q:Q0 (.tup xs) S)(R:Rel K φ S H)(r:RVs K H φ xs vs):∀p,H p=none->Q (.ref p) (upd H p (.tup vs)):=fun p hp=>
 k _ S φ _ _ q (List.prefix_refl _) (.new _ hp) (R.frame _ hp) ⟨p,vs,rfl,SqT.of q1r,RVs.mono (.new _ hp) (List.prefix_refl _) _ _ r⟩
theorem KE.lst{K:Frag}{φ:List Addr}{H:Hp}{Q0:VC}{Q:VK}{S:q0h}{xs:List PV}{vs:List V}(k:KE K φ H Q0 Q)(q:Q0 (.ref S.length) (S++[.lst xs]))(R:Rel K φ S H)(r:RVs K H φ xs vs):∀p,H p=none->Q (.ref p) (upd H p (.lst vs)):=fun p hp=>
 k _ (S++[.lst xs]) (φ++[p]) _ _ q (List.prefix_append _ _) (.new _ hp) (R.new (o:=.lst xs) hp ⟨vs,q1r,RVs.mono (.new _ hp) (List.prefix_append _ _) _ _ r⟩) (show RV K _ _ (.ref S.length) _ from⟨p,rfl,by rw[<-R.len];simp⟩)
theorem q0r {x1} (h:SimA X G es w):SimE X G (.Tuple es x1 pos) (wTup w):=
 (x5e h).imp fun σV H Q hh1=>by obtain⟨φ,σ,S,Q0,L,R,h,k⟩:=hh1;exact(⟨φ,σ,S,_,L,R,h,fun vs S1 φ1 H1 xs hh2 p1 m1 R1 r1=>by obtain⟨hz,q⟩:=hh2;exact(⟨by rw[<-r1.length];exact hz,(k.up p1 m1).tup q R1 r1⟩)⟩)
theorem q1x(h:SimA X G es w):SimE X G (.List es pos) (wLst w):=
 (x5j h).imp fun σV H Q hh1=>by obtain⟨φ,σ,S,Q0,L,R,h,k⟩:=hh1;exact(⟨φ,σ,S,_,L,R,h,fun vs S1 φ1 H1 xs hh2 p1 m1 R1 r1=>by obtain⟨hz,q⟩:=hh2;exact(⟨by rw[<-r1.length];exact hz,(k.up p1 m1).lst q R1 r1⟩)⟩)
end
def q6z(S:q0h)(n:Nat):Option (List PV):=match S[n]? with
 |some (.lst xs)=>some xs
 |_=>none
def q3o(S:q0h)(n:Nat):Option (List PV):=match S[n]? with
 |some (.lst xs)=>some xs
 |_=>none
def x2x(S:q0h)(n:Nat):Option (List (Key×PV)):=match S[n]? with
 |some (.dK xs)=>some xs
 |_=>none
section
variable{K:Frag}{H:Hp}{φ:List Addr}{S:q0h}
theorem y1l{n:Nat}{xs:List PV}(e:q6z S n=some xs):S[n]?=some (.lst xs):=by
 unfold q6z at e
 split at e
 ·cases e;assumption
 ·cases e
theorem y2w{n:Nat}{xs:List (Key×PV)}(e:x2x S n=some xs):S[n]?=some (.dK xs):=by
 unfold x2x at e
 split at e
 ·cases e;assumption
 ·cases e
theorem Rel.lst(R:Rel K φ S H){n:Nat}{a:Addr}{xs:List PV}(q:φ[n]?=some a)(e:q6z S n=some xs):∃vs,H a=some (.lst vs)/\RVs K H φ xs vs:=R.obj n a _ q (y1l e)
theorem Rel.dic(R:Rel K φ S H){n:Nat}{a:Addr}{xs:List (Key×PV)}(q:φ[n]?=some a)(e:x2x S n=some xs):∃vs,H a=some (.dK vs)/\RKs K H φ xs vs:=R.obj n a _ q (y2w e)
theorem Rel.seq(R:Rel K φ S H){n:Nat}{a:Addr}{xs:List PV}(q:φ[n]?=some a)(e:q3o S n=some xs):∃vs,SqL K H a vs/\RVs K H φ xs vs:=by
 unfold q3o at e
 split at e
 ·rename_i ys es
  cases e
  obtain⟨vs,e1,r⟩:=R.obj n a _ q es
  exact⟨vs,SqL.of e1,r⟩
 ·cases e
end
def bAdd:F2:=fun x y S Q=>match x,y with
 |.int i,.int j=>Q (.int (i+j)) S
 |.str a,.str b=>a.length+b.length<=sizeLine/\Q (.str (a++b)) S
 |.tup xs,.tup ys=>xs.length+ys.length<=sizeLine/\Q (.tup (xs++ys)) S
 |.ref m,.ref n=>match q6z S m,q6z S n with
  |some xs,some ys=>xs.length+ys.length<=sizeLine/\Q (.ref S.length) (S++[.lst (xs++ys)])
  |_,_=>False
 |_,_=>False
def bI(C:Int->Int->Prop)(g:Int->Int->PV):F2:=fun x y S Q=>match x,y with
 |.int i,.int j=>C i j/\Q (g i j) S
 |_,_=>False
def bSub:F2:=bI (fun _ _=>True) fun i j=>.int (i-j)
def q7z:F2:=bI (fun _ j=>0<j/\j<2 ^ 100) fun i j=>.int (i / j)
def bMod:F2:=bI (fun _ j=>0<j) fun i j=>.int (i % j)
def bPow:F2:=bI CPow fun i j=>.int (i ^ j.toNat)
def cLt:F2:=bI (fun _ _=>True) fun i j=>.bl (decide (i<j))
def cGt:F2:=bI (fun _ _=>True) fun i j=>.bl (decide (j<i))
def cGe:F2:=bI (fun _ _=>True) fun i j=>.bl (decide (j<=i))
def bMul:F2:=fun x y S Q=>match x,y with
 |.int i,.int j=>CMul i j/\Q (.int (i*j)) S
 |.ref m,.int k=>match q6z S m with
  |some xs=>(-(2 ^ 63)<=k/\k<2 ^ 63/\xs.length*k.toNat<=sizeLine)/\Q (.ref S.length) (S++[.lst (List.replicate k.toNat xs).flatten])
  |none=>False
 |_,_=>False
section
variable{X:Cx}
theorem z5a{f:Value->Value->Sem Value}{C D:Int->Int->Prop}{g:Int->Int->PV}{gV:Int->Int->V}(ho:OpR X f (rI D gV))(hd:∀i j,C i j->D i j)(hg:∀i j H φ,RV X.K H φ (g i j) (gV i j)):OpR X f (q4v X.K (bI C g)):=by
 rintro pins s σ H x y v u Q I rx ry ⟨φ,S,px,py,Q0,R,hx,hy,h,k⟩
 unfold bI at h
 split at h
 ·rename_i i j
  exact ho pins s σ H x y v u Q I rx ry ⟨i,j,hx,hy,hd i j h.1,k _ S φ H _ h.2 (List.prefix_refl _) (.refl _) R (hg i j H φ)⟩
 ·exact h.elim
theorem OpR.of0{f:Value->Value->Sem Value}{gV:Int->Int->V}(ho:OpR X f (rI0 gV)):OpR X f (rI (fun _ _=>True) gV):=fun pins s σ H x y v u Q I rx ry hh1=>by obtain⟨i,j,a,b,_,q⟩:=hh1;exact(ho pins s σ H x y v u Q I rx ry ⟨i,j,a,b,q⟩)
theorem q2y:OpR X (binaryOp .Sub) (q4v X.K bSub):=z5a (OpR.of0 x5s) (fun _ _ h=>h) fun _ _ _ _=>rfl
theorem q4s:OpR X (binaryOp .FloorDiv) (q4v X.K q7z):=z5a y5w (fun _ _ h=>h) fun _ _ _ _=>rfl
theorem q1l:OpR X (binaryOp .Mod) (q4v X.K bMod):=z5a x5w (fun _ _ h=>h) fun _ _ _ _=>rfl
theorem y0y:OpR X (binaryOp .Pow) (q4v X.K bPow):=z5a x5u (fun _ _ h=>h) fun _ _ _ _=>rfl
theorem z2y:OpR X (compareOp .Lt) (q4v X.K cLt):=z5a (OpR.of0 x9q) (fun _ _ h=>h) fun _ _ _ _=>rfl
theorem q9l:OpR X (compareOp .Gt) (q4v X.K cGt):=z5a (OpR.of0 x9r) (fun _ _ h=>h) fun _ _ _ _=>rfl
theorem x5r:OpR X (compareOp .GtE) (q4v X.K cGe):=z5a (OpR.of0 x9s) (fun _ _ h=>h) fun _ _ _ _=>rfl
theorem z1v:OpR X (binaryOp .Mult) (q4v X.K bMul):=by
 rintro pins s σ H x y v u Q I rx ry ⟨φ,S,px,py,Q0,R,hx,hy,h,k⟩
 unfold bMul at h
 split at h
 ·rename_i i j
  exact x5v pins s σ H x y v u Q I rx ry ⟨i,j,hx,hy,h.1,k _ S φ H _ h.2 (List.prefix_refl _) (.refl _) R rfl⟩
 ·rename_i m kk
  split at h
  ·rename_i xs e
   obtain⟨a,rfl,qa⟩:=hx
   cases hy
   obtain⟨vs,ea,r⟩:=R.lst qa e
   obtain⟨⟨h1,h2,h3⟩,h⟩:=h
   exact x5t pins s σ H _ _ v u Q I rx ry ⟨a,kk,vs,rfl,rfl,ea,h1,h2,by rw[<-r.length];exact h3,k.lst h R (r.rep _)⟩
  ·exact h.elim
 ·exact h.elim
theorem q1i:OpR X (binaryOp .Add) (q4v X.K bAdd):=by
 rintro pins s σ H x y v u Q I rx ry ⟨φ,S,px,py,Q0,R,hx,hy,h,k⟩
 unfold bAdd at h
 split at h
 ·rename_i i j
  exact x5z pins s σ H x y v u Q I rx ry ⟨i,j,hx,hy,k _ S φ H _ h (List.prefix_refl _) (.refl _) R rfl⟩
 ·rename_i a b
  exact z8l pins s σ H x y v u Q I rx ry ⟨a,b,hx,hy,h.1,k _ S φ H _ h.2 (List.prefix_refl _) (.refl _) R rfl⟩
 ·rename_i xs ys
  obtain⟨a,vs,rfl,sa,ra⟩:=hx
  obtain⟨b,ws,rfl,sb,rb⟩:=hy
  refine y5x pins s σ H _ _ v u Q I rx ry ?_
  by_cases hv:vs=[]
  ·subst hv
   have:xs=[]:=List.length_eq_zero_iff.mp (by rw[ra.length];rfl)
   subst this
   exact .inl ⟨a,b,ws,rfl,rfl,sa,sb,k _ S φ H _ h.2 (List.prefix_refl _) (.refl _) R ⟨b,ws,rfl,sb,rb⟩⟩
  ·refine .inr ⟨a,b,vs,ws,rfl,rfl,sa,sb,hv,by rw[<-ra.length,<-rb.length];exact h.1,fun hw=>?_,fun _=>k.tup h.2 R (ra.append rb)⟩
   subst hw
   have:ys=[]:=List.length_eq_zero_iff.mp (by rw[rb.length];rfl)
   subst this
   refine k _ S φ H _ h.2 (List.prefix_refl _) (.refl _) R ?_
   rw[List.append_nil]
   exact⟨a,vs,rfl,sa,ra⟩
 ·rename_i m n
  split at h
  ·rename_i xs ys e1 e2
   obtain⟨a,rfl,qa⟩:=hx
   obtain⟨b,rfl,qb⟩:=hy
   obtain⟨vs,ea,ra⟩:=R.lst qa e1
   obtain⟨ws,eb,rb⟩:=R.lst qb e2
   exact x5y pins s σ H _ _ v u Q I rx ry ⟨a,b,vs,ws,rfl,rfl,ea,eb,by rw[<-ra.length,<-rb.length];exact h.1,k.lst h.2 R (ra.append rb)⟩
  ·exact h.elim
 ·exact h.elim
def x8c:F2:=fun x y S Q=>match x,y with
 |.int i,.int j=>Q (.int (i+j)) S
 |.str a,.str b=>a.length+b.length<=sizeLine/\Q (.str (a++b)) S
 |_,_=>False
end
mutual
def eqB:PV->PV->Bool
 |.non,y=>match y with
  |.non=>true
  |_=>false
 |.bl a,y=>match y with
  |.bl b=>a==b
  |.int b=>(if a then 1 else 0)==b
  |_=>false
 |.int a,y=>match y with
  |.bl b=>a==(if b then 1 else 0)
  |.int b=>a==b
  |_=>false
 |.str a,y=>match y with
  |.str b=>a==b
  |_=>false
 |.tup xs,y=>match y with
  |.tup ys=>eqBs xs ys
  |_=>false
 |.ty _,_=>false
 |.frl _,_=>false
 |.ref _,_=>false
 |.exc _,_=>false
def eqBs:List PV->List PV->Bool
 |[],ys=>ys.isEmpty
 |x::xs,ys=>match ys with
  |[]=>false
  |y::r=>eqB x y&&eqBs xs r
end
mutual
def nrf:PV->Bool
 |.ty _=>false
 |.frl _=>false
 |.ref _=>false
 |.exc _=>false
 |.tup xs=>nrfs xs
 |_=>true
def nrfs:List PV->Bool
 |[]=>true
 |x::xs=>nrf x&&nrfs xs
end
mutual
def dep:PV->Nat
 |.tup xs=>1+deps xs
 |_=>0
def deps:List PV->Nat
 |[]=>0
 |x::xs=>max (dep x) (deps xs)
end
theorem z7j:∀{xs ys:List PV},eqBs xs ys=true->xs.length=ys.length
 |[],ys,h=>by cases ys<;>simp_all [eqBs]
 |x::xs,ys,h=>by
  cases ys with
  |nil=>simp[eqBs]at h
  |cons y r=>
   simp only[eqBs,Bool.and_eq_true]at h
   simp[z7j h.2]
theorem q5w:∀(xs ys:List PV),eqBs xs ys=((List.range (min xs.length ys.length)).all (fun j=>eqB (xs.getD j .non) (ys.getD j .non))&&xs.length==ys.length)
 |[],ys=>by cases ys<;>simp[eqBs]
 |x::xs,ys=>by
  cases ys with
  |nil=>simp[eqBs]
  |cons y r=>
   have e:min (x::xs).length (y::r).length=min xs.length r.length+1:=by simp only[List.length_cons];omega
   rw[e,List.range_succ_eq_map,List.all_cons,List.all_map]
   simp only[eqBs,q5w xs r,List.length_cons,Function.comp]
   rw[Bool.and_assoc]
   congr 2
   by_cases h:xs.length=r.length
   ·simp[h]
   ·simp[h]
mutual
theorem q7x:∀x:PV,nrf x=true->eqB x x=true
 |.non,_=>rfl
 |.bl b,_=>by simp[eqB]
 |.int i,_=>by simp[eqB]
 |.str x,_=>by simp[eqB]
 |.tup xs,h=>by simp only[eqB];exact q6r xs (by simpa[nrf]using h)
 |.ty _,h=>by simp[nrf]at h
 |.frl _,h=>by simp[nrf]at h
 |.ref _,h=>by simp[nrf]at h
 |.exc _,h=>by simp[nrf]at h
theorem q6r:∀xs:List PV,nrfs xs=true->eqBs xs xs=true
 |[],_=>rfl
 |x::xs,h=>by
  simp only[nrfs,Bool.and_eq_true]at h
  simp only[eqBs,q7x x h.1,q6r xs h.2,Bool.and_self]
end
section
variable{X:Cx}{pins:List (Addr×Obj)}{s:Shared}{σ:St}{H:Hp}{φ:List Addr}
mutual
theorem RV.inj(I:Inv X pins σ H s):∀(x y:PV)(v:V),nrf x=true->nrf y=true->RV X.K H φ x v->RV X.K H φ y v->x=y
 |.non,y,v,_,hy,r,q=>by cases y<;>simp_all [RV,nrf]
 |.bl b,y,v,_,hy,r,q=>by cases y<;>simp_all [RV,nrf]
 |.int b,y,v,_,hy,r,q=>by cases y<;>simp_all [RV,nrf]
 |.str b,y,v,_,hy,r,q=>by cases y<;>simp_all [RV,nrf]
 |.ty _,y,v,h,hy,r,q=>by simp[nrf]at h
 |.frl _,y,v,h,hy,r,q=>by simp[nrf]at h
 |.ref _,y,v,h,hy,r,q=>by simp[nrf]at h
 |.exc _,y,v,h,hy,r,q=>by simp[nrf]at h
 |.tup xs,y,v,h,hy,r,q=>by
  obtain⟨a,vs,rfl,sa,ra⟩:=r
  cases y with
  |tup ys=>
   obtain⟨b,ws,e,sb,rb⟩:=q
   cases e
   have:=I.tuple_inj sa sb
   subst this
   rw[RVs.inj I xs ys vs (by simpa[nrf]using h) (by simpa[nrf]using hy) ra rb]
  |non=>cases q
  |bl _=>cases q
  |int _=>cases q
  |str _=>cases q
  |ty _=>simp[nrf]at hy
  |frl _=>simp[nrf]at hy
  |ref _=>simp[nrf]at hy
  |exc _=>simp[nrf]at hy
theorem RVs.inj(I:Inv X pins σ H s):∀(xs ys:List PV)(vs:List V),nrfs xs=true->nrfs ys=true->RVs X.K H φ xs vs->RVs X.K H φ ys vs->xs=ys
 |[],ys,vs,_,_,r,q=>by
  rw[show vs=[]from r]at q
  exact(List.length_eq_zero_iff.mp (by rw[RVs.length q];rfl)).symm
 |x::xs,ys,vs,h,h',r,q=>by
  obtain⟨v,ws,rfl,r1,r2⟩:=r
  cases ys with
  |nil=>cases(show v::ws=[]from q)
  |cons y ys=>
   obtain⟨v',ws',e,q1,q2⟩:=q
   cases e
   simp only[nrfs,Bool.and_eq_true]at h h'
   rw[RV.inj I x y v h.1 h'.1 r1 q1,RVs.inj I xs ys ws h.2 h'.2 r2 q2]
end
theorem q5v(A:Around):A.in1.units=A.units+1:=rfl
theorem q5m{vs:List V}{its:List Value}(r:Vals vs its){j:Nat}(h:j<its.toArray.size){x:V}(e:vs[j]?=some x):RelV x its.toArray[j]:=by
 obtain⟨u,e1,r1⟩:=r.get e
 have:its.toArray[j]=u:=by
  have h':j<its.length:=by simpa using h
  rw[List.getElem?_eq_getElem h']at e1
  simpa using e1
 rw[this]
 exact r1
theorem q2e:∀{xs:List PV}{j:Nat}{x:PV},nrfs xs=true->xs[j]?=some x->nrf x=true
 |[],_,_,_,e=>by simp at e
 |x::xs,0,y,h,e=>by simp[nrfs]at h e;subst e;exact h.1
 |x::xs,j+1,y,h,e=>by simp[nrfs]at h e;exact q2e h.2 e
theorem q6d:∀{xs:List PV}{j:Nat}{x:PV},xs[j]?=some x->dep x<=deps xs
 |[],_,_,e=>by simp at e
 |x::xs,0,y,e=>by simp at e;subst e;simp only[deps];omega
 |x::xs,j+1,y,e=>by simp at e;have:=q6d e;simp only[deps];omega
theorem getD_some{xs:List PV}{j:Nat}{x:PV}(e:xs[j]?=some x):xs.getD j .non=x:=by rw[List.getD_eq_getElem?_getD,e];rfl
theorem z3y(I:Inv X pins σ H s):∀(d:Nat)(A:Around)(x y:PV)(x' y':V)(v u:Value),nrf x=true->nrf y=true->dep x<=d->A.units+d<cLine->RV X.K H φ x x'->RV X.K H φ y y'->RelV x' v->RelV y' u->SeqAt.EqAt A s v u (eqB x y):=by
 intro d
 induction d with
 |zero=>
  intro A x y x' y' v u hx hy hd hu rx ry qx qy
  cases x with
  |tup xs=>simp[dep]at hd
  |non=>
   cases rx;cases qx
   cases y with
   |non=>cases ry;cases qy;exact .same _
   |bl b=>cases ry;cases qy;exact .none_bool b
   |int b=>cases ry;obtain⟨t,rfl⟩:=qy;exact .none_int b t
   |str b=>cases ry;obtain⟨t,rfl⟩:=qy;exact .none_str b t
   |tup ys=>obtain⟨b,ws,rfl,sb,rb⟩:=ry;cases qy;obtain⟨_,_,p,_⟩:=I.tuple sb;exact .none_tuple p (by omega)
   |ty _=>simp[nrf]at hy
   |frl _=>simp[nrf]at hy
   |ref _=>simp[nrf]at hy
   |exc _=>simp[nrf]at hy
  |bl a=>
   cases rx;cases qx
   cases y with
   |non=>cases ry;cases qy;exact .bool_none a
   |bl b=>cases ry;cases qy;exact .bool_bool a b
   |int b=>cases ry;obtain⟨t,rfl⟩:=qy;exact .bool_int a b t
   |str b=>cases ry;obtain⟨t,rfl⟩:=qy;exact .bool_str a b t
   |tup ys=>obtain⟨b,ws,rfl,sb,rb⟩:=ry;cases qy;obtain⟨_,_,p,_⟩:=I.tuple sb;exact .bool_tuple a p (by omega)
   |ty _=>simp[nrf]at hy
   |frl _=>simp[nrf]at hy
   |ref _=>simp[nrf]at hy
   |exc _=>simp[nrf]at hy
  |int a=>
   cases rx;obtain⟨t,rfl⟩:=qx
   cases y with
   |non=>cases ry;cases qy;exact .int_none a t
   |bl b=>cases ry;cases qy;exact .int_bool a t b
   |int b=>cases ry;obtain⟨t',rfl⟩:=qy;exact .int_int a t b t'
   |str b=>cases ry;obtain⟨t',rfl⟩:=qy;exact .int_str a t b t'
   |tup ys=>obtain⟨b,ws,rfl,sb,rb⟩:=ry;cases qy;obtain⟨_,_,p,_⟩:=I.tuple sb;exact .int_tuple a t p (by omega)
   |ty _=>simp[nrf]at hy
   |frl _=>simp[nrf]at hy
   |ref _=>simp[nrf]at hy
   |exc _=>simp[nrf]at hy
  |str a=>
   cases rx;obtain⟨t,rfl⟩:=qx
   cases y with
   |non=>cases ry;cases qy;exact .str_none a t
   |bl b=>cases ry;cases qy;exact .str_bool a t b
   |int b=>cases ry;obtain⟨t',rfl⟩:=qy;exact .str_int a t b t'
   |str b=>cases ry;obtain⟨t',rfl⟩:=qy;exact .str_str a t b t'
   |tup ys=>obtain⟨b,ws,rfl,sb,rb⟩:=ry;cases qy;obtain⟨_,_,p,_⟩:=I.tuple sb;exact .str_tuple a t p (by omega)
   |ty _=>simp[nrf]at hy
   |frl _=>simp[nrf]at hy
   |ref _=>simp[nrf]at hy
   |exc _=>simp[nrf]at hy
  |ty _=>simp[nrf]at hx
  |frl _=>simp[nrf]at hx
  |ref _=>simp[nrf]at hx
  |exc _=>simp[nrf]at hx
 |succ d ih=>
  intro A x y x' y' v u hx hy hd hu rx ry qx qy
  cases x with
  |tup xs=>
   obtain⟨a,vs,rfl,sa,ra⟩:=id rx
   cases qx
   obtain⟨its,r1,p1,_⟩:=I.tuple sa
   cases y with
   |non=>cases ry;cases qy;exact .tuple_none p1 (by omega)
   |bl b=>cases ry;cases qy;exact .tuple_bool b p1 (by omega)
   |int b=>cases ry;obtain⟨t,rfl⟩:=qy;exact .tuple_int b t p1 (by omega)
   |str b=>cases ry;obtain⟨t,rfl⟩:=qy;exact .tuple_str b t p1 (by omega)
   |ty _=>simp[nrf]at hy
   |frl _=>simp[nrf]at hy
   |ref _=>simp[nrf]at hy
   |exc _=>simp[nrf]at hy
   |tup ys=>
    obtain⟨b,ws,rfl,sb,rb⟩:=id ry
    cases qy
    obtain⟨its2,r2,p2,_⟩:=I.tuple sb
    by_cases hab:a=b
    ·subst hab
     rw[RV.inj I _ _ _ hx hy rx ry,q7x _ hy]
     exact .same _
    ·refine .of_refs hab ?_
     have e:eqB (.tup xs) (.tup ys)=((List.range (min its.toArray.size its2.toArray.size)).all (fun j=>eqB (xs.getD j .non) (ys.getD j .non))&&its.toArray.size==its2.toArray.size):=by
      simp only[eqB]
      rw[q5w,List.size_toArray,List.size_toArray,<-r1.length,<-r2.length,ra.length,rb.length]
     rw[e]
     refine .tuples p1 p2 (by omega) fun j h1 h2=>?_
     have hj1:j<xs.length:=by rw[ra.length,r1.length];simpa using h1
     have hj2:j<ys.length:=by rw[rb.length,r2.length];simpa using h2
     have e1:xs[j]?=some xs[j]:=List.getElem?_eq_getElem hj1
     have e2:ys[j]?=some ys[j]:=List.getElem?_eq_getElem hj2
     obtain⟨v1,g1,q1⟩:=ra.get e1
     obtain⟨v2,g2,q2⟩:=rb.get e2
     rw[getD_some e1,getD_some e2]
     have hdd:=q6d e1
     simp only[dep]at hd
     exact ih A.in1 _ _ v1 v2 _ _ (q2e (by simpa[nrf]using hx) e1) (q2e (by simpa[nrf]using hy) e2) (by omega) (by rw[q5v];omega) q1 q2 (q5m r1 h1 g1) (q5m r2 h2 g2)
  |non=>exact ih A _ _ x' y' v u hx hy (Nat.zero_le _) (by omega) rx ry qx qy
  |bl a=>exact ih A _ _ x' y' v u hx hy (Nat.zero_le _) (by omega) rx ry qx qy
  |int a=>exact ih A _ _ x' y' v u hx hy (Nat.zero_le _) (by omega) rx ry qx qy
  |str a=>exact ih A _ _ x' y' v u hx hy (Nat.zero_le _) (by omega) rx ry qx qy
  |ty _=>simp[nrf]at hx
  |frl _=>simp[nrf]at hx
  |ref _=>simp[nrf]at hx
  |exc _=>simp[nrf]at hx
end
section
variable{X:Cx}{pins:List (Addr×Obj)}{s:Shared}{σ:St}{H:Hp}{φ:List Addr}
theorem y8f(I:Inv X pins σ H s)(d:Nat)(A:Around)(x y:PV)(x' y':V)(v u:Value)(hx:nrf x=true)(hy:nrf y=true)(hd:∀xs ys,x=.tup xs->y=.tup ys->dep x<=d)(hu:A.units+d<cLine)(rx:RV X.K H φ x x')(ry:RV X.K H φ y y')(qx:RelV x' v)(qy:RelV y' u):SeqAt.RcAt A s v u (eqB x y):=by
 cases x with
 |non=>
  cases rx
  cases qx
  cases y with
  |non=>cases ry;cases qy;exact .none_none
  |bl b=>cases ry;cases qy;exact .none_bool b
  |int b=>cases ry;obtain⟨t',rfl⟩:=qy;exact .none_int b t'
  |str b=>cases ry;obtain⟨t',rfl⟩:=qy;exact .none_str b t'
  |tup ys=>obtain⟨b,ws,rfl,sb,rb⟩:=ry;cases qy;obtain⟨_,_,p,_⟩:=I.tuple sb;exact .none_tuple  p (by omega)
  |ty _=>simp[nrf]at hy
  |frl _=>simp[nrf]at hy
  |ref _=>simp[nrf]at hy
  |exc _=>simp[nrf]at hy
 |bl a=>
  cases rx
  cases qx
  cases y with
  |non=>cases ry;cases qy;exact .bool_none a
  |bl b=>cases ry;cases qy;exact .bool_bool a b
  |int b=>cases ry;obtain⟨t',rfl⟩:=qy;exact .bool_int a b t'
  |str b=>cases ry;obtain⟨t',rfl⟩:=qy;exact .bool_str a b t'
  |tup ys=>obtain⟨b,ws,rfl,sb,rb⟩:=ry;cases qy;obtain⟨_,_,p,_⟩:=I.tuple sb;exact .bool_tuple a p (by omega)
  |ty _=>simp[nrf]at hy
  |frl _=>simp[nrf]at hy
  |ref _=>simp[nrf]at hy
  |exc _=>simp[nrf]at hy
 |int a=>
  cases rx
  obtain⟨t,rfl⟩:=qx
  cases y with
  |non=>cases ry;cases qy;exact .int_none a t
  |bl b=>cases ry;cases qy;exact .int_bool a t b
  |int b=>cases ry;obtain⟨t',rfl⟩:=qy;exact .int_int a t b t'
  |str b=>cases ry;obtain⟨t',rfl⟩:=qy;exact .int_str a t b t'
  |tup ys=>obtain⟨b,ws,rfl,sb,rb⟩:=ry;cases qy;obtain⟨_,_,p,_⟩:=I.tuple sb;exact .int_tuple a t p (by omega)
  |ty _=>simp[nrf]at hy
  |frl _=>simp[nrf]at hy
  |ref _=>simp[nrf]at hy
  |exc _=>simp[nrf]at hy
 |str a=>
  cases rx
  obtain⟨t,rfl⟩:=qx
  cases y with
  |non=>cases ry;cases qy;exact .str_none a t
  |bl b=>cases ry;cases qy;exact .str_bool a t b
  |int b=>cases ry;obtain⟨t',rfl⟩:=qy;exact .str_int a t b t'
  |str b=>cases ry;obtain⟨t',rfl⟩:=qy;exact .str_str a t b t'
  |tup ys=>obtain⟨b,ws,rfl,sb,rb⟩:=ry;cases qy;obtain⟨_,_,p,_⟩:=I.tuple sb;exact .str_tuple a t p (by omega)
  |ty _=>simp[nrf]at hy
  |frl _=>simp[nrf]at hy
  |ref _=>simp[nrf]at hy
  |exc _=>simp[nrf]at hy
 |ty _=>simp[nrf]at hx
 |frl _=>simp[nrf]at hx
 |ref _=>simp[nrf]at hx
 |exc _=>simp[nrf]at hx
 |tup xs=>
  obtain⟨a,vs,rfl,sa,ra⟩:=id rx
  cases qx
  obtain⟨its,r1,p1,_⟩:=I.tuple sa
  cases y with
  |non=>cases ry;cases qy;exact .tuple_none p1 (by omega)
  |bl b=>cases ry;cases qy;exact .tuple_bool b p1 (by omega)
  |int b=>cases ry;obtain⟨t,rfl⟩:=qy;exact .tuple_int b t p1 (by omega)
  |str b=>cases ry;obtain⟨t,rfl⟩:=qy;exact .tuple_str b t p1 (by omega)
  |ty _=>simp[nrf]at hy
  |frl _=>simp[nrf]at hy
  |ref _=>simp[nrf]at hy
  |exc _=>simp[nrf]at hy
  |tup ys=>
   obtain⟨b,ws,rfl,sb,rb⟩:=id ry
   cases qy
   obtain⟨its2,r2,p2,_⟩:=I.tuple sb
   have e:eqB (.tup xs) (.tup ys)=((List.range (min its.toArray.size its2.toArray.size)).all (fun j=>eqB (xs.getD j .non) (ys.getD j .non))&&its.toArray.size==its2.toArray.size):=by
    simp only[eqB]
    rw[q5w,List.size_toArray,List.size_toArray,<-r1.length,<-r2.length,ra.length,rb.length]
   rw[e]
   have hd':=hd xs ys rfl rfl
   simp only[dep]at hd'
   refine .tuples p1 p2 (by omega) fun j h1 h2=>?_
   have hj1:j<xs.length:=by rw[ra.length,r1.length];simpa using h1
   have hj2:j<ys.length:=by rw[rb.length,r2.length];simpa using h2
   have e1:xs[j]?=some xs[j]:=List.getElem?_eq_getElem hj1
   have e2:ys[j]?=some ys[j]:=List.getElem?_eq_getElem hj2
   obtain⟨v1,g1,q1⟩:=ra.get e1
   obtain⟨v2,g2,q2⟩:=rb.get e2
   rw[getD_some e1,getD_some e2]
   have hdd:=q6d e1
   exact z3y I (d-1) A.in1 _ _ v1 v2 _ _ (q2e (by simpa[nrf]using hx) e1) (q2e (by simpa[nrf]using hy) e2) (by omega) (by rw[q5v];omega) q1 q2 (q5m r1 h1 g1) (q5m r2 h2 g2)
theorem z6p(I:Inv X pins σ H s)(d:Nat)(A:Around)(x y:PV)(x' y':V)(v u:Value)(hx:nrf x=true)(hy:nrf y=true)(hd:∀xs ys,x=.tup xs->y=.tup ys->dep x<=d)(hu:A.units+d<cLine)(rx:RV X.K H φ x x')(ry:RV X.K H φ y y')(qx:RelV x' v)(qy:RelV y' u):SeqAt.RcNeAt A s v u (!eqB x y):=by
 cases x with
 |non=>
  cases rx
  cases qx
  cases y with
  |non=>cases ry;cases qy;exact .none_none
  |bl b=>cases ry;cases qy;exact .none_bool b
  |int b=>cases ry;obtain⟨t',rfl⟩:=qy;exact .none_int b t'
  |str b=>cases ry;obtain⟨t',rfl⟩:=qy;exact .none_str b t'
  |tup ys=>obtain⟨b,ws,rfl,sb,rb⟩:=ry;cases qy;obtain⟨_,_,p,_⟩:=I.tuple sb;exact .none_tuple  p (by omega)
  |ty _=>simp[nrf]at hy
  |frl _=>simp[nrf]at hy
  |ref _=>simp[nrf]at hy
  |exc _=>simp[nrf]at hy
 |bl a=>
  cases rx
  cases qx
  cases y with
  |non=>cases ry;cases qy;exact .bool_none a
  |bl b=>cases ry;cases qy;exact .bool_bool a b
  |int b=>cases ry;obtain⟨t',rfl⟩:=qy;exact .bool_int a b t'
  |str b=>cases ry;obtain⟨t',rfl⟩:=qy;exact .bool_str a b t'
  |tup ys=>obtain⟨b,ws,rfl,sb,rb⟩:=ry;cases qy;obtain⟨_,_,p,_⟩:=I.tuple sb;exact .bool_tuple a p (by omega)
  |ty _=>simp[nrf]at hy
  |frl _=>simp[nrf]at hy
  |ref _=>simp[nrf]at hy
  |exc _=>simp[nrf]at hy
 |int a=>
  cases rx
  obtain⟨t,rfl⟩:=qx
  cases y with
  |non=>cases ry;cases qy;exact .int_none a t
  |bl b=>cases ry;cases qy;exact .int_bool a t b
  |int b=>cases ry;obtain⟨t',rfl⟩:=qy;exact .int_int a t b t'
  |str b=>cases ry;obtain⟨t',rfl⟩:=qy;exact .int_str a t b t'
  |tup ys=>obtain⟨b,ws,rfl,sb,rb⟩:=ry;cases qy;obtain⟨_,_,p,_⟩:=I.tuple sb;exact .int_tuple a t p (by omega)
  |ty _=>simp[nrf]at hy
  |frl _=>simp[nrf]at hy
  |ref _=>simp[nrf]at hy
  |exc _=>simp[nrf]at hy
 |str a=>
  cases rx
  obtain⟨t,rfl⟩:=qx
  cases y with
  |non=>cases ry;cases qy;exact .str_none a t
  |bl b=>cases ry;cases qy;exact .str_bool a t b
  |int b=>cases ry;obtain⟨t',rfl⟩:=qy;exact .str_int a t b t'
  |str b=>cases ry;obtain⟨t',rfl⟩:=qy;exact .str_str a t b t'
  |tup ys=>obtain⟨b,ws,rfl,sb,rb⟩:=ry;cases qy;obtain⟨_,_,p,_⟩:=I.tuple sb;exact .str_tuple a t p (by omega)
  |ty _=>simp[nrf]at hy
  |frl _=>simp[nrf]at hy
  |ref _=>simp[nrf]at hy
  |exc _=>simp[nrf]at hy
 |ty _=>simp[nrf]at hx
 |frl _=>simp[nrf]at hx
 |ref _=>simp[nrf]at hx
 |exc _=>simp[nrf]at hx
 |tup xs=>
  obtain⟨a,vs,rfl,sa,ra⟩:=id rx
  cases qx
  obtain⟨its,r1,p1,_⟩:=I.tuple sa
  cases y with
  |non=>cases ry;cases qy;exact .tuple_none p1 (by omega)
  |bl b=>cases ry;cases qy;exact .tuple_bool b p1 (by omega)
  |int b=>cases ry;obtain⟨t,rfl⟩:=qy;exact .tuple_int b t p1 (by omega)
  |str b=>cases ry;obtain⟨t,rfl⟩:=qy;exact .tuple_str b t p1 (by omega)
  |ty _=>simp[nrf]at hy
  |frl _=>simp[nrf]at hy
  |ref _=>simp[nrf]at hy
  |exc _=>simp[nrf]at hy
  |tup ys=>
   obtain⟨b,ws,rfl,sb,rb⟩:=id ry
   cases qy
   obtain⟨its2,r2,p2,_⟩:=I.tuple sb
   have e:eqB (.tup xs) (.tup ys)=((List.range (min its.toArray.size its2.toArray.size)).all (fun j=>eqB (xs.getD j .non) (ys.getD j .non))&&its.toArray.size==its2.toArray.size):=by
    simp only[eqB]
    rw[q5w,List.size_toArray,List.size_toArray,<-r1.length,<-r2.length,ra.length,rb.length]
   rw[e]
   have hd':=hd xs ys rfl rfl
   simp only[dep]at hd'
   refine .tuples p1 p2 (by omega) fun j h1 h2=>?_
   have hj1:j<xs.length:=by rw[ra.length,r1.length];simpa using h1
   have hj2:j<ys.length:=by rw[rb.length,r2.length];simpa using h2
   have e1:xs[j]?=some xs[j]:=List.getElem?_eq_getElem hj1
   have e2:ys[j]?=some ys[j]:=List.getElem?_eq_getElem hj2
   obtain⟨v1,g1,q1⟩:=ra.get e1
   obtain⟨v2,g2,q2⟩:=rb.get e2
   rw[getD_some e1,getD_some e2]
   have hdd:=q6d e1
   exact z3y I (d-1) A.in1 _ _ v1 v2 _ _ (q2e (by simpa[nrf]using hx) e1) (q2e (by simpa[nrf]using hy) e2) (by omega) (by rw[q5v];omega) q1 q2 (q5m r1 h1 g1) (q5m r2 h2 g2)
theorem z7v{f:PV->Bool}{e:Value->Bool}:∀{its:List Value}{ys:List PV},its.length=ys.length->(∀(j:Nat) u y,its[j]?=some u->ys[j]?=some y->e u=f y)->its.any e=ys.any f
 |[],[],_,_=>rfl
 |u::its,y::ys,hl,he=>by
  rw[List.any_cons,List.any_cons,he 0 u y rfl rfl,z7v (by simpa using hl) fun j u y h1 h2=>he (j+1) u y (by simpa using h1) (by simpa using h2)]
 |[],_::_,hl,_=>by simp at hl
 |_::_,[],hl,_=>by simp at hl
end
def okEq(x:PV):Prop:=nrf x=true/\dep x<=190
def q6o(xs:List PV):Prop:=nrfs xs=true/\deps xs<=190
def cEqG(neg:Bool):F2:=fun x y S Q=>match x,y with
 |.tup xs,.tup ys=>(okEq (.tup xs)/\okEq (.tup ys))/\Q (.bl (neg ^^ eqBs xs ys)) S
 |.ref m,.ref n=>match q3o S m,q3o S n with
  |some xs,some ys=>(q6o xs/\q6o ys)/\Q (.bl (neg ^^ eqBs xs ys)) S
  |_,_=>False
 |.ref _,_=>False
 |_,.ref _=>False
 |x,y=>(nrf x=true/\nrf y=true)/\Q (.bl (neg ^^ eqB x y)) S
def cEq:F2:=cEqG false
def cNe:F2:=cEqG true
theorem y2k:∀{xs ys:List PV},xs.length≠ys.length->eqBs xs ys=false:=fun {xs ys} h=>by
 cases e:eqBs xs ys with
 |false=>rfl
 |true=>exact absurd (z7j e) h
theorem y2l{xs ys:List PV}(h:xs.length=ys.length):eqBs xs ys=(List.range xs.length).all (fun j=>eqB (xs.getD j .non) (ys.getD j .non)):=by
 rw[q5w,<-h,Nat.min_self];simp
section
variable{X:Cx}
theorem q5i(b:Bool):(false ^^ b)=b:=by cases b<;>rfl
theorem q5h(b:Bool):(true ^^ b)=!b:=by cases b<;>rfl
theorem q8u{pins:List (Addr×Obj)}{s:Shared}{σ:St}{H:Hp}{φ:List Addr}{S:q0h}{Q0:VC}{Q:VK}{b b':Bool}(I:Inv X pins σ H s)(k:KE X.K φ H Q0 Q)(R:Rel X.K φ S H)(q:Q0 (.bl b) S)(e:b=b'):EP X pins σ Q (.bool b') s:=by
 subst e
 exact⟨.bl b,H,I,rfl,k _ S φ H _ q (List.prefix_refl _) (.refl _) R rfl⟩
theorem y2h{x y:PV}(h:∀xs ys,x=.tup xs->y=.tup ys->False)(d:Nat):∀xs ys,x=.tup xs->y=.tup ys->dep x<=d:=fun xs ys a b=>(h xs ys a b).elim
theorem q1b(hu:X.A.units+200<cLine):OpR X (compareOp .Eq) (q4v X.K cEq):=by
 rintro pins s σ H x y v u Q I rx ry ⟨φ,S,px,py,Q0,R,hx,hy,h,k⟩
 unfold cEq cEqG at h
 split at h
 ·rename_i xs ys
  obtain⟨⟨o1,o2⟩,h⟩:=h
  rw[q5i]at h
  exact y8f I 190 X.A _ _ x y v u o1.1 o2.1 (fun _ _ _ _=>o1.2) (by omega) hx hy rx ry X.prog X.w X.xe _ (q8u I k R h (by simp only[eqB]))
 ·rename_i m n
  split at h
  ·rename_i xs ys e1 e2
   obtain⟨⟨o1,o2⟩,h⟩:=h
   rw[q5i]at h
   obtain⟨a,rfl,qa⟩:=hx
   obtain⟨b,rfl,qb⟩:=hy
   obtain⟨vs,sa,ra⟩:=R.seq qa e1
   obtain⟨ws,sb,rb⟩:=R.seq qb e2
   cases rx
   cases ry
   obtain⟨its,r1,p1,_⟩:=I.list sa
   obtain⟨its2,r2,p2,_⟩:=I.list sb
   by_cases hl:xs.length=ys.length
   ·rw[y2l hl]at h
    have hz:its.toArray.size=its2.toArray.size:=by rw[List.size_toArray,List.size_toArray,<-r1.length,<-r2.length,<-ra.length,<-rb.length,hl]
    refine SeqAt.eq_listAt (e:=fun j=>eqB (xs.getD j .non) (ys.getD j .non)) p1.isList p2.isList hz (by omega) (fun j h1 h2=>?_) (q8u I k R h (by rw[List.size_toArray,<-r1.length,<-ra.length]))
    have hj1:j<xs.length:=by rw[ra.length,r1.length];simpa using h1
    have hj2:j<ys.length:=by omega
    have e1:xs[j]?=some xs[j]:=List.getElem?_eq_getElem hj1
    have e2:ys[j]?=some ys[j]:=List.getElem?_eq_getElem hj2
    obtain⟨v1,g1,q1⟩:=ra.get e1
    obtain⟨v2,g2,q2⟩:=rb.get e2
    rw[getD_some e1,getD_some e2]
    have hdd:=q6d e1
    have:=o1.2
    exact z3y I 190 X.A.in1 _ _ v1 v2 _ _ (q2e o1.1 e1) (q2e o2.1 e2) (by omega) (by rw[q5v];omega) q1 q2 (q5m r1 h1 g1) (q5m r2 h2 g2)
   ·rw[y2k hl]at h
    have hz:(its.toArray.size != its2.toArray.size)=true:=by rw[List.size_toArray,List.size_toArray,<-r1.length,<-r2.length,<-ra.length,<-rb.length];simpa using hl
    exact SeqAt.eq_list_lengthsAt p1.isList p2.isList hz (by omega) (q8u I k R h rfl)
  ·exact h.elim
 ·exact h.elim
 ·exact h.elim
 ·rename_i h1 h2 h3 h4
  obtain⟨⟨o1,o2⟩,h⟩:=h
  rw[q5i]at h
  exact y8f I 0 X.A _ _ x y v u o1 o2 (y2h (by assumption) _) (by omega) hx hy rx ry X.prog X.w X.xe _ (q8u I k R h rfl)
theorem z2x(hu:X.A.units+200<cLine):OpR X (compareOp .NotEq) (q4v X.K cNe):=by
 rintro pins s σ H x y v u Q I rx ry ⟨φ,S,px,py,Q0,R,hx,hy,h,k⟩
 unfold cNe cEqG at h
 split at h
 ·rename_i xs ys
  obtain⟨⟨o1,o2⟩,h⟩:=h
  rw[q5h]at h
  exact z6p I 190 X.A _ _ x y v u o1.1 o2.1 (fun _ _ _ _=>o1.2) (by omega) hx hy rx ry X.prog X.w X.xe _ (q8u I k R h (by simp only[eqB]))
 ·rename_i m n
  split at h
  ·rename_i xs ys e1 e2
   obtain⟨⟨o1,o2⟩,h⟩:=h
   rw[q5h]at h
   obtain⟨a,rfl,qa⟩:=hx
   obtain⟨b,rfl,qb⟩:=hy
   obtain⟨vs,sa,ra⟩:=R.seq qa e1
   obtain⟨ws,sb,rb⟩:=R.seq qb e2
   cases rx
   cases ry
   obtain⟨its,r1,p1,_⟩:=I.list sa
   obtain⟨its2,r2,p2,_⟩:=I.list sb
   by_cases hl:xs.length=ys.length
   ·rw[y2l hl]at h
    have hz:its.toArray.size=its2.toArray.size:=by rw[List.size_toArray,List.size_toArray,<-r1.length,<-r2.length,<-ra.length,<-rb.length,hl]
    refine SeqAt.RcNeAt.lists (e:=fun j=>eqB (xs.getD j .non) (ys.getD j .non)) p1.isList p2.isList hz (by omega) (fun j h1 h2=>?_) X.prog X.w X.xe _ (q8u I k R h (by rw[List.size_toArray,<-r1.length,<-ra.length]))
    have hj1:j<xs.length:=by rw[ra.length,r1.length];simpa using h1
    have hj2:j<ys.length:=by omega
    have e1:xs[j]?=some xs[j]:=List.getElem?_eq_getElem hj1
    have e2:ys[j]?=some ys[j]:=List.getElem?_eq_getElem hj2
    obtain⟨v1,g1,q1⟩:=ra.get e1
    obtain⟨v2,g2,q2⟩:=rb.get e2
    rw[getD_some e1,getD_some e2]
    have hdd:=q6d e1
    have:=o1.2
    exact z3y I 190 X.A.in1 _ _ v1 v2 _ _ (q2e o1.1 e1) (q2e o2.1 e2) (by omega) (by rw[q5v];omega) q1 q2 (q5m r1 h1 g1) (q5m r2 h2 g2)
   ·rw[y2k hl]at h
    have hz:(its.toArray.size != its2.toArray.size)=true:=by rw[List.size_toArray,List.size_toArray,<-r1.length,<-r2.length,<-ra.length,<-rb.length];simpa using hl
    exact SeqAt.RcNeAt.lists_lengths p1.isList p2.isList hz (by omega) X.prog X.w X.xe _ (q8u I k R h rfl)
  ·exact h.elim
 ·exact h.elim
 ·exact h.elim
 ·rename_i h1 h2 h3 h4
  obtain⟨⟨o1,o2⟩,h⟩:=h
  rw[q5h]at h
  exact z6p I 0 X.A _ _ x y v u o1 o2 (y2h (by assumption) _) (by omega) hx hy rx ry X.prog X.w X.xe _ (q8u I k R h rfl)
def inS(i j:Str):Bool:=!(Builtin.Str.occurrences j i 0 j.length 1).isEmpty
def cInG(neg:Bool):F2:=fun x y S Q=>match x,y with
 |.str i,.str j=>Q (.bl (neg ^^ inS i j)) S
 |x,.tup ys=>(okEq x/\q6o ys)/\Q (.bl (neg ^^ ys.any fun y=>eqB y x)) S
 |x,.ref n=>match q3o S n with
  |some ys=>(okEq x/\q6o ys)/\Q (.bl (neg ^^ ys.any fun y=>eqB y x)) S
  |none=>False
 |_,_=>False
def cIn:F2:=cInG false
def z1f:F2:=cInG true
open Classical in
theorem q9b{pins:List (Addr×Obj)}{s:Shared}{σ:St}{H:Hp}{φ:List Addr}(hu:X.A.units+200<cLine)(I:Inv X pins σ H s){x:PV}{x':V}{v:Value}{ys:List PV}{vs:List V}{its:List Value}(ox:okEq x)(oy:q6o ys)(rx:RV X.K H φ x x')(qx:RelV x' v)(ry:RVs X.K H φ ys vs)(r:Vals vs its) :
  ∃e:Value->Bool,(∀u,u∈its.toArray->SeqAt.EqAt X.A.in1 s u v (e u))/\its.toArray.any e=ys.any fun y=>eqB y x:=by
 have key:∀(j:Nat) u y,its[j]?=some u->ys[j]?=some y->∃y',RV X.K H φ y y'/\RelV y' u:=fun j u y h1 h2=>by
  obtain⟨y',g,q⟩:=ry.get h2
  obtain⟨u',g',q'⟩:=r.get g
  rw[h1]at g'
  cases g'
  exact⟨y',q,q'⟩
 refine⟨fun u=>decide (∃(j:Nat)(y:PV),its[j]?=some u/\ys[j]?=some y/\eqB y x=true),?_,?_⟩
 ·intro u hu'
  have hm:u∈its:=by simpa using hu'
  obtain⟨j,hj,e⟩:=List.mem_iff_getElem.mp hm
  have hjy:j<ys.length:=by rw[ry.length,r.length];exact hj
  have e1:its[j]?=some u:=by rw[List.getElem?_eq_getElem hj,e]
  have e2:ys[j]?=some ys[j]:=List.getElem?_eq_getElem hjy
  obtain⟨y',q,q'⟩:=key j u _ e1 e2
  have hdd:=q6d e2
  have o2:=oy.2
  have base:=z3y I 190 X.A.in1 _ x y' x' u v (q2e oy.1 e2) ox.1 (by omega) (by rw[q5v];omega) q rx q' qx
  have:decide (∃(j:Nat)(y:PV),its[j]?=some u/\ys[j]?=some y/\eqB y x=true)=eqB ys[j] x:=by
   cases hb:eqB ys[j] x with
   |true=>exact decide_eq_true ⟨j,_,e1,e2,hb⟩
   |false=>
    refine decide_eq_false ?_
    rintro⟨i,y,h1,h2,h3⟩
    obtain⟨y2,g,g'⟩:=key i u y h1 h2
    have:=g'.inj q'
    subst this
    have:=RV.inj I _ _ _ (q2e oy.1 h2) (q2e oy.1 e2) g q
    rw[this,hb]at h3
    cases h3
  dsimp only
  rw[this]
  exact base
 ·rw[List.any_toArray]
  refine z7v (by rw[<-r.length,ry.length]) fun j u y h1 h2=>?_
  obtain⟨y',q,q'⟩:=key j u y h1 h2
  cases hb:eqB y x with
  |true=>exact decide_eq_true ⟨j,_,h1,h2,hb⟩
  |false=>
   refine decide_eq_false ?_
   rintro⟨i,z,g1,g2,g3⟩
   obtain⟨y2,g,g'⟩:=key i u z g1 g2
   have:=g'.inj q'
   subst this
   have:=RV.inj I _ _ _ (q2e oy.1 g2) (q2e oy.1 h2) g q
   rw[this,hb]at g3
   cases g3
theorem y0z(hu:X.A.units+200<cLine):OpR X (compareOp .In) (q4v X.K cIn):=by
 rintro pins s σ H x y v u Q I rx ry ⟨φ,S,px,py,Q0,R,hx,hy,h,k⟩
 unfold cIn cInG at h
 split at h
 ·rename_i i j
  rw[q5i]at h
  exact y1b pins s σ H x y v u Q I rx ry ⟨i,j,hx,hy,k _ S φ H _ h (List.prefix_refl _) (.refl _) R rfl⟩
 ·rename_i ys _
  obtain⟨⟨o1,o2⟩,h⟩:=h
  rw[q5i]at h
  obtain⟨a,vs,rfl,sa,ra⟩:=hy
  cases ry
  obtain⟨its,r1,p1,_⟩:=I.tuple sa
  obtain⟨e,h1,h2⟩:=q9b hu I o1 o2 hx rx ra r1
  exact SeqAt.in_tupleAt e p1 h1 (q8u I k R h (by rw[h2]))
 ·rename_i n _
  split at h
  ·rename_i ys es
   obtain⟨⟨o1,o2⟩,h⟩:=h
   rw[q5i]at h
   obtain⟨a,rfl,qa⟩:=hy
   cases ry
   obtain⟨vs,sa,ra⟩:=R.seq qa es
   obtain⟨its,r1,p1,_⟩:=I.list sa
   obtain⟨e,h1,h2⟩:=q9b hu I o1 o2 hx rx ra r1
   exact SeqAt.in_listAt e p1.isList h1 (q8u I k R h (by rw[h2]))
  ·exact h.elim
 ·exact h.elim
theorem z2w(hu:X.A.units+200<cLine):OpR X (compareOp .NotIn) (q4v X.K z1f):=by
 rintro pins s σ H x y v u Q I rx ry ⟨φ,S,px,py,Q0,R,hx,hy,h,k⟩
 unfold z1f cInG at h
 split at h
 ·rename_i i j
  rw[q5h]at h
  exact z3a pins s σ H x y v u Q I rx ry ⟨i,j,hx,hy,k _ S φ H _ h (List.prefix_refl _) (.refl _) R rfl⟩
 ·rename_i ys _
  obtain⟨⟨o1,o2⟩,h⟩:=h
  rw[q5h]at h
  obtain⟨a,vs,rfl,sa,ra⟩:=hy
  cases ry
  obtain⟨its,r1,p1,_⟩:=I.tuple sa
  obtain⟨e,h1,h2⟩:=q9b hu I o1 o2 hx rx ra r1
  exact SeqAt.notIn_tupleAt e p1 h1 (q8u I k R h (by rw[h2]))
 ·rename_i n _
  split at h
  ·rename_i ys es
   obtain⟨⟨o1,o2⟩,h⟩:=h
   rw[q5h]at h
   obtain⟨a,rfl,qa⟩:=hy
   cases ry
   obtain⟨vs,sa,ra⟩:=R.seq qa es
   obtain⟨its,r1,p1,_⟩:=I.list sa
   obtain⟨e,h1,h2⟩:=q9b hu I o1 o2 hx rx ra r1
   exact SeqAt.notIn_listAt e p1.isList h1 (q8u I k R h (by rw[h2]))
  ·exact h.elim
 ·exact h.elim
def y6p:PV->Bool
 |.non=>true
 |_=>false
def cIs:F2:=fun x y S Q=>match y with
 |.non=>Q (.bl (y6p x)) S
 |_=>False
def z1g:F2:=fun x y S Q=>match x,y with
 |x,.non=>Q (.bl (!y6p x)) S
 |.bl a,.bl b=>Q (.bl (!decide (a=b))) S
 |_,_=>False
theorem z3u{K:Frag}{H:Hp}{φ:List Addr}{x:PV}{x':V}(r:RV K H φ x x'):decide (x'=.non)=y6p x:=by
 cases x with
 |non=>cases r;rfl
 |bl b=>cases r;exact decide_eq_false (fun z=>nomatch z)
 |int b=>cases r;exact decide_eq_false (fun z=>nomatch z)
 |str b=>cases r;exact decide_eq_false (fun z=>nomatch z)
 |ty b=>cases r;exact decide_eq_false (fun z=>nomatch z)
 |tup b=>obtain⟨a,vs,rfl,_⟩:=r;exact decide_eq_false (fun z=>nomatch z)
 |frl b=>obtain⟨a,vs,rfl,_⟩:=r;exact decide_eq_false (fun z=>nomatch z)
 |ref b=>obtain⟨a,rfl,_⟩:=r;exact decide_eq_false (fun z=>nomatch z)
 |exc b=>obtain⟨a,rfl,_⟩:=r;exact decide_eq_false (fun z=>nomatch z)
theorem z2z:OpR X (compareOp .Is) (q4v X.K cIs):=by
 rintro pins s σ H x y v u Q I rx ry ⟨φ,S,px,py,Q0,R,hx,hy,h,k⟩
 unfold cIs at h
 split at h
 ·exact x5x pins s σ H x y v u Q I rx ry ⟨hy,k _ S φ H _ h (List.prefix_refl _) (.refl _) R (by rw[z3u hx];rfl)⟩
 ·exact h.elim
theorem q9k:OpR X (compareOp .IsNot) (q4v X.K z1g):=by
 rintro pins s σ H x y v u Q I rx ry ⟨φ,S,px,py,Q0,R,hx,hy,h,k⟩
 unfold z1g at h
 split at h
 ·exact x1c pins s σ H x y v u Q I rx ry ⟨hy,k _ S φ H _ h (List.prefix_refl _) (.refl _) R (by rw[z3u hx];rfl)⟩
 ·exact y1a pins s σ H x y v u Q I rx ry ⟨_,_,hx,hy,k _ S φ H _ h (List.prefix_refl _) (.refl _) R rfl⟩
 ·exact h.elim
end
theorem z6b{K:Frag}{H:Hp}{φ:List Addr}{xs:List PV}{vs:List V}{i:Int}{v:PV}(r:RVs K H φ xs vs)(e:atI xs i=some v):∃x,atI vs i=some x/\RV K H φ v x:=by
 unfold atI at e ⊢
 rw[<-r.length]
 cases h:ixN xs.length i with
 |none=>rw[h]at e;cases e
 |some j=>
  rw[h]at e
  obtain⟨x,h1,h2⟩:=r.get (i:=j) e
  exact⟨x,h1,h2⟩
def valP(kvs:List (Key×PV))(k:Key):Option PV:=(kvs.find? fun kv=>decide (kv.1=k)).map (·.2)
def putP(kvs:List (Key×PV))(k:Key)(v:PV):List (Key×PV):=
 if kvs.any (fun kv=>decide (kv.1=k))then kvs.map fun kv=>if kv.1=k then(kv.1,v)else kv else kvs++[(k,v)]
def q8r:PV->Option Key
 |.int i=>some (.inl i)
 |.str x=>some (.inr x)
 |_=>none
theorem q7i{K:Frag}{H:Hp}{φ:List Addr}{y:PV}{y':V}{k:Key}(r:RV K H φ y y')(e:q8r y=some k):y'=kV k:=by
 cases y with
 |int i=>cases e;exact r
 |str i=>cases e;exact r
 |_=>cases e
theorem RKs.val{K:Frag}{H:Hp}{φ:List Addr}{xs:List (Key×PV)}{ys:List (Key×V)}(h:RKs K H φ xs ys)(k:Key):(∀v,valP xs k=some v->∃x,valV ys k=some x/\RV K H φ v x)/\(valP xs k=none->valV ys k=none):=by
 unfold RKs at h
 induction h with
 |nil=>exact⟨fun v e=>by simp[valP]at e,fun _=>rfl⟩
 |@cons p q ps qs hd t ih=>
  by_cases e:p.1=k
  ·have e1:valP (p::ps) k=some p.2:=by simp[valP,List.find?_cons,e]
   rw[e1,q8v (hd.1.symm.trans e)]
   exact⟨fun v z=>by cases z;exact⟨_,rfl,hd.2⟩,fun z=>by cases z⟩
  ·have e1:valP (p::ps) k=valP ps k:=by simp[valP,List.find?_cons,e]
   rw[e1,q8w (fun z=>e (hd.1.trans z))]
   exact ih
theorem RKs.any{K:Frag}{H:Hp}{φ:List Addr}{xs:List (Key×PV)}{ys:List (Key×V)}(h:RKs K H φ xs ys)(k:Key):(xs.any fun kv=>decide (kv.1=k))=ys.any fun kv=>decide (kv.1=k):=by
 unfold RKs at h
 induction h with
 |nil=>rfl
 |@cons p q ps qs hd t ih=>rw[List.any_cons,List.any_cons,ih,hd.1]
theorem RKs.repl{K:Frag}{H:Hp}{φ:List Addr}{xs:List (Key×PV)}{ys:List (Key×V)}(h:RKs K H φ xs ys)(k:Key){v:PV}{x:V}(r:RV K H φ v x):RKs K H φ (xs.map fun kv=>if kv.1=k then(kv.1,v)else kv) (ys.map fun kv=>if kv.1=k then(kv.1,x)else kv):=by
 unfold RKs at h ⊢
 induction h with
 |nil=>exact .nil
 |@cons p q ps qs hd t ih=>
  rw[List.map_cons,List.map_cons]
  refine .cons ?_ ih
  by_cases e:p.1=k
  ·rw[if_pos e,if_pos (hd.1.symm.trans e)]
   exact⟨hd.1,r⟩
  ·rw[if_neg e,if_neg (fun z=>e (hd.1.trans z))]
   exact hd
theorem RKs.snoc{K:Frag}{H:Hp}{φ:List Addr}{xs:List (Key×PV)}{ys:List (Key×V)}(h:RKs K H φ xs ys)(k:Key){v:PV}{x:V}(r:RV K H φ v x):RKs K H φ (xs++[(k,v)]) (ys++[(k,x)]):=by
 unfold RKs at h ⊢
 induction h with
 |nil=>exact .cons ⟨rfl,r⟩ .nil
 |cons hd t ih=>exact .cons hd ih
theorem RKs.put{K:Frag}{H:Hp}{φ:List Addr}{xs:List (Key×PV)}{ys:List (Key×V)}(h:RKs K H φ xs ys)(k:Key){v:PV}{x:V}(r:RV K H φ v x):RKs K H φ (putP xs k v) (putK ys k x):=by
 unfold putP putK
 rw[h.any]
 split
 ·exact h.repl k r
 ·exact h.snoc k r
theorem RKs.length{K:Frag}{H:Hp}{φ:List Addr}{xs:List (Key×PV)}{ys:List (Key×V)}(h:RKs K H φ xs ys):xs.length=ys.length:=Paired.length h
def bIx:F2:=fun x y S Q=>match x,y with
 |.tup xs,.int i=>match atI xs i with
  |some v=>Q v S
  |none=>False
 |.str z,.int i=>z.length<=sizeLine/\match atI z.cps.toList i with
  |some c=>Q (.str ⟨#[c]⟩) S
  |none=>False
 |.frl xs,.int i=>match atI xs i with
  |some v=>Q v S
  |none=>False
 |.ref n,y=>match S[n]? with
  |some (.lst xs)=>match y with
   |.int i=>match atI xs i with
    |some v=>Q v S
    |none=>False
   |_=>False
  |some (.dK kvs)=>match q8r y with
   |some k=>match valP kvs k with
    |some v=>Q v S
    |none=>False
   |none=>False
  |_=>False
 |_,_=>False
theorem x2f{X:Cx}(hu:X.A.units+200<cLine):IxR X (fun x y H Q=>∃a v,x=.ref a/\DGet H a y (some v)/\Q v H):=by
 intro value slice pins s σ H x y v u Q I rx ry h hs
 obtain⟨a,w,rfl,g,q⟩:=h
 cases rx
 exact PyProof.Rows.tail_any (z5w I g) PySem.F.slot_dict_getitem.lookup (y3a (by omega) I g ry fun w' s3 I3 rw'=>⟨w,H,I3,rw',q⟩) hs
section
variable{X:Cx}{G:GX}{pos:Pos}
theorem x2e(hu:X.A.units+200<cLine):IxR X (q4v X.K bIx):=by
 rintro value slice pins s σ H x y v u Q I rx ry ⟨φ,S,px,py,Q0,R,hx,hy,h,k⟩ hs
 unfold bIx at h
 split at h
 ·rename_i xs i
  split at h
  ·rename_i w e
   obtain⟨a,vs,rfl,sa,ra⟩:=hx
   cases hy
   obtain⟨w',e',r'⟩:=z6b ra e
   exact x7n value slice pins s σ H _ _ v u Q I rx ry ⟨a,vs,i,w',rfl,rfl,sa,e',k _ S φ H _ h (List.prefix_refl _) (.refl _) R r'⟩ hs
  ·exact h.elim
 ·rename_i z i
  obtain⟨hz,h⟩:=h
  split at h
  ·rename_i c e
   cases hx
   cases hy
   exact x7o value slice pins s σ H _ _ v u Q I rx ry ⟨z,i,c,rfl,rfl,hz,e,k _ S φ H _ h (List.prefix_refl _) (.refl _) R rfl⟩ hs
  ·exact h.elim
 ·rename_i xs i
  split at h
  ·rename_i w e
   obtain⟨a,vs,rfl,sa,ra⟩:=hx
   cases hy
   obtain⟨w',e',r'⟩:=z6b ra e
   exact y2b value slice pins s σ H _ _ v u Q I rx ry ⟨a,vs,i,w',rfl,rfl,sa.sq,e',k _ S φ H _ h (List.prefix_refl _) (.refl _) R r'⟩ hs
  ·exact h.elim
 ·rename_i n
  obtain⟨a,rfl,qa⟩:=hx
  split at h
  ·rename_i xs es
   split at h
   ·rename_i i
    split at h
    ·rename_i w e
     cases hy
     obtain⟨vs,sa,ra⟩:=R.obj n a _ qa es
     obtain⟨w',e',r'⟩:=z6b ra e
     exact y2b value slice pins s σ H _ _ v u Q I rx ry ⟨a,vs,i,w',rfl,rfl,SqL.of sa,e',k _ S φ H _ h (List.prefix_refl _) (.refl _) R r'⟩ hs
    ·exact h.elim
   ·exact h.elim
  ·rename_i kvs es
   split at h
   ·rename_i kk ek
    split at h
    ·rename_i w e
     have hk:=q7i hy ek
     subst hk
     obtain⟨ws,sa,ra⟩:=R.obj n a _ qa es
     obtain⟨w',e',r'⟩:=(ra.val kk).1 w e
     refine x2f hu value slice pins s σ H _ _ v u Q I rx ry ⟨a,w',rfl,?_,k _ S φ H _ h (List.prefix_refl _) (.refl _) R r'⟩ hs
     rw[<-e']
     exact DGet.k sa
    ·exact h.elim
   ·exact h.elim
  ·exact h.elim
 ·exact h.elim
variable{a b:Expr}{wa wb:WE}
theorem q0j(hu:X.A.units+200<cLine)(ha:SimE X G a wa)(hb:SimE X G b wb)(hs:z6f b:=by exact fun _ _=>rfl):SimE X G (.Subscript a b pos) (wBin bIx wa wb):=(x5k (x2e hu) ha hb hs).imp fun _ _ _ h=>q7s h
def cutP{α:Type}(xs:List α)(lo hi:Option Int):List α:=(xs.drop (HT.sIx xs.length 0 lo)).take (HT.sIx xs.length xs.length hi-HT.sIx xs.length 0 lo)
theorem z5y{K:Frag}{H:Hp}{φ:List Addr}{xs:List PV}{vs:List V}(lo hi:Option Int)(r:RVs K H φ xs vs):RVs K H φ (cutP xs lo hi) (cutV vs lo hi):=by
 unfold cutP cutV
 rw[<-r.length]
 exact(r.drop _).take _
abbrev F3:=PV->Option Int->Option Int->q0h->VC->Prop
def bSl:F3:=fun x lo hi S Q=>match x with
 |.str z=>z.length<=sizeLine/\Q (.str (Txt.slice z lo hi)) S
 |.tup xs=>¬(HT.sIx xs.length 0 lo=0/\HT.sIx xs.length xs.length hi=xs.length)/\Q (.tup (cutP xs lo hi)) S
 |.frl xs=>Q (.ref S.length) (S++[.lst (cutP xs lo hi)])
 |.ref n=>match q3o S n with
  |some xs=>Q (.ref S.length) (S++[.lst (cutP xs lo hi)])
  |none=>False
 |_=>False
def x6m(K:Frag)(f:F3):V->Option Int->Option Int->Hp->VK->Prop:=fun x' lo hi H Q=>∃φ S x Q0,Rel K φ S H/\RV K H φ x x'/\f x lo hi S Q0/\KE K φ H Q0 Q
theorem sls:SlR X (x6m X.K bSl):=by
 rintro pins s σ H x v vl vu lo hi sl Q I rx hs pl pu ⟨φ,S,px,Q0,R,hx,h,k⟩
 unfold bSl at h
 split at h
 ·rename_i z
  cases hx
  exact x4a pins s σ H _ v vl vu lo hi sl Q I rx hs pl pu ⟨z,rfl,h.1,k _ S φ H _ h.2 (List.prefix_refl _) (.refl _) R rfl⟩
 ·rename_i xs
  obtain⟨a,vs,rfl,sa,ra⟩:=hx
  exact x3z pins s σ H _ v vl vu lo hi sl Q I rx hs pl pu ⟨a,vs,rfl,sa,by rw[<-ra.length];exact h.1,k.tup h.2 R (z5y lo hi ra)⟩
 ·rename_i xs
  obtain⟨a,vs,rfl,sa,ra⟩:=hx
  exact z9x pins s σ H _ v vl vu lo hi sl Q I rx hs pl pu ⟨a,vs,rfl,sa.sq,k.lst h R (z5y lo hi ra)⟩
 ·rename_i n
  split at h
  ·rename_i xs es
   obtain⟨a,rfl,qa⟩:=hx
   obtain⟨vs,sa,ra⟩:=R.seq qa es
   exact z9x pins s σ H _ v vl vu lo hi sl Q I rx hs pl pu ⟨a,vs,rfl,sa,k.lst h R (z5y lo hi ra)⟩
  ·exact h.elim
 ·exact h.elim
abbrev WO:=Loc->q0h->EK->(Option Int->q0h->Prop)->Prop
def KO(K:Frag)(φ:List Addr)(H:Hp)(Q0:Option Int->q0h->Prop)(Q:Option Int->Hp->Prop):Prop:=∀v S' φ' H',Q0 v S'->φ <+: φ'->Mono H H'->Rel K φ' S' H'->Q v H'
def x9x(K:Frag)(G:GX)(w:WO):TO:=fun σV H Q=>∃φ σ S Q0,LRel K G H φ σ σV/\Rel K φ S H/\w σ S G.ek Q0/\KO K φ H Q0 Q
def SimO(X:Cx)(G:GX)(e:Option Expr)(w:WO):Prop:=PO X e (x9x X.K G w)
theorem PO.imp{e:Option Expr}{t t':TO}(h:PO X e t)(i:∀σ H Q,t' σ H Q->t σ H Q):PO X e t':=fun pins s σ H Q I q=>h pins s σ H Q I (i σ H Q q)
def q5k:WO:=fun _ S _ Q=>Q none S
def z0j(w:WE):WO:=fun σ S E Q=>w σ S E fun x S1=>match x with
 |.int i=>Q (some i) S1
 |_=>False
theorem q5t:SimO X G none q5k:=PO.imp x0s fun σV H Q hh1=>by obtain⟨φ,σ,S,Q0,L,R,h,k⟩:=hh1;exact(k none S φ H h (List.prefix_refl _) (.refl _) R)
theorem q5s{e:Expr}{w:WE}(h:SimE X G e w):SimO X G (some e) (z0j w):=
 PO.imp (x0r h) fun σV H Q hh1=>by obtain⟨φ,σ,S,Q0,L,R,h,k⟩:=hh1;exact(⟨φ,σ,S,_,L,R,h,fun v S1 φ1 H1 x q p1 m1 R1 r1=>by
  cases v with
  |int i=>exact ⟨i,r1,k _ S1 φ1 H1 q p1 m1 R1⟩
  |_=>exact q.elim⟩)
def wSl(w:WE)(wl wh:WO):WE:=fun σ S E Q=>w σ S E fun x S1=>wl σ S1 E fun lo S2=>wh σ S2 E fun hi S3=>bSl x lo hi S3 Q
theorem q5r{e:Expr}{w:WE}{lo hi:Option Expr}{wl wh:WO}{p2:Pos}(he:SimE X G e w)(hl:SimO X G lo wl)(hh:SimO X G hi wh):SimE X G (.Subscript e (.Slice lo hi none p2) pos) (wSl w wl wh):=
 (y5o sls he hl hh).imp fun σV H Q hh1=>by obtain⟨φ,σ,S,Q0,L,R,h,k⟩:=hh1;exact(⟨φ,σ,S,_,L,R,h,fun v S1 φ1 H1 x q p1 m1 R1 r1=>
  ⟨φ1,σ,S1,_,L.mono m1 p1,R1,q,fun l S2 φ2 H2 q2 p2 m2 R2=>
   ⟨φ2,σ,S2,_,(L.mono m1 p1).mono m2 p2,R2,q2,fun u S3 φ3 H3 q3 p3 m3 R3=>
    ⟨φ3,S3,v,Q0,R3,RV.mono m3 p3 _ _ (RV.mono m2 p2 _ _ r1),q3,k.up ((p1.trans p2).trans p3) ((m1.trans m2).trans m3)⟩⟩⟩⟩)
abbrev FL:=List PV->q0h->VC->Prop
def z2a(K:Frag)(f:FL):List V->Hp->VK->Prop:=fun xs' H Q=>∃φ S xs Q0,Rel K φ S H/\RVs K H φ xs xs'/\f xs S Q0/\KE K φ H Q0 Q
def wCB(f:FL)(wa:WA):WE:=fun σ S E Q=>wa σ S E fun xs S1=>f xs S1 Q
theorem y1p{f:FL}{wa:WA}{σV:St}{H:Hp}{Q:VK}(h:q6b X.K G (wCB f wa) σV H Q):tCB (z2a X.K f) (x6o X.K G wa) σV H Q:=by
 obtain⟨φ,σ,S,Q0,L,R,h,k⟩:=h
 exact⟨φ,σ,S,_,L,R,h,fun v S1 φ1 H1 x q p1 m1 R1 r1=>⟨φ1,S1,v,Q0,R1,r1,q,k.up p1 m1⟩⟩
theorem q0x{f:FL}{x:Str}{id:String}{p:Pos}{e:Expr}{es:List Expr}{wa:WA}(hc:q7b X (.builtin id) (z2a X.K f))(hm:X.mg x=none)(hv:bootBuiltins x=some (.builtin id))(ha:SimA X G (e::es) wa)(hg:Gl X x:=by rfl)(hn:x≠ "__name__" :=by decide)(hdb:(x==("__debug__" : Str))=false:=by decide)
  (he:starEach (e::es) X.env=(false,eval e X.env)::starEach es X.env:=by rfl) (hpl:(backTo pos (starEach es X.env)).any (·.1)=false:=by rfl):SimE X G (.Call (.Name x p) (e::es) [] pos) (wCB f wa):=
 (y5r hc hg hm hv ha hn hdb he hpl).imp fun _ _ _ h=>y1p h
theorem q6w{f:FL}{x:Str}{T:String}{p:Pos}{e:Expr}{es:List Expr}{wa:WA}(hc:q7b X (.type T) (z2a X.K f))(hm:X.mg x=none)(hv:bootBuiltins x=some (.type T))(ha:SimA X G (e::es) wa)(hg:Gl X x:=by rfl)(hn:x≠ "__name__" :=by decide)(hdb:(x==("__debug__" : Str))=false:=by decide)
  (he:starEach (e::es) X.env=(false,eval e X.env)::starEach es X.env:=by rfl) (hpl:(backTo pos (starEach es X.env)).any (·.1)=false:=by rfl):SimE X G (.Call (.Name x p) (e::es) [] pos) (wCB f wa):=
 (y0r hc hg hm hv ha hn hdb he hpl).imp fun _ _ _ h=>y1p h
theorem q2n{K:Frag}{H:Hp}{φ:List Addr}{x:PV}{vs:List V}(r:RVs K H φ [x] vs):∃v,vs=[v]/\RV K H φ x v:=by
 obtain⟨y,ys,rfl,r1,r2⟩:=r
 rw[show ys=[]from r2]
 exact⟨y,rfl,r1⟩
theorem q9d{K:Frag}{H:Hp}{φ:List Addr}{x y:PV}{vs:List V}(r:RVs K H φ [x,y] vs):∃v w,vs=[v,w]/\RV K H φ x v/\RV K H φ y w:=by
 obtain⟨a,as,rfl,r1,r2⟩:=r
 obtain⟨b,rfl,r3⟩:=q2n r2
 exact⟨a,b,rfl,r1,r3⟩
def fLen:FL:=fun xs S Q=>match xs with
 |[.str z]=>z.length<=sizeLine/\Q (.int z.length) S
 |[.tup xs]=>Q (.int xs.length) S
 |[.frl xs]=>Q (.int xs.length) S
 |[.ref n]=>match q3o S n with
  |some xs=>Q (.int xs.length) S
  |none=>False
 |_=>False
theorem q1f:q7b X (.builtin "len") (z2a X.K fLen):=by
 rintro pins s σ H xs us Q I r ⟨φ,S,pxs,Q0,R,hx,h,k⟩
 unfold fLen at h
 split at h
 ·rename_i z
  obtain⟨v,rfl,r1⟩:=q2n hx
  cases r1
  exact z4f pins s σ H _ us Q I r ⟨z,rfl,h.1,k _ S φ H _ h.2 (List.prefix_refl _) (.refl _) R rfl⟩
 ·rename_i ys
  obtain⟨v,rfl,a,vs,rfl,sa,ra⟩:=q2n hx
  exact q6u pins s σ H _ us Q I r ⟨a,vs,rfl,.inr sa,k _ S φ H _ h (List.prefix_refl _) (.refl _) R (by rw[<-ra.length];rfl)⟩
 ·rename_i ys
  obtain⟨v,rfl,a,vs,rfl,sa,ra⟩:=q2n hx
  exact q6u pins s σ H _ us Q I r ⟨a,vs,rfl,.inl sa.sq,k _ S φ H _ h (List.prefix_refl _) (.refl _) R (by rw[<-ra.length];rfl)⟩
 ·rename_i n
  split at h
  ·rename_i ys es
   obtain⟨v,rfl,a,rfl,qa⟩:=q2n hx
   obtain⟨vs,sa,ra⟩:=R.seq qa es
   exact q6u pins s σ H _ us Q I r ⟨a,vs,rfl,.inl sa,k _ S φ H _ h (List.prefix_refl _) (.refl _) R (by rw[<-ra.length];rfl)⟩
  ·exact h.elim
 ·exact h.elim
def tyP(x:PV)(S:q0h):Option String:=match x with
 |.non=>some "NoneType"
 |.bl _=>some "bool"
 |.int _=>some "int"
 |.str _=>some "str"
 |.tup _=>some "tuple"
 |.ref n=>match S[n]? with
  |some (.lst _)=>some "list"
  |some (.dK _)=>some "dict"
  |_=>none
 |.frl _=>some "list"
 |.ty _=>none
 |.exc _=>none
def isT(T C:String):Bool:=T==C||(T == "bool"&&C == "int")
def y1u:List String:=["NoneType", "bool", "int", "str", "tuple", "list", "dict"]
def q5u:List String:=["list", "tuple", "str", "int", "bool", "dict"]
theorem z5h(K:Frag):∀T∈y1u,∀C∈q5u,PySem.W.kitOne K (.type T) (.type C)=some (isT T C):=by
 intro T hT C hC
 simp only[y1u,List.mem_cons,List.not_mem_nil,or_false]at hT
 simp only[q5u,List.mem_cons,List.not_mem_nil,or_false]at hC
 rcases hT with rfl|rfl|rfl|rfl|rfl|rfl|rfl<;>rcases hC with rfl|rfl|rfl|rfl|rfl|rfl<;>kernel_rfl
theorem z1k {x : PV} {S : q0h} {T : String} (h : tyP x S = some T) : T ∈ y1u := by
 unfold tyP at h
 split at h
 all_goals first
  | (cases h; simp [y1u])
  | (split at h <;> first | (cases h; simp [y1u]) | cases h)
  | cases h
end
section
variable{X:Cx}{G:GX}{pos:Pos}
theorem x2n{pins:List (Addr×Obj)}{s:Shared}{σ:St}{H:Hp}{φ:List Addr}{S:q0h}{x:PV}{x':V}{u c:Value}{T:String}{b:Bool}{A:Around}{E:Value->Shared->Prop}{Q:Value->Shared->Prop}(I:Inv X pins σ H s)(R:Rel X.K φ S H)(rx:RV X.K H φ x x')(q:RelV x' u)
  (ht:tyP x S=some T) (e:PySem.W.kitOne X.K (.type T) c=some b) (h:∀tk,Q (.bool b) {s with toks:=tk}):wpAny (model X.prog X.w) A (call (.builtin "isinstance") [u,c]) Q E s:=by
 unfold tyP at ht
 split at ht
 ·cases ht;cases rx;cases(show u=Value.none from q);exact PySem.W.kia_one PySem.W.kitx_none I.kIn True.intro e (fun z=>nomatch z) h
 ·rename_i y;cases ht;cases rx;cases(show u=Value.bool y from q);exact PySem.W.kia_one PySem.W.kitx_bool I.kIn True.intro e (fun z=>nomatch z) h
 ·rename_i y;cases ht;cases rx;obtain⟨t,rfl⟩:=(show ∃t,u=Value.int y t from q);exact PySem.W.kia_one PySem.W.kitx_int I.kIn True.intro e (fun z=>nomatch z) h
 ·rename_i y;cases ht;cases rx;obtain⟨t,rfl⟩:=(show ∃t,u=Value.str y t from q);exact PySem.W.kia_one PySem.W.kitx_str I.kIn True.intro e (fun z=>nomatch z) h
 ·cases ht
  obtain⟨a,vs,rfl,sa,ra⟩:=rx
  cases q
  obtain⟨its,_,⟨o,h1,h2,_⟩,_⟩:=I.tuple sa
  exact PySem.W.kia_one PySem.W.kitx_tuple I.kIn ⟨o,h1,h2⟩ e (fun z=>nomatch z) h
 ·rename_i n
  obtain⟨a,rfl,qa⟩:=rx
  cases q
  split at ht
  ·rename_i xs es
   cases ht
   obtain⟨vs,e1,_⟩:=R.obj n a _ qa es
   exact z3s (x:=.ref a) I rfl (TyOf.lst (K:=X.K) e1) e h
  ·rename_i xs es
   cases ht
   obtain⟨vs,e1,_⟩:=R.obj n a _ qa es
   exact z3s (x:=.ref a) I rfl (TyOf.dK (K:=X.K) e1) e h
  ·cases ht
 ·cases ht
  obtain⟨a,vs,rfl,sa,ra⟩:=rx
  cases q
  obtain⟨its,_,p,_⟩:=I.list sa.sq
  obtain⟨o,h1,h2,_⟩:=p.isList
  exact PySem.W.kia_one PySem.W.kitx_list I.kIn ⟨o,h1,h2⟩ e (fun z=>nomatch z) h
 ·cases ht
 ·cases ht
theorem x2m{pins:List (Addr×Obj)}{s:Shared}{σ:St}{H:Hp}{φ:List Addr}{S:q0h}{x:PV}{x':V}{u:Value}{T:String}{p:Addr}{its:List Value}{b:Bool}{A:Around}{E:Value->Shared->Prop}{Q:Value->Shared->Prop}(I:Inv X pins σ H s)(R:Rel X.K φ S H)(rx:RV X.K H φ x x')(q:RelV x' u)
  (ht:tyP x S=some T) (ho:PyProof.Rows.IsTup s.heap p its.toArray) (e:PySem.W.kitAny X.K (.type T) its=some b) (h:∀tk,Q (.bool b) {s with toks:=tk}):wpAny (model X.prog X.w) A (call (.builtin "isinstance") [u,.ref p]) Q E s:=by
 obtain⟨⟨cls,dd,dat,sl⟩,ho,hc,n,hd⟩:=ho
 simp only at hc hd
 subst hc hd
 unfold tyP at ht
 split at ht
 ·cases ht;cases rx;cases(show u=Value.none from q);exact PySem.W.kia_tup PySem.W.kitx_none I.kIn True.intro ho e (fun z=>nomatch z) h
 ·rename_i y;cases ht;cases rx;cases(show u=Value.bool y from q);exact PySem.W.kia_tup PySem.W.kitx_bool I.kIn True.intro ho e (fun z=>nomatch z) h
 ·rename_i y;cases ht;cases rx;obtain⟨t,rfl⟩:=(show ∃t,u=Value.int y t from q);exact PySem.W.kia_tup PySem.W.kitx_int I.kIn True.intro ho e (fun z=>nomatch z) h
 ·rename_i y;cases ht;cases rx;obtain⟨t,rfl⟩:=(show ∃t,u=Value.str y t from q);exact PySem.W.kia_tup PySem.W.kitx_str I.kIn True.intro ho e (fun z=>nomatch z) h
 ·cases ht
  obtain⟨a,vs,rfl,sa,ra⟩:=rx
  cases q
  obtain⟨_,_,⟨o,h1,h2,_⟩,_⟩:=I.tuple sa
  exact PySem.W.kia_tup PySem.W.kitx_tuple I.kIn ⟨o,h1,h2⟩ ho e (fun z=>nomatch z) h
 ·rename_i m
  obtain⟨a,rfl,qa⟩:=rx
  cases q
  split at ht
  ·rename_i xs es
   cases ht
   obtain⟨vs,e1,_⟩:=R.obj m a _ qa es
   obtain⟨_,_,n,_,h1⟩:=(show q2q X.prog X.w H s.heap a (.lst vs)from I.hok a _ e1)
   exact PySem.W.kia_tup PySem.W.kitx_list I.kIn ⟨_,h1,rfl⟩ ho e (fun z=>nomatch z) h
  ·rename_i xs es
   cases ht
   obtain⟨vs,e1,_⟩:=R.obj m a _ qa es
   obtain⟨_,_,_,_,p⟩:=(show q2q X.prog X.w H s.heap a (.dK vs)from I.hok a _ e1)
   obtain⟨o,es,ep,h1,h2,_⟩:=p
   exact PySem.W.kia_tup PySem.W.kitx_dict I.kIn ⟨o,h1,h2.1⟩ ho e (fun z=>nomatch z) h
  ·cases ht
 ·cases ht
  obtain⟨a,vs,rfl,sa,ra⟩:=rx
  cases q
  obtain⟨_,_,p,_⟩:=I.list sa.sq
  obtain⟨o,h1,h2,_⟩:=p.isList
  exact PySem.W.kia_tup PySem.W.kitx_list I.kIn ⟨o,h1,h2⟩ ho e (fun z=>nomatch z) h
 ·cases ht
 ·cases ht
def fIsi:FL:=fun xs S Q=>match xs with
 |[x,.ty D]=>match tyP x S with
  |some T=>D∈q5u/\Q (.bl (isT T D)) S
  |none=>False
 |[x,.tup [.ty D,.ty D']]=>match tyP x S with
  |some T=>(D∈q5u/\D'∈q5u)/\Q (.bl (isT T D||isT T D')) S
  |none=>False
 |_=>False
theorem q3m:q7b X (.builtin "isinstance") (z2a X.K fIsi):=by
 rintro pins s σ H xs us Q I r ⟨φ,S,pxs,Q0,R,hx,h,k⟩
 unfold fIsi at h
 split at h
 ·rename_i x D
  split at h
  ·rename_i T ht
   obtain⟨v,w,rfl,r1,r2⟩:=q9d hx
   cases r2
   obtain⟨u,c,rfl,ru,rc⟩:=y9k r
   cases(show c=Value.type D from rc)
   exact x2n I R r1 ru ht (z5h X.K T (z1k ht) D h.1) fun tk=>⟨.bl _,H,I.tok tk,rfl,k _ S φ H _ h.2 (List.prefix_refl _) (.refl _) R rfl⟩
  ·exact h.elim
 ·rename_i x D D'
  split at h
  ·rename_i T ht
   obtain⟨v,w,rfl,r1,a,vs,rfl,sa,ra⟩:=q9d hx
   obtain⟨d1,d2,rfl,q1,q2⟩:=q9d ra
   cases q1
   cases q2
   obtain⟨u,c,rfl,ru,rc⟩:=y9k r
   cases(show c=Value.ref a from rc)
   obtain⟨its,rv,p,_⟩:=I.tuple sa
   obtain⟨v1,v2,rfl,g1,g2⟩:=y9k rv
   cases(show v1=Value.type D from g1)
   cases(show v2=Value.type D' from g2)
   exact x2m I R r1 ru ht p (y6k (z5h X.K T (z1k ht) D h.1.1) (z5h X.K T (z1k ht) D' h.1.2)) fun tk=>⟨.bl _,H,I.tok tk,rfl,k _ S φ H _ h.2 (List.prefix_refl _) (.refl _) R rfl⟩
  ·exact h.elim
 ·exact h.elim
def q5g:List PV->Option (List Int)
 |[]=>some []
 |.int i::r=>(q5g r).map (i::·)
 |_=>none
def z4g:List PV->Option (List Bool)
 |[]=>some []
 |.bl i::r=>(z4g r).map (i::·)
 |_=>none
theorem q6q:∀{xs:List PV}{ns:List Int},q5g xs=some ns->xs=ns.map PV.int
 |[],ns,h=>by simp[q5g]at h;subst h;rfl
 |x::r,ns,h=>by
  cases x with
  |int i=>
   simp only[q5g,Option.map_eq_some_iff]at h
   obtain⟨ms,h1,rfl⟩:=h
   rw[q6q h1];rfl
  |_=>simp[q5g]at h
theorem z7u:∀{xs:List PV}{ns:List Bool},z4g xs=some ns->xs=ns.map PV.bl
 |[],ns,h=>by simp[z4g]at h;subst h;rfl
 |x::r,ns,h=>by
  cases x with
  |bl i=>
   simp only[z4g,Option.map_eq_some_iff]at h
   obtain⟨ms,h1,rfl⟩:=h
   rw[z7u h1];rfl
  |_=>simp[z4g]at h
theorem z1c(ns:List Int):q5g (ns.map PV.int)=some ns:=by induction ns with
 |nil=>rfl
 |cons a r ih=>simp[q5g,ih]
def fSum:FL:=fun xs S Q=>match xs with
 |[.frl ys]=>match q5g ys with
  |some ns=>Q (.int ns.sum) S
  |none=>False
 |[.ref n]=>match (q3o S n).bind q5g with
  |some ns=>Q (.int ns.sum) S
  |none=>False
 |_=>False
def fAll:FL:=fun xs S Q=>match xs with
 |[.ref n]=>match (q3o S n).bind z4g with
  |some ns=>Q (.bl (ns.all id)) S
  |none=>False
 |_=>False
theorem y3f(hc:X.calm=true):q7b X (.builtin "sum") (z2a X.K fSum):=by
 rintro pins s σ H xs us Q I r ⟨φ,S,pxs,Q0,R,hx,h,k⟩
 unfold fSum at h
 split at h
 ·split at h
  ·rename_i ns e
   have:=q6q e
   subst this
   obtain⟨v,rfl,a,vs,rfl,sa,ra⟩:=q2n hx
   have sa:=sa.sq
   rw[ra.ints]at sa
   exact z7r hc pins s σ H _ us Q I r ⟨a,ns,rfl,sa,k _ S φ H _ h (List.prefix_refl _) (.refl _) R rfl⟩
  ·exact h.elim
 ·rename_i n
  split at h
  ·rename_i ns e
   obtain⟨ys,e1,e2⟩:=Option.bind_eq_some_iff.mp e
   have:=q6q e2
   subst this
   obtain⟨v,rfl,a,rfl,qa⟩:=q2n hx
   obtain⟨vs,sa,ra⟩:=R.seq qa e1
   rw[ra.ints]at sa
   exact z7r hc pins s σ H _ us Q I r ⟨a,ns,rfl,sa,k _ S φ H _ h (List.prefix_refl _) (.refl _) R rfl⟩
  ·exact h.elim
 ·exact h.elim
theorem y3g(hc:X.calm=true):q7b X (.builtin "all") (z2a X.K fAll):=by
 rintro pins s σ H xs us Q I r ⟨φ,S,pxs,Q0,R,hx,h,k⟩
 unfold fAll at h
 split at h
 ·rename_i n
  split at h
  ·rename_i ns e
   obtain⟨ys,e1,e2⟩:=Option.bind_eq_some_iff.mp e
   have:=z7u e2
   subst this
   obtain⟨v,rfl,a,rfl,qa⟩:=q2n hx
   obtain⟨vs,sa,ra⟩:=R.seq qa e1
   rw[ra.bls]at sa
   exact y7c hc pins s σ H _ us Q I r ⟨a,ns,rfl,sa,k _ S φ H _ h (List.prefix_refl _) (.refl _) R rfl⟩
  ·exact h.elim
 ·exact h.elim
def q8o:FL:=fun xs S Q=>match xs with
 |[.tup ys]=>Q (.tup ys) S
 |[.ref n]=>match q3o S n with
  |some ys=>Q (.tup ys) S
  |none=>False
 |_=>False
theorem q6f:q7b X (.type "tuple") (z2a X.K q8o):=by
 rintro pins s σ H xs us Q I r ⟨φ,S,pxs,Q0,R,hx,h,k⟩
 unfold q8o at h
 split at h
 ·obtain⟨v,rfl,a,vs,rfl,sa,ra⟩:=q2n hx
  exact q7y pins s σ H _ us Q I r ⟨a,vs,rfl,.inr ⟨sa,k _ S φ H _ h (List.prefix_refl _) (.refl _) R ⟨a,vs,rfl,sa,ra⟩⟩⟩
 ·rename_i n
  split at h
  ·rename_i ys e
   obtain⟨v,rfl,a,rfl,qa⟩:=q2n hx
   obtain⟨vs,sa,ra⟩:=R.seq qa e
   exact q7y pins s σ H _ us Q I r ⟨a,vs,rfl,.inl ⟨sa,k.tup h R ra⟩⟩
  ·exact h.elim
 ·exact h.elim
def fStr:FL:=fun xs S Q=>match xs with
 |[.int i]=>i.natAbs.log2<1920/\Q (.str (toString i)) S
 |_=>False
abbrev FM:=PV->List PV->q0h->VC->Prop
def z5d(K:Frag)(f:FM):V->List V->Hp->VK->Prop:=fun x' xs' H Q=>∃φ S x xs Q0,Rel K φ S H/\RV K H φ x x'/\RVs K H φ xs xs'/\f x xs S Q0/\KE K φ H Q0 Q
def wBM(T:String)(f:FM)(wo:WE)(wa:WA):WE:=fun σ S E Q=>wo σ S E fun x S1=>tyP x S1=some T/\wa σ S1 E fun xs S2=>f x xs S2 Q
def wBM0(T:String)(f:FM)(wo:WE):WE:=fun σ S E Q=>wo σ S E fun x S1=>tyP x S1=some T/\f x [] S1 Q
theorem y7y{K:Frag}{H:Hp}{φ:List Addr}{S:q0h}{x:PV}{x':V}{T:String}(R:Rel K φ S H)(r:RV K H φ x x')(h:tyP x S=some T)(hT:T = "str" \/T = "list" \/T = "dict"):tyV K T x' H:=by
 unfold tyP at h
 split at h
 ·cases h;simp at hT
 ·cases h;simp at hT
 ·cases h;simp at hT
 ·cases h;cases r;rfl
 ·cases h;simp at hT
 ·rename_i n
  obtain⟨a,rfl,qa⟩:=r
  split at h
  ·rename_i xs es
   cases h
   obtain⟨vs,e1,_⟩:=R.obj n a _ qa es
   exact .inl ⟨rfl,vs,SqL.of e1⟩
  ·rename_i xs es
   cases h
   obtain⟨vs,e1,_⟩:=R.obj n a _ qa es
   exact .inr (.inr (.inl ⟨rfl,.inl ⟨vs,e1⟩⟩))
  ·cases h
 ·cases h
  obtain⟨a,vs,rfl,sa,ra⟩:=r
  exact .inl ⟨rfl,vs,sa.sq⟩
 ·cases h
 ·cases h
theorem q3p{f:FM}{T id:String}{name:Str}{o e:Expr}{es:List Expr}{apos cpos:Pos}{wo:WE}{wa:WA}(pa:PlainAttrs T)(slot:Slot T name id)(hty:typeOf (.builtin id)=pure (.type "method_descriptor"))(hm:MtR X id (z5d X.K f))(ho:SimE X G o wo)(ha:SimA X G (e::es) wa)
  (hT:T = "str" \/T = "list" \/T = "dict" :=by first|exact Or.inl rfl|exact Or.inr (Or.inl rfl)|exact Or.inr (Or.inr rfl))
  (hbase:attributeBase o name X.env (eval o X.env)=eval o X.env:=by rfl)
  (hfew:((backTo cpos (starEach (e::es) X.env)).all (fun x=>!x.1)&&(backToKw cpos (keywordEach [] X.env)).all (fun x=>x.1.isSome)
   && decide ((e::es).length+([]:List Keyword).length+(if ([]:List Keyword).isEmpty then 0 else 1)<30))=true:=by rfl)
  (hline:(apos.endLine==cpos.line)=true:=by rfl) (hs:starEach (e::es) X.env=(false,eval e X.env)::starEach es X.env:=by rfl) (hplain:(backTo cpos (starEach es X.env)).any (·.1)=false:=by rfl) :
  SimE X G (.Call (.Attribute o name apos) (e::es) [] cpos) (wBM T f wo wa):=
 (x9m pa slot hty hm ho ha hbase hfew hline hs hplain).imp fun σV H Q hh1=>by obtain⟨φ,σ,S,Q0,L,R,h,k⟩:=hh1;exact(⟨φ,σ,S,_,L,R,h,fun v S1 φ1 H1 x hh2 p1 m1 R1 r1=>by obtain⟨ht,q⟩:=hh2;exact(⟨y7y R1 r1 ht hT,
  ⟨φ1,σ,S1,_,L.mono m1 p1,R1,q,fun vs S2 φ2 H2 xs q2 p2 m2 R2 r2=>⟨φ2,S2,v,vs,Q0,R2,RV.mono m2 p2 _ _ r1,r2,q2,k.up (p1.trans p2) (m1.trans m2)⟩⟩⟩)⟩)
theorem z1r{f:FM}{T id:String}{name:Str}{o:Expr}{apos cpos:Pos}{wo:WE}(pa:PlainAttrs T)(slot:Slot T name id)(hty:typeOf (.builtin id)=pure (.type "method_descriptor"))(hm:MtR X id (z5d X.K f))(ho:SimE X G o wo)
  (hT:T = "str" \/T = "list" \/T = "dict" :=by first|exact Or.inl rfl|exact Or.inr (Or.inl rfl)|exact Or.inr (Or.inr rfl))
  (hbase:attributeBase o name X.env (eval o X.env)=eval o X.env:=by rfl) (hline:(apos.endLine==cpos.line)=true:=by rfl) :
  SimE X G (.Call (.Attribute o name apos) [] [] cpos) (wBM0 T f wo):=
 (x5n pa slot hty hm ho hbase hline).imp fun σV H Q hh1=>by obtain⟨φ,σ,S,Q0,L,R,h,k⟩:=hh1;exact(⟨φ,σ,S,_,L,R,h,fun v S1 φ1 H1 x hh2 p1 m1 R1 r1=>by obtain⟨ht,q⟩:=hh2;exact(⟨y7y R1 r1 ht hT,⟨φ1,S1,v,[],Q0,R1,r1,rfl,q,k.up p1 m1⟩⟩)⟩)
theorem KE.put{K:Frag}{φ:List Addr}{H:Hp}{Q0:VC}{Q:VK}{S:q0h}{n:Nat}{a:Addr}{old:List V}{xs:List PV}{vs:List V}{y:PV}{y':V}(k:KE K φ H Q0 Q)(R:Rel K φ S H)(qa:φ[n]?=some a)(e:H a=some (.lst old))(r:RVs K H φ xs vs)(ry:RV K H φ y y')(q:Q0 y (S.set n (.lst xs))):Q y' (upd H a (.lst vs)):=
 k _ _ φ _ _ q (List.prefix_refl _) (.lst e) (R.put (o:=.lst xs) qa (.lst e) ⟨vs,q1r,RVs.mono (.lst e) (List.prefix_refl _) _ _ r⟩) (RV.mono (.lst e) (List.prefix_refl _) _ _ ry)
def q1y:FM:=fun x xs S Q=>match x,xs with
 |.ref n,[y]=>match q6z S n with
  |some ys=>ys.length<sizeLine/\Q .non (S.set n (.lst (ys++[y])))
  |none=>False
 |_,_=>False
theorem q1v:MtR X "list.append" (z5d X.K q1y):=by
 rintro pins s σ H x xs v us Q I rx rs ⟨φ,S,px,pxs,Q0,R,hx,hxs,h,k⟩
 unfold q1y at h
 split at h
 ·rename_i n y
  split at h
  ·rename_i ys e
   obtain⟨a,rfl,qa⟩:=hx
   obtain⟨y',rfl,ry⟩:=q2n hxs
   obtain⟨vs,ea,ra⟩:=R.lst qa e
   exact y1j pins s σ H _ _ v us Q I rx rs ⟨a,vs,y',rfl,rfl,ea,by rw[<-ra.length];exact h.1,k.put R qa ea (ra.append (.one ry)) (show RV X.K H φ .non .non from rfl) h.2⟩
  ·exact h.elim
 ·exact h.elim
def mPop:FM:=fun x xs S Q=>match x,xs with
 |.ref n,[]=>match q6z S n with
  |some ys=>match ys.getLast? with
   |some y=>Q y (S.set n (.lst ys.dropLast))
   |none=>False
  |none=>False
 |_,_=>False
theorem z1z:MtR X "list.pop" (z5d X.K mPop):=by
 rintro pins s σ H x xs v us Q I rx rs ⟨φ,S,px,pxs,Q0,R,hx,hxs,h,k⟩
 unfold mPop at h
 split at h
 ·rename_i n
  split at h
  ·rename_i ys e
   split at h
   ·rename_i y ey
    obtain⟨a,rfl,qa⟩:=hx
    have hxs':xs=[]:=hxs
    subst hxs'
    obtain⟨vs,ea,ra⟩:=R.lst qa e
    rw[List.getLast?_eq_getElem?]at ey
    obtain⟨y',e',r'⟩:=ra.get ey
    rw[ra.length]at e'
    exact x6f pins s σ H _ _ v us Q I rx rs ⟨a,vs,y',rfl,rfl,ea,e',k.put R qa ea ra.dropLast r' h⟩
   ·exact h.elim
  ·exact h.elim
 ·exact h.elim
def q9r:FM:=fun x xs S Q=>match x,xs with
 |.ref n,[.int i]=>match q6z S n with
  |some ys=>match ixN ys.length i with
   |some j=>match ys[j]? with
    |some y=>(-(2 ^ 63)<=i/\i<2 ^ 63)/\Q y (S.set n (.lst (ys.eraseIdx j)))
    |none=>False
   |none=>False
  |none=>False
 |_,_=>False
def q9s:FM:=fun x xs S Q=>match x,xs with
 |.ref n,[.ref m]=>match q6z S n,q6z S m with
  |some ys,some zs=>ys.length+zs.length<=sizeLine/\Q .non (S.set n (.lst (ys++zs)))
  |_,_=>False
 |.ref n,[.tup zs]=>match q6z S n with
  |some ys=>ys.length+zs.length<=sizeLine/\Q .non (S.set n (.lst (ys++zs)))
  |none=>False
 |_,_=>False
theorem x2t:MtM X "list.extend" (fun x vs H Q=>∃l b xs zs,x=.ref l/\vs=[.ref b]/\H l=some (.lst xs)/\SqT X.K H b zs/\xs.length+zs.length<=sizeLine/\Q .non (upd H l (.lst (xs++zs)))):=by
 intro pins s σ H x vs v us Q I rx rv h
 obtain⟨l,b,xs,zs,rfl,rfl,hH,hB,hz,q⟩:=h
 cases rx
 obtain⟨u,rfl,ru⟩:=rv.one
 cases ru
 obtain⟨z,its,n,r,hl,e⟩:=I.lstM hH
 obtain⟨its2,r2,⟨⟨cls,dd,dat,sl⟩,h1,h2,n2,h3⟩,z2⟩:=I.tuple hB
 simp only at h2 h3
 subst h2 h3
 have hl2:=r2.length
 have hss:its.toArray.size+its2.toArray.size<=sizeLine:=by simp only[List.size_toArray];omega
 have hlong:¬(!its.toArray.isEmpty&&Builtin.List.listTooLong (its.toArray.size+its2.toArray.size))=true:=by rw[z1w hss,Bool.and_false];exact Bool.false_ne_true
 refine call_meets F.slot_list_extend ⟨_,e,rfl⟩ F.entry_list_extend (F.args_list_extend_2 _ _) (extT l its.toArray n b its2.toArray n2 dd sl hlong (by rw[List.size_toArray];omega) (by omega)) ⟨e,h1,?_⟩
 exact⟨.non,_,I.lset (its':=its++its2) hH e (by simp) (r.append r2) (by rw[List.length_append];omega),rfl,q⟩
theorem z8m:MtR X "list.extend" (z5d X.K q9s):=by
 rintro pins s σ H x xs v us Q I rx rs ⟨φ,S,px,pxs,Q0,R,hx,hxs,h,k⟩
 unfold q9s at h
 split at h
 ·rename_i n m
  split at h
  ·rename_i ys zs e1 e2
   obtain⟨a,rfl,qa⟩:=hx
   obtain⟨y',rfl,b,rfl,qb⟩:=q2n hxs
   obtain⟨vs,ea,ra⟩:=R.lst qa e1
   obtain⟨ws,eb,rb⟩:=R.lst qb e2
   exact y1i pins s σ H _ _ v us Q I rx rs ⟨a,b,vs,ws,rfl,rfl,ea,eb,by rw[<-ra.length,<-rb.length];exact h.1,k.put (y:=.non) R qa ea (ra.append rb) rfl h.2⟩
  ·exact h.elim
 ·rename_i n zs
  split at h
  ·rename_i ys e1
   obtain⟨a,rfl,qa⟩:=hx
   obtain⟨y',rfl,b,ws,rfl,sb,rb⟩:=q2n hxs
   obtain⟨vs,ea,ra⟩:=R.lst qa e1
   exact x2t pins s σ H _ _ v us Q I rx rs ⟨a,b,vs,ws,rfl,rfl,ea,sb,by rw[<-ra.length,<-rb.length];exact h.1,k.put (y:=.non) R qa ea (ra.append rb) rfl h.2⟩
  ·exact h.elim
 ·exact h.elim
theorem q9o:MtR X "list.pop" (z5d X.K q9r):=by
 rintro pins s σ H x xs v us Q I rx rs ⟨φ,S,px,pxs,Q0,R,hx,hxs,h,k⟩
 unfold q9r at h
 split at h
 ·rename_i n i
  split at h
  ·rename_i ys e
   split at h
   ·rename_i j ej
    split at h
    ·rename_i y ey
     obtain⟨a,rfl,qa⟩:=hx
     obtain⟨y',rfl,ry⟩:=q2n hxs
     cases ry
     obtain⟨vs,ea,ra⟩:=R.lst qa e
     obtain⟨y',e',r'⟩:=ra.get ey
     rw[ra.length]at ej
     exact y6e pins s σ H _ _ v us Q I rx rs ⟨a,vs,i,j,y',rfl,rfl,ea,h.1.1,h.1.2,(z5n ej).1,e',k.put R qa ea (ra.eraseIdx _) r' h.2⟩
    ·exact h.elim
   ·exact h.elim
  ·exact h.elim
 ·exact h.elim
theorem PJ.imp{e:List Expr}{t t':TJ}(h:PJ X e t)(i:∀σ H a Q,t' σ H a Q->t σ H a Q):PJ X e t':=fun pins s σ H acc Q I q=>h pins s σ H acc Q I (i σ H acc Q q)
end
structure PEnds where
 nx:Loc->q0h->Prop
 rt:VC
 bk:Loc->q0h->Prop:=fun _ _=>False
 ct:Loc->q0h->Prop:=fun _ _=>False
abbrev WS:=PEnds->EK->Loc->q0h->Prop
def KN(K:Frag)(G:GX)(φ:List Addr)(H:Hp)(Q0:Loc->q0h->Prop)(Q:St->Hp->Prop):Prop:=∀σ' S' φ' H' σV',Q0 σ' S'->φ <+: φ'->Mono H H'->Rel K φ' S' H'->LRel K G H' φ' σ' σV'->Q σV' H'
theorem KN.up{K:Frag}{G:GX}{φ φ1:List Addr}{H H1:Hp}{Q0:Loc->q0h->Prop}{Q:St->Hp->Prop}(k:KN K G φ H Q0 Q)(p:φ <+: φ1)(m:Mono H H1):KN K G φ1 H1 Q0 Q:=fun σ' S' φ' H' σV' q p' m'=>k σ' S' φ' H' σV' q (p.trans p') (m.trans m')
structure KS(K:Frag)(G:GX)(φ:List Addr)(H:Hp)(D0:PEnds)(D:Ends):Prop where
 nx:KN K G φ H D0.nx D.nx
 rt:KE K φ H D0.rt D.rt
 bk:KN K G φ H D0.bk D.bk
 ct:KN K G φ H D0.ct D.ct
theorem KS.up{K:Frag}{G:GX}{φ φ1:List Addr}{H H1:Hp}{D0:PEnds}{D:Ends}(k:KS K G φ H D0 D)(p:φ <+: φ1)(m:Mono H H1):KS K G φ1 H1 D0 D:=⟨k.nx.up p m,k.rt.up p m,k.bk.up p m,k.ct.up p m⟩
def x1r(K:Frag)(G:GX)(w:WS):TS:=fun D σV H=>∃φ σ S D0,LRel K G H φ σ σV/\Rel K φ S H/\w D0 G.ek σ S/\KS K G φ H D0 D
def SimS(X:Cx)(G:GX)(st:Stmt)(w:WS):Prop:=PS X st (x1r X.K G w)
def z0o(X:Cx)(G:GX)(st:List Stmt)(w:WS):Prop:=PSs X st (x1r X.K G w)
theorem _root_.L2.PS.imp{X:Cx}{e:Stmt}{t t':TS}(h:PS X e t)(i:∀D σ H,t' D σ H->t D σ H):PS X e t':=fun pins s σ H D I q=>h pins s σ H D I (i D σ H q)
theorem _root_.L2.PSs.imp{X:Cx}{e:List Stmt}{t t':TS}(h:PSs X e t)(i:∀D σ H,t' D σ H->t D σ H):PSs X e t':=fun pins s σ H D I q=>h pins s σ H D I (i D σ H q)
section
variable{X:Cx}{G:GX}{pos:Pos}
def q1g:WS:=fun D _ σ S=>D.nx σ S
def wSeq(w1 w2:WS):WS:=fun D E σ S=>w1 {D with nx:=w2 D E} E σ S
theorem q0q:z0o X G [] q1g:=x0o.imp fun D σV H hh1=>by obtain⟨φ,σ,S,D0,L,R,h,k⟩:=hh1;exact(k.nx σ S φ H σV h (List.prefix_refl _) (.refl _) R L)
theorem q0g{st:Stmt}{w:WS}(h:SimS X G st w):z0o X G [st] w:=x0n h
theorem q0e{st:Stmt}{rest:List Stmt}{w1 w2:WS}(h1:SimS X G st w1)(h2:z0o X G rest w2):z0o X G (st::rest) (wSeq w1 w2):=
 (y5g h1 h2).imp fun D σV H hh1=>by obtain⟨φ,σ,S,D0,L,R,h,k⟩:=hh1;exact(⟨φ,σ,S,_,L,R,h,⟨fun σ' S' φ' H' σV' q p m R' L'=>⟨φ',σ',S',D0,L',R',q,k.up p m⟩,k.rt,k.bk,k.ct⟩⟩)
def z6h:WS:=fun _ _ _ _=>False
theorem y0a{st:Stmt}:SimS X G st z6h:=(y5k (X:=X)).imp fun D σV H hh1=>by obtain⟨φ,σ,S,D0,L,R,h,k⟩:=hh1;exact(h)
def q4p(w:WE):WS:=fun D E σ S=>w σ S E fun _ S1=>D.nx σ S1
theorem q2j{e:Expr}{w:WE}(he:SimE X G e w)(hs:swapsWith e none pos.line X.env=pure false:=by rfl):SimS X G (.Expr e pos) (q4p w):=
 (x0p he hs).imp fun D σV H hh1=>by obtain⟨φ,σ,S,D0,L,R,h,k⟩:=hh1;exact(⟨φ,σ,S,_,L,R,h,fun v S1 φ1 H1 x q p1 m1 R1 r1=>k.nx σ S1 φ1 H1 σV q p1 m1 R1 (L.mono m1 p1)⟩)
def wRet(w:WE):WS:=fun D E σ S=>w σ S E D.rt
theorem q0m{e:Expr}{w:WE}(he:SimE X G e w):SimS X G (.Return (some e) pos) (wRet w):=
 (x4s he).imp fun D σV H hh1=>by obtain⟨φ,σ,S,D0,L,R,h,k⟩:=hh1;exact(⟨φ,σ,S,_,L,R,h,k.rt⟩)
def wIfS(c:WT)(t u:WS):WS:=fun D E σ S=>c σ S E fun b S1=>if b=true then t D E σ S1 else u D E σ S1
theorem q1a{c:Expr}{a b:List Stmt}{wc:WT}{t u:WS}(hc:SimT X G c wc)(ha:z0o X G a t)(hb:z0o X G b u):SimS X G (.If c a b pos) (wIfS wc t u):=
 (x9j hc ha hb).imp fun D σV H hh1=>by obtain⟨φ,σ,S,D0,L,R,h,k⟩:=hh1;exact(⟨φ,σ,S,_,L,R,h,fun c S1 φ1 H1 q p1 m1 R1=>by
  cases c with
  |true=>exact ⟨φ1,σ,S1,D0,L.mono m1 p1,R1,q,k.up p1 m1⟩
  |false=>exact ⟨φ1,σ,S1,D0,L.mono m1 p1,R1,q,k.up p1 m1⟩⟩)
abbrev WG:=PV->Loc->q0h->EK->(Loc->q0h->Prop)->Prop
abbrev WGs:=List PV->Loc->q0h->EK->(Loc->q0h->Prop)->Prop
def z3e(K:Frag)(G:GX)(w:WG):TG:=fun v' σV H Q=>∃φ v σ S Q0,LRel K G H φ σ σV/\Rel K φ S H/\RV K H φ v v'/\w v σ S G.ek Q0/\KN K G φ H Q0 Q
def x6n(K:Frag)(G:GX)(w:WGs):TGs:=fun v' σV H Q=>∃φ v σ S Q0,LRel K G H φ σ σV/\Rel K φ S H/\RVs K H φ v v'/\w v σ S G.ek Q0/\KN K G φ H Q0 Q
def SimG(X:Cx)(G:GX)(tg:Expr)(w:WG):Prop:=PG X tg (z3e X.K G w)
def y7t(X:Cx)(G:GX)(tg:List Expr)(w:WGs):Prop:=PGs X tg (x6n X.K G w)
theorem PG.imp{e:Expr}{t t':TG}(h:PG X e t)(i:∀v σ H Q,t' v σ H Q->t v σ H Q):PG X e t':=fun pins s σ H v u Q I r q=>h pins s σ H v u Q I r (i v σ H Q q)
theorem PGs.imp{e:List Expr}{t t':TGs}(h:PGs X e t)(i:∀v σ H Q,t' v σ H Q->t v σ H Q):PGs X e t':=fun pins s σ H v u Q I r q=>h pins s σ H v u Q I r (i v σ H Q q)
def q0z(i:Nat):WG:=fun v σ S _ Q=>Q (σ.set i (some v)) S
theorem q0o{i:Nat}{x:Str}(hN:X.N.Nodup)(hi:X.N[i]?=some x:=by rfl)(hx:L2.Loc X.env.scope x:=by first|exact Or.inl rfl|exact Or.inr rfl)(hf:X.fn x=true\/X.env.scope.names.lookup x=some .local:=by first|exact .inl rfl|exact .inr rfl|assumption):SimG X G (.Name x pos) (q0z i):=
 PG.imp (x0v (i:=i) hN hi hx hf) fun v' σV H Q hh1=>by obtain⟨φ,v,σ,S,Q0,L,R,r,h,k⟩:=hh1;exact(k _ S φ H _ h (List.prefix_refl _) (.refl _) R (L.set i r))
def q3r:WGs:=fun vs σ S _ Q=>match vs with
 |[]=>Q σ S
 |_=>False
def q1e(w:WG)(ws:WGs):WGs:=fun vs σ S E Q=>match vs with
 |v::r=>w v σ S E fun σ' S'=>ws r σ' S' E Q
 |_=>False
theorem q1k:y7t X G [] q3r:=PGs.imp x0u fun v' σV H Q hh1=>by
 obtain⟨φ,v,σ,S,Q0,L,R,r,h,k⟩:=hh1
 cases v with
 |nil=>exact⟨r,k _ S φ H _ h (List.prefix_refl _) (.refl _) R L⟩
 |cons _ _=>exact h.elim
theorem q0s{e:Expr}{es:List Expr}{w:WG}{ws:WGs}(h1:SimG X G e w)(h2:y7t X G es ws)(hs:(assignEach (e::es) X.env).map (·.2)=assign e X.env::(assignEach es X.env).map (·.2):=by rfl):y7t X G (e::es) (q1e w ws):=
 PGs.imp (y5n h1 h2 hs) fun v' σV H Q hh1=>by
  obtain⟨φ,v,σ,S,Q0,L,R,r,h,k⟩:=hh1
  cases v with
  |nil=>exact h.elim
  |cons a b=>
   obtain⟨y,ys,rfl,r1,r2⟩:=r
   exact⟨y,ys,rfl,φ,a,σ,S,_,L,R,r1,h,fun σ' S' φ' H' σV' q p m R' L'=>⟨φ',b,σ',S',Q0,L',R',RVs.mono m p _ _ r2,q,k.up p m⟩⟩
def q3q(n:Nat)(ws:WGs):WG:=fun v σ S E Q=>match v with
 |.tup xs=>xs.length=n/\ws xs σ S E Q
 |_=>False
theorem q1p{es:List Expr}{kk:Nat}{ws:WGs}(n:Nat)(hc:X.calm=true)(h:y7t X G es ws)(hn:(assignEach es X.env).length=n:=by rfl)(hst:(assignEach es X.env).findIdx? (·.1)=none:=by rfl):SimG X G (.Tuple es kk pos) (q3q n ws):=
 PG.imp (x5b hc h hn hst) fun v' σV H Q hh1=>by
  obtain⟨φ,v,σ,S,Q0,L,R,r,h,k⟩:=hh1
  cases v with
  |tup xs=>
   obtain⟨a,vs,rfl,sa,ra⟩:=r
   exact⟨a,vs,rfl,sa,by rw[<-ra.length];exact h.1,φ,xs,σ,S,Q0,L,R,ra,h.2,k⟩
  |_=>exact h.elim
def wAsg(w:WE)(g:WG):WS:=fun D E σ S=>w σ S E fun v S1=>g v σ S1 E D.nx
theorem q2t{tg e:Expr}{w:WE}{g:WG}(he:SimE X G e w)(hg:SimG X G tg g)(hs:swapsWithSole [tg] e pos.line X.env=pure false:=by rfl)(hw:swappedStores [tg] e X.env=pure none:=by rfl)
  (h1:(assignEach [tg] X.env).map (·.2)=[assign tg X.env]:=by rfl):SimS X G (.Assign [tg] e pos) (wAsg w g):=
 (x4v he hg hs hw h1).imp fun D σV H hh1=>by obtain⟨φ,σ,S,D0,L,R,h,k⟩:=hh1;exact(⟨φ,σ,S,_,L,R,h,fun v S1 φ1 H1 x q p1 m1 R1 r1=>⟨φ1,v,σ,S1,D0.nx,L.mono m1 p1,R1,r1,q,k.nx.up p1 m1⟩⟩)
def wSet(i:Nat)(w:WE):WS:=fun D E σ S=>w σ S E fun v S1=>D.nx (σ.set i (some v)) S1
theorem q0p(i:Nat){x:Str}{e:Expr}{w:WE}{pos':Pos}(hN:X.N.Nodup)(he:SimE X G e w)(hi:X.N[i]?=some x:=by rfl)(hx:L2.Loc X.env.scope x:=by first|exact Or.inl rfl|exact Or.inr rfl)(hs:swapsWith e (some (.Name x pos')) pos.line X.env=pure false:=by rfl)(hf:X.fn x=true\/X.env.scope.names.lookup x=some .local:=by first|exact .inl rfl|exact .inr rfl|assumption) :
  SimS X G (.Assign [.Name x pos'] e pos) (wSet i w):=
 (x4r (i:=i) hN hi hx he hs hf).imp fun D σV H hh1=>by obtain⟨φ,σ,S,D0,L,R,h,k⟩:=hh1;exact(⟨φ,σ,S,_,L,R,h,fun v S1 φ1 H1 x q p1 m1 R1 r1=>k.nx _ S1 φ1 H1 _ q p1 m1 R1 ((L.mono m1 p1).set i r1)⟩)
abbrev FS:=PV->PV->PV->q0h->(q0h->Prop)->Prop
def z5c(K:Frag)(f:FS):TSet:=fun o' i' v' H Q=>∃φ S o i v Q0,Rel K φ S H/\RV K H φ o o'/\RV K H φ i i'/\RV K H φ v v'/\f o i v S Q0/\∀S' H',Q0 S'->Mono H H'->Rel K φ S' H'->Q H'
def sSet:FS:=fun o i v S Q=>match o with
 |.ref n=>match S[n]? with
  |some (.lst xs)=>match i with
   |.int k=>match ixN xs.length k with
    |some j=>Q (S.set n (.lst (xs.set j v)))
    |none=>False
   |_=>False
  |some (.dK kvs)=>match q8r i with
   |some k=>kvs.length<sizeLine/\Q (S.set n (.dK (putP kvs k v)))
   |none=>False
  |_=>False
 |_=>False
theorem sets(hu:X.A.units+200<cLine):PSet X (z5c X.K sSet):=by
 rintro pins s σ H o i v ov iv u Q I ro ri rv ⟨φ,S,po,pi,pv,Q0,R,ho,hi,hv,h,k⟩
 unfold sSet at h
 split at h
 ·rename_i n
  obtain⟨a,rfl,qa⟩:=ho
  split at h
  ·rename_i xs e
   split at h
   ·rename_i kk
    split at h
    ·rename_i j ej
     cases hi
     obtain⟨vs,ea,ra⟩:=R.obj n a _ qa e
     rw[ra.length]at ej
     refine y4y pins s σ H _ _ v ov iv u Q I ro ri rv ⟨a,vs,kk,j,rfl,rfl,ea,ej,k _ _ h (.lst ea) (R.put (o:=.lst (xs.set j pv)) qa (.lst ea) ⟨vs.set j v,q1r,RVs.mono (.lst ea) (List.prefix_refl _) _ _ (ra.set hv j)⟩)⟩
    ·exact h.elim
   ·exact h.elim
  ·rename_i kvs e
   split at h
   ·rename_i kk ek
    have hk:=q7i hi ek
    subst hk
    obtain⟨ws,ea,ra⟩:=R.obj n a _ qa e
    cases ro
    refine y2z (by omega) I (DPut.k ea (by rw[<-ra.length];exact h.1)) ri rv fun s' I'=>⟨_,I',k _ _ h.2 (.dict ea) (R.put (o:=.dK (putP kvs kk pv)) qa (.dict ea) ⟨_,q1r,RKs.mono (.dict ea) (List.prefix_refl _) (ra.put kk hv)⟩)⟩
   ·exact h.elim
  ·exact h.elim
 ·exact h.elim
def q7k(wo wi:WE)(f:FS):WG:=fun v σ S E Q=>wo σ S E fun o S1=>wi σ S1 E fun i S2=>f o i v S2 fun S3=>Q σ S3
theorem q3l{o i:Expr}{wo wi:WE}{f:FS}(hf:PSet X (z5c X.K f))(ho:SimE X G o wo)(hi:SimE X G i wi)
  (ha:∀v,assign (.Subscript o i pos) X.env v=(do
   let ov <-holding [v] (eval o X.env)
   let iv <-holding [v,ov] (eval i X.env)
   standAt pos
   holding [v,ov,iv] (setItem ov iv v)
   release [v,ov,iv] []):=by intro _;rfl):SimG X G (.Subscript o i pos) (q7k wo wi f):=
 PG.imp (x5c ho hi hf ha) fun v' σV H Q hh1=>by obtain⟨φ,v,σ,S,Q0,L,R,r,h,k⟩:=hh1;exact(⟨φ,σ,S,_,L,R,h,fun ov S1 φ1 H1 x q p1 m1 R1 r1=>⟨φ1,σ,S1,_,L.mono m1 p1,R1,q,fun iv S2 φ2 H2 y q2 p2 m2 R2 r2=>
  ⟨φ2,S2,ov,iv,v,_,R2,RV.mono m2 p2 _ _ r1,r2,RV.mono m2 p2 _ _ (RV.mono m1 p1 _ _ r),q2,fun S3 H3 q3 m3 R3=>k σ S3 φ2 H3 σV q3 (p1.trans p2) ((m1.trans m2).trans m3) R3 (((L.mono m1 p1).mono m2 p2).mono m3 (List.prefix_refl _))⟩⟩⟩)
def z0r(c:WT)(b:WS):WS:=fun D E σ S=>∃W:Nat->Loc->q0h->Prop,(∃m,W m σ S)/\∀m σ S,W m σ S->
 c σ S E fun bo S1=>if bo=true then ∃N:Loc->q0h->Prop,(∀σ' S',N σ' S'->∃m',m'<m/\W m' σ' S')/\b {D with nx:=N,ct:=N,bk:=D.nx} E σ S1 else D.nx σ S1
theorem q9g{c:Expr}{body:List Stmt}{wc:WT}{wb:WS}(hp:PassesOwn (model X.prog X.w) X.A X.env X.xe)(hc:SimT X G c wc)(hb:z0o X G body wb):SimS X G (.While c body [] pos) (z0r wc wb):=
 (y5h hp hc hb).imp fun D σV H hh1=>by
  obtain⟨φ,σ,S,D0,L,R,h,k⟩:=hh1
  obtain⟨W,⟨m0,w0⟩,st⟩:=h
  refine⟨fun m σV' H'=>∃φ' σ' S',φ <+: φ'/\Mono H H'/\LRel X.K G H' φ' σ' σV'/\Rel X.K φ' S' H'/\W m σ' S',⟨m0,φ,σ,S,List.prefix_refl _,.refl _,L,R,w0⟩,?_⟩
  rintro m σV' H' ⟨φ',σ',S',p,mo,L',R',hw⟩
  refine⟨φ',σ',S',_,L',R',st m σ' S' hw,fun bo S1 φ1 H1 q p1 m1 R1=>?_⟩
  cases bo with
  |true=>
   obtain⟨N,hN,hb⟩:=q
   refine⟨fun σ2V H2=>∃φ2 σ2 S2,φ1 <+: φ2/\Mono H1 H2/\LRel X.K G H2 φ2 σ2 σ2V/\Rel X.K φ2 S2 H2/\N σ2 S2,?_,?_⟩
   ·rintro σ2V H2 ⟨φ2,σ2,S2,p2,m2,L2,R2,hn⟩
    obtain⟨m',hm,hw'⟩:=hN σ2 S2 hn
    exact⟨m',hm,φ2,σ2,S2,(p.trans p1).trans p2,(mo.trans m1).trans m2,L2,R2,hw'⟩
   ·exact⟨φ1,σ',S1,_,L'.mono m1 p1,R1,hb,⟨fun σ2 S2 φ2 H2 σ2V q p2 m2 R2 L2=>⟨φ2,σ2,S2,p2,m2,L2,R2,q⟩,k.rt.up (p.trans p1) (mo.trans m1),k.nx.up (p.trans p1) (mo.trans m1),fun σ2 S2 φ2 H2 σ2V q p2 m2 R2 L2=>⟨φ2,σ2,S2,p2,m2,L2,R2,q⟩⟩⟩
  |false=>exact k.nx σ' S1 φ1 H1 σV' q (p.trans p1) (mo.trans m1) R1 (L'.mono m1 p1)
structure PIt where
 xs:List PV
 chk:q0h->Prop
structure ItR(K:Frag)(φ0:List Addr)(H0:Hp)(J:It)(it:PIt):Prop where
 go:∀φ H S,φ0 <+: φ->Mono H0 H->Rel K φ S H->it.chk S->∀(i:Nat) x,it.xs[i]?=some x->J.go i H/\∀y H',J.yld i H y H'->∃φ',φ <+: φ'/\Mono H H'/\Rel K φ' S H'/\RV K H' φ' x y
 stop:∀φ H S,φ0 <+: φ->Mono H0 H->Rel K φ S H->it.chk S->∀i:Nat,it.xs.length<=i->J.stop i H
abbrev WI:=Loc->q0h->EK->(PIt->q0h->Prop)->Prop
def KI(K:Frag)(φ:List Addr)(H:Hp)(Q0:PIt->q0h->Prop)(R:It->Hp->Prop):Prop:=∀it S' φ' H' J,Q0 it S'->φ <+: φ'->Mono H H'->Rel K φ' S' H'->ItR K φ' H' J it->R J H'
def y1q(K:Frag)(G:GX)(w:WI):TI:=fun σV H R=>∃φ σ S Q0,LRel K G H φ σ σV/\Rel K φ S H/\w σ S G.ek Q0/\KI K φ H Q0 R
def SimI(X:Cx)(G:GX)(tg iter:Expr)(w:WI):Prop:=PI X tg iter (y1q X.K G w)
theorem PI.imp{tg e:Expr}{t t':TI}(h:PI X tg e t)(i:∀σ H Q,t' σ H Q->t σ H Q):PI X tg e t':=fun pins s σ H R I q=>h pins s σ H R I (i σ H R q)
def iAny(K:Frag)(tl:TE):TI:=fun σ H R=>tl σ H fun x H1=>(∃a,x=.ref a/\(∃xs,SqL K H1 a xs)/\R (Itl K a) H1)\/(∃a,x=.ref a/\(∃xs,SqT K H1 a xs)/\R (Itt K a) H1)\/∃z,x=.str z/\R (Its z) H1
theorem x5a{tg l:Expr}{tl:TE}(hl:PE X l tl):PI X tg l (iAny X.K tl):=by
 intro pins s σ H R I h
 refine thn (hl pins s σ H _ I h) fun v s1 hh1=>?_
 obtain⟨x,H1,I1,r1,q1⟩:=hh1
 rcases q1 with⟨a,e,⟨xs,hq⟩,q⟩|⟨a,e,⟨xs,hq⟩,q⟩|⟨z,rfl,q⟩
 ·subst e
  cases r1
  obtain⟨its,rv,p,hz⟩:=I1.list hq
  refine wpAny_pyIter_list p.isList ?_
  refine⟨s1.heap.objs.size,[s1.heap.objs.size],_,_,H1,rfl,I1.kept (t':=s1.toks) fun b o e=>Heap.get?_push_of_some _ e,z9m a _,⟨_,Heap.get?_push_size _ rfl,rfl,rfl⟩,fun b hb=>?_,q⟩
  have e:b=s1.heap.objs.size:=by simpa using hb
  subst e
  exact I1.fpOk (Nat.le_refl _) (I1.hok.fresh (Nat.le_refl _))
 ·subst e
  cases r1
  obtain⟨its,rv,p,hz⟩:=I1.tuple hq
  refine wpAny_pyIter_tuple (show s1.heap.IsTuple a its.toArray from p) ?_
  refine⟨s1.heap.objs.size,[s1.heap.objs.size],_,_,H1,rfl,I1.kept (t':=s1.toks) fun b o e=>Heap.get?_push_of_some _ e,z7z a _,⟨_,Heap.get?_push_size _ rfl,rfl,rfl⟩,fun b hb=>?_,q⟩
  have e:b=s1.heap.objs.size:=by simpa using hb
  subst e
  exact I1.fpOk (Nat.le_refl _) (I1.hok.fresh (Nat.le_refl _))
 ·obtain⟨t,rfl⟩:=r1
  refine wpAny_pyIter_strU ?_
  refine⟨s1.heap.objs.size,[s1.heap.objs.size],_,_,H1,rfl,I1.kept (t':=s1.toks) fun b o e=>Heap.get?_push_of_some _ e,y4h _ z t,⟨Nat.zero_le _,_,Heap.get?_push_size _ rfl,rfl,rfl⟩,fun b hb=>?_,q⟩
  obtain rfl:=List.mem_singleton.mp hb
  exact I1.fpOk (Nat.le_refl _) I1.fresh
def chr1(c:Nat):PV:=.str ⟨#[c]⟩
def q5o(w:WE):WI:=fun σ S E Q=>w σ S E fun x S1=>match x with
 |.ref n=>match q3o S1 n with
  |some xs=>Q ⟨xs,fun S=>q3o S n=some xs⟩ S1
  |none=>False
 |.tup xs=>Q ⟨xs,fun _=>True⟩ S1
 |.frl xs=>Q ⟨xs,fun _=>True⟩ S1
 |.str z=>Q ⟨z.cps.toList.map chr1,fun _=>True⟩ S1
 |_=>False
theorem y6n{K:Frag}{φ:List Addr}{H:Hp}{n:Nat}{a:Addr}{xs:List PV}(qa:φ[n]?=some a):ItR K φ H (Itl K a) ⟨xs,fun S=>q3o S n=some xs⟩ where
 go:=fun φ1 H1 S1 p m R e i x hx=>by
  obtain⟨vs,sa,ra⟩:=R.seq (q4u p qa) e
  obtain⟨y,ey,ry⟩:=ra.get hx
  refine⟨⟨vs,y,sa,ey⟩,fun y' H' hh1=>?_⟩
  obtain⟨e1,e2⟩:=hh1
  subst e1
  have:=e2 vs sa
  rw[ey]at this
  cases this
  exact⟨φ1,List.prefix_refl _,.refl _,R,ry⟩
 stop:=fun φ1 H1 S1 p m R e i hi=>by
  obtain⟨vs,sa,ra⟩:=R.seq (q4u p qa) e
  exact⟨vs,sa,by rw[<-ra.length];exact hi⟩
theorem x2h{K:Frag}{φ:List Addr}{H:Hp}{a:Addr}{xs:List PV}{vs:List V}(sa:SqT K H a vs)(ra:RVs K H φ xs vs):ItR K φ H (Itt K a) ⟨xs,fun _=>True⟩ where
 go:=fun φ1 H1 S1 p m R e i x hx=>by
  have sa1:=m.sqT sa
  obtain⟨y,ey,ry⟩:=(RVs.mono m p _ _ ra).get hx
  refine⟨⟨vs,y,sa1,ey⟩,fun y' H' hh1=>?_⟩
  obtain⟨e1,e2⟩:=hh1
  subst e1
  have:=e2 vs sa1
  rw[ey]at this
  cases this
  exact⟨φ1,List.prefix_refl _,.refl _,R,ry⟩
 stop:=fun φ1 H1 S1 p m R e i hi=>⟨vs,m.sqT sa,by rw[<-ra.length];exact hi⟩
theorem x2k{K:Frag}{φ:List Addr}{H:Hp}{a:Addr}{xs:List PV}{vs:List V}(sa:SqF K H a vs)(ra:RVs K H φ xs vs):ItR K φ H (Itl K a) ⟨xs,fun _=>True⟩ where
 go:=fun φ1 H1 S1 p m R e i x hx=>by
  have sa1:=(m.sqF sa).sq
  obtain⟨y,ey,ry⟩:=(RVs.mono m p _ _ ra).get hx
  refine⟨⟨vs,y,sa1,ey⟩,fun y' H' hh1=>?_⟩
  obtain⟨e1,e2⟩:=hh1
  subst e1
  have:=e2 vs sa1
  rw[ey]at this
  cases this
  exact⟨φ1,List.prefix_refl _,.refl _,R,ry⟩
 stop:=fun φ1 H1 S1 p m R e i hi=>⟨vs,(m.sqF sa).sq,by rw[<-ra.length];exact hi⟩
theorem x2i{K:Frag}{φ:List Addr}{H:Hp}{z:Str}:ItR K φ H (Its z) ⟨z.cps.toList.map chr1,fun _=>True⟩ where
 go:=fun φ1 H1 S1 p m R e i x hx=>by
  have hx':(z.cps.toList.map chr1)[i]?=some x:=hx
  rw[List.getElem?_map]at hx'
  obtain⟨c,hc,rfl⟩:=Option.map_eq_some_iff.mp hx'
  have hc':z.cps[i]?=some c:=by simpa using hc
  refine⟨(Array.getElem?_eq_some_iff.mp hc').1,fun y' H' ⟨e1,c',e2,e3⟩=>?_⟩
  subst e1
  rw[hc']at e2
  cases e2
  exact⟨φ1,List.prefix_refl _,.refl _,R,e3⟩
 stop:=fun φ1 H1 S1 p m R e i hi=>by
  have:(z.cps.toList.map chr1).length<=i:=hi
  show z.cps.size<=i
  simpa using this
theorem q1z{tg l:Expr}{w:WE}(hl:SimE X G l w):SimI X G tg l (q5o w):=
 PI.imp (x5a hl) fun σV H Q hh1=>by obtain⟨φ,σ,S,Q0,L,R,h,k⟩:=hh1;exact(⟨φ,σ,S,_,L,R,h,fun v S1 φ1 H1 x q p1 m1 R1 r1=>by
  split at q
  ·rename_i n
   split at q
   ·rename_i xs e
    obtain ⟨a,rfl,qa⟩:=r1
    obtain ⟨vs,sa,ra⟩:=R1.seq qa e
    exact .inl ⟨a,rfl,⟨vs,sa⟩,k _ S1 φ1 H1 _ q p1 m1 R1 (y6n qa)⟩
   ·exact q.elim
  ·rename_i xs
   obtain ⟨a,vs,rfl,sa,ra⟩:=r1
   exact .inr (.inl ⟨a,rfl,⟨vs,sa⟩,k _ S1 φ1 H1 _ q p1 m1 R1 (x2h sa ra)⟩)
  ·rename_i xs
   obtain ⟨a,vs,rfl,sa,ra⟩:=r1
   exact .inl ⟨a,rfl,⟨vs,sa.sq⟩,k _ S1 φ1 H1 _ q p1 m1 R1 (x2k sa ra)⟩
  ·rename_i z
   cases r1
   exact .inr (.inr ⟨z,rfl,k _ S1 φ1 H1 _ q p1 m1 R1 x2i⟩)
  ·exact q.elim⟩)
def rngP(lo:Int)(n:Nat):List PV:=(List.range n).map fun i=>.int (lo+(i:Nat))
def q5j(wa:WA):WI:=fun σ S E Q=>wa σ S E fun xs S1=>match xs with
 |[.int j]=>(-(2 ^ 62)<=j/\j<2 ^ 62)/\Q ⟨rngP 0 j.toNat,fun _=>True⟩ S1
 |_=>False
theorem y2c{K:Frag}{φ:List Addr}{H:Hp}{lo:Int}{n:Nat}:ItR K φ H (Itr lo n) ⟨rngP lo n,fun _=>True⟩ where
 go:=fun φ1 H1 S1 p m R e i x hx=>by
  have hx':(rngP lo n)[i]?=some x:=hx
  unfold rngP at hx'
  rw[List.getElem?_map]at hx'
  obtain⟨c,hc,rfl⟩:=Option.map_eq_some_iff.mp hx'
  obtain⟨hl,rfl⟩:=List.getElem?_eq_some_iff.mp hc
  rw[List.getElem_range]
  refine⟨by show i<n;simpa using hl,fun y' H' hh1=>?_⟩
  obtain⟨e1,e2⟩:=hh1
  subst e1
  exact⟨φ1,List.prefix_refl _,.refl _,R,e2⟩
 stop:=fun φ1 H1 S1 p m R e i hi=>by
  have:(rngP lo n).length<=i:=hi
  unfold rngP at this
  show n<=i
  simpa using this
theorem q4t{tg a:Expr}{wa:WA}{p:Pos}(hm:X.mg "range" = none)(ha:SimA X G [a] wa)(hg:Gl X "range" :=by rfl)(hs:starEach [a] X.env=[(false,eval a X.env)]:=by rfl):SimI X G tg (.Call (.Name "range" p) [a] [] pos) (q5j wa):=
 PI.imp (y0p hg hm ha hs) fun σV H Q hh1=>by obtain⟨φ,σ,S,Q0,L,R,h,k⟩:=hh1;exact(⟨φ,σ,S,_,L,R,h,fun v S1 φ1 H1 x q p1 m1 R1 r1=>by
  split at q
  ·rename_i j
   obtain ⟨y,rfl,r⟩:=q2n r1
   cases r
   exact ⟨j,rfl,q.1.1,q.1.2,k _ S1 φ1 H1 _ q.2 p1 m1 R1 y2c⟩
  ·exact q.elim⟩)
def z3v(chk:q0h->Prop)(g:WG)(wb:WS)(D:PEnds)(E:EK):List PV->Loc->q0h->Prop
 |[],σ,S=>chk S/\D.nx σ S
 |x::r,σ,S=>chk S/\∃N:Loc->q0h->Prop,(∀σ' S',N σ' S'->z3v chk g wb D E r σ' S')/\g x σ S E fun σ2 S2=>wb {nx:=N,rt:=D.rt,ct:=N,bk:=D.nx} E σ2 S2
def wFor(wi:WI)(g:WG)(wb:WS):WS:=fun D E σ S=>wi σ S E fun it S1=>z3v it.chk g wb D E it.xs σ S1
theorem q2s{tg iter:Expr}{body:List Stmt}{wi:WI}{g:WG}{wb:WS}(hp:PassesOwn (model X.prog X.w) X.A X.env X.xe)(hc:X.calm=true)(hi:SimI X G tg iter wi)(hg:SimG X G tg g)(hb:z0o X G body wb)(hs:∀x,foldedSetIterable iter X.env x=pure x:=by intro _;rfl):SimS X G (.For tg iter body [] pos) (wFor wi g wb):=
 (x4u hp hc hi hg hb hs).imp fun D σV H hh1=>by obtain⟨φ,σ,S,D0,L,R,h,k⟩:=hh1;exact(⟨φ,σ,S,_,L,R,h,fun it S1 φ1 H1 J q p1 m1 R1 hj=>by
  refine ⟨fun i m σV' H'=>m=it.xs.length-i/\i<=it.xs.length/\∃φ' σ' S',φ1 <+: φ'/\Mono H1 H'/\LRel X.K G H' φ' σ' σV'/\Rel X.K φ' S' H'/\z3v it.chk g wb D0 G.ek (it.xs.drop i) σ' S',⟨it.xs.length,by simp,Nat.zero_le _,φ1,σ,S1,List.prefix_refl _,.refl _,L.mono m1 p1,R1,by simpa using q⟩,?_⟩
  rintro i m σV' H' ⟨rfl,hi,φ',σ',S',p',m',L',R',hf⟩
  by_cases hlt:i<it.xs.length
  ·rw [List.drop_eq_getElem_cons hlt]at hf
   obtain ⟨hch,N,hN,hb⟩:=hf
   obtain ⟨jg,jy⟩:=hj.go φ' H' S' p' m' R' hch i _ (List.getElem?_eq_getElem hlt)
   refine .inr ⟨jg,fun σ2V H2=>∃φ2 σ2 S2,φ' <+: φ2/\Mono H' H2/\LRel X.K G H2 φ2 σ2 σ2V/\Rel X.K φ2 S2 H2/\N σ2 S2,?_,?_⟩
   ·rintro σ2V H2 ⟨φ2,σ2,S2,p2,m2,L2,R2,hn⟩
    exact ⟨it.xs.length-(i+1),by omega,rfl,hlt,φ2,σ2,S2,p'.trans p2,m'.trans m2,L2,R2,hN σ2 S2 hn⟩
   ·intro y H2 hy
    obtain ⟨φ2,p2,m2,R2,r2⟩:=jy y H2 hy
    refine ⟨φ2,_,σ',S',_,L'.mono m2 p2,R2,r2,hb,fun σ3 S3 φ3 H3 σ3V q3 p3 m3 R3 L3=>?_⟩
    refine ⟨φ3,σ3,S3,_,L3,R3,q3,⟨?_,k.rt.up (((p1.trans p').trans p2).trans p3) (((m1.trans m').trans m2).trans m3),k.nx.up (((p1.trans p').trans p2).trans p3) (((m1.trans m').trans m2).trans m3),?_⟩⟩
    ·exact fun σ4 S4 φ4 H4 σ4V q4 p4 m4 R4 L4=>⟨φ4,σ4,S4,(p2.trans p3).trans p4,(m2.trans m3).trans m4,L4,R4,q4⟩
    ·exact fun σ4 S4 φ4 H4 σ4V q4 p4 m4 R4 L4=>⟨φ4,σ4,S4,(p2.trans p3).trans p4,(m2.trans m3).trans m4,L4,R4,q4⟩
  ·have e:i=it.xs.length:=by omega
   subst e
   rw [List.drop_length]at hf
   exact .inl ⟨hj.stop φ' H' S' p' m' R' hf.1 _ (Nat.le_refl _),k.nx σ' S' φ' H' σV' hf.2 (p1.trans p') (m1.trans m') R' L'⟩⟩)
def z0b(ix:List (Option Nat))(σ:Loc):Loc:=ix.map fun o=>match o with
 |none=>none
 |some j=>match σ[j]? with
  |some v=>v
  |none=>none
abbrev NoX:EK:=fun _ _=>False
abbrev NoG:GX:=⟨NoX,fun _ _=>False⟩
def q7e(chk:q0h->Prop)(g:WG)(wc:WT)(we:WE)(Q:VC):List PV->List PV->Loc->q0h->Prop
 |[],ys,_,S=>chk S/\Q (.ref S.length) (S++[.lst ys])
 |x::r,ys,σ,S=>chk S/\∃N:List PV->Loc->q0h->Prop,(∀ys' σ' S',N ys' σ' S'->q7e chk g wc we Q r ys' σ' S')/\g x σ S NoX fun σ2 S2=>wc σ2 S2 NoX fun b S3=>if b=true then we σ2 S3 NoX (fun y S4=>N (ys++[y]) σ2 S4)else N ys σ2 S3
def q4x:WT:=fun _ S _ Q=>Q true S
def q7l(wi:WI)(ix:List (Option Nat))(g:WG)(wc:WT)(we:WE):WE:=fun σ S E Q=>wi σ S E fun it S1=>it.xs.length<=sizeLine/\q7e it.chk g wc we Q it.xs [] (z0b ix σ) S1
theorem z0a{K:Frag}{H:Hp}{φ:List Addr}{σ:Loc}{σV:St}(ix:List (Option Nat))(L:LRel K G H φ σ σV):LRel K NoG H φ (z0b ix σ) (q3d ix σV):=by
 refine⟨by simp[z0b,q3d],fun i v e=>?_,fun _ _ _ _ q=>q.elim⟩
 unfold z0b at e
 rw[List.getElem?_map]at e
 obtain⟨o,ho,e'⟩:=Option.map_eq_some_iff.mp e
 cases o with
 |none=>cases e'
 |some j=>
  dsimp only at e'
  cases hj:σ[j]? with
  |none=>rw[hj]at e';cases e'
  |some w=>
   rw[hj]at e'
   dsimp only at e'
   subst e'
   obtain⟨x,hx,r⟩:=L.at' j v hj
   refine⟨x,?_,r⟩
   unfold q3d
   rw[List.getElem?_map,ho]
   simp[hx]
end
end Ev
namespace Ev
open PySem L2 PySem.Spec PyProof.Rows
section
variable{X:Cx}{G:GX}{pos:Pos}
def sqOf(x:PV)(S:q0h):Option (Bool×List PV):=match x with
 |.tup xs=>some (true,xs)
 |.frl xs=>some (false,xs)
 |.ref n=>(q6z S n).map fun xs=>(false,xs)
 |_=>none
theorem z0s{K:Frag}{φ:List Addr}{H:Hp}{S:q0h}{x:PV}{x':V}{tp:Bool}{xs:List PV}(R:Rel K φ S H)(r:RV K H φ x x')(e:sqOf x S=some (tp,xs)):∃a vs,x'=.ref a/\Sq tp K H a vs/\RVs K H φ xs vs:=by
 unfold sqOf at e
 split at e
 ·cases e
  obtain⟨a,vs,rfl,sa,ra⟩:=r
  exact⟨a,vs,rfl,sa,ra⟩
 ·cases e
  obtain⟨a,vs,rfl,sa,ra⟩:=r
  exact⟨a,vs,rfl,sa.sq,ra⟩
 ·obtain⟨ys,e1,e2⟩:=Option.map_eq_some_iff.mp e
  cases e2
  obtain⟨a,rfl,qa⟩:=r
  obtain⟨vs,ea,ra⟩:=R.lst qa e1
  exact⟨a,vs,rfl,SqL.of ea,ra⟩
 ·cases e
def zipP(xs ys:List PV):List PV:=(xs.zip ys).map fun p=>.tup [p.1,p.2]
def y3x(wa:WA):WI:=fun σ S E Q=>wa σ S E fun vs S1=>match vs with
 |[x,y]=>match sqOf x S1,sqOf y S1 with
  |some (tp,xs),some (tq,ys)=>Q ⟨zipP xs ys,fun S=>sqOf x S=some (tp,xs)/\sqOf y S=some (tq,ys)⟩ S1
  |_,_=>False
 |_=>False
theorem z1n{K:Frag}{φ φ1:List Addr}{H H1:Hp}{x:PV}{x':V}(m:Mono H H1)(p:φ <+: φ1)(r:RV K H φ x x'):RV K H1 φ1 x x':=RV.mono m p _ _ r
theorem x2g{K:Frag}{φ:List Addr}{H:Hp}{x y:PV}{a b:Addr}{tp tq:Bool}{xs ys:List PV}(rx:RV K H φ x (.ref a))(ry:RV K H φ y (.ref b)):ItR K φ H (Itz tp tq K a b) ⟨zipP xs ys,fun S=>sqOf x S=some (tp,xs)/\sqOf y S=some (tq,ys)⟩ where
 go:=fun φ1 H1 S1 p m R hh1 i z hz=>by
  obtain⟨e1,e2⟩:=hh1
  obtain⟨a',vs,ea,sa,ra⟩:=z0s R (z1n m p rx) e1
  obtain⟨b',ws,eb,sb,rb⟩:=z0s R (z1n m p ry) e2
  cases ea
  cases eb
  have hz':(zipP xs ys)[i]?=some z:=hz
  unfold zipP at hz'
  rw[List.getElem?_map]at hz'
  obtain⟨⟨u,v⟩,hu,rfl⟩:=Option.map_eq_some_iff.mp hz'
  obtain⟨h1,h2⟩:=List.getElem?_zip_eq_some.mp hu
  obtain⟨u',g1,q1⟩:=ra.get h1
  obtain⟨v',g2,q2⟩:=rb.get h2
  refine⟨⟨vs,ws,u',v',sa,sb,g1,g2⟩,fun y' H' hh2=>?_⟩
  obtain⟨p',x1,x2,e1,hp,e2,h3,h4⟩:=hh2
  subst e1 e2
  have:=h3 vs sa
  rw[g1]at this
  cases this
  have:=h4 ws sb
  rw[g2]at this
  cases this
  exact⟨φ1,List.prefix_refl _,.new _ hp,R.frame _ hp,p',_,rfl,SqT.of q1r,RVs.mono (.new _ hp) (List.prefix_refl _) _ _ (.cons q1 (.one q2))⟩
 stop:=fun φ1 H1 S1 p m R hh3 i hi=>by
  obtain⟨e1,e2⟩:=hh3
  obtain⟨a',vs,ea,sa,ra⟩:=z0s R (z1n m p rx) e1
  obtain⟨b',ws,eb,sb,rb⟩:=z0s R (z1n m p ry) e2
  cases ea
  cases eb
  refine⟨vs,ws,sa,sb,?_⟩
  have:(zipP xs ys).length<=i:=hi
  unfold zipP at this
  rw[List.length_map,List.length_zip,ra.length,rb.length]at this
  omega
theorem y4v{es:List Expr}{kk:Nat}{ps:Pos}{a b:Expr}{wa:WA}{p:Pos}(hm:X.mg "zip" = none)(ha:SimA X G [a,b] wa)(hg:Gl X "zip" :=by rfl)(hs:starEach [a,b] X.env=[(false,eval a X.env),(false,eval b X.env)]:=by rfl)(hs2:starEach [b] X.env=[(false,eval b X.env)]:=by rfl):SimI X G (.Tuple es kk ps) (.Call (.Name "zip" p) [a,b] [] pos) (y3x wa):=
 PI.imp (x4x hg hm ha hs hs2) fun σV H Q hh1=>by obtain⟨φ,σ,S,Q0,L,R,h,k⟩:=hh1;exact(⟨φ,σ,S,_,L,R,h,fun v S1 φ1 H1 x q p1 m1 R1 r1=>by
  split at q
  ·rename_i x1 x2
   split at q
   ·rename_i tp xs tq ys e1 e2
    obtain ⟨y1,y2,rfl,g1,g2⟩:=q9d r1
    obtain ⟨a',vs,rfl,sa,ra⟩:=z0s R1 g1 e1
    obtain ⟨b',ws,rfl,sb,rb⟩:=z0s R1 g2 e2
    exact ⟨tp,tq,a',b',vs,ws,rfl,sa,sb,k _ S1 φ1 H1 _ q p1 m1 R1 (x2g g1 g2)⟩
   ·exact q.elim
  ·exact q.elim⟩)
end
abbrev Den:=List PV->q0h->EK->VC->Prop
def ClsP(K:Frag)(v:PV)(cls:Value):Prop:=∃c C,v=.exc c/\cls=.ref C/\PySem.W.nsIn K mainGlobals (Str.ofString c)=some (some (.ref C))
def xkOf(K:Frag)(f:PV->Hp->Prop):XK:=fun cls _ H'=>∃v,ClsP K v cls/\f v H'
def KX(K:Frag)(φ:List Addr)(H:Hp)(E0:EK)(f:PV->Hp->Prop):Prop:=∀v S' φ' H',E0 v S'->φ <+: φ'->Mono H H'->Rel K φ' S' H'->f v H'
theorem y0u{P:Program}{w:World}{X:Cx}{K:Frag}:q5x (CXE P w) X (xkOf K NoG.xh):=x5p.imp fun _ _ _ hh1=>by obtain⟨_,_,q⟩:=hh1;exact(q)
def q1d(K:Frag)(sp:Den):Sp:=fun vs H Q E=>∃φ args S Q0 E0 f,RVs K H φ args vs/\Rel K φ S H/\sp args S E0 Q0/\KE K φ H Q0 Q/\KX K φ H E0 f/\∀cls d H',xkOf K f cls d H'->E cls d H'
def q0t(sp:Den)(wa:WA):WE:=fun σ S E Q=>wa σ S E fun xs S1=>sp xs S1 E Q
theorem q0i{X:Cx}{G:GX}{pos:Pos}{k:Nat}{f:Addr}{fd:FuncData}{ps:List Str}{sp:Den}{x:Str}{p:Pos}{e:Expr}{es:List Expr}{wa:WA}(C:Cal X.prog X.w X.K X.mg X.base k x ps (q1d X.K sp) f fd)(hr:Room k X.A)(hx:q5x (CXE X.prog X.w) X (xkOf X.K G.xh))(ha:SimA X G (e::es) wa)(hg:Gl X x:=by rfl)
  (hdb:(x==("__debug__" : Str))=false:=by decide) (he:starEach (e::es) X.env=(false,eval e X.env)::starEach es X.env:=by rfl) (hpl:(backTo pos (starEach es X.env)).any (·.1)=false:=by rfl) :
  SimE X G (.Call (.Name x p) (e::es) [] pos) (q0t sp wa):=
 (x0z C.G hr hg C.m C.kp C.b .nil hx ha hdb he hpl).imp fun σV H Q hh1=>by obtain⟨φ,σ,S,Q0,L,R,h,k⟩:=hh1;exact(⟨φ,σ,S,_,L,R,h,fun v S1 φ1 H1 x q p1 m1 R1 r1=>
  ⟨φ1,v,S1,Q0,G.ek,G.xh,by rw [List.append_nil];exact r1,R1,q,k.up p1 m1,(L.mono m1 p1).kx,fun _ _ _ z=>z⟩⟩)
def fnP(np nl:Nat)(w:WS):Den:=fun args S E Q=>args.length=np/\w {nx:=fun _ S'=>Q .non S',rt:=Q} E (args.map some++List.replicate (nl-np) none) S
theorem z9t{K:Frag}{G:GX}{H:Hp}{φ:List Addr}{args:List PV}{vs:List V}(N:List Str)(r:RVs K H φ args vs)(kx:KX K φ H G.ek G.xh):LRel K G H φ (args.map some++List.replicate (N.length-args.length) none) (L2.q9f N vs):=by
 refine⟨by unfold L2.q9f;simp[r.length],fun i v e=>?_,kx⟩
 by_cases hi:i<args.length
 ·rw[List.getElem?_append_left (by simpa using hi),List.getElem?_map]at e
  obtain⟨u,hu,e'⟩:=Option.map_eq_some_iff.mp e
  cases e'
  obtain⟨x,hx,rx⟩:=r.get hu
  refine⟨x,?_,rx⟩
  unfold L2.q9f
  rw[List.getElem?_append_left (by simpa[<-r.length]using hi),List.getElem?_map,hx]
  rfl
 ·rw[List.getElem?_append_right (by simpa using hi),List.getElem?_replicate]at e
  split at e<;>cases e
theorem x7u{P:Program}{w:World}{K:Frag}{mg:Str->Option Value}{base:Heap}{x qual:Str}{st:Stmt}{f:Addr}{fd:FuncData}{N ps:List Str}{k:Nat}{wb:WS}(F:Fun K x qual st f fd)(Sc:FnScope N ps (q1t st))
  (sim:∀(cdv:Value)(A:Around)(outer:List Env)(s:Shared)(H:Hp)(E:XK)(G:GX),RoomW k (A.deeper (envOfC qual (q1t st) s.heap.objs.size f cdv))->q5x (CXE P w) (cxOf (CXE P w) P w K mg base N qual (q1t st) f cdv A outer s H E) (xkOf K G.xh)->
   z0o (cxOf (CXE P w) P w K mg base N qual (q1t st) f cdv A outer s H E) G (q6e st) wb) :
  FnOk P w K mg base (CXE P w) (k+1) f fd ps (q1d K (fnP ps.length N.length wb)):=by
 refine F.okX Sc (fun vs H Q E h=>?_) (fun cdv A outer s H vs Q E hr h=>?_)
 ·obtain⟨φ,args,S,Q0,E0,g,r,_,⟨h,_⟩,_⟩:=h
  rw[<-r.length,h]
 ·obtain⟨φ,args,S,Q0,E0,g,r,R,⟨hl,h⟩,kk,kx,hE⟩:=h
  refine⟨_,sim cdv A outer s H E ⟨E0,g⟩ hr (x9o.imp hE),φ,_,S,{nx:=fun _ S'=>Q0 .non S',rt:=Q0},?_,R,h,⟨fun σ' S' φ' H' σV' q p m R' L'=>kk _ S' φ' H' _ q p m R' rfl,kk,fun _ _ _ _ _ q=>q.elim,fun _ _ _ _ _ q=>q.elim⟩⟩
  have:=z9t (G:=⟨E0,g⟩) N r kx
  rw[hl]at this
  exact this
theorem q1s{P:Program}{w:World}{K:Frag}{mg:Str->Option Value}{base:Heap}{k:Nat}{f:Addr}{fd:FuncData}{ps:List Str}:FnOk P w K mg base (CXE P w) k f fd ps (q1d K fun _ _ _ _=>False):=
 ⟨fun vs H Q E hh1=>by obtain⟨_,_,_,_,_,_,_,_,h,_⟩:=hh1;exact(h.elim),fun A outer s H args us vs Q E _ _ _ _ hh2=>by obtain⟨_,_,_,_,_,_,_,_,h,_⟩:=hh2;exact(h.elim)⟩
def LawP(sp:Den):Prop:=∀ns:List Int,ns.length<=63->sp [.frl (ns.map .int)] [] NoX fun v _=>v=.bl true
theorem x6q{K:Frag}{sp:Den}(h:LawP sp):∀(H:Hp)(a:Addr)(ns:List Int),ns.length<=63->Only H->SqL K H a (ns.map V.int)->q1d K sp [.ref a] H (fun v _=>v=.bl true) fun _ _ _=>False:=by
 intro H a ns hl hO hS
 refine⟨[],[.frl (ns.map .int)],[],_,NoX,fun _ _=>False,⟨_,_,rfl,⟨a,_,rfl,?_,RVs.of_ints ns⟩,rfl⟩,⟨rfl,by simp,fun n a o e=>by simp at e⟩,h ns hl,fun v S' φ' H' x q p m R r=>?_,fun _ _ _ _ q=>q.elim,fun _ _ _ hh1=>by obtain⟨_,_,q⟩:=hh1;exact(q)⟩
 ·rcases hS with hS|hS
  ·rcases hS with z|⟨o,z⟩
   ·rcases hO a with w|⟨o,xs,w⟩
    ·rw[z]at w;cases w
    ·rw[z]at w;cases w
   ·exact .inl ⟨o,z⟩
  ·exact .inr hS
 ·subst q
  exact r
end Ev
namespace L2
open PySem PySem.Spec PyProof.Rows
theorem y7h:bootBuiltins "max" = some (.builtin "max"):=by kernel_rfl
section
variable{prog:Program}{w:World}{A:Around}{E:Value->Shared->Prop}{s:Shared}
end
end L2
namespace Ev
open PySem L2
section
variable{X:Cx}{G:GX}{pos:Pos}
abbrev WD:=Loc->q0h->EK->(List (Key×PV)->q0h->Prop)->Prop
def KD(K:Frag)(φ:List Addr)(H:Hp)(Q0:List (Key×PV)->q0h->Prop)(Q:List (V×V)->Hp->Prop):Prop:=∀kvs S' φ' H' ws,Q0 kvs S'->φ <+: φ'->Mono H H'->Rel K φ' S' H'->RKs K H' φ' kvs ws->Q (ws.map fun kv=>(kV kv.1,kv.2)) H'
def x9y(K:Frag)(G:GX)(w:WD)(σV:St)(H:Hp)(Q:List (V×V)->Hp->Prop):Prop:=∃φ σ S Q0,LRel K G H φ σ σV/\Rel K φ S H/\w σ S G.ek Q0/\KD K φ H Q0 Q
def SimD(X:Cx)(G:GX)(pos:Pos)(ks:List (Option Expr))(vs:List Expr)(w:WD):Prop:=∃trs,PPs X pos ks vs trs/\∀σV H Q,x9y X.K G w σV H Q->z6l trs σV H Q
def y3z:WD:=fun _ S _ Q=>Q [] S
def q8k(wk wv:WE)(w:WD):WD:=fun σ S E Q=>wk σ S E fun k S1=>wv σ S1 E fun v S2=>match q8r k with
 |some kk=>w σ S2 E fun kvs S3=>Q ((kk,v)::kvs) S3
 |none=>False
theorem y4x:SimD X G pos [] [] y3z:=⟨[],x0q,fun σV H Q hh1=>by obtain⟨φ,σ,S,Q0,L,R,h,k⟩:=hh1;exact(k [] S φ H [] h (List.prefix_refl _) (.refl _) R .nil)⟩
theorem q6n{k v:Expr}{ks:List (Option Expr)}{vs:List Expr}{wk wv:WE}{w:WD}(hk:SimE X G k wk)(hv:SimE X G v wv)(hr:SimD X G pos ks vs w):SimD X G pos (some k::ks) (v::vs) (q8k wk wv w):=by
 obtain⟨trs,hp,hi⟩:=hr
 refine⟨_,y5l hk hv hp,fun σV H Q hh1=>?_⟩
 obtain⟨φ,σ,S,Q0,L,R,h,kk⟩:=hh1
 refine⟨φ,σ,S,_,L,R,h,fun pk S1 φ1 H1 x q p1 m1 R1 r1=>⟨φ1,σ,S1,_,L.mono m1 p1,R1,q,fun pv S2 φ2 H2 y q2 p2 m2 R2 r2=>?_⟩⟩
 refine hi _ _ _ ?_
 split at q2
 ·rename_i key ek
  refine⟨φ2,σ,S2,_,(L.mono m1 p1).mono m2 p2,R2,q2,fun kvs S3 φ3 H3 ws q3 p3 m3 R3 r3=>?_⟩
  have:=kk ((key,pv)::kvs) S3 φ3 H3 ((key,y)::ws) q3 ((p1.trans p2).trans p3) ((m1.trans m2).trans m3) R3 (.cons ⟨rfl,RV.mono m3 p3 _ _ r2⟩ r3)
  rw[q7i r1 ek]
  exact this
 ·exact q2.elim
def z7a(kvs more:List (Key×PV)):List (Key×PV):=more.foldl (fun acc kv=>putP acc kv.1 kv.2) kvs
theorem RKs.merge{K:Frag}{H:Hp}{φ:List Addr}{more:List (Key×PV)}{rs:List (Key×V)}(r:RKs K H φ more rs):∀{kvs:List (Key×PV)}{vs:List (Key×V)},RKs K H φ kvs vs->RKs K H φ (z7a kvs more) (z0y vs rs):=by
 unfold RKs at r
 induction r with
 |nil=>intro kvs vs q;exact q
 |@cons p q ps qs h t ih=>
  intro kvs vs r0
  have e:RKs K H φ (putP kvs p.1 p.2) (putK vs q.1 q.2):=by
   have:=r0.put p.1 h.2
   rw[<-h.1];exact this
  exact ih e
def y4b(w:WD):WE:=fun σ S E Q=>w σ (S++[.dK []]) E fun kvs S1=>(S1[S.length]?=some (.dK [])/\kvs.length<=15)/\Q (.ref S.length) (S1.set S.length (.dK (z7a [] kvs)))
theorem y4u{keys:List (Option Expr)}{values:List Expr}{w:WD}(h:SimD X G pos keys values w)(hall:keys.all (·.isSome)=true:=by rfl)(hl:keys.length=values.length:=by rfl)(h0:keys≠[]:=by simp)(h15:keys.length<=15:=by decide):SimE X G (.Dict keys values pos) (y4b w):=by
 obtain⟨trs,hp,hi⟩:=h
 refine(x0x hp hall hl h0 h15).imp fun σV H Q hh1=>?_
 obtain⟨φ,σ,S,Q0,L,R,h,k⟩:=hh1
 intro p hp
 refine hi _ _ _ ?_
 have R1:Rel X.K (φ++[p]) (S++[.dK []]) (upd H p (.dK [])):=R.new (o:=.dK []) hp ⟨[],q1r,.nil⟩
 refine⟨φ++[p],σ,_,_,L.mono (.new _ hp) (List.prefix_append _ _),R1,h,fun kvs S' φ' H' ws q p' m' R' r'=>?_⟩
 obtain⟨⟨e,hl⟩,q⟩:=q
 have ep:φ'[S.length]?=some p:=q4u p' (by rw[<-R.len];simp)
 obtain⟨vs,ev,rv⟩:=R'.obj _ _ _ ep e
 have:vs=[]:=List.length_eq_zero_iff.mp (by rw[<-RKs.length rv];rfl)
 subst this
 refine⟨ev,ws,rfl,by rw[<-RKs.length r'];exact hl,?_⟩
 refine k _ _ φ' _ _ q ((List.prefix_append _ _).trans p') (((Mono.new _ hp).trans m').trans (.dict ev)) (R'.put (o:=.dK (z7a [] kvs)) ep (.dict ev) ⟨_,q1r,?_⟩) ⟨p,rfl,ep⟩
 exact RKs.mono (.dict ev) (List.prefix_refl _) (RKs.merge r' .nil)
end
section
variable{X:Cx}{G:GX}{pos:Pos}
theorem q8f{K:Frag}{w:WI}(σ:St)(H:Hp)(R R':It->Hp->Prop)(h:∀J H1,R J H1->R' J H1)(q:y1q K G w σ H R):y1q K G w σ H R':=by
 obtain⟨φ,σ,S,Q0,L,R,hw,k⟩:=q
 exact⟨φ,σ,S,Q0,L,R,hw,fun it S' φ' H' J q p m R hj=>h _ _ (k it S' φ' H' J q p m R hj)⟩
theorem z0g{tg iter elt c:Expr}{scope:Scope}{wi:WI}{g:WG}{wc:WT}{we:WE}{ix:List (Option Nat)}{σV:St}{H:Hp}{Q:VK}(h:q6b X.K G (q7l wi ix g wc we) σV H Q):z4u (y1q X.K G wi) ix (z3e X.K NoG g) (z3d X.K NoG wc) (q6b X.K NoG we) σV H Q:=by
 obtain⟨φ,σ,S,Q0,L,R,h,k⟩:=h
 refine⟨φ,σ,S,_,L,R,h,fun it S1 φ1 H1 J hh1 p1 m1 R1 hj=>?_⟩
 obtain⟨hz,q⟩:=hh1
 refine⟨fun i ys σV' H'=>∃φ' σ' S' pys,φ1 <+: φ'/\Mono H1 H'/\LRel X.K NoG H' φ' σ' σV'/\Rel X.K φ' S' H'/\RVs X.K H' φ' pys ys/\q7e it.chk g wc we Q0 (it.xs.drop i) pys σ' S',it.xs.length,hz,⟨φ1,_,S1,[],List.prefix_refl _,.refl _,z0a ix (L.mono m1 p1),R1,rfl,by simpa using q⟩,?_⟩
 rintro i ys σV' H' hi ⟨φ',σ',S',pys,p',m',L',R',rys,hf⟩
 by_cases hlt:i<it.xs.length
 ·rw[List.drop_eq_getElem_cons hlt]at hf
  obtain⟨hch,N,hN,hb⟩:=hf
  obtain⟨jg,jy⟩:=hj.go φ' H' S' p' m' R' hch i _ (List.getElem?_eq_getElem hlt)
  refine .inr ⟨hlt,jg,fun y H2 hy=>?_⟩
  obtain⟨φ2,p2,m2,R2,r2⟩:=jy y H2 hy
  refine⟨φ2,_,σ',S',_,L'.mono m2 p2,R2,r2,hb,fun σ3 S3 φ3 H3 σ3V q3 p3 m3 R3 L3=>?_⟩
  refine⟨φ3,σ3,S3,_,L3,R3,q3,fun b S4 φ4 H4 q4 p4 m4 R4=>?_⟩
  cases b with
  |true=>
   have hw:we σ3 S4 NoX (fun y S4=>N (pys++[y]) σ3 S4):=q4
   refine⟨φ4,σ3,S4,_,L3.mono m4 p4,R4,hw,fun z S5 φ5 H5 z' q5 p5 m5 R5 r5=>?_⟩
   exact⟨φ5,σ3,S5,pys++[z],(((p'.trans p2).trans p3).trans p4).trans p5,(((m'.trans m2).trans m3).trans m4).trans m5,(L3.mono m4 p4).mono m5 p5,R5,(RVs.mono (((m2.trans m3).trans m4).trans m5) (((p2.trans p3).trans p4).trans p5) _ _ rys).append (.one r5),hN _ _ _ q5⟩
  |false=>exact⟨φ4,σ3,S4,pys,((p'.trans p2).trans p3).trans p4,((m'.trans m2).trans m3).trans m4,L3.mono m4 p4,R4,RVs.mono ((m2.trans m3).trans m4) ((p2.trans p3).trans p4) _ _ rys,hN _ _ _ q4⟩
 ·have e:i=it.xs.length:=by omega
  subst e
  rw[List.drop_length]at hf
  exact .inl ⟨hj.stop φ' H' S' p' m' R' hf.1 _ (Nat.le_refl _),(k.up (p1.trans p') (m1.trans m')).lst hf.2 R' rys⟩
theorem z6n{D:Ends}{σV:St}{H:Hp}{i:Nat}{w:WE}(h:x1r X.K G (wSet i w) D σV H):q6b X.K G w σV H fun v H1=>D.nx (σV.set i (some v)) H1:=by
 obtain⟨φ,σ,S,D0,L,R,h,k⟩:=h
 exact⟨φ,σ,S,_,L,R,h,fun v S1 φ1 H1 x q p1 m1 R1 r1=>k.nx _ S1 φ1 H1 _ q p1 m1 R1 ((L.mono m1 p1).set i r1)⟩
theorem z9o{K:Frag}(σ:St)(H:Hp)(Q:Bool->Hp->Prop)(h:z3d K NoG q4x σ H Q):Q true H:=by
 obtain⟨φ,σ,S,Q0,L,R,h,k⟩:=h
 exact k true S φ H h (List.prefix_refl _) (.refl _) R
theorem q8z{tg iter elt:Expr}{scope:Scope}{wi:WI}{g:WG}{we:WE}(N':List Str)(ix:List (Option Nat))(hc:X.calm=true)(co:CompOk X scope N' ix)(hi:SimI X G tg iter wi)(hg:∀cl C s H fp,SimG (X.comp scope N' cl C s H fp) NoG tg g)(he:∀cl C s H fp,SimE (X.comp scope N' cl C s H fp) NoG elt we)
  (hs:∀x,foldedSetIterable iter X.env x=pure x:=by intro _;rfl):SimE X G (.ListComp elt [⟨tg,iter,[],0⟩] scope pos) (q7l wi ix g q4x we):=
 (z6r (g:=z3e X.K NoG g) (tc:=z3d X.K NoG q4x) (te:=q6b X.K NoG we) hc co hi q8f hg (fun _ _ _ _ _=>x0l z9o) he hs).imp fun σV H Q h=>z0g (tg:=tg) (iter:=iter) (elt:=elt) (c:=elt) (scope:=scope) h
theorem z0v{tg iter elt c:Expr}{scope:Scope}{wi:WI}{g:WG}{wc:WT}{we:WE}(N':List Str)(ix:List (Option Nat))(hc:X.calm=true)(co:CompOk X scope N' ix)(hi:SimI X G tg iter wi)(hg:∀cl C s H fp,SimG (X.comp scope N' cl C s H fp) NoG tg g)(ht:∀cl C s H fp,SimT (X.comp scope N' cl C s H fp) NoG c wc)(he:∀cl C s H fp,SimE (X.comp scope N' cl C s H fp) NoG elt we)
  (hs:∀x,foldedSetIterable iter X.env x=pure x:=by intro _;rfl):SimE X G (.ListComp elt [⟨tg,iter,[c],0⟩] scope pos) (q7l wi ix g wc we):=
 (z6r (g:=z3e X.K NoG g) (tc:=z3d X.K NoG wc) (te:=q6b X.K NoG we) hc co hi q8f hg (fun cl C s H fp=>y0j (ht cl C s H fp)) he hs).imp fun σV H Q h=>z0g (tg:=tg) (iter:=iter) (elt:=elt) (c:=c) (scope:=scope) h
theorem q7o(i:Nat){x:Str}{px sp:Pos}{tg iter elt c:Expr}{scope:Scope}{wi:WI}{g:WG}{wc:WT}{we:WE}(N':List Str)(ix:List (Option Nat))(hN:X.N.Nodup)(hc:X.calm=true)(co:CompOk X scope N' ix)(hi:SimI X G tg iter wi)(hg:∀cl C s H fp,SimG (X.comp scope N' cl C s H fp) NoG tg g)(ht:∀cl C s H fp,SimT (X.comp scope N' cl C s H fp) NoG c wc)(he:∀cl C s H fp,SimE (X.comp scope N' cl C s H fp) NoG elt we)
  (hsw:swapsWith (.ListComp elt [⟨tg,iter,[c],0⟩] scope pos) (some (.Name x px)) sp.line X.env=pure true:=by rfl) (hii:X.N[i]?=some x:=by rfl) (hx:L2.Loc X.env.scope x:=by first|exact Or.inl rfl|exact Or.inr rfl)
  (hs:∀x,foldedSetIterable iter X.env x=pure x:=by intro _;rfl) (hf:X.fn x=true\/X.env.scope.names.lookup x=some .local:=by first|exact .inl rfl|exact .inr rfl|assumption) :
  SimS X G (.Assign [.Name x px] (.ListComp elt [⟨tg,iter,[c],0⟩] scope pos) sp) (wSet i (q7l wi ix g wc we)):=
 (z4z (g:=z3e X.K NoG g) (tc:=z3d X.K NoG wc) (te:=q6b X.K NoG we) hsw hN hii hx hc co hi q8f hg (fun cl C s H fp=>y0j (ht cl C s H fp)) he hs hf).imp fun D σV H h=>z0g (tg:=tg) (iter:=iter) (elt:=elt) (c:=c) (scope:=scope) (z6n h)
end
end Ev
namespace My
open PySem L2 Ev
def Ex(D:List Nat)(S S':q0h):Prop:=S.length<=S'.length/\∀i,i<S.length->i∉D->S'[i]?=S[i]?
theorem Ex.refl(D:List Nat)(S:q0h):Ex D S S:=⟨Nat.le_refl _,fun _ _ _=>rfl⟩
theorem Ex.trans{D:List Nat}{S S1 S2:q0h}(a:Ex D S S1)(b:Ex D S1 S2):Ex D S S2:=⟨Nat.le_trans a.1 b.1,fun i h n=>(b.2 i (Nat.lt_of_lt_of_le h a.1) n).trans (a.2 i h n)⟩
theorem Ex.weak{D D':List Nat}{S S':q0h}(a:Ex D S S')(h:∀i∈D,i∈D'):Ex D' S S':=⟨a.1,fun i l n=>a.2 i l fun z=>n (h i z)⟩
theorem Ex.nil{D:List Nat}{S S':q0h}(a:Ex [] S S'):Ex D S S':=a.weak fun i h=>by cases h
theorem Ex.app{D:List Nat}{S S':q0h}(a:Ex D S S')(xs:List SO):Ex D S (S'++xs):=⟨by rw[List.length_append];exact Nat.le_trans a.1 (Nat.le_add_right _ _),fun i h n=>by rw[List.getElem?_append_left (Nat.lt_of_lt_of_le h a.1)];exact a.2 i h n⟩
theorem Ex.set{D:List Nat}{S S':q0h}(a:Ex D S S'){i:Nat}{o:SO}(hi:i∈D\/S.length<=i):Ex D S (S'.set i o):=⟨by rw[List.length_set];exact a.1,fun j h n=>by
 rw [List.getElem?_set_ne]
 ·exact a.2 j h n
 ·rintro rfl
  rcases hi with z|z
  ·exact n z
  ·omega⟩
theorem Ex.get{D:List Nat}{S S':q0h}(a:Ex D S S'){i:Nat}{o:SO}(e:S[i]?=some o)(n:i∉D):S'[i]?=some o:=by
 rw[a.2 i (List.getElem?_eq_some_iff.mp e).1 n];exact e
theorem Ex.new(D:List Nat)(S:q0h)(xs:List SO):Ex D S (S++xs):=(Ex.refl D S).app xs
theorem q1h(S:q0h)(o:SO):(S++[o])[S.length]?=some o:=by simp
theorem q2p{S:q0h}{i:Nat}{o:SO}(e:S[i]?=some o)(xs:List SO):(S++xs)[i]?=some o:=by
 rw[List.getElem?_append_left (List.getElem?_eq_some_iff.mp e).1];exact e
theorem q1u{S:q0h}{i:Nat}{o:SO}(u:SO)(e:S[i]?=some o):(S.set i u)[i]?=some u:=List.getElem?_set_self (List.getElem?_eq_some_iff.mp e).1
theorem q3n{S:q0h}{i j:Nat}{o:SO}(u:SO)(e:S[i]?=some o)(h:j≠i):(S.set j u)[i]?=some o:=by rw[List.getElem?_set_ne h];exact e
theorem q1j{S:q0h}{i:Nat}{o:SO}(e:S[i]?=some o):i<S.length:=(List.getElem?_eq_some_iff.mp e).1
theorem q1m{S:q0h}{n:Nat}{xs:List PV}(e:S[n]?=some (.lst xs)):q6z S n=some xs:=by unfold q6z;rw[e]
theorem q0v{S:q0h}{n:Nat}{xs:List PV}(e:S[n]?=some (.lst xs)):q3o S n=some xs:=by unfold q3o;rw[e]
theorem z4x(S:q0h)(xs:List PV):q3o (S++[.lst xs]) S.length=some xs:=q0v (q1h _ _)
theorem x1o(S:q0h)(xs:List PV):q6z (S++[.lst xs]) S.length=some xs:=q1m (q1h _ _)
theorem seqI{a b:WS}{D:PEnds}{E:EK}{σ:Ev.Loc}{S:q0h}(h:∀K:Ev.Loc->q0h->Prop,(∀σ S,b D E σ S->K σ S)->a {D with nx:=K} E σ S):wSeq a b D E σ S:=h _ fun _ _ z=>z
theorem forI{chk:q0h->Prop}{g:WG}{wb:WS}{D:PEnds}{E:EK}(P:List PV->Ev.Loc->q0h->Prop)(hn:∀σ S,P [] σ S->chk S/\D.nx σ S)
  (hc:∀x r σ S,P (x::r) σ S->∀N:Ev.Loc->q0h->Prop,(∀σ S,P r σ S->N σ S)->chk S/\g x σ S E fun σ2 S2=>wb {nx:=N,rt:=D.rt,ct:=N,bk:=D.nx} E σ2 S2):∀(xs:List PV)(σ:Ev.Loc)(S:q0h),P xs σ S->z3v chk g wb D E xs σ S
 |[],σ,S,h=>hn σ S h
 |x::r,σ,S,h=>⟨(hc x r σ S h (P r) fun _ _ z=>z).1,P r,fun σ' S' q=>forI P hn hc r σ' S' q,(hc x r σ S h (P r) fun _ _ z=>z).2⟩
theorem z9c{chk:q0h->Prop}{g:WG}{wc:WT}{we:WE}{Q:VC}(P:List PV->List PV->Ev.Loc->q0h->Prop)(hn:∀ys σ S,P [] ys σ S->chk S/\Q (.ref S.length) (S++[.lst ys]))
  (hc:∀x r ys σ S,P (x::r) ys σ S->∀N:List PV->Ev.Loc->q0h->Prop,(∀ys σ S,P r ys σ S->N ys σ S)->chk S/\g x σ S NoX fun σ2 S2=>wc σ2 S2 NoX fun b S3=>if b=true then we σ2 S3 NoX (fun y S4=>N (ys++[y]) σ2 S4)else N ys σ2 S3):∀(xs ys:List PV)(σ:Ev.Loc)(S:q0h),P xs ys σ S->q7e chk g wc we Q xs ys σ S
 |[],ys,σ,S,h=>hn ys σ S h
 |x::r,ys,σ,S,h=>⟨(hc x r ys σ S h (P r) fun _ _ _ z=>z).1,P r,fun ys' σ' S' q=>z9c P hn hc r ys' σ' S' q,(hc x r ys σ S h (P r) fun _ _ _ z=>z).2⟩
theorem z9k{c:WT}{b:WS}{D:PEnds}{E:EK}{σ:Ev.Loc}{S:q0h}(P:Nat->Ev.Loc->q0h->Prop)(m:Nat)(h0:P m σ S)
  (hs:∀m σ S,P m σ S->∀T F:Ev.Loc->q0h->Prop,(∀S1,(∀N:Ev.Loc->q0h->Prop,(∀m' σ' S',m'<m->P m' σ' S'->N σ' S')->b {D with nx:=N,ct:=N,bk:=D.nx} E σ S1)->T σ S1)->(∀S1,D.nx σ S1->F σ S1)->c σ S E fun bo S1=>if bo=true then T σ S1 else F σ S1):z0r c b D E σ S:=by
 refine⟨P,⟨m,h0⟩,fun m σ S p=>?_⟩
 exact hs m σ S p (fun σ S1=>∃N:Ev.Loc->q0h->Prop,(∀σ' S',N σ' S'->∃m',m'<m/\P m' σ' S')/\b {D with nx:=N,ct:=N,bk:=D.nx} E σ S1) D.nx (fun S1 h=>⟨fun σ' S'=>∃m',m'<m/\P m' σ' S',fun σ' S' n=>n,h _ fun m' σ' S' a b=>⟨m',a,b⟩⟩) fun S1 h=>h
theorem y6m:("tuple" ∈q5u)=True:=by simp[q5u]
theorem x7b:("str" ∈q5u)=True:=by simp[q5u]
theorem x7c:("int" ∈q5u)=True:=by simp[q5u]
theorem x1x:("bool" ∈q5u)=True:=by simp[q5u]
theorem q8s:isT "NoneType" "list" = false:=rfl
theorem q8h:isT "NoneType" "tuple" = false:=rfl
theorem q9w:isT "NoneType" "str" = false:=rfl
theorem q9x:isT "NoneType" "int" = false:=rfl
theorem q8t:isT "NoneType" "bool" = false:=rfl
theorem z3q:isT "bool" "list" = false:=rfl
theorem z2f:isT "bool" "tuple" = false:=rfl
theorem z5u:isT "bool" "str" = false:=rfl
theorem z5v:isT "bool" "int" = true:=rfl
theorem z3r:isT "bool" "bool" = true:=rfl
theorem z5s:isT "int" "list" = false:=rfl
theorem z3p:isT "int" "tuple" = false:=rfl
theorem z8t:isT "int" "str" = false:=rfl
theorem z8u:isT "int" "int" = true:=rfl
theorem z5t:isT "int" "bool" = false:=rfl
theorem z5o:isT "str" "list" = false:=rfl
theorem z3m:isT "str" "tuple" = false:=rfl
theorem z8r:isT "str" "str" = true:=rfl
theorem z8s:isT "str" "int" = false:=rfl
theorem z5p:isT "str" "bool" = false:=rfl
theorem z2c:isT "tuple" "list" = false:=rfl
theorem z0m:isT "tuple" "tuple" = true:=rfl
theorem z3k:isT "tuple" "str" = false:=rfl
theorem z3l:isT "tuple" "int" = false:=rfl
theorem z2d:isT "tuple" "bool" = false:=rfl
theorem z3n:isT "list" "list" = true:=rfl
theorem z2e:isT "list" "tuple" = false:=rfl
theorem z5q:isT "list" "str" = false:=rfl
theorem z5r:isT "list" "int" = false:=rfl
theorem z3o:isT "list" "bool" = false:=rfl
theorem x1i:nrf .non=true:=rfl
theorem x6c(b:Bool):nrf (.bl b)=true:=rfl
theorem x1j(b:Int):nrf (.int b)=true:=rfl
theorem x1h(b:Str):nrf (.str b)=true:=rfl
theorem q8e(b:List PV):nrf (.tup b)=nrfs b:=by simp only[nrf]
theorem y2m(a b:Int):eqB (.int a) (.int b)=decide (a=b):=by simp only[eqB];exact Bool.beq_eq_decide_eq a b
theorem q4h(a b:Str):eqB (.str a) (.str b)=decide (a=b):=by
 simp only[eqB]
 by_cases h:a=b
 ·subst h;simp
 ·rw[decide_eq_false h];exact beq_eq_false_iff_ne.mpr h
theorem z7l(a:Str)(b:List PV):eqB (.str a) (.tup b)=false:=by simp only[eqB]
theorem z7k(a:List PV)(b:Str):eqB (.tup a) (.str b)=false:=by simp only[eqB]
theorem q6h(a b:List PV):eqB (.tup a) (.tup b)=eqBs a b:=by simp only[eqB]
theorem y5y(a:Str):okEq (.str a)=True:=by simp[okEq,nrf,dep]
theorem q8d(l:List Str):q6o (l.map PV.str):=by
 refine⟨?_,?_⟩
 ·induction l with
  |nil=>rfl
  |cons a r ih=>simp only[List.map_cons,nrfs,nrf,ih,Bool.and_self]
 ·induction l with
  |nil=>simp[deps]
  |cons a r ih=>simp only[List.map_cons,deps,dep];omega
theorem q9m:q6o []=True:=by simp[q6o,nrfs,deps]
theorem x8b(a b:Int)(S:q0h)(Q:VC):cEq (.int a) (.int b) S Q=(Q (.bl (decide (a=b))) S):=by simp only[cEq,cEqG,nrf,y2m,q5i,q5h,true_and,and_self]
theorem y8v(a b:Str)(S:q0h)(Q:VC):cEq (.str a) (.str b) S Q=(Q (.bl (decide (a=b))) S):=by simp only[cEq,cEqG,nrf,q4h,q5i,q5h,true_and,and_self]
theorem y8u(a:Str)(b:List PV)(S:q0h)(Q:VC):cEq (.str a) (.tup b) S Q=(nrfs b=true/\Q (.bl false) S):=by simp only[cEq,cEqG,nrf,eqB,q5i,q5h,true_and,and_true,Bool.not_false]
theorem y8t(a:List PV)(b:Str)(S:q0h)(Q:VC):cEq (.tup a) (.str b) S Q=(nrfs a=true/\Q (.bl false) S):=by simp only[cEq,cEqG,nrf,eqB,q5i,q5h,true_and,and_true,Bool.not_false]
theorem y3l(a b:List PV)(S:q0h)(Q:VC):cEq (.tup a) (.tup b) S Q=((okEq (.tup a)/\okEq (.tup b))/\Q (.bl (eqBs a b)) S):=by simp only[cEq,cEqG,q5i,q5h]
theorem x8a(a b:Int)(S:q0h)(Q:VC):cNe (.int a) (.int b) S Q=(Q (.bl (!decide (a=b))) S):=by simp only[cNe,cEqG,nrf,y2m,q5i,q5h,true_and,and_self]
theorem y3j(a b:Str)(S:q0h)(Q:VC):cNe (.str a) (.str b) S Q=(Q (.bl (!decide (a=b))) S):=by simp only[cNe,cEqG,nrf,q4h,q5i,q5h,true_and,and_self]
theorem y8s(a:Str)(b:List PV)(S:q0h)(Q:VC):cNe (.str a) (.tup b) S Q=(nrfs b=true/\Q (.bl true) S):=by simp only[cNe,cEqG,nrf,eqB,q5i,q5h,true_and,and_true,Bool.not_false]
theorem y8r(a:List PV)(b:Str)(S:q0h)(Q:VC):cNe (.tup a) (.str b) S Q=(nrfs a=true/\Q (.bl true) S):=by simp only[cNe,cEqG,nrf,eqB,q5i,q5h,true_and,and_true,Bool.not_false]
theorem y3i(a b:List PV)(S:q0h)(Q:VC):cNe (.tup a) (.tup b) S Q=((okEq (.tup a)/\okEq (.tup b))/\Q (.bl (!eqBs a b)) S):=by simp only[cNe,cEqG,q5i,q5h]
theorem x7y(m n:Nat)(S:q0h)(Q:VC):cNe (.ref m) (.ref n) S Q=(match q3o S m,q3o S n with
  |some xs,some ys=>(q6o xs/\q6o ys)/\Q (.bl (!eqBs xs ys)) S
  |_,_=>False):=by simp only [cNe,cEqG,q5i,q5h];try rfl
theorem w0n(x:PV)(b:List PV)(S:q0h)(Q:VC):cIn x (.tup b) S Q=((okEq x/\q6o b)/\Q (.bl (b.any fun y=>eqB y x)) S):=by cases x<;>simp only[cIn,cInG,q5i,q5h]
theorem w0o(x:PV)(n:Nat)(S:q0h)(Q:VC):cIn x (.ref n) S Q=(match q3o S n with
  |some ys=>(okEq x/\q6o ys)/\Q (.bl (ys.any fun y=>eqB y x)) S
  |none=>False):=by cases x<;>(simp only [cIn,cInG,q5i,q5h];try rfl)
theorem z7s(x:PV)(n:Nat)(S:q0h)(Q:VC):z1f x (.ref n) S Q=(match q3o S n with
  |some ys=>(okEq x/\q6o ys)/\Q (.bl (!ys.any fun y=>eqB y x)) S
  |none=>False):=by cases x<;>(simp only [z1f,cInG,q5i,q5h];try rfl)
theorem big{n:Nat}(h:n<=1000000):n<=sizeLine:=Nat.le_trans h (by decide)
theorem bigl{n:Nat}(h:n<=1000000):n<sizeLine:=Nat.lt_of_le_of_lt h (by decide)
end My
namespace Ev
open PySem PySem.Spec PyProof.Rows L2
section
variable{X:Cx}{G:GX}{pos:Pos}
def y6t:FL:=fun xs S Q=>match xs with
 |[.ref n]=>match (q3o S n).bind q5g with
  |some ns=>0<ns.length/\∀M:Int,M∈ns->(∀a∈ns,a<=M)->Q (.int M) S
  |none=>False
 |_=>False
theorem y3h(hc:X.calm=true):q7b X (.builtin "max") (fun xs H Q=>∃(p:Addr)(ns:List Int),xs=[.ref p]/\SqL X.K H p (ns.map V.int)/\0<ns.length/\∀M:Int,M∈ns->(∀a∈ns,a<=M)->Q (.int M) H):=by
 intro pins s σ H xs us Q I r h
 obtain⟨p,ns,rfl,hp,hz,q⟩:=h
 obtain⟨u,rfl,ru⟩:=z7y r
 cases ru
 obtain⟨is,r1,p1,_⟩:=I.list hp
 have hi:=q8i r1
 obtain⟨xs,e⟩:=hi.allInts.items
 have hns:ns=xs.toList.map (·.1):=by
  rw[<-hi.numsOf,<-nums_intItems xs,<-e]
 have hsz:0<xs.size:=by
  have:=congrArg List.length hns
  simp at this;omega
 refine max_intList (I.ok.hd hc) (e▸p1.isList) hsz fun v h' tk hv hk=>?_
 obtain⟨t,rfl⟩:=intItems_at hv
 obtain⟨h1,h2⟩:=argBest_gt (numAt xs) (xs.size-1)
 refine⟨.int _,H,I.kept hk,⟨t,rfl⟩,q _ ?_ fun a ha=>?_⟩
 ·rw[hns,numAt_eq];exact getD_mem (by rw[List.length_map,Array.length_toList];omega)
 ·rw[hns]at ha
  obtain⟨j,hj,rfl⟩:=mem_getD ha
  rw[<-numAt_eq]
  exact h2 j (by simp at hj;omega)
theorem z9d(hc:X.calm=true):q7b X (.builtin "max") (z2a X.K y6t):=by
 rintro pins s σ H xs us Q I r ⟨φ,S,pxs,Q0,R,hx,h,k⟩
 unfold y6t at h
 split at h
 ·rename_i n
  split at h
  ·rename_i ns e
   obtain⟨ys,e1,e2⟩:=Option.bind_eq_some_iff.mp e
   have:=q6q e2
   subst this
   obtain⟨v,rfl,a,rfl,qa⟩:=q2n hx
   obtain⟨vs,sa,ra⟩:=R.seq qa e1
   rw[ra.ints]at sa
   exact y3h hc pins s σ H _ us Q I r ⟨a,ns,rfl,sa,h.1,fun M h1 h2=>k _ S φ H _ (h.2 M h1 h2) (List.prefix_refl _) (.refl _) R rfl⟩
  ·exact h.elim
 ·exact h.elim
def z5x(ns:List Int):List Int:=ns.foldl step_dedup []
def fLS(x:PV)(S1:q0h)(Q:VC):Prop:=match x with
 |.ref n=>match (q3o S1 n).bind q5g with
  |some ns=>ns.length+1<4096/\Q (.int (z5x ns).length) S1
  |none=>False
 |_=>False
def z4r(we:WE):WE:=fun σ S E Q=>we σ S E fun x S1=>fLS x S1 Q
theorem z8h {x y : Str} {p p2 pos2 : Pos} {e : Expr} {we : WE} (hc : X.calm = true) (hm : X.mg x = none) (hv : bootBuiltins x = some (.builtin "len")) (hm2 : X.mg y = none) (hv2 : bootBuiltins y = some (.type "set")) (ha : SimE X G e we)
    (hg : Gl X x := by rfl) (hn : x ≠ "__name__" := by decide) (hdb : (x == ("__debug__" : Str)) = false := by decide) (hg2 : Gl X y := by rfl) (hn2 : y ≠ "__name__" := by decide) (hdb2 : (y == ("__debug__" : Str)) = false := by decide)
    (he1 : starEach [e] X.env = (false, eval e X.env) :: starEach [] X.env := by rfl)
    (he2 : starEach [.Call (.Name y p2) [e] [] pos2] X.env = (false, eval (.Call (.Name y p2) [e] [] pos2) X.env) :: starEach [] X.env := by rfl)
     : SimE X G (.Call (.Name x p) [.Call (.Name y p2) [e] [] pos2] [] pos) (z4r we) := by
  rintro pins s σ H Q I ⟨φ, σ', S, Q0, L, R, h, k⟩
  have inner : wpAny (model X.prog X.w) X.A (eval (.Call (.Name y p2) [e] [] pos2) X.env) (fun u s' => ∃ a o es ep t H', u = .ref a /\ s'.heap.get? a = some o /\ o.ExactSet /\ o.data = Data.set es ep t /\ t.fits es.size = true /\ es.size < 4096 /\ Inv X pins σ H' s' /\ Q (.int es.size) H') X.xe s := by
    refine wpAny_Call_Name_kw (q7d I hg2 hm2 hv2 ?_ hn2 hdb2)
    refine PyProof.Rows.callWith_type1 ?_ he1 rfl
    rw [he1]
    show wpAny _ _ (spliced ((false, eval e X.env) :: backTo pos2 (starEach [] X.env))) _ _ s
    refine Calls.spliced_cons (thn (ha pins s σ H (fun v H1 => ∃ (φ2 : List Addr) (S2 : q0h) (x : PV), Rel X.K φ2 S2 H1 /\ RV X.K H1 φ2 x v /\ fLS x S2 Q0 /\ KE X.K φ2 H1 Q0 Q) I ⟨φ, σ', S, _, L, R, h, fun v S1 φ1 H1 x q p1 m1 R1 r1 => ⟨φ1, S1, v, R1, r1, q, k.up p1 m1⟩⟩) ?_)
    · rintro u1 s1 ⟨vv, H1, I1, ru, φ2, S2, x, R2, rv, q, k2⟩
      refine Calls.spliced_nil ?_
      unfold fLS at q
      split at q
      · rename_i n
        split at q
        · rename_i ns e
          obtain ⟨ys, e1, e2⟩ := Option.bind_eq_some_iff.mp e
          have := q6q e2
          subst this
          obtain ⟨a, rfl, qa⟩ := rv
          obtain ⟨vs, sa, ra⟩ := R2.seq qa e1
          rw [ra.ints] at sa
          cases ru
          obtain ⟨is, r3, p3, _⟩ := I1.list sa
          have hi := q8i r3
          have hl := hi.length
          refine call_set_list (I1.ok.hd hc) p3.isList (ns := ns) hi (by simp; rw [show scanBound = 4096 from rfl]; omega) fun h' tk hS hk => ?_
          obtain ⟨o, ho, hx, es, ep, t, hd, _, _, hsz, hf⟩ := hS.objOf
          have hfm : firstMet (fun i => ns.getD i 0) is.toArray.size = z5x ns := by
            unfold firstMet z5x
            congr 1
            apply List.ext_getElem
            · simp [hl]
            · intro i h1 h2
              simp at h1
              simp [h2]
          rw [hfm] at hsz
          have hle : (z5x ns).length <= ns.length := by
            rw [<- hfm]; have := firstMet_length_le (fun i => ns.getD i 0) is.toArray.size; simp at this; simp; omega
          exact ⟨_, o, es, ep, t, H1, rfl, ho, hx, hd, hf, by omega, I1.kept fun b u e => hk b u (Heap.lt_size e) e, by rw [hsz]; exact k2 _ S2 φ2 H1 _ q.2 (List.prefix_refl _) (.refl _) R2 rfl⟩
        · exact q.elim
      · exact q.elim
  refine wpAny_Call_Name_kw (q7d I hg hm hv ?_ hn hdb)
  refine PyProof.Rows.callWith_builtin1 (Q := _) ?_ he2 rfl
  rw [he2]
  show wpAny _ _ (spliced ((false, eval (.Call (.Name y p2) [e] [] pos2) X.env) :: backTo pos (starEach [] X.env))) _ _ s
  refine Calls.spliced_cons (thn inner ?_)
  rintro u s1 ⟨a, o, es, ep, t, H', rfl, ho, hx, hd, hf, hz, I1, q⟩
  refine Calls.spliced_nil ?_
  refine call_len_set ho hx hd hf (by have : (4096:Int) < 2^63 := by decide
                                      omega) ?_
  exact ⟨.int es.size, H', I1.tok _, ⟨_, rfl⟩, q⟩
theorem y7f:bootBuiltins (Str.ofString "set")=some (.type "set"):=by with_unfolding_all rfl
end
section
variable{X:Cx}{G:GX}{pos:Pos}
def Itv(K:Frag)(a:Addr)(n:Nat):It:=
 ⟨fun i H=>∃xs x,SqL K H a xs/\i<n/\xs[n-1-i]?=some x,fun i H x H'=>H'=H/\∀xs,SqL K H a xs->xs[n-1-i]?=some x,fun i _=>n<=i⟩
theorem y4i{P:Program}{w:World}{K:Frag}{tg:Expr}(a it:Addr)(n:Nat):Turn P w K tg (Itv K a n) [it] it (fun i h=>i<=n/\h.IsRevIter it a ((n:Int)-1-i)) where
 mem:=by simp
 obj:=fun i h st b hb=>by
  have e:b=it:=by simpa using hb
  subst e
  obtain⟨_,o,e,c,d⟩:=st
  exact⟨o,e,fun v z=>by rw[d]at z;cases z⟩
 keep:=fun i h h' st k=>⟨st.1,st.2.at fun o e=>k it (by simp) o e⟩
 item:=by
  intro X hP hw hK hc i pins s σ H E I hf st hg
  subst hP hw hK
  obtain⟨xs,x,hq,hi,hx⟩:=hg
  obtain⟨its,rv,p,hz⟩:=I.list hq
  obtain⟨u,hu,ru⟩:=rv.get hx
  obtain⟨f0,f1,f2,f3,f4,f5⟩:=hf it (by simp)
  have st2:=st.2
  rw[show(n:Int)-1-i=((n-1-i:Nat):Int) by omega]at st2
  refine wpAny_pyNext_rev_item st2 p.isList (x:=u) (by simpa using hu) fun h' st' sb=>?_
  have I1:Inv X pins σ H {s with heap:=h' }:=I.turned (t':=s.toks) (fun b o hb e=>(sb.2 b hb).trans e) f0 f1 f3 f4 f5
  rw[show((n-1-i:Nat):Int)-1=(n:Int)-1-((i+1:Nat):Int) by omega]at st'
  obtain⟨o,e,c,d⟩:=id st'
  exact⟨u,rfl,z8y (s:={s with heap:=h' }) e c d (by decide) ⟨x,H,I1,ru,⟨rfl,fun ys hy=>by rw[I.list_inj hy hq];exact hx⟩,⟨hi,st'⟩,fun b hb=>(hf b hb).1⟩⟩
 done:=by
  intro X hP hw hK hc i pins s σ H E I hf st hg
  subst hP hw hK
  obtain⟨f0,f1,f2,f3,f4,f5⟩:=hf it (by simp)
  have hg:n<=i:=hg
  have st2:=st.2
  have h1:=st.1
  rw[show(n:Int)-1-i=-1 by omega]at st2
  exact wpAny_pyNext_rev_end (I.ok.hd hc) st2 fun h' eb=>⟨rfl,I.turned (t':=s.toks) (fun b o hb e=>eb b o hb e) f0 f1 f3 f4 f5⟩
 self:=fun _ _ _ _ _ st h=>wpAny_pyIter_revIter st.2 h
def iRev(K:Frag)(tl:TE):TI:=fun σ H R=>tl σ H fun x H1=>∃a xs,x=.ref a/\SqL K H1 a xs/\R (Itv K a xs.length) H1
theorem y7g:bootBuiltins (Str.ofString "reversed")=some (.type "reversed"):=by with_unfolding_all rfl
theorem x4y{tg l:Expr}{tl:TE}{p:Pos}(hl:PE X l tl)(hm:X.mg "reversed" = none)(hg:Gl X "reversed" :=by rfl)(he:starEach [l] X.env=(false,eval l X.env)::starEach [] X.env:=by rfl):PI X tg (.Call (.Name "reversed" p) [l] [] pos) (iRev X.K tl):=by
 intro pins s σ H R I h
 refine wpAny_Call_Name_kw (q7d I hg hm y7g ?_)
 refine PyProof.Rows.callWith_type1 ?_ he rfl
 rw[he]
 show wpAny _ _ (spliced ((false,eval l X.env)::backTo pos (starEach [] X.env))) _ _ s
 refine Calls.spliced_cons (thn (hl pins s σ H _ I h) ?_)
 rintro v s1 ⟨x,H1,I1,r1,a,xs,rfl,hq,q⟩
 refine Calls.spliced_nil ?_
 cases r1
 obtain⟨its,rv,p,hz⟩:=I1.list hq
 refine call_reversed_list p.isList ?_
 have e0:(its.toArray.size:Int)-1=(xs.length:Int)-1-((0:Nat):Int):=by have:=rv.length;simp;omega
 refine wpAny_pyIter_revIter (l:=a) (i:=(its.toArray.size:Int)-1) ⟨_,Heap.get?_push_size _ rfl,rfl,rfl⟩ ?_
 refine⟨s1.heap.objs.size,[s1.heap.objs.size],_,_,H1,rfl,I1.kept (t':=s1.toks) fun b o e=>Heap.get?_push_of_some _ e,y4i a _ xs.length,⟨Nat.zero_le _,_,Heap.get?_push_size _ rfl,rfl,by rw[e0];rfl⟩,fun b hb=>?_,q⟩
 have e:b=s1.heap.objs.size:=by simpa using hb
 subst e
 exact I1.fpOk (Nat.le_refl _) (I1.hok.fresh (Nat.le_refl _))
theorem x2j{K:Frag}{φ:List Addr}{H:Hp}{n k:Nat}{a:Addr}{xs:List PV}(qa:φ[n]?=some a)(hk:k=xs.length):ItR K φ H (Itv K a k) ⟨xs.reverse,fun S=>q3o S n=some xs⟩ where
 go:=fun φ1 H1 S1 p m R e i x hx=>by
  subst hk
  obtain⟨vs,sa,ra⟩:=R.seq (q4u p qa) e
  have hi:i<xs.length:=by have:=(List.getElem?_eq_some_iff.mp hx).1;simpa using this
  have hx':xs[xs.length-1-i]?=some x:=by rw[<-List.getElem?_reverse hi];exact hx
  obtain⟨y,ey,ry⟩:=ra.get hx'
  refine⟨⟨vs,y,sa,hi,ey⟩,fun y' H' hh1=>?_⟩
  obtain⟨e1,e2⟩:=hh1
  subst e1
  have:=e2 vs sa
  rw[ey]at this
  cases this
  exact⟨φ1,List.prefix_refl _,.refl _,R,ry⟩
 stop:=fun φ1 H1 S1 p m R e i hi=>by
  subst hk
  have:xs.reverse.length<=i:=hi
  rw[List.length_reverse]at this
  exact this
def z0i(w:WE):WI:=fun σ S E Q=>w σ S E fun x S1=>match x with
 |.ref n=>match q3o S1 n with
  |some xs=>Q ⟨xs.reverse,fun S=>q3o S n=some xs⟩ S1
  |none=>False
 |_=>False
theorem z1s{tg l:Expr}{w:WE}{p:Pos}(hm:X.mg "reversed" = none)(hl:SimE X G l w)(hg:Gl X "reversed" :=by rfl)(he:starEach [l] X.env=(false,eval l X.env)::starEach [] X.env:=by rfl):SimI X G tg (.Call (.Name "reversed" p) [l] [] pos) (z0i w):=
 PI.imp (x4y hl hm hg he) fun σV H Q hh1=>by obtain⟨φ,σ,S,Q0,L,R,h,k⟩:=hh1;exact(⟨φ,σ,S,_,L,R,h,fun v S1 φ1 H1 x q p1 m1 R1 r1=>by
  split at q
  ·rename_i n
   split at q
   ·rename_i xs e
    obtain ⟨a,rfl,qa⟩:=r1
    obtain ⟨vs,sa,ra⟩:=R1.seq qa e
    exact ⟨a,vs,rfl,sa,k _ S1 φ1 H1 _ q p1 m1 R1 (x2j qa ra.length.symm)⟩
   ·exact q.elim
  ·exact q.elim⟩)
end
section
variable{X:Cx}{G:GX}{pos:Pos}
end
end Ev
namespace My
open PySem L2 Ev
theorem ix_t(xs:List PV)(i:Int)(S:q0h)(Q:VC):bIx (.tup xs) (.int i) S Q=match atI xs i with
  |some v=>Q v S
  |none=>False:=rfl
theorem ix_s(z:Str)(i:Int)(S:q0h)(Q:VC):bIx (.str z) (.int i) S Q=(z.length<=sizeLine/\match atI z.cps.toList i with
  |some c=>Q (.str ⟨#[c]⟩) S
  |none=>False):=rfl
theorem ix_f(xs:List PV)(i:Int)(S:q0h)(Q:VC):bIx (.frl xs) (.int i) S Q=match atI xs i with
  |some v=>Q v S
  |none=>False:=rfl
theorem ix_r(n:Nat)(y:PV)(S:q0h)(Q:VC):bIx (.ref n) y S Q=match S[n]? with
  |some (.lst xs)=>match y with
   |.int i=>match atI xs i with
    |some v=>Q v S
    |none=>False
   |_=>False
  |some (.dK kvs)=>match q8r y with
   |some k=>match valP kvs k with
    |some v=>Q v S
    |none=>False
   |none=>False
  |_=>False:=rfl
theorem z5z{chk:q0h->Prop}{g:WG}{wc:WT}{we:WE}{Q:VC}{ys:List PV}{σ:Ev.Loc}{S:q0h}(h1:chk S)(h:Q (.ref S.length) (S++[.lst ys])):q7e chk g wc we Q [] ys σ S:=⟨h1,h⟩
theorem z0h{chk:q0h->Prop}{g:WG}{we:WE}{Q:VC}{x:PV}{r ys:List PV}{σ:Ev.Loc}{S:q0h}(h1:chk S)
  (h:∀N:List PV->Ev.Loc->q0h->Prop,(∀ys σ S,q7e chk g q4x we Q r ys σ S->N ys σ S)->g x σ S NoX fun σ2 S2=>we σ2 S2 NoX (fun y S4=>N (ys++[y]) σ2 S4)):q7e chk g q4x we Q (x::r) ys σ S:=
 ⟨h1,_,fun _ _ _ z=>z,h _ fun _ _ _ z=>z⟩
end My
namespace L2
open PySem PySem.Spec PyProof.Rows
def Cx.nx(X:Cx):Cx:={X with xe:=fun _ _=>False}
def Cx.hd(X:Cx)(e:Addr):Cx:={X with A:=X.A.mark (some (.ref e)),calm:=false,xe:=fun _ _=>False}
section
variable{X:Cx}{pins:List (Addr×Obj)}{σ:St}{H H':Hp}{s:Shared}
theorem Inv.nx(I:Inv X pins σ H s):Inv X.nx pins σ H s:=
 ⟨⟨I.ok.mod,I.ok.kind,I.ok.glob,I.ok.blt,I.ok.above,I.ok.inj,I.ok.has,I.ok.cab,I.ok.hd,I.ok.frames,I.ok.stk,I.ok.exf,I.ok.bs,I.ok.bsz,I.ok.noex,I.ok.exfs,I.ok.funs,I.ok.frf⟩,I.os,I.bare,I.base,I.loc,I.cell,I.free,I.freeC,I.pin,I.hok,I.len⟩
theorem Inv.hd{e:Addr}(I:Inv X pins σ H s):Inv (X.hd e) pins σ H s:=
 ⟨⟨I.ok.mod,I.ok.kind,I.ok.glob,I.ok.blt,I.ok.above,I.ok.inj,I.ok.has,I.ok.cab,fun z=>(Bool.false_ne_true z).elim,I.ok.frames,I.ok.stk,I.ok.exf,I.ok.bs,I.ok.bsz,I.ok.noex,I.ok.exfs,I.ok.funs,I.ok.frf⟩,I.os,I.bare,I.base,I.loc,I.cell,I.free,I.freeC,I.pin,I.hok,I.len⟩
theorem SP.imp{Y:Cx}{D:Ends}{f:Flow}(i:∀σ H s,Inv Y pins σ H s->Inv X pins σ H s)(h:SP Y pins D f s):SP X pins D f s:=by
 unfold SP at *
 cases f with
 |next=>obtain⟨a,b,c,d⟩:=h;exact⟨a,b,i _ _ _ c,d⟩
 |brk=>obtain⟨a,b,c,d⟩:=h;exact⟨a,b,i _ _ _ c,d⟩
 |cont=>obtain⟨a,b,c,d⟩:=h;exact⟨a,b,i _ _ _ c,d⟩
 |ret u=>obtain⟨v,a,b,c,d⟩:=h;exact⟨v,a,b,i _ _ _ c,d⟩
end
def EXE(X:Cx)(pins:List (Addr×Obj))(σ:St)(E:XK):Value->Shared->Prop:=fun e s'=>∃H1 s1,Inv X pins σ H1 s1/\CXE X.prog X.w X.stack H1 s1 E e s'
abbrev TEX:=St->Hp->VK->XK->Prop
def PEX(X:Cx)(e:Expr)(t:TEX):Prop:=
 ∀(pins:List (Addr×Obj))(s:Shared)(σ:St)(H:Hp)(Q:VK)(E:XK),Inv X pins σ H s->t σ H Q E->wpAny (model X.prog X.w) X.A (eval e X.env) (EP X pins σ Q) (EXE X pins σ E) s
abbrev XC:=Value->St->Hp->Prop
abbrev TSX:=Ends->XC->St->Hp->Prop
def XEnd(X:Cx)(pins:List (Addr×Obj))(E:XC):Value->Shared->Prop:=fun e s'=>∃σ,EXE X pins σ (fun cls _ H'=>E cls σ H') e s'
def PSX(X:Cx)(st:Stmt)(t:TSX):Prop:=
 ∀(pins:List (Addr×Obj))(s:Shared)(σ:St)(H:Hp)(D:Ends)(E:XC),Inv X pins σ H s->t D E σ H->wpAny (model X.prog X.w) X.A (exec st X.env) (SP X pins D) (XEnd X pins E) s
def PSXs(X:Cx)(st:List Stmt)(t:TSX):Prop:=
 ∀(pins:List (Addr×Obj))(s:Shared)(σ:St)(H:Hp)(D:Ends)(E:XC),Inv X pins σ H s->t D E σ H->wpAny (model X.prog X.w) X.A (execs st X.env) (SP X pins D) (XEnd X pins E) s
section
variable{X:Cx}{k:Nat}{f:Addr}{fd:FuncData}{ps:List Str}{sp:Sp}{dvs:List V}{ds:List Value}{x:Str}{p pos:Pos}{e:Expr}{es:List Expr}{t:TA}
end
section
variable{X:Cx}{e:Expr}{te:TEX}{pos:Pos}
end
section
variable{X:Cx}{pins:List (Addr×Obj)}{σ:St}{H H':Hp}{s:Shared}
theorem Inv.gone{i:Nat}{x:Str}{h':Heap}{t':Nat}{m:Str->Option Value}{v:Option Value}(I:Inv X pins σ H s)(hN:X.N.Nodup)(hi:X.N[i]?=some x)(hm:s.heap.Ns X.env.locals m)(hn':h'.Ns X.env.locals (fun y=>if y=x then v else m y))(hs:Heap.SameBut X.env.locals s.heap h') :
  Inv X pins (σ.set i none) H {s with heap:=h',toks:=t' }:=by
 obtain⟨m0,hn,hl⟩:=id I.loc
 have em:m0=m:=by rw[hn.eq_nsMap,hm.eq_nsMap]
 subst em
 have cne:=I.cne
 have tracked:HOk X.prog X.w H h':=fun b ob e=>by
  refine(I.hok b ob e).stay (fun c w' hc q=>(hs.2 c ?_).trans q) (fun _ q=>q) fun _ _ q=>q
  rintro rfl
  rcases hc with rfl|hc
  ·rw[I.free]at e;cases e
  ·rw[I.free]at hc;cases hc
 refine⟨I.ok,I.os,I.bare,⟨fun b o e n hb hx=>?_,fun b o e n hb hx=>?_,I.base.free,fun b o e hx=>?_,I.base.tups,I.base.frzs,I.base.tbls⟩,⟨_,hn',fun j y v' e1 e2 e3=>?_⟩,fun y c e=>?_,I.free,I.freeC,fun p hp=>?_,tracked,by simpa using I.len⟩
 ·exact(hs.2 b (Nat.ne_of_lt (Nat.lt_of_lt_of_le (Heap.lt_size e) I.ok.above))).trans (I.base.keep b o e n hb hx)
 ·obtain⟨sl,e1⟩:=I.base.slot b o e n hb hx
  exact⟨sl,(hs.2 b (Nat.ne_of_lt (Nat.lt_of_lt_of_le (Heap.lt_size e) I.ok.above))).trans e1⟩
 ·obtain⟨o',e1⟩:=I.base.there b o e hx
  exact⟨o',(hs.2 b (Nat.ne_of_lt (Nat.lt_of_lt_of_le (Heap.lt_size e) I.ok.above))).trans e1⟩
 ·have hj:j≠i:=by
   rintro rfl
   by_cases hlt:j<σ.length
   ·rw[List.getElem?_set_self hlt]at e2;cases e2
   ·rw[List.getElem?_eq_none (by simpa using hlt)]at e2;cases e2
  rw[List.getElem?_set_ne (Ne.symm hj)]at e2
  obtain⟨u',r',q⟩:=hl j y v' e1 e2 e3
  refine⟨u',r',?_⟩
  rcases q with⟨k,e⟩|⟨k,c,e,z⟩
  ·refine .inl ⟨k,?_⟩
   have:y≠x:=fun e=>hj (z1x hN e1 (e▸hi))
   simp[this,e]
  ·exact .inr ⟨k,c,e,z.sameBut hs (cne y c e)⟩
 ·obtain⟨w',z⟩:=I.cell y c e
  exact⟨w',z.sameBut hs (cne y c e)⟩
 ·obtain⟨e,n,ne,nf,d⟩:=I.pin p hp
  exact⟨(hs.2 p.1 ne).trans e,n,ne,nf,d⟩
theorem y6a{h h':Heap}{L:Addr}{m:Str->Option Value}(hn:h.Ns L m)(k:∀o,h.get? L=some o->∃sl,h'.get? L=some {o with slots:=sl}):h'.Ns L m:=by
 obtain⟨o,es,ep,ho,r⟩:=hn
 obtain⟨sl,e⟩:=k o ho
 exact⟨_,es,ep,e,r⟩
theorem Inv.past{h':Heap}{own:List Addr}(I:Inv X pins σ H s)(hst:X.stack=X.env::X.outer)(hf:X.env.frame=some X.env.locals)(nw:∀b∈own,((b∈X.ex\/X.s₀.heap.get? b=none)/\b≠X.env.locals/\(∀x c,X.env.cells.lookup x=some c->c≠b)/\∀p∈X.pn++pins,p.1≠b)/\H b=none)
  (p:Past (frs X.stack) own s.heap h'):Inv X pins σ H {s with heap:=h' }:=by
 have efs:frs X.stack=X.env.locals::X.fs:=by rw[hst];show frs (X.env::X.outer)=_;unfold frs;rw[List.filterMap_cons,hf];rfl
 refine I.stepX (ch:=own) (g':=s.gens) (d':=s.drawn) (t':=s.toks) (fun b hb=>(nw b hb).1) (fun b o n1 n2 n3 e _=>?_) (fun b o n1 n2 n3 e _=>?_) (fun b o _ _ z=>z) (fun b o _ e=>p.there b o e) (fun b xs z=>z) (fun b o u z=>z) (fun b ps z=>⟨#[],by rw[Array.append_empty];exact z⟩) (fun m hn=>?_) (HOk.past I.hok p I.stkFree fun b hb=>(nw b hb).2) I.bare
 ·exact p.keep b o e n3 (by rw[efs];exact fun z=>(List.mem_cons.mp z).elim n1 n2)
 ·exact p.slot b o e n3 (by rw[efs];exact List.mem_cons_of_mem _ n2)
 ·refine y6a hn fun o ho=>p.slot _ o ho (fun z=>(nw _ z).1.2.1 rfl) (by rw[efs];exact List.mem_cons_self)
end
def y9b(a:Addr)(cls:Value)(h:Heap):Prop:=∃o vs,h.get? a=some o/\o.cls=cls/\o.data=.fields vs
theorem y9b.ok{P:Program}{w:World}{H:Hp}{a T:Addr}{cls:Value}{h:Heap}(F:Fly a cls [T] h):q2q P w H h a (.ext (y9b a cls)):=by
 obtain⟨oe,vs,hd,he,hc,hdt,h1,hh⟩:=F.is
 refine⟨⟨oe,vs,he,hc,hdt⟩,⟨oe,he⟩,fun h1 h2 hh1 k=>by obtain⟨o,vs,q,c,d⟩:=hh1;exact(⟨o,vs,k o q,c,d⟩)⟩
section
variable{X:Cx}{i:Nat}{y n:Str}{yp hpos pos:Pos}{cv:Value}{body suite:List Stmt}{b₀:Stmt}{tb:TSX}{ts:TS}
end
end L2
namespace L2
open PySem PySem.Spec PySem.W PySem.Calls PyProof.Rows Builtin Builtin.ObjectAttr Builtin.Getset_descriptor
structure ExcK(K:Frag)(D:Addr):Prop where
 c:(clsIn K D).isSome=true
 ga:findIn K (.ref D) "__getattribute__" = some (some (.builtin "BaseException.__getattribute__"))
 nga:findIn K (.ref D) "__getattr__" = some none
 cl:findIn K (.ref D) "__class__" = some (some (.builtin "object.__class__"))
 gt:specialIn K (.builtin "object.__class__") "__get__" = some (some (.builtin "getset_descriptor.__get__"))
 tk:takesIn K (.builtin "object.__class__")=some true
 mo:mroIn K D (.type "object")=some true
 mb:mroIn K D (.type "BaseException")=some true
section
variable{K:Frag}{D x:Addr}{prog:Program}{w:World}{A:Around}{E:Value->Shared->Prop}{s:Shared}
end
end L2
namespace Ev
open PySem L2 PySem.Spec PyProof.Rows
structure ExcC(K:Frag)(mg:Str->Option Value)(c:String):Prop where
 is:∃C,PySem.W.nsIn K mainGlobals (Str.ofString c)=some (some (.ref C))/\mg (Str.ofString c)=some (.ref C)/\PySem.W.excIn K C vErr "ValueError.__new__" = true
def q9c(c:String)(wa:WA):WS:=fun _ E σ S=>wa σ S E fun xs S1=>xs.length<=sizeLine/\E (.exc c) S1
section
variable{X:Cx}{G:GX}{pos:Pos}
theorem q7p{c:String}{x:Str}{np cpos:Pos}{e0:Expr}{wa:WA}(C:ExcC X.K X.mg c)(hx:q5x (CXE X.prog X.w) X (xkOf X.K G.xh))(hc:X.calm=true)(ha:SimA X G [e0] wa)(ex:x=Str.ofString c:=by rfl)(hg:Gl X x:=by rfl)
  (hd:(x==("__debug__" : Str))=false:=by decide) (he:starEach [e0] X.env=(false,eval e0 X.env)::starEach [] X.env:=by rfl):SimS X G (.Raise (some (.Call (.Name x np) [e0] [] cpos)) none pos) (q9c c wa):=by
 obtain⟨C,h1,h2,h3⟩:=C.is
 subst ex
 exact(y5j hx hc hg h2 h3 ha hd he).imp fun D σV H hh1=>by obtain⟨φ,σ,S,D0,L,R,h,k⟩:=hh1;exact(⟨φ,σ,S,_,L,R,h,fun v S1 φ1 H1 x hh2 p1 m1 R1 r1=>by obtain⟨hl,q⟩:=hh2;exact(⟨by rw[<-r1.length];exact hl,.exc c,⟨c,C,rfl,rfl,h1⟩,(L.mono m1 p1).kx _ S1 φ1 H1 q (List.prefix_refl _) (.refl _) R1⟩)⟩)
end
abbrev XEK:=PV->Loc->q0h->Prop
def KXS(K:Frag)(G:GX)(φ:List Addr)(H:Hp)(E0:XEK)(E:XC):Prop:=∀v σ' S' φ' H' σV' cls,E0 v σ' S'->φ <+: φ'->Mono H H'->Rel K φ' S' H'->LRel K G H' φ' σ' σV'->ClsP K v cls->E cls σV' H'
theorem KXS.up{K:Frag}{G:GX}{φ φ1:List Addr}{H H1:Hp}{E0:XEK}{E:XC}(k:KXS K G φ H E0 E)(p:φ <+: φ1)(m:Mono H H1):KXS K G φ1 H1 E0 E:=fun v σ' S' φ' H' σV' cls q p' m'=>k v σ' S' φ' H' σV' cls q (p.trans p') (m.trans m')
theorem _root_.L2.PEX.imp{X:Cx}{e:Expr}{t t':TEX}(h:PEX X e t)(i:∀σ H Q E,t' σ H Q E->t σ H Q E):PEX X e t':=fun pins s σ H Q E I q=>h pins s σ H Q E I (i σ H Q E q)
theorem _root_.L2.PSX.imp{X:Cx}{e:Stmt}{t t':TSX}(h:PSX X e t)(i:∀D E σ H,t' D E σ H->t D E σ H):PSX X e t':=fun pins s σ H D E I q=>h pins s σ H D E I (i D E σ H q)
theorem _root_.L2.PSXs.imp{X:Cx}{e:List Stmt}{t t':TSX}(h:PSXs X e t)(i:∀D E σ H,t' D E σ H->t D E σ H):PSXs X e t':=fun pins s σ H D E I q=>h pins s σ H D E I (i D E σ H q)
section
variable{X:Cx}{G:GX}{pos:Pos}
end
structure Cau(K:Frag)(mg:Str->Option Value)(y:Str)(cs:List String):Prop where
 is:∃cv,mg y=some cv/\∀c∈cs,∃C,PySem.W.nsIn K mainGlobals (Str.ofString c)=some (some (.ref C))/\PySem.W.exmOne K (.ref C) cv=some true
section
variable{X:Cx}{G:GX}{pos:Pos}
end
def cV:V->Value
 |.ref a=>.ref a
 |.ty T=>.type T
 |_=>.none
def IsCV(v:V):Prop:=(∃a,v=.ref a)\/∃T,v=.ty T
theorem IsCV.eq{v:V}{u:Value}(h:IsCV v)(r:RelV v u):u=cV v:=by
 rcases h with⟨a,rfl⟩|⟨T,rfl⟩
 ·exact r
 ·exact r
def x8j(X:Cx)(y:Str)(v:V):Prop:=IsCV v/\∃u,RelV v u/\((X.mg y=some u)\/(X.mg y=none/\bootBuiltins y=some u/\y≠ "__name__"))
section
variable{X:Cx}{G:GX}{pos:Pos}
theorem x5m{y:Str}{v:V}(h:x8j X y v)(hg:Gl X y)(hd:(y==("__debug__" : Str))=false):PE X (.Name y pos) (tC v):=by
 obtain⟨_,u,r,h|⟨h1,h2,h3⟩⟩:=h
 ·exact x0w hg h r hd
 ·exact y0s hg h1 h2 r h3 hd
def x8x(vs:List V):TA:=fun _ H Q=>Q vs H
inductive Names(X:Cx):List Expr->List V->Prop
 |nil:Names X [] []
 |cons {y:Str} {p:Pos} {v:V} {es:List Expr} {vs:List V} (h:x8j X y v) (hg:Gl X y) (hd:(y==("__debug__" : Str))=false) (r:Names X es vs):Names X (.Name y p::es) (v::vs)
theorem Names.pa{es:List Expr}{vs:List V}(h:Names X es vs):PA X es (x8x vs):=by
 induction h with
 |nil=>exact y8g
 |cons h hg hd r ih=>exact y0w (x5m h hg hd) ih
theorem Names.cv{es:List Expr}{vs:List V}(h:Names X es vs):∀v∈vs,IsCV v:=by
 induction h with
 |nil=>simp
 |cons h hg hd r ih=>intro v hv;rcases List.mem_cons.mp hv with rfl|hv;exact h.1;exact ih v hv
def ExcH(H:Hp)(a C:Addr):Prop:=∃f:Heap->Prop,H a=some (.ext f)/\∀h,f h->∃o,h.get? a=some o/\o.cls=.ref C
structure TabX1(K:Frag)(cv:Value)(tab:List (String×Bool)):Prop where
 is:∀c b,tab.lookup c=some b->∃C,PySem.W.nsIn K mainGlobals (Str.ofString c)=some (some (.ref C))/\ExcK K C/\PySem.W.kitOne K (.ref C) cv=some b
structure TabXT(K:Frag)(cvs:List Value)(tab:List (String×Bool)):Prop where
 is:∀c b,tab.lookup c=some b->∃C,PySem.W.nsIn K mainGlobals (Str.ofString c)=some (some (.ref C))/\ExcK K C/\PySem.W.kitAny K (.ref C) cvs=some b
theorem ExcH.upd{H:Hp}{a C p:Addr}{o:HO}(x:ExcH H a C)(hp:H p=none):ExcH (upd H p o) a C:=by
 obtain⟨f,e,k⟩:=x
 exact⟨f,by rw[q1c (fun z=>by subst z;rw[hp]at e;cases e)];exact e,k⟩
end
def YV(mg:Str->Option Value)(y:Str)(v:V):Prop:=IsCV v/\∃u,RelV v u/\((mg y=some u)\/(mg y=none/\bootBuiltins y=some u/\y≠ "__name__"))
theorem YV.own{mg:Str->Option Value}{y:Str}{C:Addr}(h:mg y=some (.ref C)):YV mg y (.ref C):=⟨.inl ⟨C,rfl⟩,_,rfl,.inl h⟩
theorem YV.ty{mg:Str->Option Value}{y:Str}{T:String}(h:mg y=none)(b:bootBuiltins y=some (.type T))(n:y≠ "__name__" :=by decide):YV mg y (.ty T):=⟨.inr ⟨T,rfl⟩,_,rfl,.inr ⟨h,b,n⟩⟩
structure HIs1(K:Frag)(mg:Str->Option Value)(y:Str)(tab:List (String×Bool)):Prop where
 is:∃v,YV mg y v/\TabX1 K (cV v) tab
def y8y(mg:Str->Option Value):List Str->List V->Prop
 |[],[]=>True
 |y::ys,v::vs=>YV mg y v/\y8y mg ys vs
 |_,_=>False
structure HIsT(K:Frag)(mg:Str->Option Value)(ys:List Str)(tab:List (String×Bool)):Prop where
 is:∃vs,y8y mg ys vs/\TabXT K (vs.map cV) tab
theorem TabX1.nil{K:Frag}{cv:Value}:TabX1 K cv []:=⟨fun _ _ h=>by cases h⟩
theorem TabX1.cons{K:Frag}{cv:Value}{c:String}{C:Addr}{b:Bool}{tab:List (String×Bool)}(h:PySem.W.nsIn K mainGlobals (Str.ofString c)=some (some (.ref C)))(k:ExcK K C)(e:PySem.W.kitOne K (.ref C) cv=some b)(r:TabX1 K cv tab):TabX1 K cv ((c,b)::tab):=⟨fun c' b' q=>by
 rw [List.lookup_cons]at q
 split at q
 ·rename_i z
  have z:=eq_of_beq z
  subst z
  cases q
  exact ⟨C,h,k,e⟩
 ·exact r.is c' b' q⟩
theorem TabXT.nil{K:Frag}{cv:List Value}:TabXT K cv []:=⟨fun _ _ h=>by cases h⟩
theorem TabXT.cons{K:Frag}{cv:List Value}{c:String}{C:Addr}{b:Bool}{tab:List (String×Bool)}(h:PySem.W.nsIn K mainGlobals (Str.ofString c)=some (some (.ref C)))(k:ExcK K C)(e:PySem.W.kitAny K (.ref C) cv=some b)(r:TabXT K cv tab):TabXT K cv ((c,b)::tab):=⟨fun c' b' q=>by
 rw [List.lookup_cons]at q
 split at q
 ·rename_i z
  have z:=eq_of_beq z
  subst z
  cases q
  exact ⟨C,h,k,e⟩
 ·exact r.is c' b' q⟩
def CauL(K:Frag)(cv:Value)(cs:List String):Prop:=∀c∈cs,∃C,PySem.W.nsIn K mainGlobals (Str.ofString c)=some (some (.ref C))/\PySem.W.exmOne K (.ref C) cv=some true
theorem CauL.nil{K:Frag}{cv:Value}:CauL K cv []:=fun _ h=>by cases h
theorem CauL.cons{K:Frag}{cv:Value}{c:String}{C:Addr}{cs:List String}(h:PySem.W.nsIn K mainGlobals (Str.ofString c)=some (some (.ref C)))(e:PySem.W.exmOne K (.ref C) cv=some true)(r:CauL K cv cs):CauL K cv (c::cs):=fun c' hc=>by
 rcases List.mem_cons.mp hc with rfl|hc
 ·exact⟨C,h,e⟩
 ·exact r c' hc
section
variable{X:Cx}{G:GX}{pos:Pos}
end
section
variable{X:Cx}{G:GX}{pos:Pos}
end
end Ev
namespace Ev
open PySem PySem.Spec PyProof.Rows L2
open PySem.AutoSeq1 (wpAny_loadPart')
section
variable{X:Cx}
end
section
variable{prog:Program}{w:World}{A:Around}{E:Value->Shared->Prop}{s:Shared}{r:Addr}{n:Int}{t u v:Tok}{Q:Value->Shared->Prop}
end
section
variable{X:Cx}{G:GX}{pos:Pos}
end
section
variable{X:Cx}{G:GX}{pos:Pos}{a:Expr}{ta:TE}{wa:WE}
end
section
variable{X:Cx}
end
section
variable{X:Cx}
end
section
variable{X:Cx}{G:GX}{pos:Pos}
structure EAt(e it a:Addr)(i:Nat)(h:Heap):Prop where
 ge:∃old,IsEnum h e it i old
 gi:h.IsListIter it a i
end
end Ev
namespace L2
open PySem PySem.Spec PyProof.Rows
section
variable{X:Cx}{tg iter kx vx:Expr}{scope:Scope}{pos:Pos}{N':List Str}{ix:List (Option Nat)}{wi:TI}
end
end L2
namespace Ev
open PySem PySem.Spec PyProof.Rows L2
section
variable{X:Cx}{G:GX}{pos:Pos}
end
section
variable{X:Cx}
end
def valN{β:Type}(kvs:List (KTr×β))(k:KTr):Option β:=(kvs.find? fun p=>decide (p.1=k)).map (·.2)
def putN{β:Type}(kvs:List (KTr×β))(k:KTr)(v:β):List (KTr×β):=if(valN kvs k).isSome then kvs.map (fun p=>if p.1=k then(p.1,v)else p)else kvs++[(k,v)]
theorem q4c{β:Type}(p:KTr×β)(r:List (KTr×β))(k:KTr):valN (p::r) k=if p.1=k then some p.2 else valN r k:=by
 unfold valN
 rw[List.find?_cons]
 by_cases h:p.1=k
 ·rw[if_pos h,decide_eq_true h];rfl
 ·rw[if_neg h,decide_eq_false h]
theorem y4d{β:Type}(kvs:List (KTr×β))(k k':KTr)(v:β):valN (kvs.map (fun p=>if p.1=k then(p.1,v)else p)) k'=if k'=k then(if(valN kvs k).isSome then some v else none)else valN kvs k':=by
 induction kvs with
 |nil=>simp[valN]
 |cons p r ih=>
  rw[List.map_cons,q4c,ih,q4c,q4c]
  by_cases h:p.1=k
  ·by_cases h':k'=k
   ·subst h';simp[h]
   ·have:¬k=k':=fun z=>h' z.symm
    simp[h,h',this]
  ·by_cases h':k'=k
   ·subst h';simp[h]
   ·by_cases h'':p.1=k'<;>simp[h,h',h'']
theorem y4e{β:Type}(kvs:List (KTr×β))(k k':KTr)(v:β)(h:valN kvs k=none):valN (kvs++[(k,v)]) k'=if k'=k then some v else valN kvs k':=by
 induction kvs with
 |nil=>
  by_cases h':k'=k
  ·subst h';simp[valN]
  ·have:¬k=k':=fun z=>h' z.symm
   simp[valN,h',this]
 |cons p r ih=>
  rw[q4c]at h
  by_cases hp:p.1=k
  ·rw[if_pos hp]at h;cases h
  ·rw[if_neg hp]at h
   rw[List.cons_append,q4c,ih h,q4c]
   by_cases h':k'=k
   ·subst h';simp[hp]
   ·simp[h']
theorem z6k{β:Type}(kvs:List (KTr×β))(k k':KTr)(v:β):valN (putN kvs k v) k'=if k'=k then some v else valN kvs k':=by
 unfold putN
 by_cases h:(valN kvs k).isSome
 ·rw[if_pos h,y4d,if_pos h]
 ·rw[if_neg h]
  exact y4e kvs k k' v (by simpa using h)
theorem y5d{β:Type}(kvs:List (KTr×β))(k:KTr)(v:β):(putN kvs k v).length<=kvs.length+1:=by
 unfold putN
 split<;>simp
section
variable{P:Program}{w:World}{κ:Type} [DecidableEq κ] {knd:HeapKind P w κ} {A:Around} {E:Value->Shared->Prop} {s:Shared}
def _root_.PySem.Heap.DictEp(h:Heap)(knd:HeapKind P w κ)(a:Addr)(xs:List (κ×Addr×Value))(ep:Nat):Prop:=
 ∃o es,h.get? a=some o/\o.ExactDict/\o.data=.dict es ep/\es.toList=xs.map (entryOfKey knd)/\(∀x∈xs,knd.is h x.1 x.2.1)/\(xs.map (·.1)).Nodup
theorem _root_.PySem.Heap.DictEp.dictOf{h:Heap}{a:Addr}{xs:List (κ×Addr×Value)}{ep:Nat}(x:h.DictEp knd a xs ep):h.DictOfH knd a xs:=by
 obtain⟨o,es,r⟩:=x
 exact⟨o,es,ep,r⟩
theorem z4w(xs:List (κ×Addr×Value))(k:κ)(a:Addr)(v:Value):(storedH xs k a v).length=xs.length+if(atKey xs k).isSome then 0 else 1:=by
 unfold storedH
 by_cases h:(atKey xs k).isSome=true
 ·rw[if_pos h,if_pos h,List.length_map];rfl
 ·rw[if_neg h,if_neg h,List.length_append];rfl
theorem x4c{d a:Addr}{xs:List (κ×Addr×Value)}{ep:Nat}{k:κ}{v:Value}{Q:Unit->Shared->Prop}(hu:knd.room A.in1)(hk:knd.is s.heap k a)(hm:s.heap.DictEp knd d xs ep)(hz:xs.length<=sizeLine)
  (hQ:∀h' ep',ep'+xs.length=ep+(storedH xs k a v).length->h'.DictEp knd d (storedH xs k a v) ep'->Heap.SameBut d s.heap h'->Q () {s with heap:=h',toks:=s.toks+knd.draws k}) :
  wpAny (model P w) A (setItem (.ref d) (.ref a) v) Q E s:=by
 have hT:=hm.dictOf.typeIs (s:=s)
 obtain⟨o,es,ho,hc,hd,he,his,hn⟩:=hm
 unfold setItem
 try with_reducible refine wpAny_holding ?_
 refine wpAny_bind (wpAny_sequenceKey hT (by decide) (wpAny_bind (wpAny_callSpecial?_slot (name:= "__setitem__") hT slot_dict_setitem (wpAny_call_entry slot_dict_setitem hT entry_dict_setitem ?_ (args_dict_setitem _ _ _)))))
 show wpAny _ _ (Builtin.Dict.notOrdered "__setitem__" ⟨[.ref d,.ref a,v],[]⟩ >>= fun _=>dictSet d (.ref a) v >>= _) _ _ s
 refine wpAny_bind (wpAny_notOrdered_dict hT (wpAny_bind ?_))
 unfold dictSet
 try with_reducible refine wpAny_holding ?_
 refine wpAny_bind (knd.pyHash hu hk ?_)
 unfold dictSetHashed
 try with_reducible refine wpAny_holding ?_
 have fin:∀(h':Heap)(o':Obj)(es':Array DictEntry)(ep':Nat),Heap.SameBut d s.heap h'->h'.get? d=some o'->o'.ExactDict->o'.data=.dict es' ep'->es'.toList=(storedH xs k a v).map (entryOfKey knd)->((storedH xs k a v).map (·.1)).Nodup->
   (∀x∈storedH xs k a v,knd.is s.heap x.1 x.2.1)->ep'+xs.length=ep+(storedH xs k a v).length->Q () {s with heap:=h',toks:=s.toks+knd.draws k}:=fun h' o' es' ep' sb g1 g2 g3 g4 g5 g6 g7=>
  hQ h' ep' g7 ⟨o',es',g1,g2,g3,g4,fun x hx=>knd.keeps (g6 x hx) ho hd sb,g5⟩ sb
 have ln:=z4w xs k a v
 refine wpAny_bind (wpAny_dictFind_heap (s:={s with toks:=s.toks+knd.draws k}) hu hk ho hd he his hn ?_ ?_)
 ·intro no
  have e0:=atKey_none_of_get no
  have e1:=storedH_new (a:=a) (v:=v) e0
  rw[e0]at ln
  refine wpAny_bind (wpAny_rule (wpAny_updateDictKeys (s:={s with toks:=s.toks+knd.draws k}) ho hd ?_ (hz:=by rw[size_of_entries he];exact hz)))
  refine wpAny_pure ⟨.none,rfl,wpAny_pure (fin _ _ _ (ep+1) (Heap.SameBut.update ..) (Heap.get?_update_self _ ho (Obj.isFreed_of_dict (Obj.data_mapDictKeys hd _))) (hc.mapDictKeys _) (Obj.data_mapDictKeys hd _) ?_ ?_ ?_ ?_)⟩
  ·rw[e1];simp[he,entryOfKey]
  ·rw[e1,List.map_append,List.nodup_append]
   refine⟨hn,by simp,fun x hx y hy z=>?_⟩
   rw[List.map_cons,List.map_nil,List.mem_singleton]at hy
   have hy':y=k:=hy
   subst hy' z
   exact not_mem_keys_of_get no hx
  ·rw[e1]
   intro x hx
   rcases List.mem_append.mp hx with hx|hx
   ·exact his x hx
   ·rw[List.mem_singleton.mp hx];exact hk
  ·rw[ln];simp;omega
 ·intro j p hj
  have e0:=atKey_of_get hn hj
  have e1:=storedH_old (a:=a) (v:=v) e0
  rw[e0]at ln
  refine wpAny_bind (wpAny_rule (wpAny_bind (wpAny_updateDict (s:={s with toks:=s.toks+knd.draws k}) ho hd (wpAny_point ?_))))
  refine wpAny_pure ⟨.none,rfl,wpAny_pure (fin _ _ _ ep (Heap.SameBut.update ..) (Heap.get?_update_self _ ho (Obj.isFreed_of_dict (Obj.data_mapDict hd _))) (hc.mapDict _) (Obj.data_mapDict hd _) ?_ ?_ ?_ ?_)⟩
  ·rw[e1]
   have e2:=modify_map_putAt (entryOfKey knd) (fun e:DictEntry=>{e with val:=v}) k v (fun _ _=>rfl) hn hj
   rw[<-he]at e2
   cases es
   simpa using e2
  ·rw[e1,keys_map_putAt];exact hn
  ·rw[e1]
   intro x hx
   obtain⟨y,hy,rfl⟩:=List.mem_map.mp hx
   unfold putAt
   split<;>exact his y hy
  ·rw[ln];simp
end
section
variable{X:Cx}{G:GX}{pos:Pos}{pins:List (Addr×Obj)}{σ:L2.St}{H:Hp}{s:Shared}{φ:List Addr}
mutual
theorem y5b(I:Inv X pins σ H s):∀(k:KTr)(x:V)(u:Value),RV X.K H φ (ktP k) x->RelV x u->TrA s.heap k u
 |.int i,x,u,r,q=>by cases(show x=.int i from r);exact q
 |.str z,x,u,r,q=>by cases(show x=.str z from r);exact q
 |.tup ks,x,u,r,q=>by
  obtain⟨a,vs,rfl,sa,ra⟩:=(show RV X.K H φ (.tup (ktPs ks)) x from r)
  cases(show u=Value.ref a from q)
  obtain⟨its,rv,p,_⟩:=I.tuple sa
  exact⟨a,its,rfl,p,y8e I ks vs its ra rv⟩
theorem y8e(I:Inv X pins σ H s):∀(ks:List KTr)(vs:List V)(us:List Value),RVs X.K H φ (ktPs ks) vs->Vals vs us->TrAs s.heap ks us
 |[],vs,us,r,q=>by
  rw[show vs=[]from r]at q
  cases q
  rfl
 |k::ks,vs,us,r,q=>by
  obtain⟨y,ys,rfl,r1,r2⟩:=(show ∃y ys,vs=y::ys/\RV X.K H φ (ktP k) y/\RVs X.K H φ (ktPs ks) ys from r)
  cases q with
  |cons q1 q2=>exact⟨_,_,rfl,y5b I k y _ r1 q1,y8e I ks ys _ r2 q2⟩
end
theorem y2x(I:Inv X pins σ H s){a:Addr}{kvs:List (KTr×PV)}{c:Nat}{ws:List (KTr×Addr×V)}(e:H a=some (.dH c ws))(r:RNs X.K H φ kvs ws) :
  ∃xs:List (KTr×Addr×Value),(a==sysModules)=false/\Paired (fun(p:KTr×Addr×V) (q:KTr×Addr×Value)=>p.1=q.1/\p.2.1=q.2.1/\RelV p.2.2 q.2.2) ws xs/\s.heap.DictEp (q5z X.prog X.w) a xs (c+ws.length):=by
 obtain⟨z,y,xs,rel,o,es,h1,h2,h3,h4,h5⟩:=(show q2q X.prog X.w H s.heap a (.dH c ws)from I.hok a _ e)
 refine⟨xs,y,rel,o,es,h1,h2,h3,h4,?_,h5⟩
 clear h3 h4 h5 z e
 induction rel generalizing kvs with
 |nil=>intro x hx;cases hx
 |@cons p q ps qs hpq t ih=>
  cases r with
  |@cons p' _ _ _ hr tr=>
   intro x hx
   rcases List.mem_cons.mp hx with rfl|hx
   ·obtain⟨e1,e2,e3⟩:=hpq
    obtain⟨f1,⟨f2,f3⟩,f4,f5⟩:=hr
    rw[<-e1,<-f1,<-e2]
    exact⟨f2,f3,y5b I _ _ _ f4 rfl⟩
   ·exact ih tr x hx
theorem x2r{kvs:List (KTr×PV)}{ws:List (KTr×Addr×V)}{xs:List (KTr×Addr×Value)}(r:RNs X.K H φ kvs ws)(q:Paired (fun(p:KTr×Addr×V) (q:KTr×Addr×Value)=>p.1=q.1/\p.2.1=q.2.1/\RelV p.2.2 q.2.2) ws xs){k:KTr}{v:PV}(h:valN kvs k=some v) :
  ∃p w,atKey xs k=some p/\RV X.K H φ v w/\RelV w p.2:=by
 induction r generalizing xs with
 |nil=>simp[valN]at h
 |@cons p q' ps qs hpq t ih=>
  cases q with
  |@cons _ q'' _ qs' hq tq=>
   obtain⟨e1,_,_,e4⟩:=hpq
   obtain⟨f1,f2,f3⟩:=hq
   rw[q4c]at h
   unfold atKey
   rw[List.find?_cons]
   by_cases hk:p.1=k
   ·rw[if_pos hk]at h
    cases h
    rw[decide_eq_true (show q''.1=k by rw[<-f1,<-e1];exact hk)]
    exact⟨q''.2,q'.2.2,rfl,e4,f3⟩
   ·rw[if_neg hk]at h
    rw[decide_eq_false (show ¬q''.1=k by rw[<-f1,<-e1];exact hk)]
    exact ih tq h
def bIxN:F2:=fun x y S Q=>∃n kvs k v,x=.ref n/\S[n]?=some (.dN kvs)/\y=ktP k/\((∃ys,k=.tup ys)/\kdep k<=8)/\valN kvs k=some v/\Q v S
theorem w0e(hu:X.A.units+200<cLine):IxR X (q4v X.K bIxN):=by
 rintro value slice pins s σ H x y v u Q I rx ry ⟨φ,S,px,py,Q0,R,hx,hy,h,k⟩ hs
 obtain⟨n,kvs,kk,pv,rfl,e,rfl,⟨⟨ys,ek⟩,hd⟩,ev,q⟩:=h
 obtain⟨a,rfl,qa⟩:=hx
 cases rx
 obtain⟨c,ws,ea,ra⟩:=R.obj n a _ qa e
 obtain⟨xs,hsys,rel,dde⟩:=y2x I ea ra
 have dd:=dde.dictOf
 obtain⟨p,w,hp,rw1,rw2⟩:=x2r ra rel ev
 have ht:=y5b I kk _ _ hy ry
 obtain⟨b,rfl⟩:∃b,u=.ref b:=by subst ek;obtain⟨b,_,e,_⟩:=ht;exact⟨b,e⟩
 refine PyProof.Rows.tail_any dd.typeIs PySem.F.slot_dict_getitem.lookup (wpAny_getItem_heap (knd:=q5z X.prog X.w) (show X.A.in1.units+8<cLine by rw[q6y];omega) ⟨⟨ys,ek⟩,hd,ht⟩ dd hp ?_) hs
 exact⟨w,H,I.tok _,rw2,k _ S φ H _ q (List.prefix_refl _) (.refl _) R rw1⟩
theorem y0b{a b:Expr}{wa wb:WE}(hu:X.A.units+200<cLine)(ha:SimE X G a wa)(hb:SimE X G b wb)(hs:z6f b:=by exact fun _ _=>rfl):SimE X G (.Subscript a b pos) (wBin bIxN wa wb):=(x5k (w0e hu) ha hb hs).imp fun _ _ _ h=>q7s h
theorem x2q{kvs:List (KTr×PV)}{ws:List (KTr×Addr×V)}{xs:List (KTr×Addr×Value)}(r:RNs X.K H φ kvs ws)(q:Paired (fun(p:KTr×Addr×V) (q:KTr×Addr×Value)=>p.1=q.1/\p.2.1=q.2.1/\RelV p.2.2 q.2.2) ws xs)(k:KTr):(atKey xs k).isSome=(valN kvs k).isSome:=by
 induction r generalizing xs with
 |nil=>cases q;rfl
 |@cons p q' ps qs hpq t ih=>
  cases q with
  |@cons _ q'' _ qs' hq tq=>
   obtain⟨e1,_,_,e4⟩:=hpq
   obtain⟨f1,f2,f3⟩:=hq
   have:=ih tq
   rw[q4c]
   unfold atKey at this ⊢
   rw[List.find?_cons]
   by_cases hk:p.1=k
   ·rw[if_pos hk,decide_eq_true (show q''.1=k by rw[<-f1,<-e1];exact hk)]
    rfl
   ·rw[if_neg hk,decide_eq_false (show ¬q''.1=k by rw[<-f1,<-e1];exact hk)]
    exact this
theorem Paired.app{α β:Type}{F:α->β->Prop}{l:List α}{m:List β}{a:α}{b:β}(h:Paired F l m)(r:F a b):Paired F (l++[a]) (m++[b]):=by
 induction h with
 |nil=>exact .cons r .nil
 |cons r' _ ih=>exact .cons r' ih
theorem Paired.maps{α β:Type}{F:α->β->Prop}{f:α->α}{g:β->β}{l:List α}{m:List β}(h:Paired F l m)(r:∀a b,F a b->F (f a) (g b)):Paired F (l.map f) (m.map g):=by
 induction h with
 |nil=>exact .nil
 |cons r' _ ih=>exact .cons (r _ _ r') ih
theorem z8d{kvs:List (KTr×PV)}{ws:List (KTr×Addr×V)}{xs:List (KTr×Addr×Value)}(r:RNs X.K H φ kvs ws)(q:Paired (fun(p:KTr×Addr×V) (q:KTr×Addr×Value)=>p.1=q.1/\p.2.1=q.2.1/\RelV p.2.2 q.2.2) ws xs){k:KTr}{b:Addr}{pv:PV}{v:V}{u:Value}
  (hk:(∃ys,k=.tup ys)/\kdep k<=8) (rk:RV X.K H φ (ktP k) (.ref b)) (rv:RV X.K H φ pv v) (ru:RelV v u) :
  ∃ws',Paired (fun(p:KTr×Addr×V) (q:KTr×Addr×Value)=>p.1=q.1/\p.2.1=q.2.1/\RelV p.2.2 q.2.2) ws' (storedH xs k b u)/\RNs X.K H φ (putN kvs k pv) ws'/\ws'.length<=ws.length+1/\ws.length<=ws'.length:=by
 have hh:=x2q r q k
 unfold storedH putN
 by_cases h:(valN kvs k).isSome=true
 ·rw[if_pos h,if_pos (hh.trans h)]
  refine⟨ws.map (fun p=>if p.1=k then(p.1,p.2.1,v)else p),Paired.maps q ?_,Paired.maps r ?_,by simp,by simp⟩
  ·rintro a c ⟨e1,e2,e3⟩
   unfold putAt
   by_cases z:a.1=k
   ·rw[if_pos z,if_pos (e1▸z)];exact⟨e1,e2,ru⟩
   ·rw[if_neg z,if_neg (e1▸z)];exact⟨e1,e2,e3⟩
  ·rintro a c ⟨e1,e2,e3,e4⟩
   by_cases z:a.1=k
   ·rw[if_pos z,if_pos (e1▸z)];exact⟨e1,e2,e3,rv⟩
   ·rw[if_neg z,if_neg (e1▸z)];exact⟨e1,e2,e3,e4⟩
 ·rw[if_neg h,if_neg (hh▸h)]
  exact⟨ws++[(k,b,v)],Paired.app q ⟨rfl,rfl,ru⟩,Paired.app r ⟨rfl,hk,rk,rv⟩,by simp,by simp⟩
def x4g:FS:=fun o i v S Q=>∃n k kvs,o=.ref n/\i=ktP k/\((∃ys,k=.tup ys)/\kdep k<=8)/\(S[n]?=some (.dN kvs)\/(S[n]?=some (.dK [])/\kvs=[]))/\kvs.length<sizeLine/\Q (S.set n (.dN (putN kvs k v)))
theorem x4b(hu:X.A.units+200<cLine):PSet X (z5c X.K x4g):=by
 rintro pins s σ H o i v ov iv u Q I ro ri rv ⟨φ,S,po,pi,pv,Q0,R,ho,hi,hv,h,k⟩
 obtain⟨n,kk,kvs,rfl,rfl,hk,hS,hz,q⟩:=h
 obtain⟨a,rfl,qa⟩:=ho
 cases ro
 have ht:=y5b I kk _ _ hi ri
 obtain⟨b,rfl⟩:∃b,iv=.ref b:=by obtain⟨⟨ys,ek⟩,_⟩:=hk;subst ek;obtain⟨b,_,e,_⟩:=ht;exact⟨b,e⟩
 have hib:i=.ref b:=by
  obtain⟨⟨ys,ek⟩,_⟩:=hk
  subst ek
  obtain⟨a',vs,rfl,_⟩:=(show RV X.K H φ (.tup (ktPs ys)) i from hi)
  cases(show Value.ref b=Value.ref a' from ri)
  rfl
 subst hib
 have hu':X.A.in1.units+8<cLine:=by rw[q6y];omega
 have main:∀(c:Nat)(ws:List (KTr×Addr×V))(xs:List (KTr×Addr×Value))(mo:∀ys,Mono H (upd H a (.dH c ys))),Mut (H a)->RNs X.K H φ kvs ws->(a==sysModules)=false->Paired (fun(p:KTr×Addr×V) (q:KTr×Addr×Value)=>p.1=q.1/\p.2.1=q.2.1/\RelV p.2.2 q.2.2) ws xs->s.heap.DictEp (q5z X.prog X.w) a xs (c+ws.length)->
   wpAny (model X.prog X.w) X.A (setItem (.ref a) (.ref b) u) (fun _ s'=>∃H',Inv X pins σ H' s'/\Q H') X.xe s:=by
  intro c ws xs mo mu ra hsys rel dd
  have l1:kvs.length=ws.length:=Paired.length ra
  have l2:ws.length=xs.length:=Paired.length rel
  refine x4c (knd:=q5z X.prog X.w) hu' ⟨hk.1,hk.2,ht⟩ dd (by omega) fun h' ep' hep dd' hs=>?_
  obtain⟨ws',g1,g2,g3,g4⟩:=z8d ra rel hk hi hv rv
  obtain⟨o,es,hq,h2,h3,h4,_,h5⟩:=dd'
  have l3:=Paired.length g1
  rw[show ep'=c+ws'.length by omega]at h3
  refine⟨upd H a (.dH c ws'),z0e I mu hs ⟨o,hq⟩ ⟨by omega,hsys,_,g1,o,es,hq,h2,h3,h4,h5⟩,k _ _ q (mo _) (R.put (o:=.dN (putN kvs kk pv)) qa (mo _) ⟨c,ws',q1r,RNs.mono (mo _) (List.prefix_refl _) g2⟩)⟩
 rcases hS with e|⟨e,rfl⟩
 ·obtain⟨c,ws,ea,ra⟩:=R.obj n a _ qa e
  obtain⟨xs,hsys,rel,dd⟩:=y2x I ea ra
  exact main c ws xs (fun _=>.dicH ea) (by rw[ea];trivial) ra hsys rel dd
 ·obtain⟨ws,ea,ra⟩:=R.obj n a _ qa e
  cases ra
  obtain⟨_,hsys,vs,rel,o,es,ep,h1,h2,h3,h4,h5⟩:=(show q2q X.prog X.w H s.heap a (.dK [])from I.hok a _ ea)
  cases rel
  have he:es.toList=[]:=by
   generalize es.toList=l at h5
   cases h5.1
   rfl
  exact main ep [] [] (fun _=>.dict ea) (by rw[ea];trivial) .nil hsys .nil ⟨o,es,h1,h2,h3,he,fun x hx=>(by cases hx),List.nodup_nil⟩
end
end Ev
namespace L2
open PySem PySem.Spec PyProof.Rows
theorem z7g{prog:Program}{w:World}{A:Around}{s:Shared}{kx vx target iter:Expr}{scope:Scope}{pos:Pos}{it:Value}{D:Addr}{env:Env}{R:Result->Shared->Prop}(I:Nat->Shared->Prop)
  (turn:∀n s,I n s->wpAny (model prog w) A (pyNext it) (fun r s₁=>match r with
   |none=>R (.ok .next) s₁
   |some v=>wpAny (model prog w) A (letOwnedTupleGo target it v) (fun _ s₀=>wpAny (model prog w) A (assign target env v) (fun _ s₂=>
     wpAny (model prog w) A (eval kx env) (fun kv s₄=>wpAny (model prog w) A (eval vx env) (fun vv s₅=>
      wpAny (model prog w) A (dictSet D kv vv) (fun _ s₆=>∃m,m<n/\I m s₆) (notedBy (model prog w) A env fun e s'=>R (.error e) s') s₅) (notedBy (model prog w) A env fun e s'=>R (.error e) s') s₄)
      (notedBy (model prog w) A env fun e s'=>R (.error e) s') s₂)
     (notedBy (model prog w) A env fun e s'=>R (.error e) s') s₀) (notedBy (model prog w) A env fun e s'=>R (.error e) s') s₁) (notedBy (model prog w) A env fun e s'=>R (.error e) s') s)
  (n:Nat) (h:I n s):codeAny (model prog w) A (.compLoop (.DictComp kx vx [⟨target,iter,[],0⟩] scope pos) 0 it (.ref D) env) R s:=by
 refine codeAny_loop rfl I (fun n s hI=>?_) n h
 show wpAny _ A ((compTurn (.DictComp kx vx [⟨target,iter,[],0⟩] scope pos) 0 it (.ref D) env).onRaise (fun x=>do noteFrame x env;theTreesLotGoes x)) _ _ s
 refine wpAny_noted ?_
 rw[compTurn_dict]
 refine wpAny_bind (wpAny_standAt (wpAny_bind (wpAny_mono (turn n s hI) (fun r s₁ h₁=>?_) fun _ _ h'=>h')))
 cases r with
 |none=>exact wpAny_pure h₁
 |some v=>
  refine wpAny_bind (wpAny_mono h₁ (fun _ s₀ h₀'=>?_) fun _ _ h'=>h')
  refine wpAny_bind (wpAny_mono h₀' (fun _ s₂ h₂=>?_) fun _ _ h'=>h')
  refine wpAny_bind (wpAny_tests_nil ?_)
  exact wpAny_bind (wpAny_bind (wpAny_mono h₂ (fun kv s₄ h₄=>wpAny_bind (wpAny_holding (wpAny_mono h₄ (fun vv s₅ h₅=>wpAny_bind (wpAny_standAt (wpAny_holding (wpAny_mono h₅ (fun _ s₆ h₆=>wpAny_pure ⟨rfl,h₆⟩) fun _ _ h'=>h')))) fun _ _ h'=>h'))) fun _ _ h'=>h'))
theorem z4a{X:Cx}{pins:List (Addr×Obj)}{σ:St}{H:Hp}{s:Shared}{a:Addr}{k:Key}{v:V}{kvs:List (Key×V)}{u r:Value}{A:Around}{E:Value->Shared->Prop}{Q:Unit->Shared->Prop}(I:Inv X pins σ H s)(e:H a=some (.dK kvs))(l:kvs.length<sizeLine)(ry:RelV (kV k) u)(rv:RelV v r)(h:∀s',Inv X pins σ (upd H a (.dK (putK kvs k v))) s'->Q () s') :
  wpAny (model X.prog X.w) A (dictSet a u r) Q E s:=by
 obtain⟨z,hd,vs,rel,dd⟩:=x2w I.hok e
 have hz:vs.length<=sizeLine:=by rw[<-rel.length];exact z
 have hl:(putK kvs k v).length<=sizeLine:=by have:=q6c kvs k v;omega
 refine wpAny_dictSet_pairs (hsz:=hz) (z5m ry) dd fun h' dd' hs=>h _ ?_
 have he:∃q,h'.get? a=some q:=let ⟨q,_,_,hq,_⟩:=dd';⟨q,hq⟩
 exact z0e I (by rw[e];exact True.intro) hs he (y2u hl hd (rel.put k rv) dd')
def DcGo(J:It)(g:TG)(tk tv:TE)(p:Addr)(Q:Hp->Prop)(σ₀:St)(H0:Hp):Prop:=∃(W:Nat->St->Hp->Prop)(n:Nat),W 0 σ₀ H0/\∀i σ H,i<=n->W i σ H->
 (J.stop i H/\Q H)\/(i<n/\J.go i H/\∀x H',J.yld i H x H'->g x σ H' fun σ2 H2=>tk σ2 H2 fun kv H3=>tv σ2 H3 fun vv H4=>∃kvs k,H4 p=some (.dK kvs)/\kv=kV k/\kvs.length<sizeLine/\W (i+1) σ2 (upd H4 p (.dK (putK kvs k vv))))
def z9q(wi:TI)(ix:List (Option Nat))(g:TG)(tk tv:TE):TE:=fun σ H Q=>wi σ H fun J H1=>∀p,H1 p=none->DcGo J g tk tv p (Q (.ref p)) (q3d ix σ) (upd H1 p (.dK []))
section
variable{X:Cx}{tg iter kx vx:Expr}{scope:Scope}{pos:Pos}{N':List Str}{ix:List (Option Nat)}{wi:TI}{g:TG}{tk tv:TE}
theorem y5q(hc:X.calm=true)(co:CompOk X scope N' ix)(hi:PI X tg iter wi)(hg:∀cl C s H fp,PG (X.comp scope N' cl C s H fp) tg g)(hk:∀cl C s H fp,PE (X.comp scope N' cl C s H fp) kx tk)(hv:∀cl C s H fp,PE (X.comp scope N' cl C s H fp) vx tv)
  (hs:∀x,foldedSetIterable iter X.env x=pure x:=by intro _;rfl):PE X (.DictComp kx vx [⟨tg,iter,[],0⟩] scope pos) (z9q wi ix g tk tv):=by
 intro pins s σ H Q I h
 obtain⟨cl,hclos,hcl1,hcl2⟩:=q6t (scope:=scope) (env:=X.env) fun p hp e=>by
  rcases co.free p hp e with z|z
  ·exact I.ok.has p.1 (.inl z)
  ·exact I.ok.has p.1 (.inr z)
 rw[arm_eval_DictComp]
 refine wpAny_comprehension_free (use:=none) rfl hs hclos co.kind co.names (thn (hi pins s σ H _ I h) fun v s1 h1=>thn h1 fun itv s₂ h2=>?_)
 obtain⟨it,fp,tn,J,H₂,rfl,I₂,T,st2,f2,go0⟩:=h2
 obtain⟨W,n,w0,turn⟩:=go0 s₂.heap.objs.size I₂.fresh
 refine wpAny_newObj_type (wpAny_newFunctionEnv co.cell (by intro y hy;simp at hy) (fun h₁ hns₁ hsb₁=>?_) co.kind)
 dsimp only at hns₁ hsb₁ ⊢
 have hne0:(s₂.heap.push {cls:=.type "dict",dict:=none,data:=.dict #[]}).DictOf (q1o X.prog X.w) s₂.heap.objs.size []:=Heap.DictOf.new s₂.heap
 generalize hH2:s₂.heap.push {cls:=.type "dict",dict:=none,data:=.dict #[]}=H2 at hns₁ hsb₁ hne0 ⊢
 have hC:H2.objs.size=s₂.heap.objs.size+1:=by rw[<-hH2,Heap.size_push]
 have hCle:s₂.heap.objs.size<=H2.objs.size:=by omega
 have hDC:s₂.heap.objs.size≠H2.objs.size:=by omega
 have old:∀b o,s₂.heap.get? b=some o->h₁.get? b=some o:=fun b o e=>hsb₁.extBut b o (Nat.ne_of_lt (by rw[hC];exact Nat.lt_succ_of_lt (Heap.lt_size e))) (Heap.get?_push_of_some _ (hH2▸Heap.get?_push_of_some _ e))
 have hacc:h₁.DictOf (q1o X.prog X.w) s₂.heap.objs.size []:=hne0.at fun o e=>hsb₁.extBut _ _ hDC (Heap.get?_push_of_some _ e)
 have hfz:∀b∈fp,b<s₂.heap.objs.size:=fun b hb=>by
  obtain⟨o,e,_⟩:=T.obj _ _ st2 b hb
  exact Heap.lt_size e
 have hclD:∀x c,cl.lookup x=some c->c≠s₂.heap.objs.size:=fun x c e=>by
  obtain⟨v,o,ho,_⟩:=I₂.cell x c (hcl1 x c e)
  exact Nat.ne_of_lt (Heap.lt_size ho)
 have st0:tn 0 h₁:=T.keep _ _ _ st2 fun b hb o e=>old b o e
 have loop:∀s₃:Shared,s₃={s₂ with heap:=h₁,toks:=s₂.toks+([]:List (Str×Value)).length}->
   codeAny (model X.prog X.w) X.A (.compLoop (.DictComp kx vx [⟨tg,iter,[],0⟩] scope pos) 0 (.ref it) (.ref s₂.heap.objs.size) (compEnvC scope cl H2.objs.size X.env))
    (compPost (model X.prog X.w) X.A X.xe none (EP X pins σ Q) (.ref s₂.heap.objs.size) H2.objs.size) s₃:=by
  rintro s₃ rfl
  have I0:=I₂.comp (t':=s₂.toks+([]:List (Str×Value)).length) co hcl1 hcl2 hc hCle hns₁ old f2 hfz
  have nof:s₂.heap.objs.size∉(X.comp scope N' cl H2.objs.size s₂ H₂ fp).fs:=fun z=>by
   obtain⟨_,o,ho,_⟩:=I0.ok.funs.mem z
   exact absurd (Heap.lt_size ho) (Nat.lt_irrefl _)
  have fD:FpOk (X.comp scope N' cl H2.objs.size s₂ H₂ fp) [] H₂ s₂.heap.objs.size:=⟨I₂.fresh,hDC,nof,.inr (Nat.le_refl _),hclD,fun p hp=>by cases hp⟩
  have I0':=I0.trackO (D:=s₂.heap.objs.size) (ob:=.dK []) fD (Nat.le_refl _) ⟨Nat.zero_le _,beq_eq_false_iff_ne.mpr (Ne.symm (Nat.ne_of_lt I₂.big)),[],.nil,hacc⟩
  have fpok:∀{H':Hp},(∀b∈fp,H' b=none)->∀b∈fp,FpOk (X.comp scope N' cl H2.objs.size s₂ H₂ fp) [] H' b:=fun hn' b hb=>
   ⟨hn' b hb,(I0.ok.exf b hb).1,I0.ok.exfs b hb,.inl hb,(I0.ok.exf b hb).2,fun p hp=>by cases hp⟩
  refine z7g (fun k s'=>∃i σ' H',i<=n/\k=n-i/\Inv (X.comp scope N' cl H2.objs.size s₂ H₂ fp) [] σ' H' s'/\tn i s'.heap/\(∀b∈fp,H' b=none)/\W i σ' H') ?_ n
   ⟨0,q3d ix σ,_,Nat.zero_le _,rfl,I0',st0,fun b hb=>by rw[q1c (Nat.ne_of_lt (hfz b hb))];exact(f2 b hb).1,w0⟩
  rintro k s3 ⟨i,σ3,H3,hi3,rfl,I3,st3,fr3,w3⟩
  have weak:∀{e:Value}{s':Shared},False->notedBy (model X.prog X.w) X.A (compEnvC scope cl H2.objs.size X.env) (fun e s'=>compPost (model X.prog X.w) X.A X.xe none (EP X pins σ Q) (.ref s₂.heap.objs.size) H2.objs.size (.error e) s') e s':=fun z=>z.elim
  rcases turn i σ3 H3 hi3 w3 with⟨stop,q⟩|⟨hlt,go,step⟩
  ·refine thn (T.done (X.comp scope N' cl H2.objs.size s₂ H₂ fp) rfl rfl rfl rfl i _ s3 σ3 H3 _ I3 (fpok fr3) st3 stop) fun r s' hh1=>?_
   obtain⟨hr,I'⟩:=hh1
   subst hr
   obtain⟨m,hm,_⟩:=I'.loc
   refine⟨m,hm,fun h' sb=>?_⟩
   have new:∀a,s₂.heap.objs.size<=a->a≠X.env.locals/\X.s₀.heap.objs.size<=a/\(∀x c,X.env.cells.lookup x=some c->c≠a)/\∀p∈X.pn++pins,p.1≠a:=fun a ha=>by
    refine⟨Nat.ne_of_gt (Nat.lt_of_lt_of_le I₂.lt ha),Nat.le_trans I₂.sz ha,fun x c e=>?_,fun p hp=>?_⟩
    ·obtain⟨v,o,ho,_⟩:=I₂.cell x c e
     exact Nat.ne_of_lt (Nat.lt_of_lt_of_le (Heap.lt_size ho) ha)
    ·exact Nat.ne_of_lt (Nat.lt_of_lt_of_le (Heap.lt_size (I₂.pin p hp).1) ha)
   have I4:Inv X pins σ H3 s':=I₂.call' I'.os I'.base I'.hok I'.bare fun b hb=>⟨(f2 b hb).2.2.2.1,(f2 b hb).2.1,(f2 b hb).2.2.2.2.1,(f2 b hb).2.2.2.2.2⟩
   obtain⟨c1,c2,c3,c4⟩:=new H2.objs.size hCle
   have I5:Inv X pins σ H3 {s' with heap:=h' }:=I4.turned (t':=s'.toks) (it:=H2.objs.size) (fun b o hb e=>(sb.2 b hb).trans e) I'.free c1 (.inr c2) c3 c4
   exact⟨.ref s₂.heap.objs.size,_,I5,rfl,q⟩
  ·refine thn (T.item (X.comp scope N' cl H2.objs.size s₂ H₂ fp) rfl rfl rfl rfl i _ s3 σ3 H3 _ I3 (fpok fr3) st3 go) fun r s4 hh2=>?_
   obtain⟨u,hr,h4⟩:=hh2
   subst hr
   refine thn h4 fun _ s5 hh3=>?_
   obtain⟨x,H5,I5,r5,y5,st5,fr5⟩:=hh3
   have I5':=I5.pinned (fpok fr5) (T.obj _ _ st5)
   refine wpAny_mono (hg cl _ s₂ H₂ fp _ s5 σ3 H5 x u _ I5' r5 (step x H5 y5)) (fun _ s6 ⟨σ6,H6,I6,q6⟩=>?_) fun _ _ z=>weak z
   refine wpAny_mono (hk cl _ s₂ H₂ fp _ s6 σ6 H6 _ I6 q6) (fun u7 s7 ⟨y7,H7,I7,r7,q7⟩=>?_) fun _ _ z=>weak z
   refine wpAny_mono (hv cl _ s₂ H₂ fp _ s7 σ6 H7 _ I7 q7) (fun u8 s8 ⟨y8,H8,I8,r8,q8⟩=>?_) fun _ _ z=>weak z
   obtain⟨kvs,kk,e8,rfl,l8,w8⟩:=q8
   refine z4a (X:=X.comp scope N' cl H2.objs.size s₂ H₂ fp) I8 e8 l8 r7 r8 fun s9 I9=>?_
   refine⟨n-(i+1),by omega,i+1,σ6,_,hlt,rfl,I9.unpinned,?_,fun b hb=>?_,w8⟩
   ·exact T.keep _ _ _ st5 fun b hb o e=>(I9.pin (b,o) (List.mem_append_right _ (List.mem_append_right _ (q2m hb e)))).1
   ·obtain⟨o,e,d⟩:=T.obj _ _ st5 b hb
    exact(I9.pin (b,o) (List.mem_append_right _ (List.mem_append_right _ (q2m hb e)))).2.1
 exact codeAny_compStart_dict (loop _ rfl) (T.self _ 0 _ _ _ st0 (loop _ rfl))
end
end L2
namespace Ev
open PySem PySem.Spec PyProof.Rows L2
section
variable{X:Cx}{G:GX}{pos:Pos}
def dcGo(chk:q0h->Prop)(g:WG)(wk wv:WE)(d:Nat)(Q:VC):List PV->Ev.Loc->q0h->Prop
 |[],_,S=>chk S/\Q (.ref d) S
 |x::r,σ,S=>chk S/\∃N:Ev.Loc->q0h->Prop,(∀σ' S',N σ' S'->dcGo chk g wk wv d Q r σ' S')/\g x σ S NoX fun σ2 S2=>wk σ2 S2 NoX fun k S3=>wv σ2 S3 NoX fun v S4=>∃kvs kk,S4[d]?=some (.dK kvs)/\q8r k=some kk/\kvs.length<sizeLine/\N σ2 (S4.set d (.dK (putP kvs kk v)))
def q8l(wi:WI)(ix:List (Option Nat))(g:WG)(wk wv:WE):WE:=fun σ S E Q=>wi σ S E fun it S1=>dcGo it.chk g wk wv S1.length Q it.xs (z0b ix σ) (S1++[.dK []])
theorem y0c{tg iter kx vx:Expr}{scope:Scope}{wi:WI}{g:WG}{wk wv:WE}(N':List Str)(ix:List (Option Nat))(hc:X.calm=true)(co:CompOk X scope N' ix)(hi:SimI X G tg iter wi)(hg:∀cl C s H fp,SimG (X.comp scope N' cl C s H fp) NoG tg g)(hk:∀cl C s H fp,SimE (X.comp scope N' cl C s H fp) NoG kx wk)(hv:∀cl C s H fp,SimE (X.comp scope N' cl C s H fp) NoG vx wv)
  (hs:∀x,foldedSetIterable iter X.env x=pure x:=by intro _;rfl):SimE X G (.DictComp kx vx [⟨tg,iter,[],0⟩] scope pos) (q8l wi ix g wk wv):=
 (y5q (g:=z3e X.K NoG g) (tk:=q6b X.K NoG wk) (tv:=q6b X.K NoG wv) hc co hi hg hk hv hs).imp fun σV H Q hh1=>by obtain⟨φ,σ,S,Q0,L,R,h,k⟩:=hh1;exact(⟨φ,σ,S,_,L,R,h,fun it S1 φ1 H1 J q p1 m1 R1 hj=>by
  intro p hp
  have R2:Rel X.K (φ1++[p]) (S1++[.dK []]) (upd H1 p (.dK [])):=R1.new (o:=.dK []) hp ⟨[],q1r,.nil⟩
  have ep:(φ1++[p])[S1.length]?=some p:=by rw [<-R1.len,List.getElem?_append_right (Nat.le_refl _)];simp
  have mp:Mono H1 (upd H1 p (.dK [])):=.new _ hp
  have pp:φ1 <+: φ1++[p]:=List.prefix_append _ _
  refine ⟨fun i σV' H'=>∃φ' σ' S',(φ1++[p]) <+: φ'/\Mono (upd H1 p (.dK [])) H'/\LRel X.K NoG H' φ' σ' σV'/\Rel X.K φ' S' H'/\dcGo it.chk g wk wv S1.length Q0 (it.xs.drop i) σ' S',it.xs.length,⟨φ1++[p],_,_,List.prefix_refl _,.refl _,z0a ix ((L.mono m1 p1).mono mp pp),R2,by simpa using q⟩,?_⟩
  rintro i σV' H' hi ⟨φ',σ',S',p',m',L',R',hf⟩
  by_cases hlt:i<it.xs.length
  ·rw [List.drop_eq_getElem_cons hlt]at hf
   obtain ⟨hch,N,hN,hb⟩:=hf
   obtain ⟨jg,jy⟩:=hj.go φ' H' S' (pp.trans p') (mp.trans m') R' hch i _ (List.getElem?_eq_getElem hlt)
   refine .inr ⟨hlt,jg,fun y H2 hy=>?_⟩
   obtain ⟨φ2,p2,m2,R2,r2⟩:=jy y H2 hy
   refine ⟨φ2,_,σ',S',_,L'.mono m2 p2,R2,r2,hb,fun σ3 S3 φ3 H3 σ3V q3 p3 m3 R3 L3=>?_⟩
   refine ⟨φ3,σ3,S3,_,L3,R3,q3,fun z S4 φ4 H4 z' q4 p4 m4 R4 r4=>?_⟩
   refine ⟨φ4,σ3,S4,_,L3.mono m4 p4,R4,q4,fun v S5 φ5 H5 v' q5 p5 m5 R5 r5=>?_⟩
   obtain ⟨kvs,kk,e5,ek,l5,n5⟩:=q5
   have hd:φ5[S1.length]?=some p:=q4u ((((p'.trans p2).trans p3).trans p4).trans p5) ep
   obtain ⟨ws,ea,ra⟩:=R5.obj _ _ _ hd e5
   have hk':=q7i (RV.mono m5 p5 _ _ r4) ek
   refine ⟨ws,kk,ea,hk',by rw [<-ra.length];exact l5,?_⟩
   refine ⟨φ5,σ3,_,(((p'.trans p2).trans p3).trans p4).trans p5,(((((m'.trans m2).trans m3).trans m4).trans m5)).trans (.dict ea),((L3.mono m4 p4).mono m5 p5).mono (.dict ea) (List.prefix_refl _),R5.put (o:=.dK (putP kvs kk v)) hd (.dict ea) ⟨_,q1r,RKs.mono (.dict ea) (List.prefix_refl _) (ra.put kk r5)⟩,hN _ _ n5⟩
  ·have e:i=it.xs.length:=by omega
   subst e
   rw [List.drop_length]at hf
   exact .inl ⟨hj.stop φ' H' S' (pp.trans p') (mp.trans m') R' hf.1 _ (Nat.le_refl _),k _ _ _ _ _ hf.2 ((p1.trans pp).trans p') ((m1.trans mp).trans m') R' ⟨p,rfl,q4u p' ep⟩⟩⟩)
end
section
variable{X:Cx}{G:GX}{pos:Pos}
def z4t:WE:=fun _ S _ Q=>Q (.ref S.length) (S++[.dK []])
theorem q8y:SimE X G (.Dict [] [] pos) z4t:=
 (y5p (X:=X) (pos:=pos)).imp fun σV H Q hh1=>by obtain⟨φ,σ,S,Q0,L,R,h,k⟩:=hh1;exact(fun p hp=>
  have R2:Rel X.K (φ++[p]) (S++[.dK []]) (upd H p (.dK [])):=R.new (o:=.dK []) hp ⟨[],q1r,.nil⟩
  k _ _ _ _ _ h (List.prefix_append _ _) (.new _ hp) R2 ⟨p,rfl,by rw [<-R.len,List.getElem?_append_right (Nat.le_refl _)];simp⟩)
def wPar(i j:Nat)(wa:WA):WS:=fun D E σ S=>wa σ S E fun xs S1=>∃v w,xs=[v,w]/\D.nx ((σ.set i (some v)).set j (some w)) S1
theorem y9x(i j:Nat){x y:Str}{a b:Expr}{wa:WA}{px py pt:Pos} {kt k2 pt2} (hN:X.N.Nodup) (hc:X.calm=true) (ha:SimA X G [a,b] wa) (hi:X.N[i]?=some x:=by rfl) (hj:X.N[j]?=some y:=by rfl) (hij:i≠j:=by decide)
  (hx:X.env.scope.names.lookup x=some .local:=by rfl) (hy:X.env.scope.names.lookup y=some .local:=by rfl)
  (hw:swappedStores [.Tuple [.Name x px,.Name y py] kt pt] (.Tuple [a,b] k2 pt2) X.env=pure (some [x,y]):=by rfl)
  (hs:swapsWithSole [.Tuple [.Name x px,.Name y py] kt pt] (.Tuple [a,b] k2 pt2) pos.line X.env=pure false:=by rfl) :
  SimS X G (.Assign [.Tuple [.Name x px,.Name y py] kt pt] (.Tuple [a,b] k2 pt2) pos) (wPar i j wa):=
 (x4t hc hN hi hj hij hx hy ha hw hs).imp fun D σV H hh1=>by obtain⟨φ,σ,S,D0,L,R,h,k⟩:=hh1;exact(⟨φ,σ,S,_,L,R,h,fun vs S1 φ1 H1 xs q p1 m1 R1 r1=>by
  obtain ⟨v,w,rfl,q⟩:=q
  obtain ⟨y1,y2,rfl,g1,g2⟩:=q9d r1
  exact ⟨y1,y2,rfl,k.nx _ S1 φ1 H1 _ q p1 m1 R1 (((L.mono m1 p1).set i g1).set j g2)⟩⟩)
end
end Ev
namespace L2
open PySem PySem.Spec PyProof.Rows
def x3v(wi:TI)(ix:List (Option Nat))(g:TG)(tk tv:TE)(i:Nat):TS:=fun D σ H=>z9q wi ix g tk tv σ H fun v H1=>D.nx (σ.set i (some v)) H1
section
variable{X:Cx}{tg iter kx vx:Expr}{scope:Scope}{pos:Pos}{N':List Str}{ix:List (Option Nat)}{wi:TI}{g:TG}{tk tv:TE}
theorem y5i{i:Nat}{x:Str}{px sp:Pos}(hsw:swapsWith (.DictComp kx vx [⟨tg,iter,[],0⟩] scope pos) (some (.Name x px)) sp.line X.env=pure true)(hN:X.N.Nodup)(hii:X.N[i]?=some x)(hx:Loc X.env.scope x)(hc:X.calm=true)(co:CompOk X scope N' ix)(hi:PI X tg iter wi)(hg:∀cl C s H fp,PG (X.comp scope N' cl C s H fp) tg g)(hk:∀cl C s H fp,PE (X.comp scope N' cl C s H fp) kx tk)(hv:∀cl C s H fp,PE (X.comp scope N' cl C s H fp) vx tv)
  (hs:∀x,foldedSetIterable iter X.env x=pure x:=by intro _;rfl) (hf:X.fn x=true\/X.env.scope.names.lookup x=some .local:=by first|exact .inl rfl|exact .inr rfl|assumption):PS X (.Assign [.Name x px] (.DictComp kx vx [⟨tg,iter,[],0⟩] scope pos) sp) (x3v wi ix g tk tv i):=by
 intro pins s σ H Dn I h
 rw[exec_Assign_Name_used _ _ _ _ hsw]
 refine wpAny_bind (wpAny_standAt (wpAny_bind ?_))
 show wpAny _ X.A (do let _ <-comprehension (.DictComp kx vx [⟨tg,iter,[],0⟩] scope pos) scope X.env _ newDict false (eval iter X.env) (some (assign (.Name x px) X.env))) _ _ s
 obtain⟨cl,hclos,hcl1,hcl2⟩:=q6t (scope:=scope) (env:=X.env) fun p hp e=>by
  rcases co.free p hp e with z|z
  ·exact I.ok.has p.1 (.inl z)
  ·exact I.ok.has p.1 (.inr z)
 refine wpAny_bind (wpAny_mono (wpAny_comprehension_free (Q:=fun _ s'=>SP X pins Dn .next s') (use:=some (assign (.Name x px) X.env)) rfl hs hclos co.kind co.names (thn (hi pins s σ H _ I h) fun v s1 h1=>thn h1 fun itv s₂ h2=>?_)) (fun _ s' hq=>wpAny_pure (wpAny_pure hq)) fun _ _ e=>e)
 obtain⟨it,fp,tn,J,H₂,rfl,I₂,T,st2,f2,go0⟩:=h2
 obtain⟨W,n,w0,turn⟩:=go0 s₂.heap.objs.size I₂.fresh
 refine wpAny_newObj_type (wpAny_newFunctionEnv co.cell (by intro y hy;simp at hy) (fun h₁ hns₁ hsb₁=>?_) co.kind)
 dsimp only at hns₁ hsb₁ ⊢
 have hne0:(s₂.heap.push {cls:=.type "dict",dict:=none,data:=.dict #[]}).DictOf (q1o X.prog X.w) s₂.heap.objs.size []:=Heap.DictOf.new s₂.heap
 generalize hH2:s₂.heap.push {cls:=.type "dict",dict:=none,data:=.dict #[]}=H2 at hns₁ hsb₁ hne0 ⊢
 have hC:H2.objs.size=s₂.heap.objs.size+1:=by rw[<-hH2,Heap.size_push]
 have hCle:s₂.heap.objs.size<=H2.objs.size:=by omega
 have hDC:s₂.heap.objs.size≠H2.objs.size:=by omega
 have old:∀b o,s₂.heap.get? b=some o->h₁.get? b=some o:=fun b o e=>hsb₁.extBut b o (Nat.ne_of_lt (by rw[hC];exact Nat.lt_succ_of_lt (Heap.lt_size e))) (Heap.get?_push_of_some _ (hH2▸Heap.get?_push_of_some _ e))
 have hacc:h₁.DictOf (q1o X.prog X.w) s₂.heap.objs.size []:=hne0.at fun o e=>hsb₁.extBut _ _ hDC (Heap.get?_push_of_some _ e)
 have hfz:∀b∈fp,b<s₂.heap.objs.size:=fun b hb=>by
  obtain⟨o,e,_⟩:=T.obj _ _ st2 b hb
  exact Heap.lt_size e
 have hclD:∀x c,cl.lookup x=some c->c≠s₂.heap.objs.size:=fun x c e=>by
  obtain⟨v,o,ho,_⟩:=I₂.cell x c (hcl1 x c e)
  exact Nat.ne_of_lt (Heap.lt_size ho)
 have st0:tn 0 h₁:=T.keep _ _ _ st2 fun b hb o e=>old b o e
 have loop:∀s₃:Shared,s₃={s₂ with heap:=h₁,toks:=s₂.toks+([]:List (Str×Value)).length}->
   codeAny (model X.prog X.w) X.A (.compLoop (.DictComp kx vx [⟨tg,iter,[],0⟩] scope pos) 0 (.ref it) (.ref s₂.heap.objs.size) (compEnvC scope cl H2.objs.size X.env))
    (compPost (model X.prog X.w) X.A X.xe (some (assign (.Name x px) X.env)) (fun _ s'=>SP X pins Dn .next s') (.ref s₂.heap.objs.size) H2.objs.size) s₃:=by
  rintro s₃ rfl
  have I0:=I₂.comp (t':=s₂.toks+([]:List (Str×Value)).length) co hcl1 hcl2 hc hCle hns₁ old f2 hfz
  have nof:s₂.heap.objs.size∉(X.comp scope N' cl H2.objs.size s₂ H₂ fp).fs:=fun z=>by
   obtain⟨_,o,ho,_⟩:=I0.ok.funs.mem z
   exact absurd (Heap.lt_size ho) (Nat.lt_irrefl _)
  have fD:FpOk (X.comp scope N' cl H2.objs.size s₂ H₂ fp) [] H₂ s₂.heap.objs.size:=⟨I₂.fresh,hDC,nof,.inr (Nat.le_refl _),hclD,fun p hp=>by cases hp⟩
  have I0':=I0.trackO (D:=s₂.heap.objs.size) (ob:=.dK []) fD (Nat.le_refl _) ⟨Nat.zero_le _,beq_eq_false_iff_ne.mpr (Ne.symm (Nat.ne_of_lt I₂.big)),[],.nil,hacc⟩
  have fpok:∀{H':Hp},(∀b∈fp,H' b=none)->∀b∈fp,FpOk (X.comp scope N' cl H2.objs.size s₂ H₂ fp) [] H' b:=fun hn' b hb=>
   ⟨hn' b hb,(I0.ok.exf b hb).1,I0.ok.exfs b hb,.inl hb,(I0.ok.exf b hb).2,fun p hp=>by cases hp⟩
  refine z7g (fun k s'=>∃i σ' H',i<=n/\k=n-i/\Inv (X.comp scope N' cl H2.objs.size s₂ H₂ fp) [] σ' H' s'/\tn i s'.heap/\(∀b∈fp,H' b=none)/\W i σ' H') ?_ n
   ⟨0,q3d ix σ,_,Nat.zero_le _,rfl,I0',st0,fun b hb=>by rw[q1c (Nat.ne_of_lt (hfz b hb))];exact(f2 b hb).1,w0⟩
  rintro k s3 ⟨i,σ3,H3,hi3,rfl,I3,st3,fr3,w3⟩
  have weak:∀{e:Value}{s':Shared},False->notedBy (model X.prog X.w) X.A (compEnvC scope cl H2.objs.size X.env) (fun e s'=>compPost (model X.prog X.w) X.A X.xe (some (assign (.Name x px) X.env)) (fun _ s'=>SP X pins Dn .next s') (.ref s₂.heap.objs.size) H2.objs.size (.error e) s') e s':=fun z=>z.elim
  rcases turn i σ3 H3 hi3 w3 with⟨stop,q⟩|⟨hlt,go,step⟩
  ·refine thn (T.done (X.comp scope N' cl H2.objs.size s₂ H₂ fp) rfl rfl rfl rfl i _ s3 σ3 H3 _ I3 (fpok fr3) st3 stop) fun r s' hh1=>?_
   obtain⟨hr,I'⟩:=hh1
   subst hr
   obtain⟨m,hm,_⟩:=I'.loc
   have new:∀a,s₂.heap.objs.size<=a->a≠X.env.locals/\X.s₀.heap.objs.size<=a/\(∀x c,X.env.cells.lookup x=some c->c≠a)/\∀p∈X.pn++pins,p.1≠a:=fun a ha=>by
    refine⟨Nat.ne_of_gt (Nat.lt_of_lt_of_le I₂.lt ha),Nat.le_trans I₂.sz ha,fun x c e=>?_,fun p hp=>?_⟩
    ·obtain⟨v,o,ho,_⟩:=I₂.cell x c e
     exact Nat.ne_of_lt (Nat.lt_of_lt_of_le (Heap.lt_size ho) ha)
    ·exact Nat.ne_of_lt (Nat.lt_of_lt_of_le (Heap.lt_size (I₂.pin p hp).1) ha)
   have I4:Inv X pins σ H3 s':=I₂.call' I'.os I'.base I'.hok I'.bare fun b hb=>⟨(f2 b hb).2.2.2.1,(f2 b hb).2.1,(f2 b hb).2.2.2.2.1,(f2 b hb).2.2.2.2.2⟩
   obtain⟨c1,c2,c3,c4⟩:=new H2.objs.size hCle
   show wpAny (model X.prog X.w) X.A (assign (.Name x px) X.env (.ref s₂.heap.objs.size)) _ _ _
   refine wpAny_assign_Name (q9e I4 hN hii hx (v:=.ref s₂.heap.objs.size) rfl (fun s'' I'' ⟨a,sb,ha⟩=>?_) hf)
   have haC:a≠H2.objs.size:=by
    rcases ha with rfl|ha
    ·exact c1.symm
    ·exact c3 _ _ ha
   refine⟨m,hm.sameBut sb haC.symm,fun h' sb'=>⟨_,_,?_,q⟩⟩
   exact I''.turned (t':=s''.toks) (it:=H2.objs.size) (fun b o hb e=>(sb'.2 b hb).trans e) I'.free c1 (.inr c2) c3 c4
  ·refine thn (T.item (X.comp scope N' cl H2.objs.size s₂ H₂ fp) rfl rfl rfl rfl i _ s3 σ3 H3 _ I3 (fpok fr3) st3 go) fun r s4 hh2=>?_
   obtain⟨u,hr,h4⟩:=hh2
   subst hr
   refine thn h4 fun _ s5 hh3=>?_
   obtain⟨x,H5,I5,r5,y5,st5,fr5⟩:=hh3
   have I5':=I5.pinned (fpok fr5) (T.obj _ _ st5)
   refine wpAny_mono (hg cl _ s₂ H₂ fp _ s5 σ3 H5 x u _ I5' r5 (step x H5 y5)) (fun _ s6 ⟨σ6,H6,I6,q6⟩=>?_) fun _ _ z=>weak z
   refine wpAny_mono (hk cl _ s₂ H₂ fp _ s6 σ6 H6 _ I6 q6) (fun u7 s7 ⟨y7,H7,I7,r7,q7⟩=>?_) fun _ _ z=>weak z
   refine wpAny_mono (hv cl _ s₂ H₂ fp _ s7 σ6 H7 _ I7 q7) (fun u8 s8 ⟨y8,H8,I8,r8,q8⟩=>?_) fun _ _ z=>weak z
   obtain⟨kvs,kk,e8,rfl,l8,w8⟩:=q8
   refine z4a (X:=X.comp scope N' cl H2.objs.size s₂ H₂ fp) I8 e8 l8 r7 r8 fun s9 I9=>?_
   refine⟨n-(i+1),by omega,i+1,σ6,_,hlt,rfl,I9.unpinned,?_,fun b hb=>?_,w8⟩
   ·exact T.keep _ _ _ st5 fun b hb o e=>(I9.pin (b,o) (List.mem_append_right _ (List.mem_append_right _ (q2m hb e)))).1
   ·obtain⟨o,e,d⟩:=T.obj _ _ st5 b hb
    exact(I9.pin (b,o) (List.mem_append_right _ (List.mem_append_right _ (q2m hb e)))).2.1
 exact codeAny_compStart_dict (loop _ rfl) (T.self _ 0 _ _ _ st0 (loop _ rfl))
end
def rngV:Int->Nat->List V
 |_,0=>[]
 |k,n+1=>.int k::rngV (k+1) n
theorem z6o:∀(n:Nat)(k:Int),(rngV k n).length=n
 |0,_=>rfl
 |n+1,k=>by rw[rngV,List.length_cons,z6o n]
theorem z6i:∀(l:List Value)(k:Int),(∀(i:Nat) v,l[i]?=some v->∃t,v=.int (k+i) t)->Vals (rngV k l.length) l
 |[],_,_=>.nil
 |v::l,k,h=>.cons (by obtain⟨t,e⟩:=h 0 v rfl;exact⟨t,by rw[e];simp⟩) (z6i l (k+1) fun i u e=>by
   obtain ⟨t,e'⟩:=h (i+1) u (by simpa using e)
   exact ⟨t,by rw [e',show k+((i+1:Nat):Int)=k+1+(i:Int) by omega]⟩)
def y9q(ta:TA):TE:=fun σ H Q=>ta σ H fun vs H1=>∃j:Nat,vs=[.int j]/\j<=100000/\∀p,H1 p=none->Q (.ref p) (upd H1 p (.lst (rngV 0 j)))
theorem y0q{X:Cx}{a:Expr}{ta:TA}{p p2 pos2 pos:Pos}(hc:X.calm=true)(ha:PA X [a] ta)(hm:X.mg "list" = none)(hm2:X.mg "range" = none)(hg:Gl X "list" :=by rfl)(hg2:Gl X "range" :=by rfl)
  (he:starEach [.Call (.Name "range" p2) [a] [] pos2] X.env=(false,eval (.Call (.Name "range" p2) [a] [] pos2) X.env)::starEach [] X.env:=by rfl) (hs:starEach [a] X.env=[(false,eval a X.env)]:=by rfl) :
  PE X (.Call (.Name "list" p) [.Call (.Name "range" p2) [a] [] pos2] [] pos) (y9q ta):=by
 intro pins s σ H Q I h
 refine wpAny_Call_Name_kw (q7d I hg hm y3n ?_)
 refine PyProof.Rows.callWith_type1 ?_ he rfl
 rw[he]
 show wpAny _ _ (spliced ((false,eval (.Call (.Name "range" p2) [a] [] pos2) X.env)::backTo pos (starEach [] X.env))) _ _ s
 refine Calls.spliced_cons (Call_ (q7d I hg2 hm2 boot_range (PyProof.Rows.callWith_type1 (thn (ha pos2 pins s σ H _ I h) fun us s1 ⟨vs,H1,I1,r1,q1⟩=>?_) hs rfl)))
 obtain⟨j,e,q2,q⟩:=q1
 subst e
 cases r1 with
 |cons r rr=>
  cases rr
  obtain⟨t,rfl⟩:=r
  refine call_range_1 (Calls.spliced_nil ?_)
  have I2:Inv X pins σ H1 {s1 with heap:=s1.heap.push {cls:=.type "range",data:=.fields #[.int 0 s1.toks,.int j t,.int 1 (s1.toks+1)]},toks:=s1.toks+1+1}:=I1.kept fun b o e=>Heap.get?_push_of_some _ e
  have fl:∀i:Int,-(2 ^ 63)<=i->i<2 ^ 63->Builtin.Range.rangeFitsLong i=true:=fun i a b=>by
   unfold Builtin.Range.rangeFitsLong
   rw[decide_eq_true a,decide_eq_true b];rfl
  have e0:Builtin.Range.rangeSize 0 (j:Int) 1=(j:Nat):=by rw[rangeSize_one];split<;>omega
  have hr:IsRange (s1.heap.push {cls:=.type "range",data:=.fields #[.int 0 s1.toks,.int j t,.int 1 (s1.toks+1)]}) s1.heap.objs.size 0 j 1 s1.toks t (s1.toks+1):=Heap.get?_push_size _ rfl
  generalize hS:s1.heap.push {cls:=.type "range",data:=.fields #[.int 0 s1.toks,.int j t,.int 1 (s1.toks+1)]}=hp2 at I2 hr ⊢
  refine call_list_range (n:=j) (I1.ok.hd hc) hr (by
   unfold Builtin.Range.small
   simp only [e0]
   rw [fl 0 (by omega) (by omega),fl _ (by omega) (by omega),fl 1 (by omega) (by omega),if_pos (show (1:Int) > 0 by decide),fl ((j:Int)+(1-1)) (by omega) (by omega)];simp) e0 (by omega) fun h' tk acc' c' kk hS' hacc=>?_
  obtain⟨hsz,hit⟩:=hacc
  have hv:Vals (rngV 0 j) acc'.toList:=by
   have:=z6i acc'.toList 0 fun i v e=>by
    obtain⟨t',e'⟩:=hit i v (by simpa using e)
    exact⟨t',by rw[e'];simp⟩
   rw[Array.length_toList,hsz]at this
   exact this
  refine⟨.ref hp2.objs.size,_,I2.laid (a:=hp2.objs.size) (o:=.lst (rngV 0 j)) (t':=tk) kk (Nat.le_refl _) ⟨by rw[z6o];exact Nat.le_trans q2 (by decide),acc'.toList,c',hv,hS'⟩,rfl,q _ (I2.hok.fresh (Nat.le_refl _))⟩
end L2
namespace Ev
open PySem PySem.Spec PyProof.Rows L2
section
variable{X:Cx}{G:GX}{pos:Pos}
theorem w0k{tg iter:Expr}{scope:Scope}{wi:WI}{g:WG}{wk wv:WE}{ix:List (Option Nat)}{σV:L2.St}{H:Hp}{Q:VK}(h:q6b X.K G (q8l wi ix g wk wv) σV H Q):z9q (y1q X.K G wi) ix (z3e X.K NoG g) (q6b X.K NoG wk) (q6b X.K NoG wv) σV H Q:=by
 obtain⟨φ,σ,S,Q0,L,R,h,k⟩:=h
 exact⟨φ,σ,S,_,L,R,h,fun it S1 φ1 H1 J q p1 m1 R1 hj=>by
  intro p hp
  have R2:Rel X.K (φ1++[p]) (S1++[.dK []]) (upd H1 p (.dK [])):=R1.new (o:=.dK []) hp ⟨[],q1r,.nil⟩
  have ep:(φ1++[p])[S1.length]?=some p:=by rw [<-R1.len,List.getElem?_append_right (Nat.le_refl _)];simp
  have mp:Mono H1 (upd H1 p (.dK [])):=.new _ hp
  have pp:φ1 <+: φ1++[p]:=List.prefix_append _ _
  refine ⟨fun i σV' H'=>∃φ' σ' S',(φ1++[p]) <+: φ'/\Mono (upd H1 p (.dK [])) H'/\LRel X.K NoG H' φ' σ' σV'/\Rel X.K φ' S' H'/\dcGo it.chk g wk wv S1.length Q0 (it.xs.drop i) σ' S',it.xs.length,⟨φ1++[p],_,_,List.prefix_refl _,.refl _,z0a ix ((L.mono m1 p1).mono mp pp),R2,by simpa using q⟩,?_⟩
  rintro i σV' H' hi ⟨φ',σ',S',p',m',L',R',hf⟩
  by_cases hlt:i<it.xs.length
  ·rw [List.drop_eq_getElem_cons hlt]at hf
   obtain ⟨hch,N,hN,hb⟩:=hf
   obtain ⟨jg,jy⟩:=hj.go φ' H' S' (pp.trans p') (mp.trans m') R' hch i _ (List.getElem?_eq_getElem hlt)
   refine .inr ⟨hlt,jg,fun y H2 hy=>?_⟩
   obtain ⟨φ2,p2,m2,R2,r2⟩:=jy y H2 hy
   refine ⟨φ2,_,σ',S',_,L'.mono m2 p2,R2,r2,hb,fun σ3 S3 φ3 H3 σ3V q3 p3 m3 R3 L3=>?_⟩
   refine ⟨φ3,σ3,S3,_,L3,R3,q3,fun z S4 φ4 H4 z' q4 p4 m4 R4 r4=>?_⟩
   refine ⟨φ4,σ3,S4,_,L3.mono m4 p4,R4,q4,fun v S5 φ5 H5 v' q5 p5 m5 R5 r5=>?_⟩
   obtain ⟨kvs,kk,e5,ek,l5,n5⟩:=q5
   have hd:φ5[S1.length]?=some p:=q4u ((((p'.trans p2).trans p3).trans p4).trans p5) ep
   obtain ⟨ws,ea,ra⟩:=R5.obj _ _ _ hd e5
   have hk':=q7i (RV.mono m5 p5 _ _ r4) ek
   refine ⟨ws,kk,ea,hk',by rw [<-ra.length];exact l5,?_⟩
   refine ⟨φ5,σ3,_,(((p'.trans p2).trans p3).trans p4).trans p5,(((((m'.trans m2).trans m3).trans m4).trans m5)).trans (.dict ea),((L3.mono m4 p4).mono m5 p5).mono (.dict ea) (List.prefix_refl _),R5.put (o:=.dK (putP kvs kk v)) hd (.dict ea) ⟨_,q1r,RKs.mono (.dict ea) (List.prefix_refl _) (ra.put kk r5)⟩,hN _ _ n5⟩
  ·have e:i=it.xs.length:=by omega
   subst e
   rw [List.drop_length]at hf
   exact .inl ⟨hj.stop φ' H' S' (pp.trans p') (mp.trans m') R' hf.1 _ (Nat.le_refl _),k _ _ _ _ _ hf.2 ((p1.trans pp).trans p') ((m1.trans mp).trans m') R' ⟨p,rfl,q4u p' ep⟩⟩⟩
theorem z2t(i:Nat){x:Str}{px sp:Pos}{tg iter kx vx:Expr}{scope:Scope}{wi:WI}{g:WG}{wk wv:WE}(N':List Str)(ix:List (Option Nat))(hN:X.N.Nodup)(hc:X.calm=true)(co:CompOk X scope N' ix)(hi:SimI X G tg iter wi)(hg:∀cl C s H fp,SimG (X.comp scope N' cl C s H fp) NoG tg g)(hk:∀cl C s H fp,SimE (X.comp scope N' cl C s H fp) NoG kx wk)(hv:∀cl C s H fp,SimE (X.comp scope N' cl C s H fp) NoG vx wv)
  (hsw:swapsWith (.DictComp kx vx [⟨tg,iter,[],0⟩] scope pos) (some (.Name x px)) sp.line X.env=pure true:=by rfl) (hii:X.N[i]?=some x:=by rfl) (hx:L2.Loc X.env.scope x:=by first|exact Or.inl rfl|exact Or.inr rfl)
  (hs:∀x,foldedSetIterable iter X.env x=pure x:=by intro _;rfl) (hf:X.fn x=true\/X.env.scope.names.lookup x=some .local:=by first|exact .inl rfl|exact .inr rfl|assumption) :
  SimS X G (.Assign [.Name x px] (.DictComp kx vx [⟨tg,iter,[],0⟩] scope pos) sp) (wSet i (q8l wi ix g wk wv)):=
 (y5i (g:=z3e X.K NoG g) (tk:=q6b X.K NoG wk) (tv:=q6b X.K NoG wv) hsw hN hii hx hc co hi hg hk hv hs hf).imp fun D σV H h=>w0k (tg:=tg) (iter:=iter) (scope:=scope) (z6n h)
def rPI:Int->Nat->List PV
 |_,0=>[]
 |k,n+1=>.int k::rPI (k+1) n
theorem y0i{K:Frag}{H:Hp}{φ:List Addr}:∀(n:Nat)(k:Int),RVs K H φ (rPI k n) (rngV k n)
 |0,_=>rfl
 |n+1,k=>⟨_,_,rfl,rfl,y0i n (k+1)⟩
def z4s(wa:WA):WE:=fun σ S E Q=>wa σ S E fun xs S1=>∃j:Nat,xs=[.int j]/\j<=100000/\Q (.ref S1.length) (S1++[.lst (rPI 0 j)])
theorem z8g{a:Expr}{wa:WA}{p p2 pos2:Pos}(hc:X.calm=true)(hm:X.mg "list" = none)(hm2:X.mg "range" = none)(ha:SimA X G [a] wa)(hg:Gl X "list" :=by rfl)(hg2:Gl X "range" :=by rfl)
  (he:starEach [.Call (.Name "range" p2) [a] [] pos2] X.env=(false,eval (.Call (.Name "range" p2) [a] [] pos2) X.env)::starEach [] X.env:=by rfl) (hs:starEach [a] X.env=[(false,eval a X.env)]:=by rfl) :
  SimE X G (.Call (.Name "list" p) [.Call (.Name "range" p2) [a] [] pos2] [] pos) (z4s wa):=
 (y0q hc ha hm hm2 hg hg2 he hs).imp fun σV H Q hh1=>by obtain⟨φ,σ,S,Q0,L,R,h,k⟩:=hh1;exact(⟨φ,σ,S,_,L,R,h,fun vs S1 φ1 H1 xs q p1 m1 R1 r1=>by
  obtain ⟨j,rfl,q2,q⟩:=q
  obtain ⟨y,rfl,r⟩:=q2n r1
  cases r
  exact ⟨j,rfl,q2,(k.up p1 m1).lst q R1 (y0i j 0)⟩⟩)
end
section
variable{X:Cx}{G:GX}{pos:Pos}
theorem y8o{K:Frag}{H:Hp}{φ:List Addr}{S:q0h}{n:Nat}{a:Addr}{kvs:List (Key×PV)}{k:Key}(R:Rel K φ S H)(qa:φ[n]?=some a)(es:S[n]?=some (.dK kvs)):∃o:Option V,DGet H a (kV k) o/\o.isSome=(valP kvs k).isSome/\RV K H φ ((valP kvs k).getD .non) (o.getD .non):=by
 obtain⟨ws,sa,ra⟩:=R.obj n a _ qa es
 refine⟨valV ws k,DGet.k sa,?_⟩
 cases e:valP kvs k with
 |none=>rw[(ra.val k).2 e];exact⟨rfl,rfl⟩
 |some v=>
  obtain⟨w',e',r'⟩:=(ra.val k).1 v e
  rw[e']
  exact⟨rfl,r'⟩
def mGet:FM:=fun x xs S Q=>match x,xs with
 |.ref n,[y]=>match S[n]? with
  |some (.dK kvs)=>match q8r y with
   |some k=>Q ((valP kvs k).getD .non) S
   |none=>False
  |_=>False
 |_,_=>False
theorem x1m(hu:X.A.units+200<cLine):MtR X "dict.get" (z5d X.K mGet):=by
 rintro pins s σ H x xs v us Q I rx rs ⟨φ,S,px,pxs,Q0,R,hx,hxs,h,k⟩
 unfold mGet at h
 split at h
 ·rename_i n y
  split at h
  ·rename_i kvs es
   split at h
   ·rename_i kk ek
    obtain⟨a,rfl,qa⟩:=hx
    obtain⟨y',rfl,ry⟩:=q2n hxs
    have hk:=q7i ry ek
    subst hk
    obtain⟨o,g,_,r'⟩:=y8o (k:=kk) R qa es
    cases rx
    cases rs with
    |cons r1 r2=>
     cases r2
     exact x7v (by omega) I g r1 fun w' s' I' rw'=>⟨_,H,I',rw',k _ S φ H _ h (List.prefix_refl _) (.refl _) R r'⟩
   ·exact h.elim
  ·exact h.elim
 ·exact h.elim
def z2g:F2:=fun x y S Q=>match y with
 |.ref n=>match S[n]? with
  |some (.dK kvs)=>match q8r x with
   |some k=>Q (.bl (!(valP kvs k).isSome)) S
   |none=>False
  |_=>False
 |_=>False
theorem z8k(hu:X.A.units+200<cLine):OpR X (compareOp .NotIn) (q4v X.K z2g):=by
 rintro pins s σ H x y v u Q I rx ry ⟨φ,S,px,py,Q0,R,hx,hy,h,k⟩
 unfold z2g at h
 split at h
 ·rename_i n
  split at h
  ·rename_i kvs es
   split at h
   ·rename_i kk ek
    obtain⟨a,rfl,qa⟩:=hy
    have hk:=q7i hx ek
    subst hk
    obtain⟨o,g,e1,_⟩:=y8o (k:=kk) R qa es
    cases ry
    refine x2z (by omega) I g rx fun s' I'=>⟨.bl (!o.isSome),H,I',rfl,k _ S φ H _ h (List.prefix_refl _) (.refl _) R ?_⟩
    rw[e1]
    exact rfl
   ·exact h.elim
  ·exact h.elim
 ·exact h.elim
end
section
variable{X:Cx}{G:GX}{pos:Pos}
theorem q7m:∀{its:List Value}{ns:List Int},IntsAre its ns->Vals (ns.map V.int) its
 |_,_,.nil=>.nil
 |_,_,.cons n t h=>.cons ⟨t,rfl⟩ (q7m h)
end
section
variable{P:Program}{w:World}{A:Around}{E:Value->Shared->Prop}{s:Shared}{it d:Addr}{i ep:Nat}{od:Obj}{es:Array DictEntry}
theorem y6o{Q:Value->Shared->Prop}(hd:(d==sysModules)=false)(hT:s.TypeIs (.ref d) "dict")(ho:s.heap.get? d=some od)(hdd:od.data=.dict es ep)
  (hQ:Q (.ref s.heap.objs.size) {s with heap:=s.heap.push {cls:=.type "dict_keyiterator",data:=.fields #[.ref d,.int 0 0,.int es.size 0,.int ep 0]}}):wpAny (model P w) A (pyIter (.ref d)) Q E s:=by
 refine wpAny_pyIter_slot hT PySem.F.slot_dict_iter (wpAny_call_entry PySem.F.slot_dict_iter hT PySem.F.entry_dict_iter ?_ (PySem.F.args_dict_iter_1 _))
 unfold Builtin.«dict.__iter__» Builtin.Dict.dictSlotNone
 refine wpAny_bind (wpAny_bind (wpAny_notOrdered_dict hT ?_))
 show wpAny _ _ (pure (Value.ref d)) _ _ s
 apply wpAny_pure
 show wpAny _ _ (Builtin.Dict.showsAll d >>= _) _ _ s
 rw[show Builtin.Dict.showsAll d=pure () by unfold Builtin.Dict.showsAll;rw[hd];rfl]
 refine wpAny_bind (wpAny_pure (wpAny_bind (wpAny_dictEntries ho hdd (wpAny_bind (wpAny_dictEpoch ho hdd ?_)))))
 exact wpAny_bind (wpAny_newObj_type (wpAny_pure ⟨_,rfl, "dict_keyiterator",_,⟨_,Heap.get?_push_size _ rfl,rfl⟩,PySem.F.slot_dict_keyiterator_next.lookup,hQ⟩))
theorem y6c{Q:Option Value->Shared->Prop}(hit:s.heap.IsKeyIter it d i es.size ep)(hod:s.heap.get? d=some od)(hdd:od.data=.dict es ep)(hi:i<es.size)
  (hQ:∀h',h'.IsKeyIter it d (i+1) es.size ep->Heap.SameBut it s.heap h'->Q (some es[i].key) {s with heap:=h' }):wpAny (model P w) A (pyNext (.ref it)) Q E s:=by
 have hT:=hit.typeIs
 obtain⟨o,ho,hc,hf⟩:=hit
 unfold pyNext
 refine wpAny_bind (wpAny_attempt (wpAny_callSpecial?_slot (name:= "__next__") hT PySem.F.slot_dict_keyiterator_next (wpAny_call_entry PySem.F.slot_dict_keyiterator_next hT PySem.F.entry_dict_keyiterator_next ?_ (PySem.F.args_dict_keyiterator_next_1 _))))
 refine wpAny_bind (wpAny_pure (wpAny_bind (wpAny_bind ?_)))
 first|refine wpAny_bind (wpAny_typeNameOfWhole_keyiter hT (wpAny_pure ?_))|refine wpAny_bind (wpAny_typeNameOf_keyiter hT (wpAny_pure ?_))
 refine wpAny_bind (wpAny_fieldsOf ho hf ?_)
 simp only[show Builtin.Dict_items.ownsTuple "dict_keyiterator" = false by decide,Bool.false_eq_true,if_false]
 show wpAny _ _ (if(Value.ref d==Value.none)=true then _ else _) _ _ s
 rw[if_neg (by exact Bool.false_ne_true)]
 refine wpAny_bind (wpAny_pure (wpAny_bind (wpAny_dictEntries hod hdd ?_)))
 rw[if_neg (by simp)]
 refine wpAny_bind (wpAny_pure (wpAny_bind (wpAny_dictEpoch hod hdd ?_)))
 rw[if_neg (by simp)]
 apply wpAny_pure
 simp only[show ¬((i:Int)<0) by omega,if_false,Int.toNat_natCast,Array.getElem?_eq_getElem hi]
 apply wpAny_bind
 first|refine wpAny_bind (wpAny_typeNameOfWhole_keyiter hT (wpAny_pure ?_))|refine wpAny_bind (wpAny_typeNameOf_keyiter hT (wpAny_pure ?_))
 refine wpAny_bind (wpAny_isOneOf_keyiter hT ?_)
 show wpAny _ _ (setField (.ref it) 1 (rawInt ((i:Int)+1)) >>= _) _ _ s
 refine wpAny_bind (wpAny_setField ho hf (by simp) ?_)
 have k:(s.heap.update it (Obj.mapFields (·.setIfInBounds 1 (rawInt ((i:Int)+1))))).IsKeyIter it d (i+1) es.size ep:=
  ⟨_,Heap.get?_update_self _ ho (Obj.isFreed_of_fields (Obj.data_mapFields hf _)),(Obj.cls_mapFields ..).trans hc,by rw[Obj.data_mapFields hf];simp[rawInt]⟩
 refine wpAny_bind (wpAny_holding (wpAny_bind (wpAny_isOneOf_keyiter (s:={s with heap:=s.heap.update it (Obj.mapFields (·.setIfInBounds 1 (rawInt ((i:Int)+1))))}) k.typeIs ?_)))
 show wpAny _ _ (pure es[i].key) _ _ _
 exact wpAny_pure (wpAny_pure ⟨_,rfl,wpAny_pure (hQ _ k (Heap.SameBut.update ..))⟩)
theorem y4s{Q:Option Value->Shared->Prop}(hh:A.handled=none)(hit:s.heap.IsKeyIter it d i es.size ep)(hod:s.heap.get? d=some od)(hdd:od.data=.dict es ep)(hi:es.size<=i)
  (hQ:∀h',Heap.ExtBut it s.heap h'->Q none {s with heap:=h' }):wpAny (model P w) A (pyNext (.ref it)) Q E s:=by
 have hT:=hit.typeIs
 obtain⟨o,ho,hc,hf⟩:=hit
 unfold pyNext
 refine wpAny_bind (wpAny_attempt (wpAny_callSpecial?_slot (name:= "__next__") hT PySem.F.slot_dict_keyiterator_next (wpAny_call_entry PySem.F.slot_dict_keyiterator_next hT PySem.F.entry_dict_keyiterator_next ?_ (PySem.F.args_dict_keyiterator_next_1 _))))
 refine wpAny_bind (wpAny_pure (wpAny_bind (wpAny_bind ?_)))
 first|refine wpAny_bind (wpAny_typeNameOfWhole_keyiter hT (wpAny_pure ?_))|refine wpAny_bind (wpAny_typeNameOf_keyiter hT (wpAny_pure ?_))
 refine wpAny_bind (wpAny_fieldsOf ho hf ?_)
 simp only[show Builtin.Dict_items.ownsTuple "dict_keyiterator" = false by decide,Bool.false_eq_true,if_false]
 show wpAny _ _ (if(Value.ref d==Value.none)=true then _ else _) _ _ s
 rw[if_neg (by exact Bool.false_ne_true)]
 refine wpAny_bind (wpAny_pure (wpAny_bind (wpAny_dictEntries hod hdd ?_)))
 rw[if_neg (by simp)]
 refine wpAny_bind (wpAny_pure (wpAny_bind (wpAny_dictEpoch hod hdd ?_)))
 rw[if_neg (by simp)]
 apply wpAny_pure
 simp only[show ¬((i:Int)<0) by omega,if_false,Int.toNat_natCast,Array.getElem?_eq_none hi]
 apply wpAny_bind
 first|refine wpAny_bind (wpAny_typeNameOfWhole_keyiter hT (wpAny_pure ?_))|refine wpAny_bind (wpAny_typeNameOf_keyiter hT (wpAny_pure ?_))
 show wpAny _ _ (setField (.ref it) 0 .none >>= _) _ _ s
 refine wpAny_bind (wpAny_setField ho hf (by simp) ?_)
 show wpAny _ _ (newExc (.type "StopIteration") [] >>= _) _ _ _
 apply wpAny_bind
 simp only[newExc,newTuple]
 refine wpAny_bind (wpAny_newObj_type ?_ (by size_fits))
 refine wpAny_bind (m:=firstArgMember _ _) (wpAny_of_eq (a:=Value.none) (by first|rfl|(simp only[firstArgMember];rfl)) (wpAny_newObj_type ?_ (by size_fits)))
 simp only[raiseNew]
 refine wpAny_bind (wpAny_handled ?_)
 rw[show A.in1.handled=none from hh]
 refine wpAny_bind (wpAny_pure (wpAny_throw ?_))
 refine wpAny_bind (wpAny_isInstance (T:= "StopIteration") (b:=true) ⟨_,Heap.get?_push_size _ rfl,rfl⟩ isSubtype_stop ?_)
 exact wpAny_pure (hQ _ (((Heap.SameBut.update ..).extBut.push _).push _))
end
def Itd(c n:Nat)(a:Addr):It:=
 ⟨fun i H=>∃ws p,H a=some (.dH c ws)/\ws.length=n/\ws[i]?=some p,fun i H x H'=>H'=H/\∀ws,H a=some (.dH c ws)->∃p,ws[i]?=some p/\x=.ref p.2.1,fun i H=>∃ws,H a=some (.dH c ws)/\ws.length=n/\n<=i⟩
theorem y3b{X:Cx}{pins:List (Addr×Obj)}{σ:L2.St}{H:Hp}{s:Shared}(I:Inv X pins σ H s){a:Addr}{c:Nat}{ws:List (KTr×Addr×V)}(e:H a=some (.dH c ws)) :
  ∃o es,s.heap.get? a=some o/\o.ExactDict/\o.data=.dict es (c+ws.length)/\es.size=ws.length/\(a==sysModules)=false/\∀(i:Nat)(hi:i<es.size),∃p,ws[i]?=some p/\es[i].key=.ref p.2.1:=by
 obtain⟨z,y,xs,rel,o,es,h1,h2,h3,h4,h5⟩:=(show q2q X.prog X.w H s.heap a (.dH c ws)from I.hok a _ e)
 have l1:=Paired.length rel
 have l2:es.size=xs.length:=by rw[<-Array.length_toList,h4,List.length_map]
 refine⟨o,es,h1,h2,h3,by omega,y,fun i hi=>?_⟩
 have hx:i<xs.length:=by omega
 have e1:es[i]=entryOfKey (q5z X.prog X.w) xs[i]:=by
  have:es.toList[i]?=some (entryOfKey (q5z X.prog X.w) xs[i]):=by rw[h4,List.getElem?_map,List.getElem?_eq_getElem hx];rfl
  simpa[hi]using this
 have e2:∀{l:List (KTr×Addr×V)}{m:List (KTr×Addr×Value)}{j:Nat}{q:KTr×Addr×Value},Paired (fun(p:KTr×Addr×V) (q:KTr×Addr×Value)=>p.1=q.1/\p.2.1=q.2.1/\RelV p.2.2 q.2.2) l m->m[j]?=some q->∃p,l[j]?=some p/\p.2.1=q.2.1:=by
  intro l m j q r
  induction r generalizing j with
  |nil=>intro z;simp at z
  |cons h t ih=>
   intro z
   cases j with
   |zero=>simp at z;subst z;exact⟨_,rfl,h.2.1⟩
   |succ j=>simp at z;simpa using ih z
 obtain⟨p,hp,ep⟩:=e2 rel (List.getElem?_eq_getElem hx)
 exact⟨p,hp,by rw[e1,ep];rfl⟩
theorem z9n{P:Program}{w:World}{K:Frag}{tg:Expr}(c n:Nat)(a it:Addr):Turn P w K tg (Itd c n a) [it] it (fun i h=>h.IsKeyIter it a i n (c+n)) where
 mem:=by simp
 obj:=fun i h st b hb=>by
  obtain rfl:b=it:=by simpa using hb
  obtain⟨o,e,c,d⟩:=st
  exact⟨o,e,fun v z=>by rw[d]at z;cases z⟩
 keep:=fun i h h' st k=>by
  obtain⟨o,e,r⟩:=st
  exact⟨o,k it (by simp) o e,r⟩
 item:=by
  intro X hP hw hK hc i pins s σ H E I hf st hg
  subst hP hw hK
  obtain⟨ws,p,hH,hn,hx⟩:=hg
  subst hn
  obtain⟨o,es,h1,h2,h3,h4,_,h5⟩:=y3b I hH
  obtain⟨f0,f1,f2,f3,f4,f5⟩:=hf it (by simp)
  have hi:i<es.size:=by rw[h4];exact(List.getElem?_eq_some_iff.mp hx).1
  rw[<-h4]at st h3
  obtain⟨p',hp,hk⟩:=h5 i hi
  refine y6c st h1 h3 hi fun h' st' sb=>?_
  have I1:Inv X pins σ H {s with heap:=h' }:=I.turned (t':=s.toks) (fun b o hb e=>(sb.2 b hb).trans e) f0 f1 f3 f4 f5
  obtain⟨o',e',c',d'⟩:=id st'
  rw[h4]at st'
  refine⟨_,rfl,z8y (s:={s with heap:=h' }) e' c' d' (by decide) ⟨.ref p'.2.1,H,I1,hk,⟨rfl,fun ys hy=>?_⟩,st',fun b hb=>(hf b hb).1⟩⟩
  rw[hH]at hy
  cases hy
  exact⟨p',hp,rfl⟩
 done:=by
  intro X hP hw hK hc i pins s σ H E I hf st hg
  subst hP hw hK
  obtain⟨ws,hH,hn,hi⟩:=hg
  subst hn
  obtain⟨o,es,h1,h2,h3,h4,_,h5⟩:=y3b I hH
  obtain⟨f0,f1,f2,f3,f4,f5⟩:=hf it (by simp)
  rw[<-h4]at st h3 hi
  exact y4s (I.ok.hd hc) st h1 h3 hi fun h' eb=>⟨rfl,I.turned (t':=s.toks) (fun b o hb e=>eb b o hb e) f0 f1 f3 f4 f5⟩
 self:=fun A i s Q E st h=>by
  have hT:=st.typeIs (s:=s)
  refine wpAny_pyIter_slot hT PySem.F.slot_dict_keyiterator_iter (wpAny_call_entry PySem.F.slot_dict_keyiterator_iter hT PySem.F.entry_dict_keyiterator_iter ?_ (PySem.F.args_dict_keyiterator_iter_1 _))
  show wpAny _ _ (ret (.ref it)) _ _ s
  exact wpAny_pure ⟨_,rfl, "dict_keyiterator",_,hT,PySem.F.slot_dict_keyiterator_next.lookup,h⟩
section
variable{X:Cx}{G:GX}{pos:Pos}
def iDic(tl:TE):TI:=fun σ H R=>tl σ H fun x H1=>∃a c ws,x=.ref a/\H1 a=some (.dH c ws)/\R (Itd c ws.length a) H1
theorem x4z{tg l:Expr}{tl:TE}(hl:PE X l tl):PI X tg l (iDic tl):=by
 intro pins s σ H R I h
 refine thn (hl pins s σ H _ I h) ?_
 rintro v s1 ⟨x,H1,I1,r1,a,c,ws,rfl,hq,q⟩
 cases r1
 obtain⟨o,es,h1,h2,h3,h4,hy,_⟩:=y3b I1 hq
 refine y6o hy ⟨o,h1,h2.1⟩ h1 h3 ?_
 refine⟨s1.heap.objs.size,[s1.heap.objs.size],_,_,H1,rfl,I1.kept (t':=s1.toks) fun b o e=>Heap.get?_push_of_some _ e,z9n c ws.length a _,⟨_,Heap.get?_push_size _ rfl,rfl,by rw[h4];rfl⟩,fun b hb=>?_,q⟩
 obtain rfl:=List.mem_singleton.mp hb
 exact I1.fpOk (Nat.le_refl _) (I1.hok.fresh (Nat.le_refl _))
def y3y(w:WE):WI:=fun σ S E Q=>w σ S E fun x S1=>∃n kvs,x=.ref n/\S1[n]?=some (.dN kvs)/\Q ⟨kvs.map fun p=>ktP p.1,fun S=>∃ys,S[n]?=some (.dN ys)/\ys.map (·.1)=kvs.map (·.1)⟩ S1
theorem x0h{K:Frag}{H:Hp}{φ:List Addr}{kvs:List (KTr×PV)}{ws:List (KTr×Addr×V)}{i:Nat}{p:KTr×PV}(r:RNs K H φ kvs ws)(h:kvs[i]?=some p):∃q,ws[i]?=some q/\RV K H φ (ktP p.1) (.ref q.2.1):=by
 induction r generalizing i with
 |nil=>simp at h
 |cons g t ih=>
  cases i with
  |zero=>simp at h;subst h;exact⟨_,rfl,g.2.2.1⟩
  |succ j=>simp at h;simpa using ih h
theorem x2l{K:Frag}{φ:List Addr}{H:Hp}{n c:Nat}{a:Addr}{kvs:List (KTr×PV)}{ws:List (KTr×Addr×V)}(qa:φ[n]?=some a)(ea:H a=some (.dH c ws))(hl:kvs.length=ws.length):ItR K φ H (Itd c ws.length a) ⟨kvs.map fun p=>ktP p.1,fun S=>∃ys,S[n]?=some (.dN ys)/\ys.map (·.1)=kvs.map (·.1)⟩ where
 go:=fun φ1 H1 S1 p m R e i x hx=>by
  obtain⟨ys,e1,e2⟩:=e
  obtain⟨c',ws1,e3,r⟩:=R.obj n a _ (q4u p qa) e1
  obtain⟨ws2,e4⟩:=m.dic _ _ _ ea
  rw[e3]at e4
  cases e4
  have l1:ys.length=ws1.length:=Paired.length r
  have l2:ys.length=kvs.length:=by simpa using congrArg List.length e2
  have hx':(kvs.map fun p=>ktP p.1)[i]?=some x:=hx
  rw[show(kvs.map fun p=>ktP p.1)=ys.map fun p=>ktP p.1 from by
   have:=congrArg (List.map ktP) e2
   simpa [List.map_map,Function.comp_def]using this.symm,List.getElem?_map]at hx'
  obtain⟨q,hq,rfl⟩:=Option.map_eq_some_iff.mp hx'
  obtain⟨q',hq',rq⟩:=x0h r hq
  refine⟨⟨ws1,q',e3,by omega,hq'⟩,fun y' H' hh1=>?_⟩
  obtain⟨f1,f2⟩:=hh1
  subst f1
  obtain⟨p2,g1,g2⟩:=f2 ws1 e3
  rw[hq']at g1
  cases g1
  subst g2
  exact⟨φ1,List.prefix_refl _,.refl _,R,rq⟩
 stop:=fun φ1 H1 S1 p m R e i hi=>by
  obtain⟨ys,e1,e2⟩:=e
  obtain⟨c',ws1,e3,r⟩:=R.obj n a _ (q4u p qa) e1
  obtain⟨ws2,e4⟩:=m.dic _ _ _ ea
  rw[e3]at e4
  cases e4
  have l1:ys.length=ws1.length:=Paired.length r
  have l2:ys.length=kvs.length:=by simpa using congrArg List.length e2
  have hi':(kvs.map fun p=>ktP p.1).length<=i:=hi
  rw[List.length_map]at hi'
  exact⟨ws1,e3,by omega,by omega⟩
theorem y4w{tg l:Expr}{w:WE}(hl:SimE X G l w):SimI X G tg l (y3y w):=
 PI.imp (x4z hl) fun σV H Q hh1=>by obtain⟨φ,σ,S,Q0,L,R,h,k⟩:=hh1;exact(⟨φ,σ,S,_,L,R,h,fun v S1 φ1 H1 x q p1 m1 R1 r1=>by
  obtain ⟨n,kvs,rfl,e,q⟩:=q
  obtain ⟨a,rfl,qa⟩:=r1
  obtain ⟨c,ws,ea,ra⟩:=R1.obj n a _ qa e
  exact ⟨a,c,ws,rfl,ea,k _ S1 φ1 H1 _ q p1 m1 R1 (x2l qa ea (Paired.length ra))⟩⟩)
end
end Ev
namespace L2
open PySem PySem.Spec PyProof.Rows
section
variable{X:Cx}{pins:List (Addr×Obj)}{σ:St}{H:Hp}{s:Shared}
end
end L2
namespace Ev
open PySem PySem.Spec PyProof.Rows L2
section
variable{X:Cx}{pins:List (Addr×Obj)}{σ:L2.St}{H:Hp}{s:Shared}
end
section
variable{X:Cx}{G:GX}{pos:Pos}
end
abbrev SimF(P:Program)(w:World)(K:Frag)(mg:Str->Option Value)(base:Heap)(k:Nat)(x:Str)(N:List Str)(st:Stmt)(W:WS)(f:Addr):Prop:=∀{cdv:Value}{A:Around}{outer:List Env}{s:Shared}{H:Hp}{E:XK}{G:GX},RoomW k (A.deeper (envOfC x (q1t st) s.heap.objs.size f cdv))->Room k (A.deeper (envOfC x (q1t st) s.heap.objs.size f cdv))->q5x (CXE P w) (cxOf (CXE P w) P w K mg base N x (q1t st) f cdv A outer s H E) (xkOf K G.xh)->(A.deeper (envOfC x (q1t st) s.heap.objs.size f cdv)).units+200<cLine->N.Nodup->z0o (cxOf (CXE P w) P w K mg base N x (q1t st) f cdv A outer s H E) G (q6e st) W
section
variable{P:Program}{w:World}{K:Frag}{mg:Str->Option Value}{base h:Heap}{k:Nat}{x:Str}{N ps:List Str}{st:Stmt}{W:WS}{f:Addr}{fd:FuncData}
theorem sco{sc:Scope}(h1:sc.kind=.function)(h2:sc.isCoroutine=false)(h3:sc.isGenerator=false)(h:N.Nodup/\N.take ps.length=ps/\(∀x∈ps,sc.names.lookup x=some .local\/sc.names.lookup x=some .cell)/\∀y∈sc.names,y.2≠.free):FnScope N ps sc:=⟨h1,h2,h3,h.1,h.2.1,h.2.2.1,h.2.2.2⟩
theorem _root_.L2.Loc2.sim(l:Loc2 K mg x st ps f fd)(h:SimF P w K mg base k x N st W f)(sc:FnScope N ps (q1t st):=by exact sco rfl rfl rfl (by decide +kernel)):Cal P w K mg base (k+1) x ps (q1d K (fnP ps.length N.length W)) f fd:=
 l.cal (x7u l.F sc fun _ _ _ _ _ _ _ hr hx=>h hr hr.toRoom hx (by have:=hr.un;omega) sc.nd)
def FnIn(K:Frag)(x:Str)(st:Stmt)(f:Addr):Prop:=PySem.W.nsIn K mainGlobals x=some (some (.ref f))/\∃fd,Fun K x x st f fd
theorem FnIn.mk{oc:Value}{od an:Option Addr}{osl:Array (Option Value)}{kV doc pm cdv ct:Value}(a:PySem.W.nsIn K mainGlobals x=some (some (.ref f)))(l:K.lookup f=some ⟨oc,od,.func (PySem.W.fnOf x x (q8j st) (q6e st) (q1t st) .none kV doc pm an cdv ct),osl⟩)
  (c:PySem.W.codeIn K cdv x=true) (k:PySem.W.keepIn K (.ref f)=true):FnIn K x st f:=⟨a,_,x7t l c k⟩
theorem FnIn.gl(i:FnIn K x st f)(X:K.In h)(G:h.Ns mainGlobals mg):mg x=some (.ref f):=PySem.W.mg_of X G i.1
theorem FnIn.loc(i:FnIn K x st f)(X:K.In h)(G:h.Ns mainGlobals mg)
  (b:∀(kV doc pm:Value)(an:Option Addr)(cdv ct:Value)(us:List Value),us.length=ps.length->bindArgs (PySem.W.fnOf x x (q8j st) (q6e st) (q1t st) .none kV doc pm an cdv ct) ⟨us,[]⟩=pure (ps.zip us)) :
  ∃fd,Loc2 K mg x st ps f fd/\∀us,us.length=ps.length->bindArgs fd ⟨us,[]⟩=pure (ps.zip us):=by
 obtain⟨a,fd,F⟩:=i
 obtain⟨oc,od,kV,doc,pm,an,cdv,ct,osl,rfl,lk,hcd⟩:=id F.ex
 exact⟨_,⟨F,PySem.W.mg_of X G a,F.binds b⟩,b kV doc pm an cdv ct⟩
end
end Ev
namespace My
open PySem L2 Ev
def q5d:WS:=
 (wSeq (wSet 1 (wBin bAdd (wSl (wVar 0) q5k (z0j (wC (.int 63)))) (wLst (q0d (wC (.int 0)) wNil))))
 (wSeq (wSet 2 (wBin cEq (wBin bMod (wBin bIx (wVar 1) (wC (.int 0))) (wC (.int 2))) (wC (.int 1))))
 (wSeq (wAsg (wBin q7z (wBin bIx (wVar 1) (wC (.int 0))) (wC (.int 2))) (q7k (wVar 1) (wC (.int 0)) sSet))
 (wRet (y4b (q8k (wC (.str "cells")) (wVar 1) (q8k (wC (.str "left")) (wC (.int 12)) (q8k (wC (.str "at")) (wC (.int 0)) (q8k (wC (.str "seed")) (wBin bAdd (wC (.int 1)) (wBin bMod (wCB fSum (q0d (wVar 1) wNil)) (wC (.int 2147483646)))) (q8k (wC (.str "mixed")) (wVar 2) y3z))))))))))
def q5c:WS:=
 (wSeq (wSet 1 (wBin bIx (wVar 0) (wC (.str "cells"))))
 (wSeq (wIfS (wTru (wBin bIx (wVar 0) (wC (.str "mixed"))))
 (wSeq (wAsg (wBin bAdd (wBin bIx (wVar 0) (wC (.str "at"))) (wC (.int 1))) (q7k (wVar 0) (wC (.str "at")) sSet))
 (wSeq (wSet 2 (wBin bIx (wVar 1) (wBin bMod (wBin bIx (wVar 0) (wC (.str "at"))) (wCB fLen (q0d (wVar 1) wNil)))))
 (wSeq (wAsg (wBin bMod (wBin bAdd (wBin bAdd (wBin bMul (wBin bIx (wVar 0) (wC (.str "seed"))) (wC (.int 48271))) (wVar 2)) (wBin bIx (wVar 0) (wC (.str "at")))) (wC (.int 2147483647))) (q7k (wVar 0) (wC (.str "seed")) sSet))
 (wSeq (wSet 3 (wBin bMod (wBin bAdd (wBin bMul (wBin bIx (wVar 0) (wC (.str "seed"))) (wBin bIx (wVar 0) (wC (.str "seed")))) (wBin bMul (wC (.int 7919)) (wBin bIx (wVar 0) (wC (.str "at"))))) (wC (.int 2147483629))))
 (wRet (wBin bMod (wBin bMul (wVar 3) (wBin bAdd (wVar 3) (wC (.int 69621)))) (wC (.int 999999999989))))))))
 q1g)
 (wSeq (wSet 3 (wBin bMod (wBin bIx (wVar 1) (wC (.int 0))) (wBin bPow (wC (.int 10)) (wC (.int 12)))))
 (wSeq (wAsg (wBin q7z (wBin bIx (wVar 1) (wC (.int 0))) (wBin bPow (wC (.int 10)) (wC (.int 12)))) (q7k (wVar 1) (wC (.int 0)) sSet))
 (wSeq (wAsg (wBin bSub (wBin bIx (wVar 0) (wC (.str "left"))) (wC (.int 1))) (q7k (wVar 0) (wC (.str "left")) sSet))
 (wSeq (wIfS (wAnd (q0y (wBin cEq (wBin bIx (wVar 0) (wC (.str "left"))) (wC (.int 0)))) (q0y (wBin cGt (wCB fLen (q0d (wVar 1) wNil)) (wC (.int 1)))))
 (wSeq (q4p (wBM "list" q9r (wVar 1) (q0d (wC (.int 0)) wNil)))
 (wAsg (wC (.int 12)) (q7k (wVar 0) (wC (.str "left")) sSet)))
 q1g)
 (wRet (wVar 3))))))))
def q6j:WS:=
 (wSeq (wSet 2 (wC (.str "")))
 (wSeq (wFor (q5j (q0d (wVar 1) wNil)) (q0z 3) (wSeq (wSet 2 (wBin bAdd (wVar 2) (wBin bIx (wC (.str "abcdefghijklmnopqrstuvwxyz")) (wBin bMod (wVar 0) (wC (.int 26))))))
 (wSet 0 (wBin q7z (wVar 0) (wC (.int 26))))))
 (wRet (wVar 2))))
def q4j(spLword:Den):WS:=
 (wSeq (wSet 2 (wLst wNil))
 (wSeq (wFor (q5j (q0d (wVar 1) wNil)) (q0z 3) (q4p (wBM "list" q1y (wVar 2) (q0d (q0t spLword (q0d (wVar 0) (q0d (wVar 2) wNil))) wNil))))
 (wRet (wVar 2))))
local macro_rules | `(tactic| dsimp! [$xs,*]) => do
 let ns := (("wSet wAsg q0z q7k q3q q1e q3r sSet wIfS q0y wTru truK wAnd wOr wNot z1j y4a wNeg wBin wVar wC wCB q0d wNil wTup wLst wRet q4p q0t wBM wBM0 wSl bSl z0j q5k q1g z6h wFor q5o q5j z0i y3y q8l wPar z4t mGet z2g y3x q7l q4x z0b x8c bAdd bI bSub q7z bMod bPow bMul cLt cGt cGe x8b y8v y8u y8t y3l x8a y3j y8s y8r y3i x7y w0n w0o z7s cIs z1g y6p q9c ix_t ix_s ix_f ix_r q1h q8r fLen fIsi tyP fSum fAll q8o fStr q1y mPop q9r q9s y4b q8k y3z List.getElem?_cons_zero List.getElem?_cons_succ List.set_cons_zero List.set_cons_succ List.map_cons List.map_nil List.replicate List.cons_append List.nil_append List.length_cons List.length_nil q5i q5h z4x x1o true_and if_true Bool.false_eq_true if_false Bool.not_true Bool.not_false y6m x7b x7c x1x q8s q8h q9w q9x q8t z3q z2f z5u z5v z3r z5s z3p z8t z8u z5t z5o z3m z8r z8s z5p z2c z0m z3k z3l z2d z3n z2e z5q z5r z3o x1i x6c x1j x1h q8e y2m q4h z7l z7k q6h y5y q9m decide_eq_true_eq and_self and_true decide_true decide_false not_true_eq_false not_false_eq_true Int.cast_ofNat_Int Int.reduceEq Int.reduceNeg Nat.reduceSub Nat.sub_self Bool.not_eq_true' decide_eq_false_iff_not Nat.reduceAdd".splitOn " ").map fun z => Lean.mkIdent z.toName).toArray
 let ds := (("wSet wAsg q0z q7k q3q q1e q3r sSet wIfS q0y wTru truK wAnd wOr wNot z1j y4a wNeg wBin wVar wC wCB q0d wNil wTup wLst wRet q4p q0t wBM wBM0 wSl bSl z0j q5k q1g z6h wFor q5o q5j z0i y3y q8l wPar z4t mGet y3x q7l q4x z0b x8c bAdd bI bSub q7z bMod bPow bMul cLt cGt cGe cIs q9c ix_t ix_s ix_f ix_r q8r fLen fIsi tyP fSum fAll q8o fStr q1y mPop q9r q9s y4b q8k y3z true_and List.getElem?_cons_zero List.getElem?_cons_succ List.set_cons_zero List.set_cons_succ List.map_cons List.map_nil List.cons_append List.nil_append".splitOn " ").map fun z => Lean.mkIdent z.toName).toArray
 `(tactic| first|(dsimp only[$[$ds:ident],*];first|simp only[$[$ns:ident],*, $xs,*]|skip)|simp only[$[$ns:ident],*, $xs,*])
def mk(l:List Nat):Str:=⟨l.toArray⟩
theorem q6a(l:List Nat):(mk l).cps.toList=l:=rfl
theorem q8m(l:List Nat):(mk l).length=l.length:=by simp[mk,Str.length]
theorem y1k(a b:List Nat):mk a++mk b=mk (a++b):=by
 apply z4v
 rw[y7n,q6a,q6a,q6a]
theorem x6h{a b:List Nat}(h:mk a=mk b):a=b:=by rw[<-q6a a,h,q6a]
theorem z7d(z:Str):z.cps.toList.length=z.length:=by simp[Str.length]
theorem y6v:Str.ofString "" = mk []:=by decide +kernel
theorem y8q(c:Nat):(⟨#[c]⟩:Str)=mk [c]:=rfl
def isL(c:Nat):Bool:=inS ⟨#[c]⟩ (Str.ofString "abcdefghijklmnopqrstuvwxyz")
def q7r(z:Str):Bool:=!decide (z.length=0)&&!decide (8<z.length)&&z.cps.toList.all isL
inductive Kd where
 |a (s:Str)|p (f t:Kd)
def Kd.pv:Kd->PV
 |.a s=>.str s
 |.p f t=>.tup [f.pv,t.pv]
def Kd.lv:Kd->Nat
 |.a _=>1
 |.p f t=>f.lv+t.lv
def Kd.dp:Kd->Nat
 |.a _=>0
 |.p f t=>max f.dp t.dp+1
def Kd.ok:Kd->Prop
 |.a s=>q7r s=true
 |.p f t=>f.ok/\t.ok
theorem y1h{s:Str}(h:q7r s=true):1<=s.length/\s.length<=8/\s.cps.toList.all isL=true:=by
 unfold q7r at h
 simp only[Bool.and_eq_true,Bool.not_eq_true',decide_eq_false_iff_not]at h
 exact⟨by omega,by omega,h.2⟩
theorem Kd.lv_pos:∀k:Kd,1<=k.lv
 |.a _=>Nat.le_refl _
 |.p f t=>Nat.le_trans (Kd.lv_pos f) (Nat.le_add_right _ _)
theorem Kd.dp_lv:∀k:Kd,k.dp+1<=k.lv
 |.a _=>Nat.le_refl _
 |.p f t=>by
  have h1:=Kd.dp_lv f
  have h2:=Kd.dp_lv t
  simp only[Kd.dp,Kd.lv]
  omega
theorem y1f:∀k:Kd,nrf k.pv=true
 |.a _=>rfl
 |.p f t=>by simp only[Kd.pv,nrf,nrfs,y1f f,y1f t,Bool.and_self]
theorem z1d:∀k:Kd,dep k.pv=k.dp
 |.a _=>rfl
 |.p f t=>by simp only[Kd.pv,dep,deps,z1d f,z1d t,Kd.dp];omega
theorem q9n{k:Kd}(h:k.dp<=190):okEq k.pv:=⟨y1f k,by rw[z1d];exact h⟩
theorem x6b(a b:Str):q6o [.str a,.str b]:=q8d [a,b]
structure ReadAt(S0:q0h)(z:Str)(np ns:Nat)(pcs:List Str)(st:List Kd)(σ:Ev.Loc)(S:q0h):Prop where
 loc:∃j,σ=[some (.str z),some (.ref np),some (.ref ns),j]
 pcs:S[np]?=some (.lst (pcs.map PV.str))
 stk:S[ns]?=some (.lst (st.map Kd.pv))
 ext:Ex [] S0 S
section
variable{spc spi:Den}{S0:q0h}{z:Str}{np ns:Nat}{pcs:List Str}{D:PEnds}{E:EK}
end
def q4w(c:Nat)(l a s:Int)(m:Bool):List (Key×PV):=[(.inr (Str.ofString "cells"),.ref c),(.inr (Str.ofString "left"),.int l),(.inr (Str.ofString "at"),.int a),(.inr (Str.ofString "seed"),.int s),(.inr (Str.ofString "mixed"),.bl m)]
theorem y6x(c:Nat)(l a s:Int)(m:Bool):valP (q4w c l a s m) (.inr (Str.ofString "cells"))=some (.ref c):=rfl
theorem y2v(c:Nat)(l a s:Int)(m:Bool):valP (q4w c l a s m) (.inr (Str.ofString "left"))=some (.int l):=rfl
theorem y6y(c:Nat)(l a s:Int)(m:Bool):valP (q4w c l a s m) (.inr (Str.ofString "at"))=some (.int a):=rfl
theorem y2s(c:Nat)(l a s:Int)(m:Bool):valP (q4w c l a s m) (.inr (Str.ofString "seed"))=some (.int s):=rfl
theorem y6w(c:Nat)(l a s:Int)(m:Bool):valP (q4w c l a s m) (.inr (Str.ofString "mixed"))=some (.bl m):=rfl
theorem y2r(c:Nat)(l a s:Int)(m:Bool)(x:Int):putP (q4w c l a s m) (.inr (Str.ofString "left")) (.int x)=q4w c x a s m:=rfl
theorem w0j(c:Nat)(l a s:Int)(m:Bool)(x:Int):putP (q4w c l a s m) (.inr (Str.ofString "at")) (.int x)=q4w c l x s m:=rfl
theorem x2v(c:Nat)(l a s:Int)(m:Bool)(x:Int):putP (q4w c l a s m) (.inr (Str.ofString "seed")) (.int x)=q4w c l a x m:=rfl
theorem z7m(c:Nat)(l a s:Int)(m:Bool):(q4w c l a s m).length<sizeLine:=bigl (by show 5<=1000000;decide)
structure Deck(d c:Nat)(S:q0h):Prop where
 is:∃(l a s:Int)(m:Bool)(x:Int)(xs:List Int),S[d]?=some (.dK (q4w c l a s m))/\S[c]?=some (.lst ((x::xs).map PV.int))/\xs.length<=100/\0<=s/\s<2147483647
 ne:d≠c
theorem Deck.ex{d c:Nat}{S S':q0h}(h:Deck d c S){D:List Nat}(e:Ex D S S')(h1:d∉D)(h2:c∉D):Deck d c S':=by
 obtain⟨⟨l,a,s,m,x,xs,g1,g2,r⟩,ne⟩:=h
 exact⟨⟨l,a,s,m,x,xs,e.get g1 h1,e.get g2 h2,r⟩,ne⟩
def z0p(sp:Den):Prop:=∀(d c:Nat)(S:q0h)(E:EK)(Q:VC),Deck d c S->(∀(n:Int) S',0<=n->n<1000000000000->Deck d c S'->Ex [d,c] S S'->Q (.int n) S')->sp [.ref d] S E Q
theorem q7v(n:Nat):ixN (n+1) 0=some 0:=by
 unfold ixN
 rw[if_pos (by decide),if_pos (by omega)]
 rfl
theorem q0w(x:PV)(xs:List PV):atI (x::xs) 0=some x:=by
 unfold atI ixN
 simp only[List.length_cons]
 rw[if_pos (by decide),if_pos (by omega)]
 rfl
theorem x3c{xs:List Int}{i:Int}(h:xs≠[]):∃y,atI (xs.map PV.int) (i % (xs.length:Int))=some (.int y):=by
 have hp:0<xs.length:=List.length_pos_iff.mpr h
 have h0:0<=i % (xs.length:Int):=Int.emod_nonneg _ (by omega)
 have h1:i % (xs.length:Int)<xs.length:=Int.emod_lt_of_pos _ (by omega)
 unfold atI ixN
 rw[List.length_map,if_pos h0,if_pos h1]
 have:(i % (xs.length:Int)).toNat<xs.length:=by omega
 exact⟨xs[(i % (xs.length:Int)).toNat],by simp[this]⟩
theorem y3c{i j:Int}(h:-(2 ^ 64)<j)(h':j<2 ^ 64):CMul i j:=.inr ⟨h,h'⟩
theorem x7x{i j:Int}(h:-(2 ^ 64)<i)(h':i<2 ^ 64):CMul i j:=.inl ⟨h,h'⟩
theorem x1k:z0p (fnP 1 4 q5c):=by
 rintro d c S E Q ⟨⟨l,a,s,m,x,xs,g1,g2,hl,s0,s1⟩,ne⟩ h
 refine⟨rfl,?_⟩
 unfold q5c
 refine seqI fun K hK=>?_
 dsimp![g1,y6x]
 refine hK _ _ ?_
 refine seqI fun K hK=>?_
 dsimp![g1,y6w]
 refine ite2 (fun hm=>?_) (fun hm=>?_)
 ·refine seqI fun K2 hK2=>?_
  dsimp![g1,y6y,w0j]
  refine⟨z7m _ _ _ _ _,hK2 _ _ ?_⟩
  have a1:=q1u (.dK (q4w c l (a+1) s m)) g1
  have b1:=q3n (j:=d) (.dK (q4w c l (a+1) s m)) g2 ne
  refine seqI fun K2 hK2=>?_
  obtain⟨y,hy⟩:=x3c (xs:=x::xs) (i:=a+1) (by simp)
  dsimp![a1,b1,y6y,q0v b1,List.length_map]
  simp only[List.map_cons,List.length_cons]at hy
  rw[show((xs.length+1:Nat):Int)=((xs.length:Int)+1) by omega]at hy ⊢
  refine⟨by omega,?_⟩
  rw[hy]
  refine hK2 _ _ ?_
  refine seqI fun K2 hK2=>?_
  dsimp![a1,y6y,y2s,x2v]
  refine⟨y3c (by decide) (by decide),by decide,z7m _ _ _ _ _,hK2 _ _ ?_⟩
  have s2:∀z:Int,0<=z % 2147483647/\z % 2147483647<2147483647:=fun z=>⟨Int.emod_nonneg _ (by decide),Int.emod_lt_of_pos _ (by decide)⟩
  obtain⟨t0,t1⟩:=s2 (s*48271+y+(a+1))
  generalize hs':(s*48271+y+(a+1)) % 2147483647=s' at t0 t1 ⊢
  have a2:=q1u (.dK (q4w c l (a+1) s' m)) a1
  have b2:=q3n (j:=d) (.dK (q4w c l (a+1) s' m)) b1 ne
  refine seqI fun K2 hK2=>?_
  dsimp![a2,y6y,y2s]
  refine⟨y3c (by omega) (by omega),x7x (by decide) (by decide),by decide,hK2 _ _ ?_⟩
  have n0:0<=(s'*s'+7919*(a+1)) % 2147483629:=Int.emod_nonneg _ (by decide)
  have n1:(s'*s'+7919*(a+1)) % 2147483629<2147483629:=Int.emod_lt_of_pos _ (by decide)
  generalize (s'*s'+7919*(a+1)) % 2147483629=nn at n0 n1 ⊢
  dsimp![true_and]
  refine⟨y3c (by omega) (by omega),by decide,?_⟩
  refine h _ _ (Int.emod_nonneg _ (by decide)) (Int.lt_trans (Int.emod_lt_of_pos _ (by decide)) (by decide)) ⟨⟨l,a+1,s',m,x,xs,a2,b2,hl,t0,t1⟩,ne⟩ (((Ex.refl _ _).set (.inl (by simp))).set (.inl (by simp)))
 ·refine hK _ _ ?_
  refine seqI fun K hK=>?_
  dsimp![g2,q0w]
  refine⟨⟨by decide,by decide,by decide⟩,by decide,hK _ _ ?_⟩
  rw[show((10:Int) ^ (12:Int).toNat)=1000000000000 by decide]
  refine seqI fun K hK=>?_
  simp only[List.map_cons]at g2
  dsimp![g2,q0w,q7v]
  rw[show((10:Int) ^ (12:Int).toNat)=1000000000000 by decide]
  refine⟨⟨by decide,by decide,by decide⟩,⟨by decide,by decide⟩,hK _ _ ?_⟩
  have b1:=q1u (.lst (PV.int (x / 1000000000000)::xs.map PV.int)) g2
  have a1:=q3n (j:=c) (.lst (PV.int (x / 1000000000000)::xs.map PV.int)) g1 (Ne.symm ne)
  refine seqI fun K hK=>?_
  dsimp![a1,y2v,y2r]
  refine⟨z7m _ _ _ _ _,hK _ _ ?_⟩
  have a2:=q1u (.dK (q4w c (l-1) a s m)) a1
  have b2:=q3n (j:=d) (.dK (q4w c (l-1) a s m)) b1 ne
  have n0:0<=x % 1000000000000:=Int.emod_nonneg _ (by decide)
  have n1:x % 1000000000000<1000000000000:=Int.emod_lt_of_pos _ (by decide)
  have exx:Ex [d,c] S ((S.set c (.lst (PV.int (x / 1000000000000)::xs.map PV.int))).set d (.dK (q4w c (l-1) a s m))):=((Ex.refl _ _).set (.inl (by simp))).set (.inl (by simp))
  refine seqI fun K hK=>?_
  dsimp![a2,y2v,q0v b2,List.length_map]
  have fin0:K [some (.ref d),some (.ref c),none,some (.int (x % 1000000000000))] ((S.set c (.lst (PV.int (x / 1000000000000)::xs.map PV.int))).set d (.dK (q4w c (l-1) a s m))):=by
   refine hK _ _ ?_
   dsimp![true_and]
   exact h _ _ n0 n1 ⟨⟨l-1,a,s,m,x / 1000000000000,xs,a2,b2,hl,s0,s1⟩,ne⟩ exx
  refine ite2 (fun z=>ite2 (fun z2=>?_) (fun z2=>fin0)) (fun z=>fin0)
  refine seqI fun K2 hK2=>?_
  dsimp![b2,q1m b2,q7v,List.eraseIdx_zero,List.tail_cons]
  refine⟨⟨by decide,by decide⟩,hK2 _ _ ?_⟩
  have b3:=q1u (.lst (xs.map PV.int)) b2
  have a3:=q3n (j:=c) (.lst (xs.map PV.int)) a2 (Ne.symm ne)
  dsimp![a3,y2r]
  refine⟨z7m _ _ _ _ _,hK _ _ ?_⟩
  dsimp![true_and]
  obtain⟨x',xs',rfl⟩:∃x' xs',xs=x'::xs':=by
   cases xs with
   |nil=>simp at z2
   |cons a b=>exact⟨a,b,rfl⟩
  refine h _ _ n0 n1 ⟨⟨12,a,s,m,x',xs',q1u _ a3,q3n _ b3 ne,by simp at hl;omega,s0,s1⟩,ne⟩ ((exx.set (.inl (by simp))).set (.inl (by simp)))
def x8k(sp:Den):Prop:=∀(ns:List Int)(S:q0h)(E:EK)(Q:VC),ns.length<=63->(∀d c S',Deck d c S'->Ex [] S S'->S.length<=c->S.length<=d->Q (.ref d) S')->sp [.frl (ns.map .int)] S E Q
theorem w0l(ns:List Int)(h:ns.length<=63):cutP (ns.map PV.int) none (some 63)=ns.map PV.int:=by
 unfold cutP
 have:HT.sIx (ns.map PV.int).length (ns.map PV.int).length (some 63)=(ns.map PV.int).length:=by
  rw[show(63:Int)=((63:Nat):Int)from rfl,HT.sIx_nat,List.length_map]
  omega
 rw[this,HT.sIx_none,List.drop_zero,Nat.sub_zero,List.take_length]
theorem x2y:x8k (fnP 1 3 q5d):=by
 intro ns S E Q hl h
 refine⟨rfl,?_⟩
 unfold q5d
 refine seqI fun K hK=>?_
 obtain⟨x,xs,hxs,hxl⟩:∃x xs,ns++[0]=x::xs/\xs.length<=100:=by
  cases ns with
  |nil=>exact⟨0,[],rfl,by simp⟩
  |cons a r=>exact⟨a,r++[0],rfl,by simp at hl ⊢;omega⟩
 have e0:(S++[SO.lst (ns.map PV.int)])[S.length]?=some (.lst (ns.map PV.int)):=q1h _ _
 have e1:=q2p e0 [SO.lst [PV.int 0]]
 have e2:=q1h (S++[SO.lst (ns.map PV.int)]) (.lst [PV.int 0])
 dsimp![w0l ns hl,q1m e1]
 refine⟨big (by decide),⟨by rw[List.length_map];exact big (by omega),hK _ _ ?_⟩⟩
 have ecat:ns.map PV.int++[PV.int 0]=(x::xs).map PV.int:=by rw[<-hxs];simp
 rw[ecat]
 generalize hS3:S++[SO.lst (ns.map PV.int)]++[SO.lst [PV.int 0]]=S3
 have hx3:Ex [] S S3:=by rw[<-hS3];exact(Ex.new _ _ _).app _
 have g:=q1h S3 (.lst ((x::xs).map PV.int))
 refine seqI fun K hK=>?_
 simp only[List.map_cons]at g
 dsimp![g,q0w]
 refine⟨by decide,hK _ _ ?_⟩
 refine seqI fun K hK=>?_
 dsimp![g,q0w,q7v]
 refine⟨⟨by decide,by decide⟩,hK _ _ ?_⟩
 have g2:=q1u (.lst (PV.int (x / 2)::xs.map PV.int)) g
 have hx4:Ex [] S ((S3++[SO.lst (PV.int x::xs.map PV.int)]).set S3.length (.lst (PV.int (x / 2)::xs.map PV.int))):=(hx3.app _).set (.inr hx3.1)
 generalize hS4:(S3++[SO.lst (PV.int x::xs.map PV.int)]).set S3.length (.lst (PV.int (x / 2)::xs.map PV.int))=S4 at g2 hx4 ⊢
 have g3:=q2p g2 [SO.dK []]
 have eI:q5g (PV.int (x / 2)::xs.map PV.int)=some ((x / 2)::xs):=z1c ((x / 2)::xs)
 dsimp![q0v g3,Option.bind_some,eI]
 refine⟨by decide,by first|exact⟨q1h _ _,by decide⟩|decide,?_⟩
 have em:∀(b:Bool)(s:Int),z7a [] [(Sum.inr (Str.ofString "cells"),PV.ref S3.length),(Sum.inr (Str.ofString "left"),PV.int 12),(Sum.inr (Str.ofString "at"),PV.int 0),(Sum.inr (Str.ofString "seed"),PV.int s),(Sum.inr (Str.ofString "mixed"),PV.bl b)]=q4w S3.length 12 0 s b:=fun b s=>rfl
 rw[em]
 have hlt:S3.length<S4.length:=q1j g2
 have n0:0<=((x / 2)::xs).sum % 2147483646:=Int.emod_nonneg _ (by decide)
 have n1:((x / 2)::xs).sum % 2147483646<2147483646:=Int.emod_lt_of_pos _ (by decide)
 refine h S4.length S3.length _ ⟨⟨12,0,_,_,x / 2,xs,q1u _ (q1h S4 (SO.dK [])),q3n _ g3 (by omega),hxl,?_,?_⟩,by omega⟩ ((hx4.app _).set (.inr hx4.1)) hx3.1 hx4.1
 ·generalize ((x / 2)::xs).sum % 2147483646=y at n0 n1 ⊢;omega
 ·generalize ((x / 2)::xs).sum % 2147483646=y at n0 n1 ⊢;omega
def spl:Int->Nat->List Nat
 |_,0=>[]
 |n,k+1=>(97+(n % 26).toNat)::spl (n / 26) k
theorem q7f:∀(k:Nat)(n:Int),(spl n k).length=k
 |0,_=>rfl
 |k+1,n=>by rw[spl,List.length_cons,q7f k]
def z2m(sp:Den):Prop:=∀(n:Int)(k:Nat)(S:q0h)(E:EK)(Q:VC),k<=8->Q (.str (mk (spl n k))) S->sp [.int n,.int k] S E Q
theorem q9j(lo:Int)(n:Nat):(rngP lo n).length=n:=by simp[rngP]
theorem z8e:z2m (fnP 2 4 q6j):=by
 intro n k S E Q hk h
 refine⟨rfl,?_⟩
 unfold q6j
 refine seqI fun K hK=>?_
 dsimp![true_and]
 refine hK _ _ ?_
 refine seqI fun K hK=>?_
 dsimp![true_and]
 refine⟨⟨by omega,by omega⟩,?_⟩
 rw[Int.toNat_natCast]
 refine forI (fun rest σ S1=>∃(num:Int)(w:List Nat)(j:Option PV),σ=[some (.int num),some (.int k),some (.str (mk w)),j]/\S1=S/\w++spl num rest.length=spl n k) ?_ ?_ _ _ _ ⟨n,[],none,by rw[y6v],rfl,by rw[q9j];rfl⟩
 ·rintro σ S1 ⟨num,w,j,rfl,rfl,hw⟩
  refine⟨trivial,hK _ _ ?_⟩
  dsimp![true_and]
  rw[List.length_nil,spl,List.append_nil]at hw
  rw[hw]
  exact h
 ·rintro x r σ S1 ⟨num,w,j,rfl,rfl,hw⟩ N hN
  rw[List.length_cons,spl]at hw
  refine⟨trivial,?_⟩
  have hwl:w.length<=8:=by
   have:=congrArg List.length hw
   rw[List.length_append,q7f]at this
   omega
  have m0:0<=num % 26:=Int.emod_nonneg _ (by decide)
  have m1:num % 26<26:=Int.emod_lt_of_pos _ (by decide)
  dsimp![true_and]
  refine seqI fun K2 hK2=>?_
  dsimp![z8o m0 m1]
  refine⟨by decide,z5e,?_⟩
  rw[y8q,y1k,q8m,q8m]
  refine⟨big (by simp;omega),hK2 _ _ ?_⟩
  dsimp![true_and]
  refine⟨⟨by decide,by decide⟩,hN _ _ ⟨num / 26,w++[97+(num % 26).toNat],_,rfl,rfl,by rw[<-hw];simp⟩⟩
theorem x2o:∀m:Nat,m<26->isL (97+m)=true:=by decide +kernel
theorem z1o:∀(k:Nat)(n:Int),(spl n k).all isL=true
 |0,_=>rfl
 |k+1,n=>by
  have m0:0<=n % 26:=Int.emod_nonneg _ (by decide)
  have m1:n % 26<26:=Int.emod_lt_of_pos _ (by decide)
  rw[spl,List.all_cons,z1o k,Bool.and_true]
  exact x2o _ (by omega)
theorem z1y{l:List Nat}(h1:1<=l.length)(h8:l.length<=8)(h:l.all isL=true):q7r (mk l)=true:=by
 unfold q7r
 rw[q8m,q6a,h,decide_eq_false (by omega),decide_eq_false (by omega)]
 rfl
theorem z6y{α:Type} [DecidableEq α]:∀{l F:List α},l.Nodup->(∀x∈l,x∈F)->l.length<=F.length
 |[],_,_,_=>Nat.zero_le _
 |a::l,F,nd,h=>by
  obtain⟨h1,h2⟩:=List.nodup_cons.mp nd
  have ha:a∈F:=h a (by simp)
  have:=z6y (l:=l) (F:=F.erase a) h2 fun x hx=>(List.mem_erase_of_ne (by rintro rfl;exact h1 hx)).mpr (h x (List.mem_cons_of_mem _ hx))
  rw[List.length_erase_of_mem ha]at this
  have:0<F.length:=List.length_pos_of_mem ha
  simp only[List.length_cons]
  omega
def sAny:Str:=Str.ofString "any"
def szn(k i:Nat):Nat:=(k-1+i) % 8+1
theorem y4p(k i:Nat):szn (szn k 1) i=szn k (i+1):=by unfold szn;omega
def Bad(ws:List Str)(w:Str):Prop:=w∈ws\/w=sAny
def z4n(ws:List Str)(num:Int)(k i:Nat):Prop:=¬Bad ws (mk (spl (num+(i:Nat)) (szn k i)))
theorem y9t(z:Str)(k:Nat)(h:k<=z.length):Txt.slice z none (some (k:Int))=mk (z.cps.toList.take k):=by
 apply z4v
 rw[z0t,q6a,HT.sIx_none,HT.sIx_nat,List.drop_zero,Nat.sub_zero,Nat.min_eq_left h]
theorem y9w(z:Str)(k:Nat)(h:k<=z.length):Txt.slice z (some (k:Int)) none=mk (z.cps.toList.drop k):=by
 apply z4v
 rw[z0t,q6a,HT.sIx_none,HT.sIx_nat,Nat.min_eq_left h,List.take_of_length_le]
 rw[List.length_drop,z7d]
 exact Nat.le_refl _
theorem y6u(ws:List Str):eqBs (ws.map PV.str) []=ws.isEmpty:=by cases ws<;>simp[eqBs]
theorem x8d(ws:List Str)(w:Str):((ws.map PV.str).any fun y=>eqB y (.str w))=decide (w∈ws):=by
 rw[List.any_map,Bool.eq_iff_iff,List.any_eq_true,decide_eq_true_eq]
 constructor
 ·rintro⟨x,hx,e⟩
  have e':eqB (.str x) (.str w)=true:=e
  rw[q4h,decide_eq_true_eq]at e'
  rw[<-e'];exact hx
 ·intro h
  exact⟨w,h,by show eqB (.str w) (.str w)=true;rw[q4h];simp⟩
theorem y7o{p:Nat->Bool}{l:List Nat}(k:Nat)(h:l.all p=true):(l.take k).all p=true:=List.all_eq_true.mpr fun x hx=>List.all_eq_true.mp h x (List.mem_of_mem_take hx)
theorem y7p{p:Nat->Bool}{l:List Nat}(k:Nat)(h:l.all p=true):(l.drop k).all p=true:=List.all_eq_true.mpr fun x hx=>List.all_eq_true.mp h x (List.mem_of_mem_drop hx)
theorem q4a{α:Type}(xs:List α)(j:Nat)(h:j<xs.length):atI xs (j:Int)=some xs[j]:=by
 unfold atI ixN
 rw[if_pos (by omega),if_pos (by omega)]
 simp[h]
def q6i:WS:=
 (wSeq (wSet 2 (wC (.str "")))
 (wSeq (wFor (q5j (q0d (wVar 1) wNil)) (q0z 3) (wSeq (wSet 2 (wBin bAdd (wVar 2) (wBin bIx (wC (.str "abcdefghijklmnopqrstuvwxyz")) (wBin bMod (wVar 0) (wC (.int 26))))))
 (wSet 0 (wBin q7z (wVar 0) (wC (.int 26))))))
 (wRet (wVar 2))))
def q4y(spLnext:Den)(spLspelled:Den):WS:=
 (wSeq (wSet 2 (q0t spLnext (q0d (wVar 0) wNil)))
 (wSeq (wSet 3 (q0t spLnext (q0d (wVar 0) wNil)))
 (wSeq (wSet 4 (wBin bAdd (wC (.int 1)) (wBin bMod (wVar 2) (wC (.int 8)))))
 (wSeq (wSet 5 (q0t spLspelled (q0d (wVar 3) (q0d (wVar 4) wNil))))
 (wSeq (wIfS (wAnd (q0y (wBin cNe (wVar 1) (wLst wNil))) (q0y (wBin cEq (wBin bMod (wBin q7z (wVar 2) (wC (.int 8))) (wC (.int 2))) (wC (.int 1)))))
 (wSeq (wSet 6 (wBin bMod (wBin q7z (wVar 2) (wC (.int 16))) (wCB fLen (q0d (wBin bIx (wVar 1) (wC (.int 0))) wNil))))
 (wSet 5 (wBin bAdd (wBin bAdd (wSl (wBin bIx (wVar 1) (wC (.int 0))) q5k (z0j (wVar 6))) (wBin bIx (wVar 5) (wC (.int 0)))) (wSl (wBin bIx (wVar 1) (wC (.int 0))) (z0j (wBin bAdd (wVar 6) (wC (.int 1)))) q5k))))
 q1g)
 (wSeq (z0r (wOr (q0y (wBin cIn (wVar 5) (wVar 1))) (q0y (wBin cEq (wVar 5) (wC (.str "any"))))) (wSeq (wSet 3 (wBin bAdd (wVar 3) (wC (.int 1))))
 (wSeq (wSet 4 (wBin bAdd (wBin bMod (wVar 4) (wC (.int 8))) (wC (.int 1))))
 (wSet 5 (q0t spLspelled (q0d (wVar 3) (q0d (wVar 4) wNil)))))))
 (wRet (wVar 5))))))))
def q2g(spLuses:Den):WS:=
 (wSeq (wIfS (wAnd (q0y (wBin cEq (wBin bIx (wVar 0) (wC (.int 0))) (wC (.str "bound")))) (q0y (wBin cLt (wBin bIx (wVar 0) (wC (.int 1))) (wCB fLen (q0d (wVar 1) wNil)))))
 (wAsg (wBin bAdd (wBin bIx (wVar 2) (wBin bIx (wVar 1) (wBin bSub (wNeg (wC (.int 1))) (wBin bIx (wVar 0) (wC (.int 1)))))) (wC (.int 1))) (q7k (wVar 2) (wBin bIx (wVar 1) (wBin bSub (wNeg (wC (.int 1))) (wBin bIx (wVar 0) (wC (.int 1))))) sSet))
 (wIfS (q0y (wBin cEq (wBin bIx (wVar 0) (wC (.int 0))) (wC (.str "bound"))))
 (wRet (wC (.bl false)))
 q1g))
 (wSeq (wIfS (q0y (wBin cEq (wBin bIx (wVar 0) (wC (.int 0))) (wC (.str "fn"))))
 (wSeq (q4p (wBM "list" q1y (wVar 2) (q0d (wC (.int 0)) wNil)))
 (wRet (q0t spLuses (q0d (wBin bIx (wVar 0) (wC (.int 2))) (q0d (wBin bAdd (wVar 1) (wLst (q0d (wBin bSub (wCB fLen (q0d (wVar 2) wNil)) (wC (.int 1))) wNil))) (q0d (wVar 2) wNil))))))
 q1g)
 (wSeq (wIfS (q0y (wBin cEq (wBin bIx (wVar 0) (wC (.int 0))) (wC (.str "of"))))
 (wSeq (wSet 3 (q0t spLuses (q0d (wBin bIx (wVar 0) (wC (.int 1))) (q0d (wVar 1) (q0d (wVar 2) wNil)))))
 (wRet (z1j (q0t spLuses (q0d (wBin bIx (wVar 0) (wC (.int 2))) (q0d (wVar 1) (q0d (wVar 2) wNil)))) (wVar 3))))
 q1g)
 (wRet (wC (.bl true))))))
def q3g:WS:=
 (wSeq (wIfS (q0y (wBin cGe (wVar 1) (wCB fLen (q0d (wVar 0) wNil))))
 (wRet (wC .non))
 q1g)
 (wRet (wBin bIx (wVar 0) (wBin bSub (wBin bSub (wCB fLen (q0d (wVar 0) wNil)) (wC (.int 1))) (wVar 1)))))
def q2b:WS:=
 (wSeq (wSet 1 (wLst wNil))
 (wSeq (wSet 2 (wLst (q0d (wTup (q0d (wVar 0) (q0d (wTup wNil) wNil))) wNil)))
 (wSeq (z0r (wTru (wVar 2)) (wSeq (wAsg (wBM0 "list" mPop (wVar 2)) (q3q 2 (q1e (q0z 3) (q1e (q0z 4) q3r))))
 (wSeq (wIfS (q0y (wBin cEq (wBin bIx (wVar 3) (wC (.int 0))) (wC (.str "fn"))))
 (q4p (wBM "list" q1y (wVar 2) (q0d (wTup (q0d (wBin bIx (wVar 3) (wC (.int 2))) (q0d (wBin bAdd (wVar 4) (wTup (q0d (wCB fLen (q0d (wVar 1) wNil)) wNil))) wNil))) wNil)))
 (wIfS (q0y (wBin cEq (wBin bIx (wVar 3) (wC (.int 0))) (wC (.str "of"))))
 (q4p (wBM "list" q9s (wVar 2) (q0d (wLst (q0d (wTup (q0d (wBin bIx (wVar 3) (wC (.int 2))) (q0d (wVar 4) wNil))) (q0d (wTup (q0d (wBin bIx (wVar 3) (wC (.int 1))) (q0d (wVar 4) wNil))) wNil))) wNil)))
 q1g))
 (q4p (wBM "list" q1y (wVar 1) (q0d (wTup (q0d (wVar 3) (q0d (wVar 4) wNil))) wNil))))))
 (wRet (wVar 1)))))
def q2z(spowner_of:Den)(spparts_and_fns:Den):WS:=
 (wRet (q7l (q5o (q0t spparts_and_fns (q0d (wVar 0) wNil))) [none,none] (q3q 2 (q1e (q0z 0) (q1e (q0z 1) q3r))) (q0y (wBin cEq (wBin bIx (wVar 0) (wC (.int 0))) (wC (.str "bound")))) (q0t spowner_of (q0d (wVar 1) (q0d (wBin bIx (wVar 0) (wC (.int 1))) wNil)))))
def q3a(spowners_in:Den):WS:=
 (wRet (wBin z1f (wC .non) (q0t spowners_in (q0d (wVar 0) wNil))))
def q2v(spowners_in:Den):WS:=
 (wSeq (wSet 1 (q7l (q5o (q0t spowners_in (q0d (wVar 0) wNil))) [none] (q0z 0) (q0y (wBin z1g (wVar 0) (wC .non))) (wVar 0)))
 (wRet (wBin cEq (z4r (wVar 1)) (wCB fLen (q0d (wVar 1) wNil)))))
def q3u(spparts_and_fns:Den):WS:=
 (wRet (wCB fLen (q0d (q0t spparts_and_fns (q0d (wVar 0) wNil)) wNil)))
def q2h(spLsize:Den):WS:=
 (wSeq (wIfS (q0y (wBin cEq (wBin bIx (wVar 0) (wC (.int 0))) (wC (.str "fn"))))
 (wRet (wBin bAdd (wC (.int 1)) (q0t spLsize (q0d (wBin bIx (wVar 0) (wC (.int 2))) wNil))))
 q1g)
 (wSeq (wIfS (q0y (wBin cEq (wBin bIx (wVar 0) (wC (.int 0))) (wC (.str "of"))))
 (wRet (wBin bAdd (wBin bAdd (wC (.int 1)) (q0t spLsize (q0d (wBin bIx (wVar 0) (wC (.int 1))) wNil))) (q0t spLsize (q0d (wBin bIx (wVar 0) (wC (.int 2))) wNil))))
 q1g)
 (wRet (wC (.int 1)))))
def q5y:WS:=
 (wSeq (wIfS (q0y (wBin cEq (wBin bIx (wVar 0) (wC (.int 0))) (wC (.str "/"))))
 (wSeq (wIfS (q0y (wBin cEq (wBin bIx (wVar 0) (wC (.int 2))) (wVar 1)))
 (wRet (wTup (q0d (wC (.str ">")) (q0d (wBin bIx (wVar 0) (wC (.int 1))) wNil))))
 q1g)
 (wIfS (wAnd (q0y (wBin cEq (wBin bIx (wVar 1) (wC (.int 0))) (wC (.str "/")))) (q0y (wBin cEq (wBin bIx (wVar 0) (wC (.int 2))) (wBin bIx (wVar 1) (wC (.int 1))))))
 (wRet (wTup (q0d (wC (.str ">>")) (q0d (wTup (q0d (wC (.str "/")) (q0d (wBin bIx (wVar 0) (wC (.int 1))) (q0d (wBin bIx (wVar 1) (wC (.int 2))) wNil)))) wNil))))
 q1g))
 q1g)
 (wSeq (wIfS (q0y (wBin cEq (wBin bIx (wVar 1) (wC (.int 0))) (wC (.str "\\"))))
 (wSeq (wIfS (q0y (wBin cEq (wBin bIx (wVar 1) (wC (.int 2))) (wVar 0)))
 (wRet (wTup (q0d (wC (.str "<")) (q0d (wBin bIx (wVar 1) (wC (.int 1))) wNil))))
 q1g)
 (wIfS (wAnd (q0y (wBin cEq (wBin bIx (wVar 0) (wC (.int 0))) (wC (.str "\\")))) (q0y (wBin cEq (wBin bIx (wVar 1) (wC (.int 2))) (wBin bIx (wVar 0) (wC (.int 1))))))
 (wRet (wTup (q0d (wC (.str "<<")) (q0d (wTup (q0d (wC (.str "\\")) (q0d (wBin bIx (wVar 1) (wC (.int 1))) (q0d (wBin bIx (wVar 0) (wC (.int 2))) wNil)))) wNil))))
 q1g))
 q1g)
 (wRet (wC .non))))
inductive Fm where
 |b (s:Str)|n (l:Bool) (x y:Fm)
deriving DecidableEq
def sSl:Bool->Str
 |false=>Str.ofString "/"
 |true=>Str.ofString "\\"
def Fm.pv:Fm->PV
 |.b s=>.tup [.str "basic",.str s]
 |.n l x y=>.tup [.str (sSl l),x.pv,y.pv]
def Fm.dp:Fm->Nat
 |.b _=>1
 |.n _ x y=>max x.dp y.dp+1
def Fm.lv:Fm->Nat
 |.b _=>1
 |.n _ x y=>x.lv+y.lv
def Fm.ov(ws:List Str):Fm->Prop
 |.b s=>s∈ws
 |.n _ x y=>x.ov ws/\y.ov ws
theorem Fm.lv_pos:∀f:Fm,1<=f.lv
 |.b _=>Nat.le_refl _
 |.n _ x y=>Nat.le_trans (Fm.lv_pos x) (Nat.le_add_right _ _)
theorem Fm.dp_lv:∀f:Fm,f.dp<=f.lv
 |.b _=>Nat.le_refl _
 |.n _ x y=>by have:=Fm.dp_lv x;have:=Fm.dp_lv y;have:=Fm.lv_pos x;have:=Fm.lv_pos y;simp only[Fm.dp,Fm.lv];omega
theorem Fm.pv_tup(f:Fm):∃xs,f.pv=.tup xs:=by cases f<;>exact⟨_,rfl⟩
theorem z6v:∀f:Fm,nrf f.pv=true
 |.b _=>rfl
 |.n _ x y=>by simp only[Fm.pv,nrf,nrfs,z6v x,z6v y,Bool.and_self]
theorem z3z:∀f:Fm,dep f.pv=f.dp
 |.b _=>rfl
 |.n _ x y=>by simp only[Fm.pv,dep,deps,z3z x,z3z y,Fm.dp];omega
theorem y8c:sSl false≠sSl true:=by decide +kernel
theorem z3x:∀f g:Fm,eqB f.pv g.pv=decide (f=g)
 |.b s,.b t=>by simp[Fm.pv,q6h,eqBs,q4h]
 |.b s,.n l x y=>by simp[Fm.pv,q6h,eqBs,q4h]
 |.n l x y,.b s=>by simp[Fm.pv,q6h,eqBs,q4h]
 |.n l x y,.n m u v=>by
  have h:(sSl l=sSl m)↔l=m:=by
   cases l<;>cases m<;>simp[y8c,y8c.symm]
  simp[Fm.pv,q6h,eqBs,q4h,z3x x u,z3x y v,h]
theorem y1c{f:Fm}(h:f.dp<=190):okEq f.pv:=⟨z6v f,by rw[z3z];exact h⟩
theorem y3m{f g:Fm}(hf:f.dp<=190)(hg:g.dp<=190)(S:q0h)(Q:VC):cEq f.pv g.pv S Q=Q (.bl (decide (f=g))) S:=by
 have h:=z3x f g
 have o1:=y1c hf
 have o2:=y1c hg
 obtain⟨xs,hx⟩:=f.pv_tup
 obtain⟨ys,hy⟩:=g.pv_tup
 rw[hx,hy]at h
 rw[hx]at o1 ⊢
 rw[hy]at o2 ⊢
 rw[y3l,<-q6h,h]
 simp only[o1,o2,and_self,true_and]
theorem fb0(s:Str)(S:q0h)(Q:VC):bIx (Fm.b s).pv (.int 0) S Q=Q (.str "basic") S:=rfl
theorem fb1(s:Str)(S:q0h)(Q:VC):bIx (Fm.b s).pv (.int 1) S Q=Q (.str s) S:=rfl
theorem fn0(l:Bool)(x y:Fm)(S:q0h)(Q:VC):bIx (Fm.n l x y).pv (.int 0) S Q=Q (.str (sSl l)) S:=rfl
theorem fn1(l:Bool)(x y:Fm)(S:q0h)(Q:VC):bIx (Fm.n l x y).pv (.int 1) S Q=Q x.pv S:=rfl
theorem fn2(l:Bool)(x y:Fm)(S:q0h)(Q:VC):bIx (Fm.n l x y).pv (.int 2) S Q=Q y.pv S:=rfl
theorem y9u:(sSl false=Str.ofString "/")=True:=by simp only[sSl]
theorem y9v:(sSl false=Str.ofString "\\")=False:=by simp only[eq_iff_iff,iff_false];decide +kernel
theorem y9r:(sSl true=Str.ofString "\\")=True:=by simp only[sSl]
theorem y9s:(sSl true=Str.ofString "/")=False:=by simp only[eq_iff_iff,iff_false];decide +kernel
theorem z6m(l:Bool):(sSl l=Str.ofString "basic")=False:=by cases l<;>(simp only[eq_iff_iff,iff_false];decide +kernel)
theorem ba_f:(Str.ofString "basic" = Str.ofString "/")=False:=by simp only[eq_iff_iff,iff_false];decide +kernel
theorem ba_b:(Str.ofString "basic" = Str.ofString "\\")=False:=by simp only[eq_iff_iff,iff_false];decide +kernel
mutual
theorem q7x:∀x:PV,nrf x=true->eqB x x=true
 |.non,_=>rfl
 |.bl b,_=>by simp[eqB]
 |.int i,_=>by simp[eqB]
 |.str s,_=>by rw[q4h];simp
 |.tup xs,h=>by rw[q6h];exact q6r xs (by rw[q8e]at h;exact h)
theorem q6r:∀xs:List PV,nrfs xs=true->eqBs xs xs=true
 |[],_=>rfl
 |x::xs,h=>by
  simp only[nrfs,Bool.and_eq_true]at h
  simp only[eqBs,q7x x h.1,q6r xs h.2,Bool.and_self]
end
theorem z2k{ws:List Str}{i:Int}(h:ws≠[]):∃y,y∈ws/\atI (ws.map PV.str) (i % (ws.length:Int))=some (.str y):=by
 have hp:0<ws.length:=List.length_pos_iff.mpr h
 have h0:0<=i % (ws.length:Int):=Int.emod_nonneg _ (by omega)
 have h1:i % (ws.length:Int)<ws.length:=Int.emod_lt_of_pos _ (by omega)
 unfold atI ixN
 rw[List.length_map,if_pos h0,if_pos h1]
 have:(i % (ws.length:Int)).toNat<ws.length:=by omega
 exact⟨ws[(i % (ws.length:Int)).toNat],List.getElem_mem _,by simp[this]⟩
theorem at2{a b:PV}(i:Int):atI [a,b] (i % 2)=some (if i % 2=0 then a else b):=by
 have h0:0<=i % 2:=Int.emod_nonneg _ (by decide)
 have h1:i % 2<2:=Int.emod_lt_of_pos _ (by decide)
 rcases(show i % 2=0\/i % 2=1 by omega)with z|z
 ·rw[z];rfl
 ·rw[z];rfl
theorem y8a(i:Int)(x y:Fm):PV.tup [if i % 2=0 then PV.str "/"else PV.str "\\",x.pv,y.pv]=(Fm.n (!decide (i % 2=0)) x y).pv:=by
 by_cases z:i % 2=0
 ·rw[if_pos z,decide_eq_true z];rfl
 ·rw[if_neg z,decide_eq_false z];rfl
def lt(m:Nat):Str:=mk [97+m]
def tx(w:List Nat):Str:=mk (w.map (97+·))
def ro(w:List Nat)(i:Nat):List Nat:=match w with
 |[]=>[]
 |a::r=>(a+i) % 26::r
theorem z5b{x:PV}{n:Nat}(h:x∈rngP 0 n):∃i:Nat,i<n/\x=.int (i:Nat):=by
 unfold rngP at h
 obtain⟨i,hi,rfl⟩:=List.mem_map.mp h
 rw[List.mem_range]at hi
 exact⟨i,hi,by simp⟩
def mdL(a b:Fm):Option (Str×Fm):=match a with
 |.n false x y=>if y=b then some (Str.ofString ">",x)else match b with
  |.n false y' z=>if y=y' then some (Str.ofString ">>",.n false x z)else none
  |_=>none
 |_=>none
def mdR(a b:Fm):Option (Str×Fm):=match b with
 |.n true x y=>if y=a then some (Str.ofString "<",x)else match a with
  |.n true y' z=>if y=y' then some (Str.ofString "<<",.n true x z)else none
  |_=>none
 |_=>none
def md(a b:Fm):Option (Str×Fm):=(mdL a b).or (mdR a b)
def mdP:Option (Str×Fm)->PV
 |none=>.non
 |some (s,f)=>.tup [.str s,f.pv]
def x3g(sp:Den):Prop:=∀(a b:Fm)(S:q0h)(E:EK)(Q:VC),a.dp<=100->b.dp<=100->Q (mdP (md a b)) S->sp [a.pv,b.pv] S E Q
theorem Fm.ne_in{l:Bool}{x y:Fm}:x≠.n l x y:=by
 intro h
 have:=congrArg Fm.lv h
 simp only[Fm.lv]at this
 have:=Fm.lv_pos y
 omega
theorem z2h{f g:Fm}(hf:f.dp<=100)(hg:g.dp<=100)(S:q0h)(Q:VC):cEq f.pv g.pv S Q=Q (.bl (decide (f=g))) S:=y3m (by omega) (by omega) _ _
theorem x1n:x3g (fnP 2 2 q5y):=by
 intro a b S E Q ha hb h
 refine⟨rfl,?_⟩
 unfold q5y
 have p2:2<=sizeLine:=big (by decide)
 have p3:3<=sizeLine:=big (by decide)
 refine seqI fun K hK=>?_
 have hnon:mdL a b=none->K [some a.pv,some b.pv] S:=by
  intro hL
  refine hK _ _ ?_
  clear hK
  refine seqI fun K hK=>?_
  have hnon:mdR a b=none->K [some a.pv,some b.pv] S:=fun z=>hK _ _ (by
   rw [md,hL,z]at h
   exact h)
  have hsome:∀s f,mdR a b=some (s,f)->Q (.tup [.str s,f.pv]) S:=fun s f z=>by
   rw[md,hL,z]at h
   exact h
  clear h hK
  cases b with
  |b t=>dsimp![fb0,ba_b];exact hnon rfl
  |n m u v=>
   cases m with
   |false=>dsimp![fn0,y9v];exact hnon rfl
   |true=>
    simp only[Fm.dp]at hb
    dsimp![fn0,y9r]
    refine seqI fun K2 hK2=>?_
    dsimp![fn1,fn2,z2h (show v.dp<=100 by omega) ha]
    refine ite2 (fun z=>⟨p2,hsome _ _ (by simp only[mdR,if_pos z])⟩) (fun z=>hK2 _ _ ?_)
    cases a with
    |b t=>dsimp![fb0,ba_b];exact hnon (by simp only[mdR,if_neg z])
    |n l x y=>
     cases l with
     |false=>dsimp![fn0,y9v];exact hnon (by simp only[mdR,if_neg z])
     |true=>
      simp only[Fm.dp]at ha
      dsimp![fn0,fn1,fn2,y9r,z2h (show v.dp<=100 by omega) (show x.dp<=100 by omega)]
      exact ite2 (fun z2=>⟨p3,p2,hsome _ (.n true u y) (by simp only[mdR,if_neg z,if_pos z2])⟩) (fun z2=>hnon (by simp only[mdR,if_neg z,if_neg z2]))
 have hsome:∀s f,mdL a b=some (s,f)->Q (.tup [.str s,f.pv]) S:=fun s f z=>by
  rw[md,z]at h
  exact h
 clear h hK
 cases a with
 |b t=>dsimp![fb0,ba_f];exact hnon rfl
 |n l x y=>
  cases l with
  |true=>dsimp![fn0,y9s];exact hnon rfl
  |false=>
   simp only[Fm.dp]at ha
   dsimp![fn0,y9u]
   refine seqI fun K2 hK2=>?_
   dsimp![fn1,fn2,z2h (show y.dp<=100 by omega) hb]
   refine ite2 (fun z=>⟨p2,hsome _ _ (by simp only[mdL,if_pos z])⟩) (fun z=>hK2 _ _ ?_)
   cases b with
   |b t=>dsimp![fb0,ba_f];exact hnon (by simp only[mdL,if_neg z])
   |n m u v=>
    cases m with
    |true=>dsimp![fn0,y9s];exact hnon (by simp only[mdL,if_neg z])
    |false=>
     simp only[Fm.dp]at hb
     dsimp![fn0,fn1,fn2,y9u,z2h (show y.dp<=100 by omega) (show u.dp<=100 by omega)]
     exact ite2 (fun z2=>⟨p3,p2,hsome _ (.n false x v) (by simp only[mdL,if_neg z,if_pos z2])⟩) (fun z2=>hnon (by simp only[mdL,if_neg z,if_neg z2]))
theorem x6k {a b : Fm} {s : Str} {f : Fm} (h : mdL a b = some (s, f)) : f.dp <= max a.dp b.dp := by
 unfold mdL at h
 repeat' split at h
 all_goals first
  | (cases h; done)
  | (simp only [Option.some.injEq, Prod.mk.injEq] at h; obtain ⟨-, rfl⟩ := h; simp only [Fm.dp]; omega)
theorem x6i {a b : Fm} {s : Str} {f : Fm} (h : mdR a b = some (s, f)) : f.dp <= max a.dp b.dp := by
 unfold mdR at h
 repeat' split at h
 all_goals first
  | (cases h; done)
  | (simp only [Option.some.injEq, Prod.mk.injEq] at h; obtain ⟨-, rfl⟩ := h; simp only [Fm.dp]; omega)
theorem x9v{a b:Fm}{s:Str}{f:Fm}(h:md a b=some (s,f)):f.dp<=max a.dp b.dp:=by
 unfold md at h
 cases e:mdL a b with
 |none=>rw[e]at h;exact x6i h
 |some p=>rw[e]at h;cases h;exact x6k e
theorem Fm.dp_pos(f:Fm):1<=f.dp:=by cases f<;>simp[Fm.dp]
def q6k(spLkind:Den):WS:=
 (wSeq (wIfS (q0y (wBin cEq (wBin bIx (wVar 0) (wC (.int 0))) (wC (.str "basic"))))
 (wRet (wBin bIx (wVar 0) (wC (.int 1))))
 q1g)
 (wRet (wTup (q0d (q0t spLkind (q0d (wBin bIx (wVar 0) (wC (.int 2))) wNil)) (q0d (q0t spLkind (q0d (wBin bIx (wVar 0) (wC (.int 1))) wNil)) wNil)))))
def q1w(spkind_of_form:Den):WS:=
 (wSeq (wIfS (q0y (wBin cEq (wBin bIx (wVar 0) (wC (.int 0))) (wC (.str "basic"))))
 (wRet (wBin bIx (wVar 0) (wC (.int 1))))
 q1g)
 (wRet (wTup (q0d (q0t spkind_of_form (q0d (wBin bIx (wVar 0) (wC (.int 2))) wNil)) (q0d (q0t spkind_of_form (q0d (wBin bIx (wVar 0) (wC (.int 1))) wNil)) wNil)))))
def q4i(spkind_of_form:Den):WS:=
 (wRet (wTup (q0d (wC (.str "fn")) (q0d (q0t spkind_of_form (q0d (wVar 0) wNil)) (q0d (wTup (q0d (wC (.str "of")) (q0d (wVar 1) (q0d (wTup (q0d (wC (.str "of")) (q0d (wVar 2) (q0d (wTup (q0d (wC (.str "bound")) (q0d (wC (.int 0)) wNil))) wNil)))) wNil)))) wNil)))))
def q2r(spjoined:Den):WS:=
 (wSeq (wIfS (q0y (wBin cEq (wVar 0) (wC (.str ">"))))
 (wRet (wTup (q0d (wC (.str "of")) (q0d (wVar 3) (q0d (wVar 4) wNil)))))
 q1g)
 (wSeq (wIfS (q0y (wBin cEq (wVar 0) (wC (.str "<"))))
 (wRet (wTup (q0d (wC (.str "of")) (q0d (wVar 4) (q0d (wVar 3) wNil)))))
 q1g)
 (wSeq (wIfS (q0y (wBin cEq (wVar 0) (wC (.str ">>"))))
 (wRet (q0t spjoined (q0d (wBin bIx (wVar 2) (wC (.int 2))) (q0d (wVar 3) (q0d (wVar 4) wNil)))))
 q1g)
 (wRet (q0t spjoined (q0d (wBin bIx (wVar 1) (wC (.int 2))) (q0d (wVar 4) (q0d (wVar 3) wNil))))))))
set_option maxHeartbeats 1000000
def Fm.kd:Fm->PV
 |.b s=>.str s
 |.n _ x y=>.tup [y.kd,x.kd]
theorem z2b{T:Nat->Den}(hT:∀n,T (n+1)=fnP 1 1 (q6k (T n))):∀(n:Nat)(f:Fm),f.dp<=n->∀(S:q0h)(E:EK)(Q:VC),Q f.kd S->T n [f.pv] S E Q
 |0,f,hd,S,E,Q,h=>by have:=f.dp_pos;omega
 |n+1,.b s,hd,S,E,Q,h=>by
  rw[hT]
  refine⟨rfl,?_⟩
  unfold q6k
  dsimp![wSeq,fb0,fb1]
  exact h
 |n+1,.n l x y,hd,S,E,Q,h=>by
  simp only[Fm.dp]at hd
  rw[hT]
  refine⟨rfl,?_⟩
  unfold q6k
  dsimp![wSeq,fn0,fn1,fn2,z6m]
  refine z2b hT n y (by omega) _ _ _ ?_
  refine z2b hT n x (by omega) _ _ _ ?_
  exact⟨big (by decide),h⟩
def z9f(sp:Den)(d:Nat):Prop:=∀(f:Fm),f.dp<=d->∀(S:q0h)(E:EK)(Q:VC),Q f.kd S->sp [f.pv] S E Q
def jnP(z:Fm)(f g:PV):PV:=.tup [.str "fn",z.kd,.tup [.str "of",f,.tup [.str "of",g,.tup [.str "bound",.int 0]]]]
theorem y2a{sp:Den}{d:Nat}(hk:z9f sp d){z:Fm}{f g:PV}{S:q0h}{E:EK}{Q:VC}(hd:z.dp<=d)(h:Q (jnP z f g) S):fnP 3 3 (q4i sp) [z.pv,f,g] S E Q:=by
 refine⟨rfl,?_⟩
 unfold q4i
 dsimp![true_and]
 refine hk z hd _ _ _ ?_
 exact⟨big (by decide),big (by decide),big (by decide),big (by decide),h⟩
def x3h(sp:Den)(d:Nat):Prop:=∀(z:Fm)(f g:PV)(S:q0h)(E:EK)(Q:VC),z.dp<=d->Q (jnP z f g) S->sp [z.pv,f,g] S E Q
def ofP(f g:PV):PV:=.tup [.str "of",f,g]
theorem sg1:(Str.ofString "<" = Str.ofString ">")=False:=by simp only[eq_iff_iff,iff_false];decide +kernel
theorem sg2:(Str.ofString ">>" = Str.ofString ">")=False:=by simp only[eq_iff_iff,iff_false];decide +kernel
theorem sg3:(Str.ofString ">>" = Str.ofString "<")=False:=by simp only[eq_iff_iff,iff_false];decide +kernel
theorem sg4:(Str.ofString "<<" = Str.ofString ">")=False:=by simp only[eq_iff_iff,iff_false];decide +kernel
theorem sg5:(Str.ofString "<<" = Str.ofString "<")=False:=by simp only[eq_iff_iff,iff_false];decide +kernel
theorem sg6:(Str.ofString "<<" = Str.ofString ">>")=False:=by simp only[eq_iff_iff,iff_false];decide +kernel
structure MeantD(sp:Den)(d:Nat):Prop where
 a:∀(l r f g:PV)(S:q0h)(E:EK)(Q:VC),Q (ofP f g) S->sp [.str ">",l,r,f,g] S E Q
 b:∀(l r f g:PV)(S:q0h)(E:EK)(Q:VC),Q (ofP g f) S->sp [.str "<",l,r,f,g] S E Q
 c:∀(l:PV)(x z:Fm)(s:Bool)(f g:PV)(S:q0h)(E:EK)(Q:VC),z.dp<=d->Q (jnP z f g) S->sp [.str ">>",l,(Fm.n s x z).pv,f,g] S E Q
 d:∀(r:PV)(x z:Fm)(s:Bool)(f g:PV)(S:q0h)(E:EK)(Q:VC),z.dp<=d->Q (jnP z g f) S->sp [.str "<<",(Fm.n s x z).pv,r,f,g] S E Q
theorem y6f{sp:Den}{d:Nat}(hj:x3h sp d):MeantD (fnP 5 5 (q2r sp)) d where
 a:=fun l r f g S E Q h=>by
  refine⟨rfl,?_⟩
  unfold q2r
  dsimp![wSeq]
  exact⟨big (by decide),h⟩
 b:=fun l r f g S E Q h=>by
  refine⟨rfl,?_⟩
  unfold q2r
  dsimp![wSeq,sg1]
  exact⟨big (by decide),h⟩
 c:=fun l x z s f g S E Q hd h=>by
  refine⟨rfl,?_⟩
  unfold q2r
  dsimp![wSeq,sg2,sg3,fn2]
  exact hj z f g _ _ _ hd h
 d:=fun r x z s f g S E Q hd h=>by
  refine⟨rfl,?_⟩
  unfold q2r
  dsimp![wSeq,sg4,sg5,sg6,fn2]
  exact hj z g f _ _ _ hd h
theorem md1(x y:Fm):md (.n false x y) y=some (Str.ofString ">",x):=by simp[md,mdL]
theorem x6j{x y:Fm}:mdL y (.n true x y)=none:=by
 unfold mdL
 split
 ·rename_i u v
  rw[if_neg]
  intro z
  have:=congrArg Fm.lv z
  simp only[Fm.lv]at this
  have:=u.lv_pos
  have:=x.lv_pos
  omega
 ·rfl
theorem md2(x y:Fm):md y (.n true x y)=some (Str.ofString "<",x):=by simp[md,x6j,mdR]
theorem md3(x y z:Fm):md (.n false x y) (.n false y z)=some (Str.ofString ">>",.n false x z):=by
 have h:¬y=.n false y z:=Fm.ne_in
 simp only[md,mdL,mdR,if_neg h,if_true,Option.or_none]
theorem md4(x y z:Fm):md (.n true y z) (.n true x y)=some (Str.ofString "<<",.n true x z):=by
 have h:¬y=.n true y z:=Fm.ne_in
 simp only[md,mdL,mdR,if_neg h,if_true,Option.none_or]
def q4b(spLwide:Den):WS:=
 (wSeq (wIfS (q0y (wBin cEq (wBin bIx (wVar 0) (wC (.int 0))) (wC (.str "basic"))))
 (wRet (wC (.int 1)))
 q1g)
 (wRet (wBin bAdd (q0t spLwide (q0d (wBin bIx (wVar 0) (wC (.int 1))) wNil)) (q0t spLwide (q0d (wBin bIx (wVar 0) (wC (.int 2))) wNil)))))
def q4k(spLnext:Den)(spLwide:Den):WS:=
 (wSeq (wSet 3 (q0t spLnext (q0d (wVar 0) wNil)))
 (wSeq (wSet 4 (wTup (q0d (wC (.str "basic")) (q0d (wBin bIx (wVar 1) (wBin bMod (wVar 3) (wCB fLen (q0d (wVar 1) wNil)))) wNil))))
 (wSeq (wIfS (wOr (q0y (wBin cGt (wBin bMod (wBin q7z (wVar 3) (wC (.int 3))) (wC (.int 4))) (wC (.int 0)))) (q0y (wBin cGt (q0t spLwide (q0d (wVar 2) wNil)) (wC (.int 3)))))
 (wRet (wVar 4))
 q1g)
 (wRet (wTup (q0d (wBin bIx (wLst (q0d (wC (.str "/")) (q0d (wC (.str "\\")) wNil))) (wBin bMod (wBin q7z (wVar 3) (wC (.int 12))) (wC (.int 2)))) (q0d (wVar 4) (q0d (wTup (q0d (wC (.str "basic")) (q0d (wBin bIx (wVar 1) (wBin bMod (wBin q7z (wVar 3) (wC (.int 24))) (wCB fLen (q0d (wVar 1) wNil)))) wNil))) wNil))))))))
def q2o(spLnext:Den)(spLother:Den):WS:=
 (wSeq (wSet 2 (wTup (q0d (wC (.str "basic")) (q0d (wBin bIx (wVar 1) (wBin bMod (q0t spLnext (q0d (wVar 0) wNil)) (wCB fLen (q0d (wVar 1) wNil)))) wNil))))
 (wSeq (wSet 3 (q0t spLother (q0d (wVar 0) (q0d (wVar 1) (q0d (wVar 2) wNil)))))
 (wSeq (wSet 4 (wBin bMod (q0t spLnext (q0d (wVar 0) wNil)) (wC (.int 6))))
 (wSeq (wIfS (q0y (wBin cLt (wVar 4) (wC (.int 2))))
 (wRet (wVar 2))
 q1g)
 (wRet (wTup (q0d (wBin bIx (wLst (q0d (wC (.str "/")) (q0d (wC (.str "\\")) wNil))) (wBin bMod (wVar 4) (wC (.int 2)))) (q0d (wVar 2) (q0d (wVar 3) wNil)))))))))
def q4z(spLnext:Den)(spLother:Den)(spLwide:Den)(spLtree:Den):WS:=
 (wSeq (wIfS (q0y (wBin cLt (wVar 4) (wC (.int 2))))
 (wRet (wTup (q0d (wC (.str "word")) (q0d (wVar 3) (q0d (wVar 2) wNil)))))
 q1g)
 (wSeq (wSet 5 (wBin bAdd (wC (.int 1)) (wBin bMod (q0t spLnext (q0d (wVar 0) wNil)) (wBin bSub (wVar 4) (wC (.int 1))))))
 (wSeq (wSet 6 (q0t spLnext (q0d (wVar 0) wNil)))
 (wSeq (wSet 7 (q0t spLother (q0d (wVar 0) (q0d (wVar 1) (q0d (wVar 2) wNil)))))
 (wSeq (wSet 8 (wC (.str ">")))
 (wSeq (wSet 9 (wTup (q0d (wTup (q0d (wC (.str "/")) (q0d (wVar 2) (q0d (wVar 7) wNil)))) (q0d (wVar 7) wNil))))
 (wSeq (wIfS (q0y (wBin cEq (wBin bMod (wVar 6) (wC (.int 2))) (wC (.int 1))))
 (wSeq (wSet 8 (wC (.str "<")))
 (wSet 9 (wTup (q0d (wVar 7) (q0d (wTup (q0d (wC (.str "\\")) (q0d (wVar 2) (q0d (wVar 7) wNil)))) wNil)))))
 q1g)
 (wSeq (wIfS (wAnd (q0y (wBin cEq (wBin bIx (wVar 2) (wC (.int 0))) (wC (.str "/")))) (wOr (q0y (wBin cGt (wBin bMod (wVar 6) (wC (.int 8))) (wC (.int 1)))) (q0y (wBin cGt (q0t spLwide (q0d (wVar 2) wNil)) (wC (.int 4))))))
 (wSeq (wSet 8 (wC (.str ">>")))
 (wSet 9 (wTup (q0d (wTup (q0d (wC (.str "/")) (q0d (wBin bIx (wVar 2) (wC (.int 1))) (q0d (wVar 7) wNil)))) (q0d (wTup (q0d (wC (.str "/")) (q0d (wVar 7) (q0d (wBin bIx (wVar 2) (wC (.int 2))) wNil)))) wNil)))))
 q1g)
 (wSeq (wIfS (wAnd (q0y (wBin cEq (wBin bIx (wVar 2) (wC (.int 0))) (wC (.str "\\")))) (wOr (q0y (wBin cGt (wBin bMod (wVar 6) (wC (.int 8))) (wC (.int 1)))) (q0y (wBin cGt (q0t spLwide (q0d (wVar 2) wNil)) (wC (.int 4))))))
 (wSeq (wSet 8 (wC (.str "<<")))
 (wSet 9 (wTup (q0d (wTup (q0d (wC (.str "\\")) (q0d (wVar 7) (q0d (wBin bIx (wVar 2) (wC (.int 2))) wNil)))) (q0d (wTup (q0d (wC (.str "\\")) (q0d (wBin bIx (wVar 2) (wC (.int 1))) (q0d (wVar 7) wNil)))) wNil)))))
 q1g)
 (wSeq (wSet 10 (q0t spLtree (q0d (wVar 0) (q0d (wVar 1) (q0d (wBin bIx (wVar 9) (wC (.int 0))) (q0d (wVar 3) (q0d (wVar 5) wNil)))))))
 (wRet (wTup (q0d (wVar 8) (q0d (wVar 10) (q0d (q0t spLtree (q0d (wVar 0) (q0d (wVar 1) (q0d (wBin bIx (wVar 9) (wC (.int 1))) (q0d (wBin bAdd (wVar 3) (wVar 5)) (q0d (wBin bSub (wVar 4) (wVar 5)) wNil)))))) wNil)))))))))))))))
def q3y(spLwithin:Den):WS:=
 (wSeq (wIfS (q0y (wBin cEq (wBin bIx (wVar 0) (wC (.int 0))) (wC (.str "word"))))
 (wRet (wLst (q0d (wVar 0) wNil)))
 q1g)
 (wRet (wBin bAdd (wBin bAdd (wLst (q0d (wVar 0) wNil)) (q0t spLwithin (q0d (wBin bIx (wVar 0) (wC (.int 1))) wNil))) (q0t spLwithin (q0d (wBin bIx (wVar 0) (wC (.int 2))) wNil)))))
set_option maxHeartbeats 1000000
inductive Sg where
 |a|b|c|d
deriving DecidableEq
def Sg.st:Sg->Str
 |.a=>Str.ofString ">"
 |.b=>Str.ofString "<"
 |.c=>Str.ofString ">>"
 |.d=>Str.ofString "<<"
inductive Rd where
 |w (i:Int) (f:Fm)|n (s:Sg) (l r:Rd)
deriving DecidableEq
def z4y:Str:=Str.ofString "word"
def Rd.pv:Rd->PV
 |.w i f=>.tup [.str z4y,.int i,f.pv]
 |.n s l r=>.tup [.str s.st,l.pv,r.pv]
def Rd.lv:Rd->Nat
 |.w _ _=>1
 |.n _ l r=>l.lv+r.lv
def Rd.fd:Rd->Nat
 |.w _ f=>f.dp
 |.n _ l r=>max l.fd r.fd
def Rd.is:Rd->Int->Int->Fm->Prop
 |.w i f,a,b,g=>i=a/\b=a+1/\f=g
 |.n s l r,a,b,g=>∃k x y,l.is a k x/\r.is k b y/\md x y=some (s.st,g)
theorem Rd.lv_pos:∀r:Rd,1<=r.lv
 |.w _ _=>Nat.le_refl _
 |.n _ l r=>Nat.le_trans (Rd.lv_pos l) (Nat.le_add_right _ _)
theorem z9u(s:Sg):(s.st=z4y)=False:=by cases s<;>(simp only[eq_iff_iff,iff_false];decide +kernel)
theorem x3y{s t:Sg}:s.st=t.st↔s=t:=by
 refine⟨fun h=>?_,fun h=>by rw[h]⟩
 cases s<;>cases t<;>first|rfl|(exfalso;revert h;decide +kernel)
theorem rw0(i:Int)(f:Fm)(S:q0h)(Q:VC):bIx (Rd.w i f).pv (.int 0) S Q=Q (.str z4y) S:=rfl
theorem rw1(i:Int)(f:Fm)(S:q0h)(Q:VC):bIx (Rd.w i f).pv (.int 1) S Q=Q (.int i) S:=rfl
theorem rw2(i:Int)(f:Fm)(S:q0h)(Q:VC):bIx (Rd.w i f).pv (.int 2) S Q=Q f.pv S:=rfl
theorem rn0(s:Sg)(l r:Rd)(S:q0h)(Q:VC):bIx (Rd.n s l r).pv (.int 0) S Q=Q (.str s.st) S:=rfl
theorem rn1(s:Sg)(l r:Rd)(S:q0h)(Q:VC):bIx (Rd.n s l r).pv (.int 1) S Q=Q l.pv S:=rfl
theorem rn2(s:Sg)(l r:Rd)(S:q0h)(Q:VC):bIx (Rd.n s l r).pv (.int 2) S Q=Q r.pv S:=rfl
theorem z4q{T:Nat->Den}(hT:∀n,T (n+1)=fnP 1 1 (q4b (T n))):∀(n:Nat)(f:Fm),f.dp<=n->∀(S:q0h)(E:EK)(Q:VC),Q (.int (f.lv:Nat)) S->T n [f.pv] S E Q
 |0,f,hd,S,E,Q,h=>by have:=f.dp_pos;omega
 |n+1,.b s,hd,S,E,Q,h=>by
  rw[hT]
  refine⟨rfl,?_⟩
  unfold q4b
  dsimp![wSeq,fb0]
  exact h
 |n+1,.n l x y,hd,S,E,Q,h=>by
  simp only[Fm.dp]at hd
  rw[hT]
  refine⟨rfl,?_⟩
  unfold q4b
  dsimp![wSeq,fn0,fn1,fn2,z6m]
  refine z4q hT n x (by omega) _ _ _ ?_
  refine z4q hT n y (by omega) _ _ _ ?_
  dsimp![true_and]
  simp only[Fm.lv,Int.natCast_add]at h
  exact h
def y7s(sp:Den)(d:Nat):Prop:=∀(f:Fm),f.dp<=d->∀(S:q0h)(E:EK)(Q:VC),Q (.int (f.lv:Nat)) S->sp [f.pv] S E Q
theorem z2j(s:Str):PV.tup [.str "basic",.str s]=(Fm.b s).pv:=rfl
set_option maxHeartbeats 1000000
theorem x4j(s:Sg)(l r:Rd):PV.tup [.str s.st,l.pv,r.pv]=(Rd.n s l r).pv:=rfl
theorem y0v(x y:PV)(S:q0h)(Q:VC):bIx (.tup [x,y]) (.int 0) S Q=Q x S:=rfl
theorem z6s(x y:PV)(S:q0h)(Q:VC):bIx (.tup [x,y]) (.int 1) S Q=Q y S:=rfl
set_option maxHeartbeats 1000000
def Rd.top:Rd->Option Rd
 |.n .a (.n .c x y) z=>some (.n .a x (.n .a y z))
 |.n .c (.n .c x y) z=>some (.n .c x (.n .c y z))
 |.n .b x (.n .d y z)=>some (.n .b (.n .b x y) z)
 |.n .d x (.n .d y z)=>some (.n .d (.n .d x y) z)
 |_=>none
def Rd.once:Rd->List Rd
 |.w _ _=>[]
 |.n s l r=>(Rd.top (.n s l r)).toList++l.once.map (fun x=>.n s x r)++r.once.map (fun x=>.n s l x)
def Rd.tn:Rd->Option Rd
 |.w _ _=>none
 |.n s l r=>match Rd.top (.n s l r)with
  |some t=>some t
  |none=>match l.tn with
   |some t=>some (.n s t r)
   |none=>match r.tn with
    |some t=>some (.n s l t)
    |none=>none
def Rd.ms:Rd->Nat
 |.w _ _=>0
 |.n s l r=>l.ms+r.ms+match s with
  |.a=>l.lv
  |.c=>l.lv
  |.b=>r.lv
  |.d=>r.lv
set_option maxHeartbeats 1000000
def Rd.hd:Rd->Str
 |.w _ _=>z4y
 |.n s _ _=>s.st
theorem rd0(r:Rd)(S:q0h)(Q:VC):bIx r.pv (.int 0) S Q=Q (.str r.hd) S:=by cases r<;>rfl
def Sg.ac:Sg->Bool
 |.a=>true
 |.c=>true
 |_=>false
theorem hd_w(s:Sg)(x y:Rd):((Rd.n s x y).hd=Str.ofString "word")=False:=z9u s
theorem y2f(i:Int)(f:Fm):((Rd.w i f).hd=Str.ofString "word")=True:=by simp only[Rd.hd,z4y]
theorem x8e(s:Sg):([PV.str "<",PV.str "<<"].any fun y=>eqB y (.str s.st))=!s.ac:=by
 simp only[List.any_cons,List.any_nil,q4h,Bool.or_false]
 cases s<;>decide +kernel
theorem ok2(a b:Str):q6o [.str a,.str b]:=x6b a b
set_option maxHeartbeats 1000000
set_option maxHeartbeats 1000000
def Rd.wi:Rd->List Rd
 |.w i f=>[.w i f]
 |.n s l r=>.n s l r::(l.wi++r.wi)
theorem z0q:∀r:Rd,r.wi.length+1=r.lv+r.lv
 |.w _ _=>rfl
 |.n s l r=>by have:=z0q l;have:=z0q r;simp only[Rd.wi,Rd.lv,List.length_cons,List.length_append];omega
theorem y9h:∀{r t:Rd},t∈r.wi->t.lv<=r.lv/\t.fd<=r.fd
 |.w i f,t,h=>by simp only[Rd.wi,List.mem_singleton]at h;subst h;exact⟨Nat.le_refl _,Nat.le_refl _⟩
 |.n s l r,t,h=>by
  simp only[Rd.wi,List.mem_cons,List.mem_append]at h
  rcases h with rfl|h|h
  ·exact⟨Nat.le_refl _,Nat.le_refl _⟩
  ·obtain⟨a,b⟩:=y9h h
   simp only[Rd.lv,Rd.fd];omega
  ·obtain⟨a,b⟩:=y9h h
   simp only[Rd.lv,Rd.fd];omega
def WiD(sp:Den)(n:Nat):Prop:=∀(r:Rd),r.lv<=n->∀(S:q0h)(E:EK)(Q:VC),(∀(q:Nat) S',S.length<=q->S'[q]?=some (.lst (r.wi.map Rd.pv))->Ex [] S S'->Q (.ref q) S')->sp [r.pv] S E Q
theorem y9g{T:Nat->Den}(hT:∀n,T (n+1)=fnP 1 1 (q3y (T n))):∀(n:Nat),n<=1000->WiD (T (n+1)) n
 |0,_=>fun r hr=>by have:=r.lv_pos;omega
 |n+1,hn=>by
  intro r hr S E Q h
  rw[hT]
  refine⟨rfl,?_⟩
  unfold q3y
  have p1:1<=sizeLine:=big (by decide)
  cases r with
  |w i f=>
   dsimp![wSeq,rd0,y2f]
   exact⟨p1,h _ _ (Nat.le_refl _) (q1h _ _) (Ex.new _ _ _)⟩
  |n s l r=>
   have wl:=z0q l
   have wr:=z0q r
   simp only[Rd.lv]at hr
   have:=l.lv_pos
   have:=r.lv_pos
   dsimp![wSeq,rd0,hd_w,rn1,rn2]
   refine⟨p1,y9g hT n (by omega) l (by omega) _ _ _ fun q S1 hq0 hq hx1=>?_⟩
   have a1:=hx1.get (q1h S (SO.lst [(Rd.n s l r).pv])) (by simp)
   dsimp![q1m a1,q1m hq]
   refine⟨by rw[List.length_map];exact big (by omega),?_⟩
   refine y9g hT n (by omega) r (by omega) _ _ _ fun q2 S2 hq20 hq2 hx2=>?_
   have a2:=hx2.get (q1h S1 (SO.lst ((Rd.n s l r).pv::l.wi.map Rd.pv))) (by simp)
   dsimp![q1m a2,q1m hq2]
   refine⟨by simp only[List.length_map];exact big (by omega),?_⟩
   have ex:Ex [] S S2:=(((Ex.refl _ _).app _).trans hx1).trans (((Ex.refl _ _).app _).trans hx2)
   refine h _ _ ex.1 ?_ (ex.app _)
   rw[q1h,Rd.wi,List.map_cons,List.map_append]
def Rd.sm:Rd->Prop
 |.w _ f=>f.lv<=5
 |.n _ l r=>l.sm/\r.sm
def Rd.ov(ws:List Str):Rd->Prop
 |.w _ f=>f.ov ws
 |.n _ l r=>l.ov ws/\r.ov ws
def z4m(sp:Den)(dd:Nat):Prop:=∀(d c b:Nat)(ws:List Str)(f:Fm)(S:q0h)(E:EK)(Q:VC),Deck d c S->S[b]?=some (.lst (ws.map PV.str))->ws≠[]->b≠d->b≠c->f.dp<=dd->
 (∀(o:Fm) S',o.lv<=2->(3<f.lv->o.lv=1)->o.ov ws->Deck d c S'->Ex [d,c] S S'->Q o.pv S')->sp [.ref d,.ref b,f.pv] S E Q
theorem x1b{spn spw:Den}{dd:Nat}(hn:z0p spn)(hw:y7s spw dd):z4m (fnP 3 5 (q4k spn spw)) dd:=by
 intro d c b ws f S E Q hd hb hne nd nc hf h
 refine⟨rfl,?_⟩
 unfold q4k
 have p2:2<=sizeLine:=big (by decide)
 have p3:3<=sizeLine:=big (by decide)
 have hpos:0<(ws.length:Int):=by have:=List.length_pos_iff.mpr hne;omega
 refine seqI fun K hK=>?_
 dsimp![true_and]
 refine hn d c _ _ _ hd fun way S1 w0 w1 hd1 hx1=>hK _ _ ?_
 have hb1:=hx1.get hb (by simp;exact⟨nd,nc⟩)
 obtain⟨y,hy,hya⟩:=z2k (i:=way) hne
 obtain⟨z,hz,hza⟩:=z2k (i:=way / 24) hne
 refine seqI fun K hK=>?_
 dsimp![hb1,q0v hb1,List.length_map,hya]
 refine⟨hpos,p2,hK _ _ ?_⟩
 have d1:=h (.b y) S1 (by simp[Fm.lv]) (fun _=>rfl) hy hd1 hx1
 dsimp![wSeq,hb1,q0v hb1,List.length_map,hza]
 refine⟨⟨by decide,by decide⟩,by decide,ite2 (fun _=>d1) (fun _=>?_)⟩
 refine hw f hf _ _ _ ?_
 dsimp![true_and]
 refine ite2 (fun _=>d1) (fun zw=>?_)
 have hb2:=q2p hb1 [SO.lst [PV.str "/",PV.str "\\"]]
 dsimp![at2,hb2,q0v hb2,List.length_map,hza]
 refine⟨p2,⟨by decide,by decide⟩,by decide,⟨by decide,by decide⟩,hpos,p2,p3,?_⟩
 rw[z2j,z2j,y8a]
 exact h _ _ (by simp[Fm.lv]) (fun z=>by omega) ⟨hy,hz⟩ (hd1.ex (Ex.new [] _ _) (by simp) (by simp)) (hx1.app _)
def y3t(sp:Den):Prop:=∀(d c b:Nat)(ws:List Str)(S:q0h)(E:EK)(Q:VC),Deck d c S->S[b]?=some (.lst (ws.map PV.str))->ws≠[]->b≠d->b≠c->
 (∀(o:Fm) S',o.lv<=3->o.ov ws->Deck d c S'->Ex [d,c] S S'->Q o.pv S')->sp [.ref d,.ref b] S E Q
theorem y2p{spn spo:Den}{dd:Nat}(hn:z0p spn)(ho:z4m spo dd)(h1:1<=dd):y3t (fnP 2 5 (q2o spn spo)):=by
 intro d c b ws S E Q hd hb hne nd nc h
 refine⟨rfl,?_⟩
 unfold q2o
 have p2:2<=sizeLine:=big (by decide)
 have p3:3<=sizeLine:=big (by decide)
 have hpos:0<(ws.length:Int):=by have:=List.length_pos_iff.mpr hne;omega
 refine seqI fun K hK=>?_
 dsimp![hb]
 refine hn d c _ _ _ hd fun n1 S1 w0 w1 hd1 hx1=>?_
 have hb1:=hx1.get hb (by simp;exact⟨nd,nc⟩)
 obtain⟨y,hy,hya⟩:=z2k (i:=n1) hne
 dsimp![hb1,q0v hb1,List.length_map,hya]
 refine⟨hpos,p2,hK _ _ ?_⟩
 rw[z2j]
 clear hK
 refine seqI fun K hK=>?_
 dsimp![true_and]
 refine ho d c b ws _ _ _ _ hd1 hb1 hne nd nc (by simp only[Fm.dp];omega) fun o S2 ho2 _ hov hd2 hx2=>hK _ _ ?_
 clear hK
 refine seqI fun K hK=>?_
 dsimp![true_and]
 refine hn d c _ _ _ hd2 fun n2 S3 n20 n21 hd3 hx3=>?_
 dsimp![true_and]
 refine⟨by decide,hK _ _ ?_⟩
 clear hK
 dsimp![wSeq,at2]
 refine ite2 (fun _=>h (.b y) S3 (by simp[Fm.lv]) hy hd3 (hx1.trans (hx2.trans hx3))) (fun _=>⟨p2,by decide,p3,?_⟩)
 rw[y8a]
 exact h _ _ (by simp only[Fm.lv];omega) ⟨hy,hov⟩ (hd3.ex (Ex.new [] _ _) (by simp) (by simp)) ((hx1.trans (hx2.trans hx3)).app _)
def y8x(sp:Den)(m:Nat):Prop:=∀(d c b:Nat)(ws:List Str)(f:Fm)(p:Int)(S:q0h)(E:EK)(Q:VC),Deck d c S->S[b]?=some (.lst (ws.map PV.str))->ws≠[]->b≠d->b≠c->m<=15->f.lv<=5->f.ov ws->
 (∀(r:Rd) S',r.lv=m->r.sm->r.is p (p+(m:Nat)) f->r.ov ws->Deck d c S'->Ex [d,c] S S'->Q r.pv S')->sp [.ref d,.ref b,f.pv,.int p,.int (m:Nat)] S E Q
theorem z1l{T N O W:Nat->Den}(hT:∀n,T (n+1)=fnP 5 11 (q4z (N n) (O n) (W n) (T n)))(hN:∀n,20<=n->z0p (N n))(hO:∀n,20<=n->z4m (O n) 18)(hW:∀n,20<=n->y7s (W n) 18):∀(n m:Nat),m+20<=n->1<=m->y8x (T n) m
 |0,m,hn,hm=>by omega
 |n+1,m,hn,hm=>by
  intro d c b ws f p S E Q hd hb hne nd nc hg hlv hov h
  have hfd:=f.dp_lv
  rw[hT]
  refine⟨rfl,?_⟩
  unfold q4z
  have p2:2<=sizeLine:=big (by decide)
  have p3:3<=sizeLine:=big (by decide)
  refine seqI fun K hK=>?_
  dsimp![true_and]
  refine ite2 (fun z=>⟨p3,?_⟩) (fun z=>hK _ _ ?_)
  ·obtain rfl:m=1:=by omega
   exact h (.w p f) S rfl hlv ⟨rfl,rfl,rfl⟩ hov hd (Ex.refl _ _)
  clear hK
  have hmm:(0:Int)<(m:Int)-1:=by omega
  refine seqI fun K hK=>?_
  dsimp![true_and]
  refine hN n (by omega) d c _ _ _ hd fun n1 S1 _ _ hd1 hx1=>?_
  dsimp![true_and]
  obtain⟨k,hk,hk1,hk2⟩:∃k:Nat,1+n1 % ((m:Int)-1)=(k:Int)/\1<=k/\k<m:=by
   have a:=Int.emod_nonneg n1 (show(m:Int)-1≠0 by omega)
   have b:=Int.emod_lt_of_pos n1 hmm
   exact⟨(1+n1 % ((m:Int)-1)).toNat,by omega,by omega,by omega⟩
  refine⟨hmm,hK _ _ ?_⟩
  rw[hk]
  clear hK
  refine seqI fun K hK=>?_
  dsimp![true_and]
  refine hN n (by omega) d c _ _ _ hd1 fun n2 S2 _ _ hd2 hx2=>hK _ _ ?_
  clear hK
  have hb2:=(hx1.trans hx2).get hb (by simp;exact⟨nd,nc⟩)
  refine seqI fun K hK=>?_
  dsimp![true_and]
  refine hO n (by omega) d c b ws f _ _ _ hd2 hb2 hne nd nc (by omega) fun o S3 ho ho1 hoo hd3 hx3=>hK _ _ ?_
  clear hK
  have hb3:=hx3.get hb2 (by simp;exact⟨nd,nc⟩)
  have hx123:=(hx1.trans hx2).trans hx3
  clear hx1 hx2 hx3 hd1 hd2 hb2
  have hop:=o.lv_pos
  have last:∀(s:Sg)(x y:Fm),md x y=some (s.st,f)->x.lv<=5->y.lv<=5->x.ov ws->y.ov ws->(wSeq (wSet 10 (q0t (T n) (q0d (wVar 0) (q0d (wVar 1) (q0d (wBin bIx (wVar 9) (wC (.int 0))) (q0d (wVar 3) (q0d (wVar 5) wNil)))))))
 (wRet (wTup (q0d (wVar 8) (q0d (wVar 10) (q0d (q0t (T n) (q0d (wVar 0) (q0d (wVar 1) (q0d (wBin bIx (wVar 9) (wC (.int 1))) (q0d (wBin bAdd (wVar 3) (wVar 5)) (q0d (wBin bSub (wVar 4) (wVar 5)) wNil)))))) wNil)))))) {nx:=fun _ S'=>Q .non S',rt:=Q} E [some (.ref d),some (.ref b),some f.pv,some (.int p),some (.int (m:Nat)),some (.int (k:Nat)),some (.int n2),some o.pv,some (.str s.st),some (.tup [x.pv,y.pv]),none] S3:=by
   intro s x y hmd hx hy hxo hyo
   refine seqI fun K hK=>?_
   dsimp![y0v]
   refine z1l hT hN hO hW n k (by omega) hk1 d c b ws x p S3 _ _ hd3 hb3 hne nd nc (by omega) hx hxo fun l S4 hl1 hl2 hl3 hl4 hd4 hx4=>hK _ _ ?_
   have hb4:=hx4.get hb3 (by simp;exact⟨nd,nc⟩)
   dsimp![z6s]
   rw[show(m:Int)-(k:Int)=((m-k:Nat):Int) by omega]
   refine z1l hT hN hO hW n (m-k) (by omega) (by omega) d c b ws y (p+k) S4 _ _ hd4 hb4 hne nd nc (by omega) hy hyo fun r S5 hr1 hr2 hr3 hr4 hd5 hx5=>?_
   refine⟨p3,?_⟩
   rw[x4j]
   refine h (.n s l r) S5 (by simp only[Rd.lv];omega) ⟨hl2,hr2⟩ ⟨_,x,y,hl3,?_,hmd⟩ ⟨hl4,hr4⟩ hd5 (hx123.trans (hx4.trans hx5))
   rw[show p+(m:Int)=p+(k:Int)+((m-k:Nat):Int) by omega]
   exact hr3
  have third:∀(s:Sg)(x y:Fm),md x y=some (s.st,f)->((x.lv<=5/\y.lv<=5)\/(4<f.lv/\∃u v,f=.n true u v))->x.ov ws->y.ov ws->(wSeq (wIfS (wAnd (q0y (wBin cEq (wBin bIx (wVar 2) (wC (.int 0))) (wC (.str "\\")))) (wOr (q0y (wBin cGt (wBin bMod (wVar 6) (wC (.int 8))) (wC (.int 1)))) (q0y (wBin cGt (q0t (W n) (q0d (wVar 2) wNil)) (wC (.int 4))))))
 (wSeq (wSet 8 (wC (.str "<<")))
 (wSet 9 (wTup (q0d (wTup (q0d (wC (.str "\\")) (q0d (wVar 7) (q0d (wBin bIx (wVar 2) (wC (.int 2))) wNil)))) (q0d (wTup (q0d (wC (.str "\\")) (q0d (wBin bIx (wVar 2) (wC (.int 1))) (q0d (wVar 7) wNil)))) wNil)))))
 q1g)
 (wSeq (wSet 10 (q0t (T n) (q0d (wVar 0) (q0d (wVar 1) (q0d (wBin bIx (wVar 9) (wC (.int 0))) (q0d (wVar 3) (q0d (wVar 5) wNil)))))))
 (wRet (wTup (q0d (wVar 8) (q0d (wVar 10) (q0d (q0t (T n) (q0d (wVar 0) (q0d (wVar 1) (q0d (wBin bIx (wVar 9) (wC (.int 1))) (q0d (wBin bAdd (wVar 3) (wVar 5)) (q0d (wBin bSub (wVar 4) (wVar 5)) wNil)))))) wNil))))))) {nx:=fun _ S'=>Q .non S',rt:=Q} E [some (.ref d),some (.ref b),some f.pv,some (.int p),some (.int (m:Nat)),some (.int (k:Nat)),some (.int n2),some o.pv,some (.str s.st),some (.tup [x.pv,y.pv]),none] S3:=by
   intro s x y hmd hxy hxo hyo
   refine seqI fun K hK=>?_
   cases f with
   |b t=>
    obtain⟨hx,hy⟩:=hxy.resolve_right (by rintro⟨_,u,v,e⟩;cases e)
    dsimp![fb0,ba_b];exact hK _ _ (last s x y hmd hx hy hxo hyo)
   |n l u v=>
    cases l with
    |false=>
     obtain⟨hx,hy⟩:=hxy.resolve_right (by rintro⟨_,u,v,e⟩;cases e)
     dsimp![fn0,y9v];exact hK _ _ (last s x y hmd hx hy hxo hyo)
    |true=>
     have hb5:o.lv+v.lv<=5/\u.lv+o.lv<=5:=by
      simp only[Fm.lv]at hlv ho1
      have:=u.lv_pos
      have:=v.lv_pos
      rcases Nat.lt_or_ge 3 (u.lv+v.lv)with z|z
      ·have:=ho1 z;omega
      ·omega
     have l1:=hK _ _ (last .d (.n true o v) (.n true u o) (md4 u o v) (by simp only[Fm.lv];exact hb5.1) (by simp only[Fm.lv];exact hb5.2) ⟨hoo,hov.2⟩ ⟨hov.1,hoo⟩)
     dsimp![wSeq,fn0,fn1,fn2,y9r]
     refine⟨by decide,ite2 (fun _=>⟨p3,p3,p2,l1⟩) (fun _=>?_)⟩
     refine hW n (by omega) _ (by omega) _ _ _ ?_
     dsimp![true_and]
     refine ite2 (fun _=>⟨p3,p3,p2,l1⟩) (fun zw=>?_)
     obtain⟨hx,hy⟩:=hxy.resolve_right (fun hh1=>by obtain⟨h4,_⟩:=hh1;exact(zw (by omega)))
     exact hK _ _ (last s x y hmd hx hy hxo hyo)
  refine seqI fun K hK=>?_
  dsimp![true_and]
  refine hK _ _ ?_
  clear hK
  refine seqI fun K hK=>?_
  dsimp![true_and]
  refine⟨p3,p2,hK _ _ ?_⟩
  clear hK
  have second:∀(s:Sg)(x y:Fm),md x y=some (s.st,f)->((x.lv<=5/\y.lv<=5)\/(4<f.lv/\∃l u v,f=.n l u v))->x.ov ws->y.ov ws->(wSeq (wIfS (wAnd (q0y (wBin cEq (wBin bIx (wVar 2) (wC (.int 0))) (wC (.str "/")))) (wOr (q0y (wBin cGt (wBin bMod (wVar 6) (wC (.int 8))) (wC (.int 1)))) (q0y (wBin cGt (q0t (W n) (q0d (wVar 2) wNil)) (wC (.int 4))))))
 (wSeq (wSet 8 (wC (.str ">>")))
 (wSet 9 (wTup (q0d (wTup (q0d (wC (.str "/")) (q0d (wBin bIx (wVar 2) (wC (.int 1))) (q0d (wVar 7) wNil)))) (q0d (wTup (q0d (wC (.str "/")) (q0d (wVar 7) (q0d (wBin bIx (wVar 2) (wC (.int 2))) wNil)))) wNil)))))
 q1g)
 (wSeq (wIfS (wAnd (q0y (wBin cEq (wBin bIx (wVar 2) (wC (.int 0))) (wC (.str "\\")))) (wOr (q0y (wBin cGt (wBin bMod (wVar 6) (wC (.int 8))) (wC (.int 1)))) (q0y (wBin cGt (q0t (W n) (q0d (wVar 2) wNil)) (wC (.int 4))))))
 (wSeq (wSet 8 (wC (.str "<<")))
 (wSet 9 (wTup (q0d (wTup (q0d (wC (.str "\\")) (q0d (wVar 7) (q0d (wBin bIx (wVar 2) (wC (.int 2))) wNil)))) (q0d (wTup (q0d (wC (.str "\\")) (q0d (wBin bIx (wVar 2) (wC (.int 1))) (q0d (wVar 7) wNil)))) wNil)))))
 q1g)
 (wSeq (wSet 10 (q0t (T n) (q0d (wVar 0) (q0d (wVar 1) (q0d (wBin bIx (wVar 9) (wC (.int 0))) (q0d (wVar 3) (q0d (wVar 5) wNil)))))))
 (wRet (wTup (q0d (wVar 8) (q0d (wVar 10) (q0d (q0t (T n) (q0d (wVar 0) (q0d (wVar 1) (q0d (wBin bIx (wVar 9) (wC (.int 1))) (q0d (wBin bAdd (wVar 3) (wVar 5)) (q0d (wBin bSub (wVar 4) (wVar 5)) wNil)))))) wNil)))))))) {nx:=fun _ S'=>Q .non S',rt:=Q} E [some (.ref d),some (.ref b),some f.pv,some (.int p),some (.int (m:Nat)),some (.int (k:Nat)),some (.int n2),some o.pv,some (.str s.st),some (.tup [x.pv,y.pv]),none] S3:=by
   intro s x y hmd hxy hxo hyo
   refine seqI fun K hK=>?_
   cases f with
   |b t=>
    have hxy':=hxy.resolve_right (by rintro⟨_,l,u,v,e⟩;cases e)
    dsimp![fb0,ba_f];exact hK _ _ (third s x y hmd (.inl hxy') hxo hyo)
   |n l u v=>
    cases l with
    |true=>
     have hxy':((x.lv<=5/\y.lv<=5)\/(4<(Fm.n true u v).lv/\∃u' v',Fm.n true u v=.n true u' v')):=hxy.imp id fun z=>⟨z.1,u,v,rfl⟩
     dsimp![fn0,y9s];exact hK _ _ (third s x y hmd hxy' hxo hyo)
    |false=>
     have hb5:o.lv+v.lv<=5/\u.lv+o.lv<=5:=by
      simp only[Fm.lv]at hlv ho1
      have:=u.lv_pos
      have:=v.lv_pos
      rcases Nat.lt_or_ge 3 (u.lv+v.lv)with z|z
      ·have:=ho1 z;omega
      ·omega
     have l1:=hK _ _ (third .c (.n false u o) (.n false o v) (md3 u o v) (.inl ⟨by simp only[Fm.lv];exact hb5.2,by simp only[Fm.lv];exact hb5.1⟩) ⟨hov.1,hoo⟩ ⟨hoo,hov.2⟩)
     dsimp![wSeq,fn0,fn1,fn2,y9u]
     refine⟨by decide,ite2 (fun _=>⟨p3,p3,p2,l1⟩) (fun _=>?_)⟩
     refine hW n (by omega) _ (by omega) _ _ _ ?_
     dsimp![true_and]
     refine ite2 (fun _=>⟨p3,p3,p2,l1⟩) (fun zw=>?_)
     have hxy':=hxy.resolve_right (fun hh2=>by obtain⟨h4,_⟩:=hh2;exact(zw (by omega)))
     exact hK _ _ (third s x y hmd (.inl hxy') hxo hyo)
  have top:(f.lv+o.lv<=5)\/(4<f.lv/\∃l u v,f=.n l u v):=by
   cases f with
   |b t=>left;simp only[Fm.lv];omega
   |n l u v=>
    rcases Nat.lt_or_ge 4 (Fm.n l u v).lv with z|z
    ·exact .inr ⟨z,l,u,v,rfl⟩
    ·left
     rcases Nat.lt_or_ge 3 (Fm.n l u v).lv with y|y
     ·have:=ho1 y;omega
     ·omega
  refine seqI fun K hK=>?_
  dsimp![wSeq]
  refine⟨by decide,ite2 (fun _=>⟨p3,p2,hK _ _ ?_⟩) (fun _=>hK _ _ ?_)⟩
  ·exact second .b o (.n true f o) (md2 f o) (top.imp (fun z=>⟨by omega,by simp only[Fm.lv];exact z⟩) id) hoo ⟨hov,hoo⟩
  ·exact second .a (.n false f o) o (md1 f o) (top.imp (fun z=>⟨by simp only[Fm.lv];exact z,by omega⟩) id) ⟨hov,hoo⟩ hoo
def q3b(spLwithin:Den):WS:=
 (wRet (q7l (q5o (q0t spLwithin (q0d (wVar 0) wNil))) [none] (q0z 0) (q0y (wBin cEq (wBin bIx (wVar 0) (wC (.int 0))) (wC (.str "word")))) (wSl (wVar 0) (z0j (wC (.int 1))) q5k)))
def q5b(spLsame:Den):WS:=
 (wSeq (wIfS (wTru (wCB fIsi (q0d (wVar 0) (q0d (wC (.ty "str")) wNil))))
 (wRet (z1j (wCB fIsi (q0d (wVar 1) (q0d (wC (.ty "str")) wNil))) (wBin cEq (wVar 0) (wVar 1))))
 q1g)
 (wSeq (wIfS (wNot (wTru (wCB fIsi (q0d (wVar 0) (q0d (wC (.ty "tuple")) wNil)))))
 (wRet (z1j (wCB fIsi (q0d (wVar 1) (q0d (wC (.ty "int")) wNil))) (z1j (y4a (wCB fIsi (q0d (wVar 1) (q0d (wC (.ty "bool")) wNil)))) (wBin cEq (wVar 0) (wVar 1)))))
 q1g)
 (wSeq (wIfS (wOr (wNot (wTru (wCB fIsi (q0d (wVar 1) (q0d (wC (.ty "tuple")) wNil))))) (q0y (wBin cNe (wCB fLen (q0d (wVar 0) wNil)) (wCB fLen (q0d (wVar 1) wNil)))))
 (wRet (wC (.bl false)))
 q1g)
 (wRet (wCB fAll (q0d (q7l (y3x (q0d (wVar 0) (q0d (wVar 1) wNil))) [none,none] (q3q 2 (q1e (q0z 0) (q1e (q0z 1) q3r))) q4x (q0t spLsame (q0d (wVar 0) (q0d (wVar 1) wNil)))) wNil))))))
def q2d(spform_and_term:Den)(spmade:Den)(spmeant:Den):WS:=
 (wSeq (wIfS (q0y (wBin cEq (wBin bIx (wVar 0) (wC (.int 0))) (wC (.str "word"))))
 (wRet (wTup (q0d (wBin bIx (wVar 0) (wC (.int 2))) (q0d (wBin bIx (wVar 1) (wBin bIx (wVar 0) (wC (.int 1)))) wNil))))
 q1g)
 (wSeq (wAsg (q0t spform_and_term (q0d (wBin bIx (wVar 0) (wC (.int 1))) (q0d (wVar 1) wNil))) (q3q 2 (q1e (q0z 2) (q1e (q0z 3) q3r))))
 (wSeq (wAsg (q0t spform_and_term (q0d (wBin bIx (wVar 0) (wC (.int 2))) (q0d (wVar 1) wNil))) (q3q 2 (q1e (q0z 4) (q1e (q0z 5) q3r))))
 (wSeq (wAsg (q0t spmade (q0d (wVar 2) (q0d (wVar 4) wNil))) (q3q 2 (q1e (q0z 6) (q1e (q0z 7) q3r))))
 (wRet (wTup (q0d (wVar 7) (q0d (q0t spmeant (q0d (wVar 6) (q0d (wVar 2) (q0d (wVar 4) (q0d (wVar 3) (q0d (wVar 5) wNil)))))) wNil))))))))
def q1n(spform_and_term:Den):WS:=
 (wRet (wBin bIx (q0t spform_and_term (q0d (wVar 0) (q0d (wVar 1) wNil))) (wC (.int 1))))
def q3f(spwords_of:Den):WS:=
 (wSeq (wIfS (q0y (wBin cEq (wBin bIx (wVar 0) (wC (.int 0))) (wC (.str "word"))))
 (wRet (wLst (q0d (wTup (q0d (wBin bIx (wVar 0) (wC (.int 1))) (q0d (wBin bIx (wVar 0) (wC (.int 2))) wNil))) wNil)))
 q1g)
 (wRet (wBin bAdd (q0t spwords_of (q0d (wBin bIx (wVar 0) (wC (.int 1))) wNil)) (q0t spwords_of (q0d (wBin bIx (wVar 0) (wC (.int 2))) wNil)))))
def q3s(spmeaning_with:Den)(spwords_of:Den):WS:=
 (wRet (q0t spmeaning_with (q0d (wVar 0) (q0d (q8l (q5o (q0t spwords_of (q0d (wVar 0) wNil))) [none,none] (q3q 2 (q1e (q0z 0) (q1e (q0z 1) q3r))) (wVar 0) (wTup (q0d (wC (.str "leaf")) (q0d (wVar 0) (q0d (wVar 1) wNil))))) wNil))))
def q3z:WS:=
 (wSeq (wIfS (q0y (wBin cEq (wVar 0) (wC (.str ">"))))
 (wRet (wBin bIx (wVar 1) (wC (.int 1))))
 q1g)
 (wSeq (wIfS (q0y (wBin cEq (wVar 0) (wC (.str "<"))))
 (wRet (wBin bIx (wVar 2) (wC (.int 1))))
 q1g)
 (wSeq (wIfS (q0y (wBin cEq (wVar 0) (wC (.str ">>"))))
 (wRet (wTup (q0d (wC (.str "/")) (q0d (wBin bIx (wVar 1) (wC (.int 1))) (q0d (wBin bIx (wVar 2) (wC (.int 2))) wNil)))))
 q1g)
 (wRet (wTup (q0d (wC (.str "\\")) (q0d (wBin bIx (wVar 2) (wC (.int 1))) (q0d (wBin bIx (wVar 1) (wC (.int 2))) wNil))))))))
def q4f(spLkind_of_form:Den):WS:=
 (wSeq (wIfS (q0y (wBin cEq (wBin bIx (wVar 0) (wC (.int 0))) (wC (.str "basic"))))
 (wRet (wBin bIx (wVar 0) (wC (.int 1))))
 q1g)
 (wRet (wTup (q0d (q0t spLkind_of_form (q0d (wBin bIx (wVar 0) (wC (.int 2))) wNil)) (q0d (q0t spLkind_of_form (q0d (wBin bIx (wVar 0) (wC (.int 1))) wNil)) wNil)))))
def q3c(spLwords_of:Den)(spLwords:Den)(spLnext:Den):WS:=
 (wSeq (wSet 2 (q0t spLwords_of (q0d (wVar 1) wNil)))
 (wSeq (wSet 3 (q0t spLwords (q0d (wVar 0) (q0d (wCB fLen (q0d (wVar 2) wNil)) wNil))))
 (wSeq (wIfS (q0y (wBin cEq (wBin bMod (q0t spLnext (q0d (wVar 0) wNil)) (wC (.int 3))) (wC (.int 0))))
 (wSet 3 (q7l (q5j (q0d (wCB fLen (q0d (wVar 2) wNil)) wNil)) [none,some 3] (q0z 0) q4x (wBin bIx (wVar 1) (wBin q7z (wVar 0) (wC (.int 2))))))
 q1g)
 (wRet (wCB q8o (q0d (wVar 3) wNil))))))
def q4l:WS:=
 (wSeq (wFor (q5o (wVar 0)) (q3q 2 (q1e (q0z 3) (q1e (q0z 4) q3r))) (wIfS (q0y (wBin cEq (wVar 4) (wVar 2)))
 (wRet (wTup (q0d (wC (.str "name")) (q0d (wVar 3) wNil))))
 q1g))
 (wSeq (q4p (wBM "list" q1y (wVar 0) (q0d (wTup (q0d (wBM "list" q9r (wVar 1) (q0d (wC (.int 0)) wNil)) (q0d (wVar 2) wNil))) wNil)))
 (wRet (wTup (q0d (wC (.str "name")) (q0d (wBin bIx (wBin bIx (wVar 0) (wNeg (wC (.int 1)))) (wC (.int 0))) wNil))))))
def q3j(spLnext:Den)(spLnamed:Den):WS:=
 (wSeq (wSet 5 (z4s (q0d (wCB fLen (q0d (wVar 3) wNil)) wNil)))
 (wSeq (wSet 6 (wLst wNil))
 (wSeq (wFor (q5j (q0d (wBin bMod (q0t spLnext (q0d (wVar 0) wNil)) (wBin bAdd (wCB fLen (q0d (wVar 3) wNil)) (wC (.int 1)))) wNil)) (q0z 7) (q4p (wBM "list" q1y (wVar 6) (q0d (wBM "list" q9r (wVar 5) (q0d (wBin bMod (q0t spLnext (q0d (wVar 0) wNil)) (wCB fLen (q0d (wVar 5) wNil))) wNil)) wNil))))
 (wSeq (wSet 8 (wVar 4))
 (wSeq (wFor (z0i (wVar 6)) (q0z 7) (wSet 8 (wTup (q0d (wBin bIx (wVar 3) (wVar 7)) (q0d (wVar 8) wNil)))))
 (wSeq (wSet 9 (q0t spLnamed (q0d (wVar 1) (q0d (wVar 2) (q0d (wVar 8) wNil)))))
 (wSeq (wFor (q5o (wVar 6)) (q0z 7) (wSet 9 (wTup (q0d (wC (.str "of")) (q0d (wVar 9) (q0d (wTup (q0d (wC (.str "bound")) (q0d (wBin bSub (wBin bSub (wCB fLen (q0d (wVar 3) wNil)) (wC (.int 1))) (wVar 7)) wNil))) wNil))))))
 (wRet (wVar 9)))))))))
def q5a(spLnext:Den)(spLnamed:Den)(spLapplied:Den):WS:=
 (wSeq (wSet 4 (wBin bMod (q0t spLnext (q0d (wVar 0) wNil)) (wC (.int 4))))
 (wSeq (wIfS (q0y (wBin cEq (wVar 4) (wC (.int 0))))
 (wRet (q0t spLnamed (q0d (wVar 1) (q0d (wVar 2) (q0d (wVar 3) wNil)))))
 q1g)
 (wSeq (wSet 5 (wLst wNil))
 (wSeq (wSet 6 (wVar 3))
 (wSeq (z0r (wTru (wCB fIsi (q0d (wVar 6) (q0d (wC (.ty "tuple")) wNil)))) (wSeq (q4p (wBM "list" q1y (wVar 5) (q0d (wBin bIx (wVar 6) (wC (.int 0))) wNil)))
 (wSet 6 (wBin bIx (wVar 6) (wC (.int 1))))))
 (wSeq (wSet 7 (wC .non))
 (wSeq (wFor (q5j (q0d (wCB fLen (q0d (wVar 5) wNil)) wNil)) (q0z 8) (wFor (q5j (q0d (wCB fLen (q0d (wVar 5) wNil)) wNil)) (q0z 9) (wIfS (wAnd (q0y (wBin cLt (wVar 4) (wC (.int 3)))) (q0y (wBin cEq (wBin bIx (wVar 5) (wVar 8)) (wTup (q0d (wBin bIx (wVar 5) (wVar 9)) (q0d (wVar 6) wNil))))))
 (wSet 7 (wTup (q0d (wC (.str "of")) (q0d (wTup (q0d (wC (.str "bound")) (q0d (wBin bSub (wBin bSub (wCB fLen (q0d (wVar 5) wNil)) (wC (.int 1))) (wVar 8)) wNil))) (q0d (wTup (q0d (wC (.str "bound")) (q0d (wBin bSub (wBin bSub (wCB fLen (q0d (wVar 5) wNil)) (wC (.int 1))) (wVar 9)) wNil))) wNil)))))
 q1g)))
 (wSeq (wIfS (q0y (wBin cIs (wVar 7) (wC .non)))
 (wSet 7 (q0t spLapplied (q0d (wVar 0) (q0d (wVar 1) (q0d (wVar 2) (q0d (wVar 5) (q0d (wVar 6) wNil)))))))
 q1g)
 (wSeq (wIfS (q0y (wBin cEq (wVar 4) (wC (.int 3))))
 (wSet 7 (wTup (q0d (wC (.str "of")) (q0d (wTup (q0d (wC (.str "fn")) (q0d (wVar 6) (q0d (wTup (q0d (wC (.str "bound")) (q0d (wC (.int 0)) wNil))) wNil)))) (q0d (wVar 7) wNil)))))
 q1g)
 (wSeq (wFor (z0i (wVar 5)) (q0z 10) (wSet 7 (wTup (q0d (wC (.str "fn")) (q0d (wVar 10) (q0d (wVar 7) wNil))))))
 (wRet (wVar 7))))))))))))
def q5e(spLwords:Den)(spLterm:Den)(spLkind_of_form:Den):WS:=
 (wSeq (wSet 3 (wLst wNil))
 (wSeq (wSet 4 (q0t spLwords (q0d (wVar 0) (q0d (wC (.int 20)) wNil))))
 (wSeq (wSet 5 (wLst wNil))
 (wSeq (wFor (q5o (wVar 2)) (q3q 2 (q1e (q0z 6) (q1e (q0z 7) q3r))) (wIfS (q0y (wBin z1f (wTup (q0d (wVar 6) (q0d (wVar 7) wNil))) (q7l (q5o (wVar 5)) [none] (q0z 0) q4x (wSl (wVar 0) q5k (z0j (wC (.int 2)))))))
 (q4p (wBM "list" q1y (wVar 5) (q0d (wTup (q0d (wVar 6) (q0d (wVar 7) (q0d (q0t spLterm (q0d (wVar 0) (q0d (wVar 3) (q0d (wVar 4) (q0d (q0t spLkind_of_form (q0d (wVar 7) wNil)) wNil))))) wNil)))) wNil)))
 q1g))
 (wRet (wTup (q0d (wCB q8o (q0d (wVar 1) wNil)) (q0d (wCB q8o (q0d (wVar 3) wNil)) (q0d (wCB q8o (q0d (wVar 5) wNil)) wNil)))))))))
def q4n(spLwords_of:Den):WS:=
 (wSeq (wSet 3 z4t)
 (wSeq (wFor (q5o (q0t spLwords_of (q0d (wVar 2) wNil))) (q3q 2 (q1e (q0z 4) (q1e (q0z 5) q3r))) (wFor (q5o (wBin bIx (wVar 0) (wC (.int 2)))) (q3q 3 (q1e (q0z 6) (q1e (q0z 7) (q1e (q0z 8) q3r)))) (wIfS (wAnd (q0y (wBin cEq (wVar 6) (wBin bIx (wVar 1) (wVar 4)))) (q0y (wBin cEq (wVar 7) (wVar 5))))
 (wAsg (wVar 8) (q7k (wVar 3) (wTup (q0d (wVar 4) (q0d (wVar 5) wNil))) x4g))
 q1g)))
 (wRet (wVar 3))))
def q3v:WS:=
 (wSeq (wSet 2 (q7l (q5o (wBin bIx (wVar 0) (wC (.int 2)))) [none,none,none,some 1] (q3q 3 (q1e (q0z 0) (q1e (q0z 1) (q1e (q0z 2) q3r)))) (q0y (wBin cEq (wVar 0) (wVar 3))) (wTup (q0d (wVar 1) (q0d (wVar 2) wNil)))))
 (wSeq (wIfS (wNot (wTru (wVar 2)))
 z6h
 q1g)
 (wRet (wVar 2))))
def q3t(sprows_of:Den):WS:=
 (wSeq (wFor (q5o (q0t sprows_of (q0d (wVar 0) (q0d (wVar 1) wNil)))) (q3q 2 (q1e (q0z 3) (q1e (q0z 4) q3r))) (wIfS (q0y (wBin cEq (wVar 3) (wVar 2)))
 (wRet (wVar 4))
 q1g))
 (q9c "NoForm" (q0d (wC (.str "the word has not this form")) wNil)))
def q3w(spterm_of:Den)(spwords_of:Den)(spmeaning_with:Den):WS:=
 (wSeq (wSet 3 (q8l (q5o (q0t spwords_of (q0d (wVar 2) wNil))) [none,none,some 0,some 1] (q3q 2 (q1e (q0z 0) (q1e (q0z 1) q3r))) (wVar 0) (q0t spterm_of (q0d (wVar 2) (q0d (wBin bIx (wVar 3) (wVar 0)) (q0d (wVar 1) wNil))))))
 (wRet (q0t spmeaning_with (q0d (wVar 2) (q0d (wVar 3) wNil)))))
def q4m(spLmeant:Den)(spLjoined:Den)(spLkind_of_form:Den):WS:=
 (wSeq (wIfS (q0y (wBin cEq (wBin bIx (wVar 0) (wC (.int 0))) (wC (.str "word"))))
 (wRet (wTup (q0d (wBin bIx (wVar 0) (wC (.int 2))) (q0d (wBin bIxN (wVar 1) (wSl (wVar 0) (z0j (wC (.int 1))) q5k)) wNil))))
 q1g)
 (wSeq (wAsg (q0t spLmeant (q0d (wBin bIx (wVar 0) (wC (.int 1))) (q0d (wVar 1) wNil))) (q3q 2 (q1e (q0z 2) (q1e (q0z 3) q3r))))
 (wSeq (wAsg (q0t spLmeant (q0d (wBin bIx (wVar 0) (wC (.int 2))) (q0d (wVar 1) wNil))) (q3q 2 (q1e (q0z 4) (q1e (q0z 5) q3r))))
 (wSeq (wSet 6 (q0t spLjoined (q0d (wBin bIx (wVar 0) (wC (.int 0))) (q0d (wVar 2) (q0d (wVar 4) wNil)))))
 (wSeq (wIfS (q0y (wBin cIn (wBin bIx (wVar 0) (wC (.int 0))) (wTup (q0d (wC (.str "<")) (q0d (wC (.str "<<")) wNil)))))
 (wPar 3 5 (q0d (wVar 5) (q0d (wVar 3) wNil)))
 q1g)
 (wSeq (wIfS (q0y (wBin cIn (wBin bIx (wVar 0) (wC (.int 0))) (wTup (q0d (wC (.str ">")) (q0d (wC (.str "<")) wNil)))))
 (wRet (wTup (q0d (wVar 6) (q0d (wTup (q0d (wC (.str "of")) (q0d (wVar 3) (q0d (wVar 5) wNil)))) wNil))))
 q1g)
 (wRet (wTup (q0d (wVar 6) (q0d (wTup (q0d (wC (.str "fn")) (q0d (q0t spLkind_of_form (q0d (wBin bIx (wVar 6) (wC (.int 2))) wNil)) (q0d (wTup (q0d (wC (.str "of")) (q0d (wVar 3) (q0d (wTup (q0d (wC (.str "of")) (q0d (wVar 5) (q0d (wTup (q0d (wC (.str "bound")) (q0d (wC (.int 0)) wNil))) wNil)))) wNil)))) wNil)))) wNil))))))))))
def Fm.k:Fm->KTr
 |.b s=>.tup [.str "basic",.str s]
 |.n l x y=>.tup [.str (sSl l),x.k,y.k]
theorem z7e:∀f:Fm,ktP f.k=f.pv
 |.b s=>rfl
 |.n l x y=>by simp only[Fm.k,ktP,ktPs,z7e x,z7e y,Fm.pv]
theorem z5j:∀f:Fm,kdep f.k=f.dp
 |.b s=>rfl
 |.n l x y=>by simp only[Fm.k,kdep,z5i,z5j x,z5j y,Fm.dp];omega
theorem x4p{f g:Fm}(h:f.pv=g.pv):f=g:=by
 have:=z3x f g
 rw[h,q7x _ (z6v g)]at this
 exact of_decide_eq_true this.symm
def wk(p:Int×Fm):KTr:=.tup [.int p.1,p.2.k]
theorem y7w{p q:Int×Fm}(h:wk p=wk q):p=q:=by
 obtain⟨i,f⟩:=p
 obtain⟨j,g⟩:=q
 have h1:=congrArg ktP h
 simp only[wk,ktP,ktPs,z7e,PV.tup.injEq,List.cons.injEq,PV.int.injEq,and_true]at h1
 rw[h1.1,x4p h1.2]
theorem y3v(p:Int×Fm):ktP (wk p)=.tup [.int p.1,p.2.pv]:=by simp only[wk,ktP,ktPs,z7e]
theorem y9e{p:Int×Fm}(h:p.2.lv<=5):(∃ys,wk p=.tup ys)/\kdep (wk p)<=8:=by
 have:=p.2.dp_lv
 exact⟨⟨_,rfl⟩,by simp only[wk,kdep,z5i,z5j];omega⟩
def mdI(x y g:Fm):Sg->Prop
 |.a=>x=.n false g y
 |.b=>y=.n true g x
 |.c=>∃u v z,x=.n false u v/\y=.n false v z/\g=.n false u z
 |.d=>∃u v z,x=.n true v z/\y=.n true u v/\g=.n true u z
theorem z7b{s:Sg}{x y g:Fm}(h:md x y=some (s.st,g)):mdI x y g s:=by
 have key:∀{t:Sg}{f:Fm},some (t.st,f)=some (s.st,g)->t=s/\f=g:=fun e=>by
  simp only[Option.some.injEq,Prod.mk.injEq]at e
  exact⟨x3y.mp e.1,e.2⟩
 unfold md at h
 cases e:mdL x y with
 |some p=>
  rw[e]at h
  unfold mdL at e
  split at e
  ·rename_i u v
   split at e
   ·rename_i hv
    subst hv
    cases e
    obtain⟨rfl,rfl⟩:=key (t:=.a) h
    exact rfl
   ·split at e
    ·rename_i v' z _
     split at e
     ·rename_i hv
      subst hv
      cases e
      obtain⟨rfl,rfl⟩:=key (t:=.c) h
      exact⟨_,_,_,rfl,rfl,rfl⟩
     ·cases e
    ·cases e
  ·cases e
 |none=>
  rw[e]at h
  have h:mdR x y=some (s.st,g):=h
  unfold mdR at h
  split at h
  ·rename_i u v
   split at h
   ·rename_i hv
    subst hv
    obtain⟨rfl,rfl⟩:=key (t:=.b) h
    exact rfl
   ·split at h
    ·rename_i v' z _
     split at h
     ·rename_i hv
      subst hv
      obtain⟨rfl,rfl⟩:=key (t:=.d) h
      exact⟨_,_,_,rfl,rfl,rfl⟩
     ·cases h
    ·cases h
  ·cases h
def Fm.arg:Fm->Fm
 |.n _ _ z=>z
 |f=>f
def Fm.res:Fm->Fm
 |.n _ x _=>x
 |f=>f
def Rd.fm:Rd->Fm
 |.w _ f=>f
 |.n .a l _=>l.fm.res
 |.n .b _ r=>r.fm.res
 |.n .c l r=>.n false l.fm.res r.fm.arg
 |.n .d l r=>.n true r.fm.res l.fm.arg
def Rd.tm(L:Int×Fm->PV):Rd->PV
 |.w i f=>L (i,f)
 |.n .a l r=>ofP (l.tm L) (r.tm L)
 |.n .b l r=>ofP (r.tm L) (l.tm L)
 |.n .c l r=>jnP r.fm.arg (l.tm L) (r.tm L)
 |.n .d l r=>jnP l.fm.arg (r.tm L) (l.tm L)
theorem z3t:∀{r:Rd}{a b:Int}{g:Fm},r.is a b g->r.fm=g
 |.w i f,a,b,g,⟨_,_,e⟩=>e
 |.n s l r,a,b,g,⟨k,x,y,h1,h2,h3⟩=>by
  have e1:=z3t h1
  have e2:=z3t h2
  have:=z7b h3
  cases s with
  |a=>rw[show x=_ from this]at e1;simp only[Rd.fm,e1,Fm.res]
  |b=>rw[show y=_ from this]at e2;simp only[Rd.fm,e2,Fm.res]
  |c=>obtain⟨u,v,z,rfl,rfl,rfl⟩:=this;simp only[Rd.fm,e1,e2,Fm.res,Fm.arg]
  |d=>obtain⟨u,v,z,rfl,rfl,rfl⟩:=this;simp only[Rd.fm,e1,e2,Fm.res,Fm.arg]
theorem z0n:∀{r:Rd}{a b:Int}{g:Fm},r.is a b g->r.sm->g.dp<=5
 |.w i f,a,b,g,⟨_,_,e⟩,h=>by subst e;exact Nat.le_trans f.dp_lv h
 |.n s l r,a,b,g,⟨k,x,y,h1,h2,h3⟩,h=>by
  have:=z0n h1 h.1
  have:=z0n h2 h.2
  have:=x9v h3
  omega
def Rd.ws:Rd->List (Int×Fm)
 |.w i f=>[(i,f)]
 |.n _ l r=>l.ws++r.ws
theorem q7j:∀r:Rd,r.ws.length=r.lv
 |.w _ _=>rfl
 |.n _ l r=>by simp only[Rd.ws,Rd.lv,List.length_append,q7j l,q7j r]
theorem z4p:∀{r:Rd}{p:Int×Fm},r.sm->p∈r.ws->p.2.lv<=5
 |.w i f,p,h,hp=>by simp only[Rd.ws,List.mem_singleton]at hp;subst hp;exact h
 |.n s l r,p,h,hp=>by
  rcases List.mem_append.mp hp with z|z
  ·exact z4p h.1 z
  ·exact z4p h.2 z
theorem z9h:∀{r:Rd}{a b:Int}{g:Fm},r.is a b g->a<=b/\(∀p∈r.ws,a<=p.1/\p.1<b)/\(r.ws.map (·.1)).Nodup
 |.w i f,a,b,g,⟨e1,e2,_⟩=>by
  subst e1 e2
  simp only[Rd.ws,List.mem_singleton,List.map_cons,List.map_nil,List.nodup_cons,List.not_mem_nil,not_false_eq_true,List.nodup_nil,and_true]
  exact⟨by omega,by rintro p rfl;exact⟨Int.le_refl _,by show i<i+1;omega⟩⟩
 |.n s l r,a,b,g,⟨k,x,y,h1,h2,_⟩=>by
  obtain⟨a1,a2,a3⟩:=z9h h1
  obtain⟨b1,b2,b3⟩:=z9h h2
  simp only[Rd.ws,List.mem_append,List.map_append,List.nodup_append]
  refine⟨by omega,?_,a3,b3,?_⟩
  ·rintro p (h|h)
   ·have:=a2 p h;omega
   ·have:=b2 p h;omega
  ·intro i hi j hj e
   obtain⟨p,hp,rfl⟩:=List.mem_map.mp hi
   obtain⟨q,hq,rfl⟩:=List.mem_map.mp hj
   have:=a2 p hp
   have:=b2 q hq
   omega
def encW(p:Int×Fm):PV:=.tup [.int p.1,p.2.pv]
theorem y9i:∀{r t:Rd}{a b:Int}{g:Fm},r.is a b g->t∈r.wi->∃a' b' g',t.is a' b' g'
 |.w i f,t,a,b,g,h,ht=>by simp only[Rd.wi,List.mem_singleton]at ht;subst ht;exact⟨_,_,_,h⟩
 |.n s l r,t,a,b,g,h,ht=>by
  obtain⟨k,x,y,h1,h2,h3⟩:=id h
  simp only[Rd.wi,List.mem_cons,List.mem_append]at ht
  rcases ht with rfl|ht|ht
  ·exact⟨_,_,_,h⟩
  ·exact y9i h1 ht
  ·exact y9i h2 ht
theorem y9f:∀{r t:Rd},r.sm->t∈r.wi->t.sm
 |.w i f,t,h,ht=>by simp only[Rd.wi,List.mem_singleton]at ht;subst ht;exact h
 |.n s l r,t,h,ht=>by
  simp only[Rd.wi,List.mem_cons,List.mem_append]at ht
  rcases ht with rfl|ht|ht
  ·exact h
  ·exact y9f h.1 ht
  ·exact y9f h.2 ht
theorem y3w:∀{r t:Rd},t∈r.wi->∀p∈t.ws,p∈r.ws
 |.w i f,t,ht=>by simp only[Rd.wi,List.mem_singleton]at ht;subst ht;exact fun p h=>h
 |.n s l r,t,ht=>by
  simp only[Rd.wi,List.mem_cons,List.mem_append]at ht
  rcases ht with rfl|ht|ht
  ·exact fun p h=>h
  ·exact fun p h=>List.mem_append_left _ (y3w ht p h)
  ·exact fun p h=>List.mem_append_right _ (y3w ht p h)
theorem q5q(p:Key×PV)(r:List (Key×PV))(k:Key):valP (p::r) k=if p.1=k then some p.2 else valP r k:=by
 unfold valP
 rw[List.find?_cons]
 by_cases h:p.1=k
 ·rw[if_pos h,decide_eq_true h];rfl
 ·rw[if_neg h,decide_eq_false h]
theorem q5p(kvs:List (Key×PV))(k k':Key)(v:PV)(h:k'≠k):valP (putP kvs k v) k'=valP kvs k':=by
 have hk:¬k=k':=fun z=>h z.symm
 unfold putP
 split
 ·rename_i hh
  clear hh
  induction kvs with
  |nil=>rfl
  |cons p r ih=>
   rw[List.map_cons,q5q,q5q]
   by_cases z:p.1=k
   ·have:¬p.1=k':=by rw[z];exact hk
    rw[if_pos z,if_neg this,if_neg this,ih]
   ·rw[if_neg z,ih]
 ·rename_i hh
  clear hh
  induction kvs with
  |nil=>simp[valP,hk]
  |cons p r ih=>rw[List.cons_append,q5q,q5q];simp_all
theorem q6l(kvs:List (Key×PV))(k:Key)(v:PV):valP (putP kvs k v) k=some v:=by
 unfold putP
 split
 ·rename_i h
  induction kvs with
  |nil=>simp at h
  |cons p r ih=>
   rw[List.map_cons,q5q]
   by_cases z:p.1=k
   ·simp[z]
   ·rw[if_neg z,if_neg z]
    refine ih ?_
    rw[List.any_cons,decide_eq_false z,Bool.false_or]at h
    exact h
 ·rename_i h
  induction kvs with
  |nil=>simp[valP]
  |cons p r ih=>
   rw[List.cons_append,q5q]
   simp_all
theorem q7q(kvs:List (Key×PV))(k:Key)(v:PV):(putP kvs k v).length<=kvs.length+1:=by
 unfold putP
 split<;>simp
theorem dcI{chk:q0h->Prop}{g:WG}{wk wv:WE}{d:Nat}{Q:VC}(P:List PV->Ev.Loc->q0h->Prop)(hn:∀σ S,P [] σ S->chk S/\Q (.ref d) S)
  (hc:∀x r σ S,P (x::r) σ S->∀N:Ev.Loc->q0h->Prop,(∀σ S,P r σ S->N σ S)->chk S/\g x σ S NoX fun σ2 S2=>wk σ2 S2 NoX fun k S3=>wv σ2 S3 NoX fun v S4=>∃kvs kk,S4[d]?=some (.dK kvs)/\q8r k=some kk/\kvs.length<sizeLine/\N σ2 (S4.set d (.dK (putP kvs kk v)))):∀(xs:List PV)(σ:Ev.Loc)(S:q0h),P xs σ S->dcGo chk g wk wv d Q xs σ S
 |[],σ,S,h=>hn σ S h
 |x::r,σ,S,h=>⟨(hc x r σ S h (P r) fun _ _ z=>z).1,P r,fun σ' S' q=>dcI P hn hc r σ' S' q,(hc x r σ S h (P r) fun _ _ z=>z).2⟩
def WoD(sp:Den)(n:Nat):Prop:=∀(r:Rd),r.lv<=n->∀(S:q0h)(E:EK)(Q:VC),(∀(q:Nat) S',S.length<=q->S'[q]?=some (.lst (r.ws.map encW))->Ex [] S S'->Q (.ref q) S')->sp [r.pv] S E Q
theorem y9d{T:Nat->Den}(hT:∀n,T (n+1)=fnP 1 1 (q3f (T n))):∀(n:Nat),n<=1000->WoD (T (n+1)) n
 |0,_=>fun r hr=>by have:=r.lv_pos;omega
 |n+1,hn=>by
  intro r hr S E Q h
  rw[hT]
  refine⟨rfl,?_⟩
  unfold q3f
  cases r with
  |w i f=>
   dsimp![wSeq,rd0,y2f,rw1,rw2]
   exact⟨big (by decide),big (by decide),h _ _ (Nat.le_refl _) (q1h _ _) (Ex.new _ _ _)⟩
  |n s l r=>
   have wl:=q7j l
   have wr:=q7j r
   simp only[Rd.lv]at hr
   have:=l.lv_pos
   have:=r.lv_pos
   dsimp![wSeq,rd0,hd_w,rn1,rn2]
   refine y9d hT n (by omega) l (by omega) _ _ _ fun q S1 hq0 hq hx1=>?_
   refine y9d hT n (by omega) r (by omega) _ _ _ fun q2 S2 hq20 hq2 hx2=>?_
   have a1:=hx2.get hq (by simp)
   dsimp![q1m a1,q1m hq2]
   refine⟨by simp only[List.length_map];exact big (by omega),?_⟩
   have ex:Ex [] S S2:=hx1.trans hx2
   refine h _ _ ex.1 ?_ (ex.app _)
   rw[q1h,Rd.ws,List.map_append]
def FtD(L:Int×Fm->PV)(sp:Den)(n:Nat):Prop:=∀(r:Rd)(a b:Int)(g:Fm),r.is a b g->r.sm->r.lv<=n->∀(t:Nat)(kvs:List (Key×PV))(S:q0h)(E:EK)(Q:VC),S[t]?=some (.dK kvs)->(∀p∈r.ws,valP kvs (.inl p.1)=some (L p))->Q (.tup [g.pv,r.tm L]) S->sp [r.pv,.ref t] S E Q
theorem x2s{L:Int×Fm->PV}{T M N:Nat->Den}(hT:∀n,T (n+1)=fnP 2 8 (q2d (T n) (M n) (N n)))(hM:∀n,20<=n->x3g (M n))(hN:∀n,20<=n->MeantD (N n) 10):∀(n m:Nat),m+21<=n->FtD L (T n) m
 |0,m,h=>by omega
 |n+1,m,hnm=>by
  intro r a b g his hsm hr t kvs S E Q ht hv h
  rw[hT]
  refine⟨rfl,?_⟩
  unfold q2d
  have p2:2<=sizeLine:=big (by decide)
  cases r with
  |w i f=>
   obtain⟨rfl,rfl,rfl⟩:=his
   have hv1:=hv (i,f) (by simp[Rd.ws])
   dsimp![wSeq,rd0,y2f,rw1,rw2,ht,hv1]
   exact⟨p2,h⟩
  |n s l r=>
   obtain⟨k,x,y,h1,h2,h3⟩:=his
   simp only[Rd.lv]at hr
   have:=l.lv_pos
   have:=r.lv_pos
   have hx:=z0n h1 hsm.1
   have hy:=z0n h2 hsm.2
   have e1:=z3t h1
   have e2:=z3t h2
   refine seqI fun K hK=>?_
   dsimp![rd0,hd_w]
   refine hK _ _ ?_
   clear hK
   refine seqI fun K hK=>?_
   dsimp![rn1]
   refine x2s hT hM hN n (m-1) (by omega) l a k x h1 hsm.1 (by omega) t kvs S _ _ ht (fun p hp=>hv p (by simp[Rd.ws,hp])) ?_
   dsimp![true_and]
   refine hK _ _ ?_
   clear hK
   refine seqI fun K hK=>?_
   dsimp![rn2]
   refine x2s hT hM hN n (m-1) (by omega) r k b y h2 hsm.2 (by omega) t kvs S _ _ ht (fun p hp=>hv p (by simp[Rd.ws,hp])) ?_
   dsimp![true_and]
   refine hK _ _ ?_
   clear hK
   refine seqI fun K hK=>?_
   dsimp![true_and]
   refine hM n (by omega) x y _ _ _ (by omega) (by omega) ?_
   rw[h3]
   dsimp![mdP]
   refine hK _ _ ?_
   clear hK
   have hi:=z7b h3
   have H:=hN n (by omega)
   cases s with
   |a=>
    dsimp![true_and]
    exact H.a _ _ _ _ _ _ _ ⟨p2,h⟩
   |b=>
    dsimp![true_and]
    exact H.b _ _ _ _ _ _ _ ⟨p2,h⟩
   |c=>
    obtain⟨u,v,z,rfl,rfl,rfl⟩:=hi
    simp only[Rd.tm,e2,Fm.arg]at h
    simp only[Fm.dp]at hy
    dsimp![true_and]
    exact H.c _ _ _ _ _ _ _ _ _ (by omega) ⟨p2,h⟩
   |d=>
    obtain⟨u,v,z,rfl,rfl,rfl⟩:=hi
    simp only[Rd.tm,e1,Fm.arg]at h
    simp only[Fm.dp]at hx
    dsimp![true_and]
    exact H.d _ _ _ _ _ _ _ _ _ (by omega) ⟨p2,h⟩
def Rd.one:Rd->Option (Int×Fm)
 |.w i f=>some (i,f)
 |_=>none
theorem z9j:∀r:Rd,r.wi.filterMap Rd.one=r.ws
 |.w i f=>rfl
 |.n s l r=>by rw[Rd.wi,List.filterMap_cons_none rfl,List.filterMap_append,z9j l,z9j r];rfl
theorem cut3(a b c:PV):cutP [a,b,c] (some 1) none=[b,c]:=rfl
theorem x6e(a b c:PV):¬(HT.sIx [a,b,c].length 0 (some 1)=0/\HT.sIx [a,b,c].length [a,b,c].length none=[a,b,c].length):=by
 rintro⟨h,_⟩
 exact absurd (show(1:Nat)=0 from h) (by decide)
theorem y8d(i:Int)(f:Fm):(Rd.w i f).pv=PV.tup [.str z4y,.int i,f.pv]:=rfl
theorem x9w{sp:Den}(hp:WiD sp 10):WoD (fnP 1 1 (q3b sp)) 10:=by
 intro r hr S E Q h
 refine⟨rfl,?_⟩
 unfold q3b
 dsimp![true_and]
 refine hp r hr _ _ _ fun q S1 hq0 hq hx=>?_
 have hwl:=z0q r
 dsimp![q0v hq]
 refine⟨by rw[List.length_map];exact big (by omega),?_⟩
 refine z9c (fun rest ys σ S2=>∃(ts us:List Rd)(j1:Option PV),rest=ts.map Rd.pv/\σ=[j1]/\S2=S1/\ys=(us.filterMap Rd.one).map encW/\us++ts=r.wi) ?_ ?_ _ _ _ _ ⟨r.wi,[],none,rfl,rfl,rfl,rfl,rfl⟩
 ·rintro ys σ S2 ⟨ts,us,j1,hr',rfl,rfl,rfl,e⟩
  obtain rfl:ts=[]:=by cases ts with
   |nil=>rfl
   |cons a b=>simp at hr'
  rw[List.append_nil]at e
  refine⟨q0v hq,h _ _ hx.1 ?_ (hx.app _)⟩
  rw[q1h,e,z9j]
 ·rintro x rest ys σ S2 ⟨ts,us,j1,hr',rfl,rfl,rfl,e⟩ N hN
  obtain⟨t,ts,rfl⟩:∃p r,ts=p::r:=by
   cases ts with
   |nil=>simp at hr'
   |cons a b=>exact⟨a,b,rfl⟩
  simp only[List.map_cons,List.cons.injEq]at hr'
  obtain⟨rfl,rfl⟩:=hr'
  refine⟨q0v hq,?_⟩
  cases t with
  |n s l r=>
   dsimp![rd0,hd_w]
   exact hN _ _ _ ⟨ts,us++[.n s l r],_,rfl,rfl,rfl,by rw[List.filterMap_append,List.filterMap_cons_none rfl];simp,by simp[<-e]⟩
  |w i f=>
   have:=hN _ _ _ ⟨ts,us++[.w i f],some (Rd.w i f).pv,rfl,rfl,rfl,rfl,by simp[<-e]⟩
   rw[List.filterMap_append,List.map_append]at this
   dsimp![rd0,y2f]
   rw[y8d]
   refine⟨x6e _ _ _,?_⟩
   rw[cut3]
   exact this
def JoD(sp:Den):Prop:=∀(s:Sg)(x y g:Fm),mdI x y g s->∀(S:q0h)(E:EK)(Q:VC),Q g.pv S->sp [.str s.st,x.pv,y.pv] S E Q
theorem w0d:JoD (fnP 3 3 q3z):=by
 intro s x y g hi S E Q h
 refine⟨rfl,?_⟩
 unfold q3z
 have p3:3<=sizeLine:=big (by decide)
 cases s with
 |a=>
  obtain rfl:=(show x=_ from hi)
  dsimp![wSeq,Sg.st,fn1]
  exact h
 |b=>
  obtain rfl:=(show y=_ from hi)
  dsimp![wSeq,Sg.st,sg1,fn1]
  exact h
 |c=>
  obtain⟨u,v,z,rfl,rfl,rfl⟩:=hi
  dsimp![wSeq,Sg.st,sg2,sg3,fn1,fn2]
  exact⟨p3,h⟩
 |d=>
  obtain⟨u,v,z,rfl,rfl,rfl⟩:=hi
  dsimp![wSeq,Sg.st,sg4,sg5,sg6,fn1,fn2]
  exact⟨p3,h⟩
def Sg.ab:Sg->Bool
 |.a=>true
 |.b=>true
 |_=>false
theorem x8f(s:Sg):([PV.str ">",PV.str "<"].any fun y=>eqB y (.str s.st))=s.ab:=by
 simp only[List.any_cons,List.any_nil,q4h,Bool.or_false]
 cases s<;>decide +kernel
def LmD(L:Int×Fm->PV)(sp:Den)(n:Nat):Prop:=∀(r:Rd)(a b:Int)(g:Fm),r.is a b g->r.sm->r.lv<=n->∀(t:Nat)(kvs:List (KTr×PV))(S:q0h)(E:EK)(Q:VC),S[t]?=some (.dN kvs)->(∀p∈r.ws,valN kvs (wk p)=some (L p))->Q (.tup [g.pv,r.tm L]) S->sp [r.pv,.ref t] S E Q
theorem x1p{L:Int×Fm->PV}{T M N:Nat->Den}(hT:∀n,T (n+1)=fnP 2 7 (q4m (T n) (M n) (N n)))(hM:∀n,20<=n->JoD (M n))(hN:∀n,20<=n->z9f (N n) 10):∀(n m:Nat),m+21<=n->LmD L (T n) m
 |0,m,h=>by omega
 |n+1,m,hnm=>by
  intro r a b g his hsm hr t kvs S E Q ht hv h
  rw[hT]
  refine⟨rfl,?_⟩
  unfold q4m
  have p2:2<=sizeLine:=big (by decide)
  have p3:3<=sizeLine:=big (by decide)
  cases r with
  |w i f=>
   obtain⟨rfl,rfl,rfl⟩:=his
   have hv1:=hv (i,f) (by simp[Rd.ws])
   have key:bIxN (.ref t) (encW (i,f)) S fun v S1=>2<=sizeLine/\Q (.tup [f.pv,v]) S1:=⟨t,kvs,wk (i,f),L (i,f),rfl,ht,(y3v (i,f)).symm,y9e hsm,hv1,p2,h⟩
   dsimp![wSeq,rd0,y2f,rw2]
   rw[y8d]
   refine⟨x6e _ _ _,?_⟩
   rw[cut3]
   exact key
  |n s l r=>
   obtain⟨k,x,y,h1,h2,h3⟩:=his
   simp only[Rd.lv]at hr
   have:=l.lv_pos
   have:=r.lv_pos
   have hx:=z0n h1 hsm.1
   have hy:=z0n h2 hsm.2
   have e1:=z3t h1
   have e2:=z3t h2
   have hg:g.dp<=5:=z0n (r:=.n s l r) (a:=a) (b:=b) ⟨k,x,y,h1,h2,h3⟩ hsm
   refine seqI fun K hK=>?_
   dsimp![rd0,hd_w]
   refine hK _ _ ?_
   clear hK
   refine seqI fun K hK=>?_
   dsimp![rn1]
   refine x1p hT hM hN n (m-1) (by omega) l a k x h1 hsm.1 (by omega) t kvs S _ _ ht (fun p hp=>hv p (by simp[Rd.ws,hp])) ?_
   dsimp![true_and]
   refine hK _ _ ?_
   clear hK
   refine seqI fun K hK=>?_
   dsimp![rn2]
   refine x1p hT hM hN n (m-1) (by omega) r k b y h2 hsm.2 (by omega) t kvs S _ _ ht (fun p hp=>hv p (by simp[Rd.ws,hp])) ?_
   dsimp![true_and]
   refine hK _ _ ?_
   clear hK
   refine seqI fun K hK=>?_
   dsimp![rn0]
   have hi:=z7b h3
   refine hM n (by omega) s x y g hi _ _ _ (hK _ _ ?_)
   clear hK
   have last:∀(u v:PV)(z:Fm),(s.ab=true->(Rd.n s l r).tm L=ofP u v)->(s.ab=false->z.dp<=10/\g.arg=z/\(∃q x',g=.n q x' z)/\(Rd.n s l r).tm L=jnP z u v)->(wSeq (wIfS (q0y (wBin cIn (wBin bIx (wVar 0) (wC (.int 0))) (wTup (q0d (wC (.str ">")) (q0d (wC (.str "<")) wNil)))))
 (wRet (wTup (q0d (wVar 6) (q0d (wTup (q0d (wC (.str "of")) (q0d (wVar 3) (q0d (wVar 5) wNil)))) wNil))))
 q1g)
 (wRet (wTup (q0d (wVar 6) (q0d (wTup (q0d (wC (.str "fn")) (q0d (q0t (N n) (q0d (wBin bIx (wVar 6) (wC (.int 2))) wNil)) (q0d (wTup (q0d (wC (.str "of")) (q0d (wVar 3) (q0d (wTup (q0d (wC (.str "of")) (q0d (wVar 5) (q0d (wTup (q0d (wC (.str "bound")) (q0d (wC (.int 0)) wNil))) wNil)))) wNil)))) wNil)))) wNil))))) {nx:=fun _ S'=>Q .non S',rt:=Q} E [some (Rd.n s l r).pv,some (.ref t),some x.pv,some u,some y.pv,some v,some g.pv] S:=by
    intro u v z ha hb
    refine seqI fun K hK=>?_
    dsimp![rn0,x8f,ok2]
    refine⟨p2,ite2 (fun c=>⟨p3,p2,?_⟩) (fun c=>hK _ _ ?_)⟩
    ·rw[ha c]at h
     exact h
    ·obtain⟨z1,z2,⟨q',x',rfl⟩,z4⟩:=hb (by simpa using c)
     dsimp![fn2]
     refine hN n (by omega) z z1 _ _ _ ?_
     rw[z4]at h
     exact⟨p2,p3,p3,p3,p2,h⟩
   refine seqI fun K hK=>?_
   dsimp![rn0,x8e,ok2]
   refine⟨p2,?_⟩
   cases s with
   |a=>exact ite2 (fun c=>by cases c) (fun _=>hK _ _ (last _ _ x (fun _=>rfl) (fun c=>by cases c)))
   |b=>exact ite2 (fun _=>⟨_,_,rfl,hK _ _ (last _ _ x (fun _=>rfl) (fun c=>by cases c))⟩) (fun c=>absurd rfl c)
   |c=>
    obtain⟨u,v,z,rfl,rfl,rfl⟩:=hi
    simp only[Fm.dp]at hy
    exact ite2 (fun c=>by cases c) (fun _=>hK _ _ (last _ _ z (fun c=>by cases c) (fun _=>⟨by omega,rfl,⟨_,_,rfl⟩,by simp only[Rd.tm,e2,Fm.arg]⟩)))
   |d=>
    obtain⟨u,v,z,rfl,rfl,rfl⟩:=hi
    simp only[Fm.dp]at hx
    exact ite2 (fun _=>⟨_,_,rfl,hK _ _ (last _ _ z (fun c=>by cases c) (fun _=>⟨by omega,rfl,⟨_,_,rfl⟩,by simp only[Rd.tm,e1,Fm.arg]⟩))⟩) (fun c=>absurd rfl c)
mutual
def plV:PV->Bool
 |.str _=>true
 |.int _=>true
 |.tup xs=>plVs xs&&decide (xs.length<=10)
 |_=>false
def plVs:List PV->Bool
 |[]=>true
 |x::xs=>plV x&&plVs xs
end
theorem z7o:∀{xs:List PV}{x:PV},x∈xs->dep x<=deps xs
 |y::r,x,h=>by
  rcases List.mem_cons.mp h with z|z
  ·subst z;simp only[deps];omega
  ·have:=z7o z;simp only[deps];omega
theorem y0m:∀{xs:List PV}{x:PV},plVs xs=true->x∈xs->plV x=true
 |y::r,x,hp,h=>by
  rw[plVs,Bool.and_eq_true]at hp
  rcases List.mem_cons.mp h with z|z
  ·subst z;exact hp.1
  ·exact y0m hp.2 z
theorem z7t:∀n:Nat,z4g (List.replicate n (PV.bl true))=some (List.replicate n true)
 |0=>rfl
 |n+1=>by simp only[List.replicate,z4g,z7t n,Option.map_some]
theorem z2p:∀xs:List PV,zipP xs xs=xs.map fun z=>PV.tup [z,z]
 |[]=>rfl
 |x::r=>by have:=z2p r;unfold zipP at this ⊢;rw[List.zip_cons_cons,List.map_cons,this];rfl
theorem y5a{T:Nat->Den}(hT:∀n,T (n+1)=fnP 2 2 (q5b (T n))):∀(n:Nat)(x:PV),plV x=true->dep x<n->∀(S:q0h)(E:EK)(Q:VC),(∀S',Ex [] S S'->Q (.bl true) S')->T n [x,x] S E Q:=by
 intro n
 induction n with
 |zero=>intro x _ h;omega
 |succ n ih=>
  intro x hp hd S E Q h
  rw[hT]
  refine⟨rfl,?_⟩
  unfold q5b
  refine seqI fun K hK=>?_
  cases x with
  |str s=>
   dsimp![true_and]
   exact h S (Ex.refl _ _)
  |int i=>
   dsimp![true_and]
   refine hK _ _ ?_
   refine seqI fun K hK=>?_
   dsimp![true_and]
   exact h S (Ex.refl _ _)
  |tup xs=>
   rw[plV,Bool.and_eq_true,decide_eq_true_eq]at hp
   simp only[dep]at hd
   dsimp![true_and]
   refine hK _ _ ?_
   refine seqI fun K hK=>?_
   dsimp![true_and]
   refine hK _ _ ?_
   refine seqI fun K hK=>?_
   dsimp![true_and]
   refine hK _ _ ?_
   dsimp![sqOf]
   rw[z2p]
   refine⟨by rw[List.length_map];exact big (by omega),?_⟩
   refine z9c (fun rest ys σ S2=>∃(zs:List PV)(j1 j2:Option PV)(m:Nat),rest=zs.map (fun z=>PV.tup [z,z])/\(∀z∈zs,z∈xs)/\ys=List.replicate m (PV.bl true)/\σ=[j1,j2]/\Ex [] S S2) ?_ ?_ _ _ _ _ ⟨xs,none,none,0,rfl,fun _ z=>z,rfl,rfl,Ex.refl _ _⟩
   ·rintro ys σ S2 ⟨zs,j1,j2,m,hr,hz,rfl,rfl,hx⟩
    refine⟨trivial,?_⟩
    simp only[z4x,Option.bind_some,z7t]
    have:=h _ (hx.app [.lst (List.replicate m (PV.bl true))])
    simpa using this
   ·rintro x rest ys σ S2 ⟨zs,j1,j2,m,hr,hz,rfl,rfl,hx⟩ N hN
    obtain⟨u,zs,rfl⟩:∃p r,zs=p::r:=by
     cases zs with
     |nil=>simp at hr
     |cons a b=>exact⟨a,b,rfl⟩
    simp only[List.map_cons,List.cons.injEq]at hr
    obtain⟨rfl,rfl⟩:=hr
    refine⟨trivial,?_⟩
    dsimp![true_and]
    have hm:=hz u (by simp)
    refine ih u (y0m hp.1 hm) (by have:=z7o hm;omega) _ _ _ fun S3 hx3=>?_
    exact hN _ _ _ ⟨zs,_,_,m+1,rfl,fun z hz'=>hz z (by simp[hz']),by rw[List.replicate_succ'],rfl,hx.trans hx3⟩
  |non=>simp[plV]at hp
  |bl _=>simp[plV]at hp
  |ty _=>simp[plV]at hp
  |frl _=>simp[plV]at hp
  |ref _=>simp[plV]at hp
  |exc _=>simp[plV]at hp
theorem y0o:∀f:Fm,plV f.pv=true
 |.b s=>rfl
 |.n l x y=>by simp only[Fm.pv,plV,plVs,y0o x,y0o y,Bool.and_self,List.length_cons,List.length_nil];rfl
theorem y0n:∀f:Fm,plV f.kd=true
 |.b s=>rfl
 |.n l x y=>by simp only[Fm.kd,plV,plVs,y0n x,y0n y,Bool.and_self,List.length_cons,List.length_nil];rfl
inductive Tm where
 |nm (w:Str)|lf (n:Int) (f:PV)|bd (k:Nat)|fn (k:PV) (t:Tm)|ap (f a:Tm)
def Tm.pv:Tm->PV
 |.nm w=>.tup [.str "name",.str w]
 |.lf n f=>.tup [.str "leaf",.int n,f]
 |.bd k=>.tup [.str "bound",.int k]
 |.fn k t=>.tup [.str "fn",k,t.pv]
 |.ap f a=>.tup [.str "of",f.pv,a.pv]
def Tm.sz:Tm->Nat
 |.fn _ t=>1+t.sz
 |.ap f a=>1+f.sz+a.sz
 |_=>1
def Tm.dp:Tm->Nat
 |.fn _ t=>t.dp+1
 |.ap f a=>max f.dp a.dp+1
 |_=>0
theorem tg1:(Str.ofString "name" = Str.ofString "fn")=False:=eq_false (by decide +kernel)
theorem tg2:(Str.ofString "name" = Str.ofString "of")=False:=eq_false (by decide +kernel)
theorem tg3:(Str.ofString "name" = Str.ofString "bound")=False:=eq_false (by decide +kernel)
theorem tg4:(Str.ofString "leaf" = Str.ofString "fn")=False:=eq_false (by decide +kernel)
theorem tg5:(Str.ofString "leaf" = Str.ofString "of")=False:=eq_false (by decide +kernel)
theorem tg6:(Str.ofString "leaf" = Str.ofString "bound")=False:=eq_false (by decide +kernel)
theorem tg7:(Str.ofString "bound" = Str.ofString "fn")=False:=eq_false (by decide +kernel)
theorem tg8:(Str.ofString "bound" = Str.ofString "of")=False:=eq_false (by decide +kernel)
theorem tg9:(Str.ofString "fn" = Str.ofString "of")=False:=eq_false (by decide +kernel)
theorem tga:(Str.ofString "fn" = Str.ofString "bound")=False:=eq_false (by decide +kernel)
theorem tgb:(Str.ofString "of" = Str.ofString "fn")=False:=eq_false (by decide +kernel)
theorem tgc:(Str.ofString "of" = Str.ofString "bound")=False:=eq_false (by decide +kernel)
theorem q6g(x y:PV)(xs:List PV):atI (x::y::xs) 1=some y:=q4a (x::y::xs) 1 (by simp)
theorem q8a(x y z:PV)(xs:List PV):atI (x::y::z::xs) 2=some z:=q4a (x::y::z::xs) 2 (by simp)
theorem z9z{T:Nat->Den}(hT:∀n,T (n+1)=fnP 1 1 (q2h (T n))):∀(t:Tm)(n:Nat),t.dp<n->∀(S:q0h)(E:EK)(Q:VC),Q (.int t.sz) S->T n [t.pv] S E Q:=by
 intro t
 induction t with
 |nm w=>
  intro n hn S E Q h
  obtain⟨m,rfl⟩:∃m,n=m+1:=⟨n-1,by omega⟩
  rw[hT]
  refine⟨rfl,?_⟩
  unfold q2h
  refine seqI fun K hK=>?_
  dsimp![Tm.pv,q0w,tg1,tg2]
  refine hK _ _ ?_
  refine seqI fun K hK=>?_
  dsimp![Tm.pv,q0w,tg1,tg2]
  refine hK _ _ ?_
  dsimp![true_and]
  exact h
 |lf k f=>
  intro n hn S E Q h
  obtain⟨m,rfl⟩:∃m,n=m+1:=⟨n-1,by omega⟩
  rw[hT]
  refine⟨rfl,?_⟩
  unfold q2h
  refine seqI fun K hK=>?_
  dsimp![Tm.pv,q0w,tg4,tg5]
  refine hK _ _ ?_
  refine seqI fun K hK=>?_
  dsimp![Tm.pv,q0w,tg4,tg5]
  refine hK _ _ ?_
  dsimp![true_and]
  exact h
 |bd k=>
  intro n hn S E Q h
  obtain⟨m,rfl⟩:∃m,n=m+1:=⟨n-1,by omega⟩
  rw[hT]
  refine⟨rfl,?_⟩
  unfold q2h
  refine seqI fun K hK=>?_
  dsimp![Tm.pv,q0w,tg7,tg8]
  refine hK _ _ ?_
  refine seqI fun K hK=>?_
  dsimp![Tm.pv,q0w,tg7,tg8]
  refine hK _ _ ?_
  dsimp![true_and]
  exact h
 |fn k t ih=>
  intro n hn S E Q h
  obtain⟨m,rfl⟩:∃m,n=m+1:=⟨n-1,by omega⟩
  rw[hT]
  refine⟨rfl,?_⟩
  unfold q2h
  refine seqI fun K hK=>?_
  simp only[Tm.dp]at hn
  dsimp![Tm.pv,q0w,q8a]
  refine ih m (by omega) _ _ _ ?_
  dsimp![true_and]
  rw[show(1:Int)+t.sz=((Tm.fn k t).sz:Nat) by simp only[Tm.sz];omega]
  exact h
 |ap f a ihf iha=>
  intro n hn S E Q h
  obtain⟨m,rfl⟩:∃m,n=m+1:=⟨n-1,by omega⟩
  rw[hT]
  refine⟨rfl,?_⟩
  unfold q2h
  refine seqI fun K hK=>?_
  simp only[Tm.dp]at hn
  dsimp![Tm.pv,q0w,q8a,tgb]
  refine hK _ _ ?_
  refine seqI fun K hK=>?_
  dsimp![q0w,q6g,q8a]
  refine ihf m (by omega) _ _ _ ?_
  refine iha m (by omega) _ _ _ ?_
  dsimp![true_and]
  rw[show(1:Int)+f.sz+a.sz=((Tm.ap f a).sz:Nat) by simp only[Tm.sz];omega]
  exact h
def encI(fs:List Nat):List PV:=fs.map fun x:Nat=>PV.int x
def enc(p:Tm×List Nat):PV:=.tup [p.1.pv,.tup (encI p.2)]
def q2a:Tm->List Nat->Nat->List (Tm×List Nat)
 |.fn k b,fs,i=>(.fn k b,fs)::q2a b (fs++[i]) (i+1)
 |.ap f a,fs,i=>(.ap f a,fs)::(q2a f fs (i+1)++q2a a fs (i+1+f.sz))
 |t,fs,_=>[(t,fs)]
def flat : List (Tm × List Nat) -> Nat -> List (Tm × List Nat)
 | [], _ => []
 | (t, fs) :: r, i => q2a t fs i ++ flat r (i + t.sz)
def szT : List (Tm × List Nat) -> Nat
 | [] => 0
 | (t, _) :: r => t.sz + szT r
theorem x3x:∀t:Tm,1<=t.sz
 |.nm _=>Nat.le_refl _
 |.lf _ _=>Nat.le_refl _
 |.bd _=>Nat.le_refl _
 |.fn _ _=>by simp only[Tm.sz];omega
 |.ap _ _=>by simp only[Tm.sz];omega
theorem z9r : ∀ st : List (Tm × List Nat), st.length <= szT st
 | [] => Nat.le_refl _
 | (t, _) :: r => by have := z9r r; have := x3x t; simp only [List.length_cons, szT]; omega
theorem q6x:∀(t:Tm)(fs:List Nat)(i:Nat),(q2a t fs i).length=t.sz
 |.nm _,_,_=>rfl
 |.lf _ _,_,_=>rfl
 |.bd _,_,_=>rfl
 |.fn _ b,fs,i=>by simp only[q2a,List.length_cons,q6x b,Tm.sz];omega
 |.ap f a,fs,i=>by simp only[q2a,List.length_cons,List.length_append,q6x f,q6x a,Tm.sz];omega
def z4l(sp:Den):Prop:=∀(t:Tm)(S:q0h)(E:EK)(Q:VC),t.sz<=1000->(∀(r:Nat) S',S'[r]?=some (.lst ((q2a t [] 0).map enc))->S.length<=r->Ex [] S S'->Q (.ref r) S')->sp [t.pv] S E Q
theorem tm3:∀x:Tm,(∃z rs,x.pv=.tup (.str z::rs)/\(z=Str.ofString "fn")=False/\(z=Str.ofString "of")=False/\x.sz=1/\∀fs i,q2a x fs i=[(x,fs)])\/(∃k b,x=.fn k b)\/∃f a,x=.ap f a
 |.nm _=>.inl ⟨_,_,rfl,tg1,tg2,rfl,fun _ _=>rfl⟩
 |.lf _ _=>.inl ⟨_,_,rfl,tg4,tg5,rfl,fun _ _=>rfl⟩
 |.bd _=>.inl ⟨_,_,rfl,tg7,tg8,rfl,fun _ _=>rfl⟩
 |.fn k b=>.inr (.inl ⟨k,b,rfl⟩)
 |.ap f a=>.inr (.inr ⟨f,a,rfl⟩)
theorem y5s:z4l (fnP 1 5 q2b):=by
 intro t S E Q hz h
 refine⟨rfl,?_⟩
 unfold q2b
 refine seqI fun K hK=>?_
 dsimp![true_and]
 refine⟨big (by decide),hK _ _ ?_⟩
 refine seqI fun K hK=>?_
 dsimp![true_and]
 refine⟨big (by decide),big (by decide),big (by decide),hK _ _ ?_⟩
 refine seqI fun K hK=>?_
 have hl1:(S++[SO.lst []]).length=S.length+1:=by simp
 refine z9k (fun m σ S1=>∃(st dn:List (Tm×List Nat))(j1 j2:Option PV),σ=[some t.pv,some (.ref S.length),some (.ref (S.length+1)),j1,j2]/\S1[S.length]?=some (.lst (dn.map enc))/\S1[S.length+1]?=some (.lst (st.reverse.map enc))/\Ex [] S S1/\
  dn++flat st dn.length=q2a t [] 0/\dn.length+szT st=t.sz/\(∀p∈st,p.2.length<=dn.length)/\m=szT st) (szT [(t,[])]) ?_ ?_
 ·exact⟨[(t,[])],[],none,none,by rw[hl1],q2p (q1h _ _) _,by rw[<-hl1];exact q1h _ _,(Ex.new _ _ _).app _,by simp[flat],by simp[szT],by simp,rfl⟩
 ·rintro m σ S1 ⟨st,dn,j1,j2,rfl,h1,h2,hx,hf,hb,hfl,rfl⟩ T F hT hF
  have hlen:=z9r st
  dsimp![h2]
  refine ite2 (fun c=>?_) (fun c=>?_)
  ·obtain⟨⟨x,fs⟩,r,rfl⟩:∃x r,st=x::r:=by
    cases st with
    |nil=>simp at c
    |cons a b=>exact⟨a,b,rfl⟩
   refine hT _ fun N hN=>?_
   refine seqI fun K2 hK2=>?_
   have hfs:fs.length<=dn.length:=hfl (x,fs) (by simp)
   dsimp![h2,q1m h2,List.reverse_cons,List.map_append,List.getLast?_append,List.getLast?_singleton,Option.or,Option.some_or,List.dropLast_concat,enc]
   refine hK2 _ _ ?_
   have g2:=q1u (.lst (r.reverse.map enc)) h2
   have g1:=q3n (j:=S.length+1) (.lst (r.reverse.map enc)) h1 (by omega)
   have hx1:Ex [] S (S1.set (S.length+1) (.lst (r.reverse.map enc))):=hx.set (.inr (by omega))
   generalize S1.set (S.length+1) (.lst (r.reverse.map enc))=S2 at g1 g2 hx1 ⊢
   simp only[szT,List.length_cons]at hb hlen
   have fin:∀(S3:q0h)(st':List (Tm×List Nat)),S3[S.length]?=some (.lst (dn.map enc))->S3[S.length+1]?=some (.lst (st'.reverse.map enc))->Ex [] S S3->q2a x fs dn.length++flat r (dn.length+x.sz)=(x,fs)::flat st' (dn.length+1)->szT st'+1=x.sz+szT r->(∀p∈st',p.2.length<=dn.length+1)->
     q4p (wBM "list" q1y (wVar 1) (q0d (wTup (q0d (wVar 3) (q0d (wVar 4) wNil))) wNil)) {nx:=N,rt:=Q,ct:=N,bk:=K} E [some t.pv,some (.ref S.length),some (.ref (S.length+1)),some x.pv,some (.tup (encI fs))] S3:=by
    intro S3 st' e1 e2 ex e3 e4 e5
    dsimp![e1,q1m e1]
    refine⟨big (by decide),by rw[List.length_map];exact bigl (by omega),hN (szT st') _ _ (by simp only[szT];omega) ?_⟩
    refine⟨st',dn++[(x,fs)],_,_,rfl,?_,q3n _ e2 (by omega),ex.set (.inr (Nat.le_refl _)),?_,?_,?_,rfl⟩
    ·rw[q1u _ e1];simp[enc]
    ·rw[<-hf];simp only[flat,List.length_append,List.length_singleton,List.append_assoc,e3,List.singleton_append]
    ·simp only[List.length_append,List.length_singleton];omega
    ·intro p hp;simp only[List.length_append,List.length_singleton];exact e5 p hp
   have keep:∀p∈r,p.2.length<=dn.length+1:=fun p hp=>Nat.le_succ_of_le (hfl p (by simp[hp]))
   refine seqI fun K3 hK3=>?_
   rcases tm3 x with⟨z,rs,ex,z1,z2,hs,hro⟩|⟨k,b,rfl⟩|⟨f,a,rfl⟩
   ·have f2:=fin _ r g1 g2 hx1 (by rw[hro,hs];simp) (by omega) keep
    rw[ex]at f2 ⊢
    dsimp![q0w,z1,z2]
    exact hK3 _ _ f2
   ·simp only[Tm.sz]at hb hlen
    dsimp![Tm.pv,q0w,q8a,g1,g2,q0v g1,q1m g2]
    refine⟨big (by decide),by rw[encI,List.length_map];exact big (by simp;omega),big (by decide),by rw[List.length_map,List.length_reverse];exact bigl (by omega),hK3 _ _ ?_⟩
    refine fin _ ((b,fs++[dn.length])::r) (q3n _ g1 (by omega)) ?_ (hx1.set (.inr (by omega))) ?_ ?_ ?_
    ·rw[q1u _ g2];simp[enc,encI]
    ·simp only[q2a,flat,Tm.sz,List.cons_append]
     rw[show dn.length+(1+b.sz)=dn.length+1+b.sz by omega]
    ·simp only[szT,Tm.sz];omega
    ·intro p hp
     rcases List.mem_cons.mp hp with rfl|z
     ·simp;exact hfs
     ·exact keep p z
   ·simp only[Tm.sz]at hb hlen
    dsimp![Tm.pv,q0w,q6g,q8a,g1,g2,tgb]
    have g3:=q2p g2 [SO.lst [PV.tup [a.pv,PV.tup (encI fs)],PV.tup [f.pv,PV.tup (encI fs)]]]
    refine⟨big (by decide),big (by decide),big (by decide),?_⟩
    dsimp![q1m g3]
    refine⟨by rw[List.length_map,List.length_reverse];exact big (by omega),hK3 _ _ ?_⟩
    refine fin _ ((f,fs)::(a,fs)::r) (q3n _ (q2p g1 _) (by omega)) ?_ ((hx1.app _).set (.inr (by omega))) ?_ ?_ ?_
    ·rw[q1u _ g3];simp[enc]
    ·simp only[q2a,flat,Tm.sz,List.cons_append,List.append_assoc]
     rw[show dn.length+(1+f.sz+a.sz)=dn.length+1+f.sz+a.sz by omega]
    ·simp only[szT,Tm.sz];omega
    ·intro p hp
     rcases List.mem_cons.mp hp with rfl|z
     ·exact Nat.le_succ_of_le hfs
     ·rcases List.mem_cons.mp z with rfl|z
      ·exact Nat.le_succ_of_le hfs
      ·exact keep p z
  ·obtain rfl:st=[]:=by
    cases st with
    |nil=>rfl
    |cons a b=>simp at c
   refine hF _ (hK _ _ ?_)
   dsimp![true_and]
   refine h _ _ ?_ (Nat.le_refl _) hx
   rw[h1,<-hf];simp[flat]
theorem z9y{sp:Den}(hp:z4l sp){t:Tm}{S:q0h}{E:EK}{Q:VC}(hz:t.sz<=1000)(h:∀S',Ex [] S S'->Q (.int t.sz) S'):fnP 1 1 (q3u sp) [t.pv] S E Q:=by
 refine⟨rfl,?_⟩
 unfold q3u
 dsimp![true_and]
 refine hp t _ _ _ hz fun r S' e _ hx=>?_
 dsimp![q0v e]
 rw[List.length_map,q6x]
 exact h _ hx
def own(fs:List Nat)(k:Nat):Option Nat:=if k<fs.length then fs[fs.length-1-k]? else none
def ow:Tm->List Nat->Nat->List (Option Nat)
 |.bd k,fs,_=>[own fs k]
 |.fn _ b,fs,i=>ow b (fs++[i]) (i+1)
 |.ap f a,fs,i=>ow f fs (i+1)++ow a fs (i+1+f.sz)
 |_,_,_=>[]
def x1e(p:Tm×List Nat):Option (Option Nat):=match p.1 with
 |.bd k=>some (own p.2 k)
 |_=>none
theorem z1u:∀(t:Tm)(fs:List Nat)(i:Nat),(q2a t fs i).filterMap x1e=ow t fs i
 |.nm _,_,_=>rfl
 |.lf _ _,_,_=>rfl
 |.bd _,_,_=>rfl
 |.fn _ b,fs,i=>by rw[q2a,List.filterMap_cons_none rfl,z1u b];rfl
 |.ap f a,fs,i=>by rw[q2a,List.filterMap_cons_none rfl,List.filterMap_append,z1u f,z1u a];rfl
theorem z6t:∀(t:Tm)(fs:List Nat)(i:Nat),(ow t fs i).length<=t.sz
 |.nm _,_,_=>Nat.zero_le _
 |.lf _ _,_,_=>Nat.zero_le _
 |.bd _,_,_=>Nat.le_refl _
 |.fn _ b,fs,i=>by have:=z6t b (fs++[i]) (i+1);simp only[ow,Tm.sz];omega
 |.ap f a,fs,i=>by have:=z6t f fs (i+1);have:=z6t a fs (i+1+f.sz);simp only[ow,Tm.sz,List.length_append];omega
def encO:Option Nat->PV
 |none=>.non
 |some x=>.int (x:Nat)
theorem y7m(xs:List PV)(j k:Nat)(h:k<xs.length)(e:(xs.length:Int)-1-k=j):atI xs (xs.length-1-k:Int)=xs[xs.length-1-k]?:=by
 have:((xs.length:Int)-1-k)=((xs.length-1-k:Nat):Int):=by omega
 rw[this,q4a xs _ (by omega)]
 simp
theorem y5t{fs:List Nat}{k:Nat}{S:q0h}{E:EK}{Q:VC}(h:Q (encO (own fs k)) S):fnP 2 2 q3g [.tup (encI fs),.int k] S E Q:=by
 refine⟨rfl,?_⟩
 unfold q3g
 have hl:(encI fs).length=fs.length:=by simp[encI]
 refine seqI fun K hK=>?_
 dsimp![hl]
 by_cases c:k<fs.length
 ·rw[if_neg (by omega)]
  refine hK _ _ ?_
  dsimp![hl]
  have e:=y7m (encI fs) (fs.length-1-k) k (by omega) (by omega)
  rw[hl]at e
  rw[e]
  have e2:(encI fs)[fs.length-1-k]?=some (.int ((fs[fs.length-1-k]'(by omega):Nat):Int)):=by
   unfold encI;rw[List.getElem?_map,List.getElem?_eq_getElem (by omega)];rfl
  rw[e2]
  unfold own at h
  rw[if_pos c,List.getElem?_eq_getElem (by omega)]at h
  exact h
 ·rw[if_pos (by omega)]
  unfold own at h
  rw[if_neg c]at h
  exact h
def y3r(sp:Den):Prop:=∀(fs:List Nat)(k:Nat)(S:q0h)(E:EK)(Q:VC),Q (encO (own fs k)) S->sp [.tup (encI fs),.int k] S E Q
def z2o(sp:Den):Prop:=∀(t:Tm)(S:q0h)(E:EK)(Q:VC),t.sz<=1000->(∀(r:Nat) S',S'[r]?=some (.lst ((ow t [] 0).map encO))->Ex [] S S'->Q (.ref r) S')->sp [t.pv] S E Q
theorem y0x{so sp:Den}(ho:y3r so)(hp:z4l sp):z2o (fnP 1 1 (q2z so sp)):=by
 intro t S E Q hz h
 refine⟨rfl,?_⟩
 unfold q2z
 dsimp![true_and]
 refine hp t _ _ _ hz fun r S1 e _ hx=>?_
 dsimp![q0v e]
 refine⟨by rw[List.length_map,q6x];exact big (by omega),?_⟩
 refine z9c (fun rest ys σ S2=>∃(ps qs:List (Tm×List Nat))(j1 j2:Option PV),rest=ps.map enc/\σ=[j1,j2]/\S2=S1/\ys=(qs.filterMap x1e).map encO/\qs++ps=q2a t [] 0) ?_ ?_ _ _ _ _ ⟨q2a t [] 0,[],none,none,rfl,rfl,rfl,rfl,rfl⟩
 ·rintro ys σ S2 ⟨ps,qs,j1,j2,hr,rfl,rfl,rfl,hq⟩
  obtain rfl:ps=[]:=by cases ps with
   |nil=>rfl
   |cons a b=>simp at hr
  refine⟨q0v e,h _ _ ?_ (hx.app _)⟩
  rw[q1h]
  rw[List.append_nil]at hq
  rw[hq,z1u]
 ·rintro x rest ys σ S2 ⟨ps,qs,j1,j2,hr,rfl,rfl,rfl,hq⟩ N hN
  obtain⟨⟨u,fs⟩,ps,rfl⟩:∃p r,ps=p::r:=by
   cases ps with
   |nil=>simp at hr
   |cons a b=>exact⟨a,b,rfl⟩
  simp only[List.map_cons,List.cons.injEq]at hr
  obtain⟨rfl,rfl⟩:=hr
  refine⟨q0v e,?_⟩
  cases u with
  |nm w=>
   dsimp![enc,Tm.pv,q0w,tg3]
   exact hN _ _ _ ⟨ps,qs++[(.nm w,fs)],_,_,rfl,rfl,rfl,by rw[List.filterMap_append,List.filterMap_cons_none rfl];simp,by simp[<-hq]⟩
  |lf a b=>
   dsimp![enc,Tm.pv,q0w,tg6]
   exact hN _ _ _ ⟨ps,qs++[(.lf a b,fs)],_,_,rfl,rfl,rfl,by rw[List.filterMap_append,List.filterMap_cons_none rfl];simp,by simp[<-hq]⟩
  |fn a b=>
   dsimp![enc,Tm.pv,q0w,tga]
   exact hN _ _ _ ⟨ps,qs++[(.fn a b,fs)],_,_,rfl,rfl,rfl,by rw[List.filterMap_append,List.filterMap_cons_none rfl];simp,by simp[<-hq]⟩
  |ap a b=>
   dsimp![enc,Tm.pv,q0w,tgc]
   exact hN _ _ _ ⟨ps,qs++[(.ap a b,fs)],_,_,rfl,rfl,rfl,by rw[List.filterMap_append,List.filterMap_cons_none rfl];simp,by simp[<-hq]⟩
  |bd k=>
   dsimp![enc,Tm.pv,q0w,q6g]
   refine ho fs k _ _ _ ?_
   exact hN _ _ _ ⟨ps,qs++[(.bd k,fs)],_,_,rfl,rfl,rfl,by rw[List.filterMap_append];simp[x1e],by simp[<-hq]⟩
theorem z6w:∀l:List (Option Nat),q6o (l.map encO)
 |[]=>by rw[List.map_nil,q9m];trivial
 |x::r=>by
  obtain⟨h1,h2⟩:=z6w r
  cases x<;>exact⟨by simp only[List.map_cons,nrfs,encO,nrf,h1,Bool.and_self],by simp only[List.map_cons,deps,encO,dep];omega⟩
theorem x3d(l:List (Option Nat)):((l.map encO).any fun y=>eqB y .non)=decide (none∈l):=by
 induction l with
 |nil=>rfl
 |cons x r ih=>
  rw[List.map_cons,List.any_cons,ih]
  cases x with
  |none=>simp[encO,eqB]
  |some z=>simp[encO,eqB]
theorem y5z:okEq .non:=⟨rfl,by simp[dep]⟩
theorem y3d{sp:Den}(hp:z2o sp){t:Tm}{S:q0h}{E:EK}{Q:VC}(hz:t.sz<=1000)(h:∀S',Ex [] S S'->Q (.bl (!decide (none∈ow t [] 0))) S'):fnP 1 1 (q3a sp) [t.pv] S E Q:=by
 refine⟨rfl,?_⟩
 unfold q3a
 dsimp![true_and]
 refine hp t _ _ _ hz fun r S' e hx=>?_
 dsimp![q0v e,x3d]
 exact⟨⟨y5z,z6w _⟩,h _ hx⟩
theorem q9z:∀l:List Nat,q5g ((l.map some).map encO)=some (l.map fun x:Nat=>(x:Int))
 |[]=>rfl
 |x::r=>by simp only[List.map_cons,encO,q5g,q9z r,Option.map_some]
theorem y6z(l acc:List Int):(l.foldl PyProof.Rows.step_dedup acc).length<=acc.length+l.length:=by
 induction l generalizing acc with
 |nil=>simp
 |cons x r ih=>
  rw[List.foldl_cons]
  refine Nat.le_trans (ih _) ?_
  unfold PyProof.Rows.step_dedup
  split<;>simp<;>omega
theorem z9b(l:List Int):∀acc:List Int,acc.Nodup->((l.foldl PyProof.Rows.step_dedup acc).length=acc.length+l.length↔(acc++l).Nodup):=by
 induction l with
 |nil=>intro acc h;simp[h]
 |cons x r ih=>
  intro acc h
  rw[List.foldl_cons]
  unfold PyProof.Rows.step_dedup
  by_cases hx:x∈acc
  ·rw[if_pos (by simp;exact hx)]
   have:=y6z r acc
   constructor
   ·intro e
    have e2:(r.foldl PyProof.Rows.step_dedup acc).length=acc.length+(x::r).length:=e
    simp only[List.length_cons]at e2
    omega
   ·intro hn
    exact absurd rfl ((List.nodup_append.mp hn).2.2 x hx x (by simp))
  ·rw[if_neg (by simp;exact hx)]
   have hn:(acc++[x]).Nodup:=by
    rw[List.nodup_append];exact⟨h,by simp,by intro a ha b hb;simp at hb;subst hb;rintro rfl;exact hx ha⟩
   have:=ih (acc++[x]) hn
   unfold PyProof.Rows.step_dedup at this
   rw[List.length_append,List.length_singleton,List.append_assoc,List.singleton_append]at this
   rw[<-this]
   simp only[List.length_cons]
   constructor<;>intro e<;>omega
theorem y2y(l:List Int):(z5x l).length=l.length↔l.Nodup:=by
 have:=z9b l [] (by simp)
 simpa[z5x]using this
theorem z8f{sp:Den}(hp:z2o sp){t:Tm}{S:q0h}{E:EK}{Q:VC}(hz:t.sz<=1000)(hc:none∉ow t [] 0)(h:∀S',Ex [] S S'->Q (.bl (decide (ow t [] 0).Nodup)) S'):fnP 1 2 (q2v sp) [t.pv] S E Q:=by
 obtain⟨l,hl⟩:∃l:List Nat,ow t [] 0=l.map some:=by
  generalize ow t [] 0=o at hc
  clear h hz
  induction o with
  |nil=>exact⟨[],rfl⟩
  |cons x r ih=>
   obtain⟨l,hl⟩:=ih fun z=>hc (List.mem_cons_of_mem _ z)
   cases x with
   |none=>exact absurd List.mem_cons_self hc
   |some x=>exact⟨x::l,by rw[hl];rfl⟩
 have hlen:l.length<=1000:=by have:=z6t t [] 0;rw[hl,List.length_map]at this;omega
 have hnd:(decide (ow t [] 0).Nodup)=decide ((z5x (l.map fun x:Nat=>(x:Int))).length=(l.map fun x:Nat=>(x:Int)).length):=by
  rw[decide_eq_decide,y2y,hl]
  have h1:(l.map some).Nodup↔l.Nodup:=by
   unfold List.Nodup;rw[List.pairwise_map]
   exact⟨fun z=>z.imp fun h e=>h (by rw[e]),fun z=>z.imp fun h e=>h (Option.some.inj e)⟩
  have h2:(l.map fun x:Nat=>(x:Int)).Nodup↔l.Nodup:=by
   unfold List.Nodup;rw[List.pairwise_map]
   exact⟨fun z=>z.imp fun h e=>h (by rw[e]),fun z=>z.imp fun h e=>h (by omega)⟩
  rw[h1,h2]
 rw[hnd]at h
 refine⟨rfl,?_⟩
 unfold q2v
 refine seqI fun K hK=>?_
 dsimp![true_and]
 refine hp t _ _ _ hz fun r S1 e hx=>?_
 rw[hl]at e
 dsimp![q0v e]
 refine⟨by rw[List.length_map,List.length_map];exact big (by omega),?_⟩
 refine z9c (fun rest ys σ S2=>∃(ps qs:List Nat)(j1:Option PV),rest=(ps.map some).map encO/\σ=[j1]/\S2=S1/\ys=(qs.map some).map encO/\qs++ps=l) ?_ ?_ _ _ _ _ ⟨l,[],none,rfl,rfl,rfl,rfl,rfl⟩
 ·rintro ys σ S2 ⟨ps,qs,j1,hr,rfl,rfl,rfl,hq⟩
  obtain rfl:ps=[]:=by cases ps with
   |nil=>rfl
   |cons a b=>simp at hr
  rw[List.append_nil]at hq
  subst hq
  refine⟨q0v e,hK _ _ ?_⟩
  have g:=q1h S2 (.lst ((qs.map some).map encO))
  dsimp![z4r,fLS,q0v g,Option.bind_some,q9z,List.length_map]
  refine⟨by omega,?_⟩
  have:=h _ (hx.app [.lst ((qs.map some).map encO)])
  rw[List.length_map]at this
  have e2:∀a b:Nat,((a:Int)=b)=(a=b):=fun a b=>by rw[eq_iff_iff];omega
  simp only[e2]
  exact this
 ·rintro x rest ys σ S2 ⟨ps,qs,j1,hr,rfl,rfl,rfl,hq⟩ N hN
  obtain⟨u,ps,rfl⟩:∃p r,ps=p::r:=by
   cases ps with
   |nil=>simp at hr
   |cons a b=>exact⟨a,b,rfl⟩
  simp only[List.map_cons,List.cons.injEq]at hr
  obtain⟨rfl,rfl⟩:=hr
  refine⟨q0v e,?_⟩
  dsimp![encO]
  exact hN _ _ _ ⟨ps,qs++[u],_,rfl,rfl,rfl,by simp[encO],by simp[<-hq]⟩
def idx:Tm->Nat->List Nat
 |.fn _ b,i=>i::idx b (i+1)
 |.ap f a,i=>idx f (i+1)++idx a (i+1+f.sz)
 |_,_=>[]
theorem q5n:∀(t:Tm)(i x:Nat),x∈idx t i->i<=x/\x<i+t.sz
 |.nm _,_,_,h=>by simp[idx]at h
 |.lf _ _,_,_,h=>by simp[idx]at h
 |.bd _,_,_,h=>by simp[idx]at h
 |.fn _ b,i,x,h=>by
  simp only[idx,List.mem_cons]at h
  simp only[Tm.sz]
  rcases h with rfl|h
  ·omega
  ·have:=q5n b (i+1) x h;omega
 |.ap f a,i,x,h=>by
  simp only[idx,List.mem_append]at h
  simp only[Tm.sz]
  rcases h with h|h
  ·have:=q5n f _ x h;omega
  ·have:=q5n a _ x h;omega
theorem q7w:∀(t:Tm)(i:Nat),(idx t i).Nodup
 |.nm _,_=>by simp[idx]
 |.lf _ _,_=>by simp[idx]
 |.bd _,_=>by simp[idx]
 |.fn _ b,i=>by
  simp only[idx,List.nodup_cons]
  exact⟨fun h=>by have:=q5n b _ _ h;omega,q7w b _⟩
 |.ap f a,i=>by
  simp only[idx,List.nodup_append]
  exact⟨q7w f _,q7w a _,fun x hx y hy e=>by have:=q5n f _ _ hx;have:=q5n a _ _ hy;omega⟩
theorem z0c:∀(t:Tm)(i:Nat),(idx t i).length<=t.sz
 |.nm _,_=>by simp[idx]
 |.lf _ _,_=>by simp[idx]
 |.bd _,_=>by simp[idx]
 |.fn _ b,i=>by have:=z0c b (i+1);simp only[idx,List.length_cons,Tm.sz];omega
 |.ap f a,i=>by have:=z0c f (i+1);have:=z0c a (i+1+f.sz);simp only[idx,List.length_append,Tm.sz];omega
theorem x1a{fs:List Nat}{k x:Nat}(h:own fs k=some x):x∈fs:=by
 unfold own at h
 split at h
 ·exact List.mem_of_getElem? h
 ·cases h
theorem z2v:∀(t:Tm)(fs:List Nat)(i x:Nat),some x∈ow t fs i->x∈fs\/x∈idx t i
 |.nm _,_,_,_,h=>by simp[ow]at h
 |.lf _ _,_,_,_,h=>by simp[ow]at h
 |.bd k,fs,i,x,h=>by
  simp only[ow,List.mem_singleton]at h
  exact .inl (x1a h.symm)
 |.fn _ b,fs,i,x,h=>by
  have:=z2v b _ _ x h
  simp only[List.mem_append,idx,List.mem_cons,List.not_mem_nil,or_false]at this ⊢
  rcases this with(h|h)|h
  ·exact .inl h
  ·exact .inr (.inl h)
  ·exact .inr (.inr h)
 |.ap f a,fs,i,x,h=>by
  simp only[ow,List.mem_append]at h
  simp only[idx,List.mem_append]
  rcases h with h|h
  ·rcases z2v f _ _ x h with h|h
   ·exact .inl h
   ·exact .inr (.inl h)
  ·rcases z2v a _ _ x h with h|h
   ·exact .inl h
   ·exact .inr (.inr h)
def cnt(t:Tm)(fs:List Nat)(i x:Nat):Int:=(((ow t fs i).count (some x):Nat):Int)
def gI(g:Nat->Int)(Ls:List Nat):List PV:=Ls.map fun x=>PV.int (g x)
theorem z6c(xs:List PV)(k:Nat)(h:k<xs.length):atI xs (-1-(k:Int))=xs[xs.length-1-k]?:=by
 unfold atI ixN
 rw[if_neg (by omega),if_pos (by omega)]
 rw[Option.bind_some]
 congr 1
 omega
theorem z7i(n j:Nat)(h:j<n):ixN n (j:Int)=some j:=by
 unfold ixN
 rw[if_pos (by omega),if_pos (by omega)]
 simp
theorem y0d{Ls:List Nat}{g:Nat->Int}{j x:Nat}(nd:Ls.Nodup)(hj:Ls[j]?=some x):(gI g Ls).set j (.int (g x+1))=gI (fun y=>g y+(([some x].count (some y):Nat):Int)) Ls:=by
 obtain⟨hl,hx⟩:=List.getElem?_eq_some_iff.mp hj
 apply List.ext_getElem
 ·simp[gI]
 ·intro n h1 h2
  simp only[gI,List.length_set,List.length_map]at h1
  rw[List.getElem_set]
  simp only[gI,List.getElem_map]
  by_cases e:j=n
  ·subst e
   rw[if_pos rfl,hx];simp
  ·rw[if_neg e]
   have:Ls[n]≠x:=fun z=>e ((List.getElem_inj nd).mp (hx.trans z.symm))
   rw[List.count_singleton]
   have:(some x==some Ls[n])=false:=by simp;exact fun z=>this z.symm
   rw[this];simp
theorem tgN{i:Nat}{s z:Str}{xs:List PV}{t W:WS}{D:PEnds}{E:EK}{σ:Ev.Loc}{S:q0h}(hσ:σ[i]?=some (some (.tup (.str s::xs))))(h:(s=z)=False)(k:W D E σ S):wSeq (wIfS (q0y (wBin cEq (wBin bIx (wVar i) (wC (.int 0))) (wC (.str z)))) t q1g) W D E σ S:=by
 dsimp![wSeq,hσ,q0w,h]
 exact k
theorem tgY{i:Nat}{z:Str}{xs:List PV}{t W:WS}{D:PEnds}{E:EK}{σ:Ev.Loc}{S:q0h}(hσ:σ[i]?=some (some (.tup (.str z::xs))))(k:t {D with nx:=fun σ S=>W D E σ S} E σ S):wSeq (wIfS (q0y (wBin cEq (wBin bIx (wVar i) (wC (.int 0))) (wC (.str z)))) t q1g) W D E σ S:=by
 dsimp![wSeq,hσ,q0w]
 exact k
theorem tnN{i:Nat}{s z:Str}{xs:List PV}{t u:WS}{D:PEnds}{E:EK}{σ:Ev.Loc}{S:q0h}(hσ:σ[i]?=some (some (.tup (.str s::xs))))(h:(s=z)=False)(k:u D E σ S):wIfS (q0y (wBin cEq (wBin bIx (wVar i) (wC (.int 0))) (wC (.str z)))) t u D E σ S:=by
 dsimp![hσ,q0w,h]
 exact k
theorem tnY{i:Nat}{z:Str}{xs:List PV}{t u:WS}{D:PEnds}{E:EK}{σ:Ev.Loc}{S:q0h}(hσ:σ[i]?=some (some (.tup (.str z::xs))))(k:t D E σ S):wIfS (q0y (wBin cEq (wBin bIx (wVar i) (wC (.int 0))) (wC (.str z)))) t u D E σ S:=by
 dsimp![hσ,q0w]
 exact k
theorem ifA{c:WT}{t u:WS}{D:PEnds}{E:EK}{σ:Ev.Loc}{S:q0h}(h:∀A:WS,wIfS c A u D E σ S):wIfS c t u D E σ S:=h t
theorem ifAB{c d:WT}{t u v:WS}{D:PEnds}{E:EK}{σ:Ev.Loc}{S:q0h}(h:∀A B:WS,wIfS c A (wIfS d B v) D E σ S):wIfS c t (wIfS d u v) D E σ S:=h t u
theorem z2r{sp:Den}{s:Str}{xs:List PV}{p q:Nat}{S:q0h}{E:EK}{Q:VC}(h1:(s=Str.ofString "bound")=False)(h2:(s=Str.ofString "fn")=False)(h3:(s=Str.ofString "of")=False)(h:Q (.bl true) S):fnP 3 4 (q2g sp) [.tup (.str s::xs),.ref p,.ref q] S E Q:=by
 refine⟨rfl,?_⟩
 unfold q2g
 refine seqI fun K hK=>ifAB fun A B=>?_
 dsimp![q0w,h1]
 refine hK _ _ ?_
 refine seqI fun K hK=>ifA fun A=>?_
 dsimp![q0w,h2]
 refine hK _ _ ?_
 refine seqI fun K hK=>ifA fun A=>?_
 dsimp![q0w,h3]
 refine hK _ _ ?_
 dsimp![true_and]
 exact h
theorem y9m{T:Nat->Den}(hT:∀n,T (n+1)=fnP 3 4 (q2g (T n)))(q:Nat):∀(t:Tm)(n:Nat),t.dp<n->∀(i:Nat)(fs ar Ls:List Nat)(g:Nat->Int)(p:Nat)(S:q0h)(E:EK)(Q:VC),
  S[p]?=some (.lst (encI ar))->S[q]?=some (.lst (gI g Ls))->p≠q->Ls.Nodup->(∀x∈Ls,x<i)->ar.map (fun j=>Ls[j]?)=fs.map some->fs.length+t.sz<=1000->Ls.length+t.sz<=1000->(∀x,i<=x->g x=0)->
  (∀S',S'[q]?=some (.lst (gI (fun x=>g x+cnt t fs i x) (Ls++idx t i)))->Ex [q] S S'->Q (.bl (!decide (none∈ow t fs i))) S')->T n [t.pv,.ref p,.ref q] S E Q:=by
 intro t
 induction t with
 |nm w=>
  intro n hn i fs ar Ls g p S E Q hp hq ne nd hL hf z1 z2 h0 h
  obtain⟨m,rfl⟩:∃m,n=m+1:=⟨n-1,by omega⟩
  rw[hT]
  refine z2r (tg3) (tg1) (tg2) ?_
  have:=h S (by rw[hq];simp[cnt,ow,idx]) (Ex.refl _ _)
  simpa[ow]using this
 |lf a b=>
  intro n hn i fs ar Ls g p S E Q hp hq ne nd hL hf z1 z2 h0 h
  obtain⟨m,rfl⟩:∃m,n=m+1:=⟨n-1,by omega⟩
  rw[hT]
  refine z2r (tg6) (tg4) (tg5) ?_
  have:=h S (by rw[hq];simp[cnt,ow,idx]) (Ex.refl _ _)
  simpa[ow]using this
 |bd k=>
  intro n hn i fs ar Ls g p S E Q hp hq ne nd hL hf z1 z2 h0 h
  obtain⟨m,rfl⟩:∃m,n=m+1:=⟨n-1,by omega⟩
  rw[hT]
  refine⟨rfl,?_⟩
  unfold q2g
  have hlf:ar.length=fs.length:=by have:=congrArg List.length hf;simpa using this
  have hla:(encI ar).length=ar.length:=by simp[encI]
  refine seqI fun K hK=>?_
  dsimp![Tm.pv,q0w,q6g,q0v hp,hla]
  by_cases c:k<ar.length
  ·rw[if_pos (by omega)]
   have e1:=z6c (encI ar) k (by omega)
   rw[hla]at e1
   have e2:(encI ar)[ar.length-1-k]?=some (.int ((ar[ar.length-1-k]'(by omega):Nat):Int)):=by
    unfold encI;rw[List.getElem?_map,List.getElem?_eq_getElem (by omega)];rfl
   rw[e2]at e1
   generalize hj:ar[ar.length-1-k]'(by omega)=j at e1 e2
   have hown:own fs k=Ls[j]?:=by
    unfold own
    rw[if_pos (by omega),<-hj]
    have:=congrArg (fun l=>l[ar.length-1-k]?) hf
    simp only[List.getElem?_map]at this
    rw[List.getElem?_eq_getElem (by omega),Option.map_some]at this
    rw[<-hlf]
    have h3:fs[ar.length-1-k]?=some (fs[ar.length-1-k]'(by omega)):=List.getElem?_eq_getElem (by omega)
    rw[h3]at this ⊢
    simpa using this.symm
   obtain⟨x,hx⟩:∃x,Ls[j]?=some x:=by
    have h3:own fs k=some (fs[fs.length-1-k]'(by omega)):=by
     unfold own;rw[if_pos (by omega)];exact List.getElem?_eq_getElem (by omega)
    exact⟨_,hown.symm.trans h3⟩
   obtain⟨hjl,hjx⟩:=List.getElem?_eq_some_iff.mp hx
   have e3:atI (gI g Ls) (j:Int)=some (.int (g x)):=by
    rw[q4a _ j (by simp[gI];exact hjl)];simp[gI,hjx]
   have hlg:(gI g Ls).length=Ls.length:=by simp[gI]
   dsimp![hp,hq,e1,e3,z7i _ j (hlg▸hjl)]
   refine hK _ _ ?_
   rw[y0d nd hx]
   have g1:=q1u (.lst (gI (fun y=>g y+(([some x].count (some y):Nat):Int)) Ls)) hq
   refine seqI fun K hK=>ifA fun A=>?_
   dsimp![q0w,tg7]
   refine hK _ _ ?_
   refine seqI fun K hK=>ifA fun A=>?_
   dsimp![q0w,tg8]
   refine hK _ _ ?_
   dsimp![true_and]
   have:=h _ (by rw[g1];simp only[cnt,ow,idx,hown,hx,List.append_nil]) ((Ex.refl _ _).set (.inl (by simp)))
   simp only[ow,hown,hx]at this
   simpa using this
  ·rw[if_neg (by omega)]
   have hown:own fs k=none:=by unfold own;rw[if_neg (by omega)]
   have:=h S (by rw[hq];simp[cnt,ow,idx,hown]) (Ex.refl _ _)
   simp only[ow,hown]at this
   simpa using this
 |fn kk b ih=>
  intro n hn i fs ar Ls g p S E Q hp hq ne nd hL hf z1 z2 h0 h
  obtain⟨m,rfl⟩:∃m,n=m+1:=⟨n-1,by omega⟩
  rw[hT]
  refine⟨rfl,?_⟩
  unfold q2g
  simp only[Tm.dp]at hn
  simp only[Tm.sz]at z1 z2
  have hla:(encI ar).length=ar.length:=by simp[encI]
  have hlf:ar.length=fs.length:=by have:=congrArg List.length hf;simpa using this
  have hlg:(gI g Ls).length=Ls.length:=by simp[gI]
  refine seqI fun K hK=>ifAB fun A B=>?_
  dsimp![Tm.pv,q0w,tga]
  refine hK _ _ ?_
  refine seqI fun K hK=>?_
  dsimp![q0w]
  refine seqI fun K2 hK2=>?_
  dsimp![hq,q1m hq]
  refine⟨by rw[hlg];exact bigl (by omega),hK2 _ _ ?_⟩
  have g0:gI g Ls++[PV.int 0]=gI g (Ls++[i]):=by simp[gI,h0 i (Nat.le_refl _)]
  rw[g0]
  have g1:=q1u (.lst (gI g (Ls++[i]))) hq
  have g2:=q3n (j:=q) (.lst (gI g (Ls++[i]))) hp (Ne.symm ne)
  have hlg2:(gI g (Ls++[i])).length=Ls.length+1:=by simp[gI]
  generalize hS2:S.set q (.lst (gI g (Ls++[i])))=S2 at g1 g2 ⊢
  have hx2:Ex [q] S S2:=by rw[<-hS2];exact(Ex.refl _ _).set (.inl (by simp))
  have g3:=q2p g2 [SO.lst [PV.int (((Ls.length+1:Nat):Int)-1)]]
  have g4:=q1h S2 (SO.lst [PV.int (((Ls.length+1:Nat):Int)-1)])
  dsimp![q8a,q0v g1,hlg2]
  refine⟨big (by decide),?_⟩
  dsimp![q1m g3,q1m g4,hla]
  refine⟨big (by omega),?_⟩
  have ql:q<S2.length:=q1j g1
  have e5:encI ar++[PV.int (((Ls.length+1:Nat):Int)-1)]=encI (ar++[Ls.length]):=by
   simp only[encI,List.map_append,List.map_cons,List.map_nil]
   rw[show((Ls.length+1:Nat):Int)-1=(Ls.length:Int) by omega]
  rw[e5]
  refine ih m (by omega) (i+1) (fs++[i]) (ar++[Ls.length]) (Ls++[i]) g _ _ _ _ (q1h _ _) (q2p (q2p g1 _) _) (by simp;omega) ?_ ?_ ?_ ?_ ?_ (fun x hx=>h0 x (by omega)) fun S' k1 k2=>?_
  ·rw[List.nodup_append];exact⟨nd,by simp,fun a ha b hb e=>by simp at hb;subst hb;have:=hL a ha;omega⟩
  ·intro x hx;rcases List.mem_append.mp hx with z|z
   ·have:=hL x z;omega
   ·simp at z;omega
  ·rw[List.map_append,List.map_append,<-hf]
   congr 1
   ·apply List.map_congr_left
    intro j hj
    have:∃y,Ls[j]?=some y:=by
     have h3:Ls[j]?∈fs.map some:=by rw[<-hf];exact List.mem_map.mpr ⟨j,hj,rfl⟩
     obtain⟨y,_,hy⟩:=List.mem_map.mp h3
     exact⟨y,hy.symm⟩
    obtain⟨y,hy⟩:=this
    rw[hy,List.getElem?_append_left (List.getElem?_eq_some_iff.mp hy).1,hy]
   ·simp
  ·simp;omega
  ·simp;omega
  ·refine h S' ?_ ((hx2.app _).app _ |>.trans k2)
   rw[k1]
   simp only[idx,List.append_assoc,List.singleton_append]
   rfl
 |ap f a ihf iha=>
  intro n hn i fs ar Ls g p S E Q hp hq ne nd hL hf z1 z2 h0 h
  obtain⟨m,rfl⟩:∃m,n=m+1:=⟨n-1,by omega⟩
  rw[hT]
  refine⟨rfl,?_⟩
  unfold q2g
  simp only[Tm.dp]at hn
  simp only[Tm.sz]at z1 z2
  refine seqI fun K hK=>ifAB fun A B=>?_
  dsimp![Tm.pv,q0w,tgc]
  refine hK _ _ ?_
  refine seqI fun K hK=>ifA fun A=>?_
  dsimp![q0w,tgb]
  refine hK _ _ ?_
  refine seqI fun K hK=>?_
  dsimp![q0w]
  refine seqI fun K2 hK2=>?_
  dsimp![q6g]
  have hfL:∀x∈fs,x∈Ls:=fun x hx=>by
   have h3:some x∈ar.map (fun j=>Ls[j]?):=by rw[hf];exact List.mem_map.mpr ⟨x,hx,rfl⟩
   obtain⟨j,_,hj⟩:=List.mem_map.mp h3
   exact List.mem_of_getElem? hj
  have hil:=z0c f (i+1)
  refine ihf m (by omega) (i+1) fs ar Ls g p _ _ _ hp hq ne nd (fun x hx=>Nat.lt_succ_of_lt (hL x hx)) hf (by omega) (by omega) (fun x hx=>h0 x (by omega)) fun S1 k1 k2=>hK2 _ _ ?_
  dsimp![q8a]
  refine iha m (by omega) (i+1+f.sz) fs ar (Ls++idx f (i+1)) _ p _ _ _ (k2.get hp (by simp;exact ne)) k1 ne ?_ ?_ ?_ (by omega) (by rw[List.length_append];omega) ?_ fun S2 r1 r2=>?_
  ·rw[List.nodup_append];exact⟨nd,q7w _ _,fun x hx y hy e=>by have:=hL x hx;have:=q5n f _ _ hy;omega⟩
  ·intro x hx;rcases List.mem_append.mp hx with z|z
   ·have:=hL x z;omega
   ·have:=q5n f _ _ z;omega
  ·rw[<-hf]
   apply List.map_congr_left
   intro j hj
   have:∃y,Ls[j]?=some y:=by
    have h3:Ls[j]?∈fs.map some:=by rw[<-hf];exact List.mem_map.mpr ⟨j,hj,rfl⟩
    obtain⟨y,_,hy⟩:=List.mem_map.mp h3
    exact⟨y,hy.symm⟩
   obtain⟨y,hy⟩:=this
   rw[hy,List.getElem?_append_left (List.getElem?_eq_some_iff.mp hy).1,hy]
  ·intro x hx
   have:(ow f fs (i+1)).count (some x)=0:=by
    rw[List.count_eq_zero]
    intro z
    rcases z2v f _ _ x z with z|z
    ·have:=hL x (hfL x z);omega
    ·have:=q5n f _ _ z;omega
   simp only[cnt,this,h0 x (by omega)];simp
  ·have:=h S2 (by
    rw [r1]
    simp only [idx,List.append_assoc,cnt,ow,List.count_append]
    congr 3
    funext x
    simp only [Int.natCast_add];omega) (k2.trans r2)
   simp only[ow,List.mem_append,Bool.decide_or,Bool.not_or]at this
   dsimp![true_and]
   by_cases c:none∈ow a fs (i+1+f.sz)
   ·rw[if_neg (fun z=>z c)]
    rw[decide_eq_true c,Bool.not_true,Bool.and_false]at this
    exact this
   ·rw[if_pos c]
    rw[decide_eq_false c,Bool.not_false,Bool.and_true]at this
    exact this
theorem z9v{n m:Int}(h:spl n 8=spl m 8)(h1:0<n-m)(h2:n-m<=640):False:=by
 simp only[spl,List.cons.injEq]at h
 obtain⟨a,b,-⟩:=h
 have a':n % 26=m % 26:=by have:=Int.emod_nonneg n (show(26:Int)≠0 by decide);have:=Int.emod_nonneg m (show(26:Int)≠0 by decide);omega
 have b':n / 26 % 26=m / 26 % 26:=by have:=Int.emod_nonneg (n / 26) (show(26:Int)≠0 by decide);have:=Int.emod_nonneg (m / 26) (show(26:Int)≠0 by decide);omega
 clear a b
 omega
theorem y0f(n:Int)(F:List Str)(hF:F.length<=80):∃j:Nat,j<=80/\mk (spl (n+8*j) 8)∉F:=by
 refine Classical.byContradiction fun hc=>?_
 have hall:∀j:Nat,j<=80->mk (spl (n+8*j) 8)∈F:=fun j hj=>Classical.byContradiction fun hz=>hc ⟨j,hj,hz⟩
 have nd:((List.range 81).map fun j:Nat=>mk (spl (n+8*j) 8)).Nodup:=by
  refine List.pairwise_map.mpr (List.Pairwise.imp_of_mem ?_ (List.nodup_range (n:=81)))
  intro a b ha hb hab e
  have e:=x6h e
  rw[List.mem_range]at ha hb
  refine hab ?_
  rcases Nat.lt_trichotomy a b with z|z|z
  ·exact(z9v e.symm (by omega) (by omega)).elim
  ·exact z
  ·exact(z9v e (by omega) (by omega)).elim
 have:=z6y nd (F:=F) fun x hx=>by
  obtain⟨j,hj,rfl⟩:=List.mem_map.mp hx
  rw[List.mem_range]at hj
  exact hall j (by omega)
 rw[List.length_map,List.length_range]at this
 omega
theorem z8x(ws:List Str)(num:Int)(k:Nat)(h:ws.length<=79):∃i:Nat,z4n ws num k (i+1):=by
 have h1:∃r:Nat,r<8/\szn k (r+1)=8:=⟨(15-(k-1) % 8-1) % 8,by omega,by unfold szn;omega⟩
 obtain⟨r,hr,hs⟩:=h1
 obtain⟨j,hj,hf⟩:=y0f (num+((r+1:Nat):Int)) (sAny::ws) (by simp;omega)
 refine⟨r+8*j,?_⟩
 have e1:szn k (r+8*j+1)=8:=by unfold szn at hs ⊢;omega
 have e2:num+((r+8*j+1:Nat):Int)=num+((r+1:Nat):Int)+8*j:=by omega
 unfold z4n Bad
 rw[e1,e2]
 rintro(z|z)
 ·exact hf (List.mem_cons_of_mem _ z)
 ·exact hf (by rw[z];exact List.mem_cons_self)
def y3p(sp:Den):Prop:=∀(d c n:Nat)(ws:List Str)(S:q0h)(E:EK)(Q:VC),Deck d c S->S[n]?=some (.lst (ws.map PV.str))->ws.length<=79->(∀w∈ws,q7r w=true)->n≠d->n≠c->
 (∀w S',q7r w=true->w∉ws->w≠sAny->Deck d c S'->Ex [d,c] S S'->Q (.str w) S')->sp [.ref d,.ref n] S E Q
theorem y3u{spn sps:Den}(hn:z0p spn)(hs:z2m sps):y3p (fnP 2 7 (q4y spn sps)):=by
 intro d c n ws S E Q hd hw hl hna nd nc h
 refine⟨rfl,?_⟩
 unfold q4y
 refine seqI fun K hK=>?_
 dsimp![true_and]
 refine hn d c _ _ _ hd fun way S1 w0 w1 hd1 hx1=>hK _ _ ?_
 refine seqI fun K hK=>?_
 dsimp![true_and]
 refine hn d c _ _ _ hd1 fun num S2 n0 n1 hd2 hx2=>hK _ _ ?_
 have hx12:=hx1.trans hx2
 have hw2:S2[n]?=some (.lst (ws.map PV.str)):=hx12.get hw (by simp;exact⟨nd,nc⟩)
 obtain⟨k,hk,hk1,hk8⟩:∃k:Nat,1+way % 8=(k:Int)/\1<=k/\k<=8:=⟨(1+way % 8).toNat,by omega,by omega,by omega⟩
 refine seqI fun K hK=>?_
 dsimp![true_and]
 refine⟨by decide,hK _ _ ?_⟩
 rw[hk]
 refine seqI fun K hK=>?_
 dsimp![true_and]
 refine hs num k _ _ _ hk8 (hK _ _ ?_)
 have spn1:q7r (mk (spl num k))=true:=z1y (by rw[q7f];exact hk1) (by rw[q7f];exact hk8) (z1o _ _)
 have rest:∀(w:Str)(S':q0h)(j:Option PV),q7r w=true->Ex [] S2 S'->wSeq (z0r (wOr (q0y (wBin cIn (wVar 5) (wVar 1))) (q0y (wBin cEq (wVar 5) (wC (.str "any"))))) (wSeq (wSet 3 (wBin bAdd (wVar 3) (wC (.int 1))))
   (wSeq (wSet 4 (wBin bAdd (wBin bMod (wVar 4) (wC (.int 8))) (wC (.int 1))))
   (wSet 5 (q0t sps (q0d (wVar 3) (q0d (wVar 4) wNil)))))))
   (wRet (wVar 5)) {nx:=fun _ S'=>Q .non S',rt:=Q} E [some (.ref d),some (.ref n),some (.int way),some (.int num),some (.int (k:Nat)),some (.str w),j] S':=by
  intro w S' j hwn hx'
  refine seqI fun K hK=>?_
  obtain⟨i0,hi0⟩:=z8x ws num k hl
  refine z9k (fun m σ S3=>∃(nu:Int)(kk:Nat)(ww:Str),σ=[some (.ref d),some (.ref n),some (.int way),some (.int nu),some (.int (kk:Nat)),some (.str ww),j]/\S3=S'/\1<=kk/\kk<=8/\q7r ww=true/\((m=0/\¬Bad ws ww)\/∃i,m=i+1/\z4n ws nu kk (i+1))) (i0+1) ⟨num,k,w,rfl,rfl,hk1,hk8,hwn,.inr ⟨i0,rfl,hi0⟩⟩ ?_
  rintro m σ S3 ⟨nu,kk,ww,rfl,rfl,k1,k8,nw,hm⟩ T F hT hF
  have hw3:=hx'.get hw2 (by simp)
  dsimp![q0v hw3,x8d]
  refine⟨q8d ws,?_⟩
  have bad:Bad ws ww->T [some (.ref d),some (.ref n),some (.int way),some (.int nu),some (.int (kk:Nat)),some (.str ww),j] S3:=fun hb=>by
   obtain⟨i,rfl,hg⟩:∃i,m=i+1/\z4n ws nu kk (i+1):=by
    rcases hm with⟨_,z⟩|z
    ·exact absurd hb z
    ·exact z
   refine hT _ fun N hN=>?_
   refine seqI fun K2 hK2=>?_
   dsimp![true_and]
   refine hK2 _ _ ?_
   refine seqI fun K2 hK2=>?_
   dsimp![true_and]
   refine⟨by decide,hK2 _ _ ?_⟩
   have ek:((kk:Nat):Int) % 8+1=((szn kk 1:Nat):Int):=by unfold szn;omega
   have hz1:1<=szn kk 1:=by unfold szn;omega
   have hz8:szn kk 1<=8:=by unfold szn;omega
   rw[ek]
   dsimp![true_and]
   refine hs (nu+1) (szn kk 1) _ _ _ hz8 ?_
   refine hN i _ _ (by omega) ⟨nu+1,szn kk 1,mk (spl (nu+1) (szn kk 1)),rfl,rfl,hz1,hz8,z1y (by rw[q7f];exact hz1) (by rw[q7f];exact hz8) (z1o _ _),?_⟩
   cases i with
   |zero=>exact .inl ⟨rfl,hg⟩
   |succ i=>
    refine .inr ⟨i,rfl,?_⟩
    unfold z4n at hg ⊢
    rw[y4p,show nu+1+((i+1:Nat):Int)=nu+((i+1+1:Nat):Int) by omega]
    exact hg
  refine ite2 (fun z=>bad (.inl z)) (fun z=>ite2 (fun z2=>bad (.inr z2)) (fun z2=>?_))
  refine hF _ (hK _ _ ?_)
  dsimp![true_and]
  have hx3:Ex [d,c] S S3:=hx12.trans hx'.nil
  exact h ww S3 nw z z2 (hd2.ex hx' (by simp) (by simp)) hx3
 refine seqI fun K hK=>?_
 have g1:=q2p hw2 [SO.lst []]
 have hx3:Ex [] S2 (S2++[SO.lst []]):=Ex.new _ _ _
 dsimp![q0v g1,y6u]
 refine⟨big (by decide),q8d ws,ite2 (fun z=>?_) (fun z=>hK _ _ (rest _ _ _ spn1 hx3))⟩
 refine⟨by decide,by decide,ite2 (fun z2=>?_) (fun z2=>hK _ _ (rest _ _ _ spn1 hx3))⟩
 obtain⟨v,vs,rfl⟩:∃v vs,ws=v::vs:=by
  cases ws with
  |nil=>simp at z
  |cons a b=>exact⟨a,b,rfl⟩
 have hv:=y1h (hna v (by simp))
 simp only[List.map_cons]at g1
 refine seqI fun K2 hK2=>?_
 dsimp![g1,q0w]
 refine⟨⟨by decide,by decide⟩,big (by omega),by omega,hK2 _ _ ?_⟩
 obtain⟨at',hat,hat1⟩:∃a:Nat,way / 16 % (v.length:Int)=(a:Int)/\a<v.length:=⟨(way / 16 % (v.length:Int)).toNat,by have:=Int.emod_nonneg (way / 16) (show(v.length:Int)≠0 by omega);omega,by have:=Int.emod_lt_of_pos (way / 16) (show(0:Int)<v.length by omega);have:=Int.emod_nonneg (way / 16) (show(v.length:Int)≠0 by omega);omega⟩
 rw[hat]
 obtain⟨c0,cs,hc0⟩:∃c0 cs,spl num k=c0::cs:=by
  obtain⟨k',rfl⟩:∃k',k=k'+1:=⟨k-1,by omega⟩
  exact⟨_,_,rfl⟩
 have hc0':atI (mk (spl num k)).cps.toList 0=some c0:=by
  rw[q6a,hc0]
  unfold atI
  rw[List.length_cons,q7v]
  rfl
 have hcl:isL c0=true:=by
  have:=z1o k num
  rw[hc0,List.all_cons,Bool.and_eq_true]at this
  exact this.1
 dsimp![g1,q0w,hc0']
 rw[show((at':Nat):Int)+1=((at'+1:Nat):Int) by omega,y9t v at' (by omega),y9w v (at'+1) (by omega),y8q]
 have hvl:=z7d v
 refine⟨big (by omega),big (by rw[q8m,q7f];omega),big (by rw[q8m,q8m];simp;omega),big (by omega),?_⟩
 rw[y1k,y1k,q8m,q8m]
 refine⟨big (by simp only[List.length_append,List.length_take,List.length_drop,List.length_singleton];omega),hK _ _ (rest _ _ _ ?_ hx3)⟩
 refine z1y ?_ ?_ ?_
 ·simp only[List.length_append,List.length_take,List.length_drop,List.length_singleton];omega
 ·simp only[List.length_append,List.length_take,List.length_drop,List.length_singleton];omega
 ·simp only[List.all_append,y7o _ hv.2.2,y7p _ hv.2.2,List.all_cons,List.all_nil,hcl,Bool.and_self]
def z2l(sp:Den):Prop:=∀(d c m:Nat)(S:q0h)(E:EK)(Q:VC),Deck d c S->m<=79->
 (∀(n:Nat)(ws:List Str) S',S'[n]?=some (.lst (ws.map PV.str))->ws.length=m->(∀w∈ws,q7r w=true)->ws.Nodup->S.length<=n->Deck d c S'->Ex [d,c] S S'->Q (.ref n) S')->sp [.ref d,.int m] S E Q
theorem z9i{spw:Den}(hw:y3p spw):z2l (fnP 2 4 (q4j spw)):=by
 intro d c m S E Q hd hm h
 refine⟨rfl,?_⟩
 unfold q4j
 refine seqI fun K hK=>?_
 dsimp![true_and]
 refine⟨big (by decide),hK _ _ ?_⟩
 refine seqI fun K hK=>?_
 dsimp![true_and]
 refine⟨⟨by omega,by omega⟩,?_⟩
 rw[Int.toNat_natCast]
 have hdl:d<S.length:=by obtain⟨⟨_,_,_,_,_,_,g,_⟩,_⟩:=hd;exact q1j g
 have hcl:c<S.length:=by obtain⟨⟨_,_,_,_,_,_,_,g,_⟩,_⟩:=hd;exact q1j g
 refine forI (fun rest σ S1=>∃(ws:List Str)(j:Option PV),σ=[some (.ref d),some (.int m),some (.ref S.length),j]/\S1[S.length]?=some (.lst (ws.map PV.str))/\ws.length+rest.length=m/\(∀w∈ws,q7r w=true)/\ws.Nodup/\Deck d c S1/\Ex [d,c] S S1) ?_ ?_ _ _ _ ⟨[],none,rfl,q1h _ _,by rw[q9j];simp,by simp,by simp,hd.ex (Ex.new [] _ _) (by simp) (by simp),Ex.new _ _ _⟩
 ·rintro σ S1 ⟨ws,j,rfl,hs,hl,hn,hnd,hd1,hx⟩
  refine⟨trivial,hK _ _ ?_⟩
  dsimp![true_and]
  exact h _ ws _ hs (by simpa using hl) hn hnd (Nat.le_refl _) hd1 hx
 ·rintro x r σ S1 ⟨ws,j,rfl,hs,hl,hn,hnd,hd1,hx⟩ N hN
  rw[List.length_cons]at hl
  refine⟨trivial,?_⟩
  dsimp![hs]
  refine hw d c S.length ws _ _ _ hd1 hs (by omega) hn (by omega) (by omega) fun w S2 nw nin _ hd2 hx2=>?_
  have hs2:S2[S.length]?=some (.lst (ws.map PV.str)):=hx2.get hs (by simp;omega)
  dsimp![q1m hs2]
  refine⟨by rw[List.length_map];exact bigl (by omega),hN _ _ ⟨ws++[w],_,rfl,?_,?_,?_,?_,hd2.ex (D:=[S.length]) ((Ex.refl _ _).set (.inl (by simp))) (by simp;omega) (by simp;omega),(hx.trans hx2).set (.inr (Nat.le_refl _))⟩⟩
  ·rw[q1u _ hs2];simp
  ·simp;omega
  ·intro y hy
   rcases List.mem_append.mp hy with z|z
   ·exact hn y z
   ·simp at z;subst z;exact nw
  ·rw[List.nodup_append]
   exact⟨hnd,by simp,fun x hx y hy e=>by simp at hy;subst hy;subst e;exact nin hx⟩
mutual
def q4g:PV->Bool
 |.str _=>true
 |.int _=>true
 |.tup xs=>q7g xs&&decide (xs.length<=10)
 |_=>false
def q7g:List PV->Bool
 |[]=>true
 |x::xs=>q4g x&&q7g xs
end
theorem q9a:∀k:Kd,q4g k.pv=true
 |.a s=>by simp only[Kd.pv,q4g]
 |.p f t=>by simp only[Kd.pv,q4g,q7g,List.length_cons,List.length_nil,Nat.reduceAdd,Nat.reduceLeDiff,decide_true,Bool.and_true,q9a f,q9a t,Bool.and_self]
def Tm.gd:Tm->Nat->Prop
 |.nm _,_=>True
 |.lf _ f,_=>q4g f=true/\dep f<=30
 |.bd k,n=>k<n
 |.fn k t,n=>(q4g k=true/\dep k<=30)/\t.gd (n+1)
 |.ap f a,n=>f.gd n/\a.gd n
def y7v(b m d:Nat)(u:Int):List (Key×PV):=[(.inr (Str.ofString "basics"),.ref b),(.inr (Str.ofString "names"),.ref m),(.inr (Str.ofString "deck"),.ref d),(.inr (Str.ofString "uses"),.int u),(.inr (Str.ofString "leaves"),.bl true)]
def encN(p:Str×Kd):PV:=.tup [.str p.1,p.2.pv]
structure Wd(w b m d c N:Nat)(S:q0h):Prop where
 dk:Deck d c S
 wd:∃u,S[w]?=some (.dK (y7v b m d u))
 bs:∃ws:List Str,S[b]?=some (.lst (ws.map PV.str))/\ws≠[]
 nm:∃ps:List (Str×Kd),S[m]?=some (.lst (ps.map encN))/\ps.length<=N/\∀p∈ps,q7r p.1=true/\p.2.dp<=20
 ne:(w≠d/\w≠c)/\(b≠d/\b≠c)/\(m≠d/\m≠c)/\w≠m/\b≠m
theorem Wd.ex{w b m d c N:Nat}{S S':q0h}(h:Wd w b m d c N S){D:List Nat}(e:Ex D S S')(hw:w∉D)(hb:b∉D)(hm:m∉D)(hd:d∉D)(hc:c∉D):Wd w b m d c N S':=by
 obtain⟨dk,⟨u,wd⟩,⟨ws,b1,b2⟩,⟨ps,p1,p2⟩,ne⟩:=h
 exact⟨dk.ex e hd hc,⟨u,e.get wd hw⟩,⟨ws,e.get b1 hb,b2⟩,⟨ps,e.get p1 hm,p2⟩,ne⟩
theorem Wd.nx{w b m d c N:Nat}{S S':q0h}(h:Wd w b m d c N S)(hd:Deck d c S')(e:Ex [d,c] S S'):Wd w b m d c N S':=by
 obtain⟨dk,⟨u,wd⟩,⟨ws,b1,b2⟩,⟨ps,p1,p2⟩,ne⟩:=h
 exact⟨hd,⟨u,e.get wd (by simp;exact ne.1)⟩,⟨ws,e.get b1 (by simp;exact ne.2.1),b2⟩,⟨ps,e.get p1 (by simp;exact ne.2.2.1),p2⟩,ne⟩
theorem Wd.le{w b m d c N N':Nat}{S:q0h}(h:Wd w b m d c N S)(l:N<=N'):Wd w b m d c N' S:=by
 obtain⟨dk,wd,bs,⟨ps,p1,p2,p3⟩,ne⟩:=h
 exact⟨dk,wd,bs,⟨ps,p1,Nat.le_trans p2 l,p3⟩,ne⟩
structure Ar(w b m d c a:Nat)(rs:List Nat)(S:q0h):Prop where
 at':S[a]?=some (.lst (rs.map PV.ref))
 rw':∀r∈rs,∃(k:Kd)(u:Int),S[r]?=some (.lst [k.pv,.int u])/\k.dp<=20
 ne:∀r∈a::rs,r≠w/\r≠b/\r≠m/\r≠d/\r≠c
 na:a∉rs
theorem Ar.ex{w b m d c a:Nat}{rs:List Nat}{S S':q0h}(h:Ar w b m d c a rs S)(e:Ex [m,d,c] S S'):Ar w b m d c a rs S':=by
 have g:∀r∈a::rs,r∉[m,d,c]:=fun r hr=>by have:=h.ne r hr;simp;exact⟨this.2.2.1,this.2.2.2.1,this.2.2.2.2⟩
 exact⟨e.get h.at' (g a (by simp)),fun r hr=>by obtain⟨k,u,h1,h2⟩:=h.rw' r hr;exact⟨k,u,e.get h1 (g r (by simp[hr])),h2⟩,h.ne,h.na⟩
theorem Ar.nx{w b m d c a:Nat}{rs:List Nat}{S S':q0h}(h:Ar w b m d c a rs S)(e:Ex [d,c] S S'):Ar w b m d c a rs S':=h.ex (e.weak (by simp))
def mb(F:Nat->Nat->Tm):Tm->Nat->Tm
 |.bd k,d=>F k d
 |.fn k t,d=>.fn k (mb F t (d+1))
 |.ap f a,d=>.ap (mb F f d) (mb F a d)
 |t,_=>t
def rsF(m:Nat)(k d:Nat):Tm:=.bd (if k<d then k else k+m)
def rs(t:Tm)(m d:Nat):Tm:=mb (rsF m) t d
def sbF(a:Tm)(k d:Nat):Tm:=if k<d then .bd k else if k=d then rs a d 0 else .bd (k-1)
def sb(t:Tm)(d:Nat)(a:Tm):Tm:=mb (sbF a) t d
def dn:Tm->List Nat->Tm
 |.ap (.fn _ b) a,[]=>sb b 0 a
 |t,[]=>t
 |.fn k t,_::p=>.fn k (dn t p)
 |.ap f a,0::p=>.ap (dn f p) a
 |.ap f a,_::p=>.ap f (dn a p)
 |t,_=>t
inductive Pl:Tm->List Nat->Prop
 |here (k:PV) (b a:Tm):Pl (.ap (.fn k b) a) []
 |fn (k:PV) (t:Tm) (p:List Nat):Pl t p->Pl (.fn k t) (0::p)
 |l (f a:Tm) (p:List Nat):Pl f p->Pl (.ap f a) (0::p)
 |r (f a:Tm) (p:List Nat):Pl a p->Pl (.ap f a) (1::p)
inductive Nt where
 |nm (w:Str)|lf (n:Int) (f:PV)|vr (i:Nat)|fn (k:PV) (o:Nat) (t:Nt)|ap (f a:Nt)
def nf:Tm->Nat
 |.fn _ t=>nf t+1
 |.ap f a=>nf f+nf a
 |_=>0
def pt:Nt->Nat->Nt->Nt
 |.vr i,o,x=>if i=o then x else .vr i
 |.fn k o' t,o,x=>.fn k o' (pt t o x)
 |.ap f a,o,x=>.ap (pt f o x) (pt a o x)
 |t,_,_=>t
def da:Nt->List Nat->Nt
 |.ap (.fn _ o b) a,[]=>pt b o a
 |t,[]=>t
 |.fn k o t,_::p=>.fn k o (da t p)
 |.ap f a,0::p=>.ap (da f p) a
 |.ap f a,_::p=>.ap f (da a p)
 |t,_=>t
theorem x0f(k m d:Nat):rs (.bd k) m d=.bd (if k<d then k else k+m):=rfl
theorem x0e(k:PV)(t:Tm)(m d:Nat):rs (.fn k t) m d=.fn k (rs t m (d+1)):=rfl
theorem x4i(f a:Tm)(m d:Nat):rs (.ap f a) m d=.ap (rs f m d) (rs a m d):=rfl
theorem x9d(w:Str)(m d:Nat):rs (.nm w) m d=.nm w:=rfl
theorem x9f(n:Int)(f:PV)(m d:Nat):rs (.lf n f) m d=.lf n f:=rfl
theorem y4z(k d:Nat)(a:Tm):sb (.bd k) d a=if k<d then .bd k else if k=d then rs a d 0 else .bd (k-1):=rfl
theorem x0c(k:PV)(t:Tm)(d:Nat)(a:Tm):sb (.fn k t) d a=.fn k (sb t (d+1) a):=rfl
theorem x4f(f g:Tm)(d:Nat)(a:Tm):sb (.ap f g) d a=.ap (sb f d a) (sb g d a):=rfl
theorem x4d(w:Str)(d:Nat)(a:Tm):sb (.nm w) d a=.nm w:=rfl
theorem x4e(n:Int)(f:PV)(d:Nat)(a:Tm):sb (.lf n f) d a=.lf n f:=rfl
theorem x0a{k d:Nat}{a:Tm}(h:k<d):sb (.bd k) d a=.bd k:=by rw[y4z,if_pos h]
theorem x0d(d:Nat)(a:Tm):sb (.bd d) d a=rs a d 0:=by rw[y4z,if_neg (by omega),if_pos rfl]
theorem x0b{k d:Nat}{a:Tm}(h:d<k):sb (.bd k) d a=.bd (k-1):=by rw[y4z,if_neg (by omega),if_neg (by omega)]
theorem x9e{k m d:Nat}(h:k<d):rs (.bd k) m d=.bd k:=by rw[x0f,if_pos h]
theorem x9g{k m d:Nat}(h:d<=k):rs (.bd k) m d=.bd (k+m):=by rw[x0f,if_neg (by omega)]
def oc:Tm->Nat->Nat
 |.bd k,j=>if k=j then 1 else 0
 |.fn _ t,j=>oc t (j+1)
 |.ap f a,j=>oc f j+oc a j
 |_,_=>0
def af(u:Nat):Tm->Prop
 |.fn _ t=>oc t 0<=u/\af u t
 |.ap f a=>af u f/\af u a
 |_=>True
def Tm.nd:Tm->Nat
 |.fn _ t=>1+t.nd
 |.ap f a=>1+f.nd+a.nd
 |_=>0
theorem y6d:∀t:Tm,t.nd+1<=t.sz
 |.nm _=>Nat.le_refl _
 |.lf _ _=>Nat.le_refl _
 |.bd _=>Nat.le_refl _
 |.fn _ t=>by have:=y6d t;simp only[Tm.nd,Tm.sz];omega
 |.ap f a=>by have:=y6d f;have:=y6d a;simp only[Tm.nd,Tm.sz];omega
theorem y2q:∀t:Tm,t.dp<=t.nd
 |.nm _=>Nat.le_refl _
 |.lf _ _=>Nat.le_refl _
 |.bd _=>Nat.le_refl _
 |.fn _ t=>by have:=y2q t;simp only[Tm.nd,Tm.dp];omega
 |.ap f a=>by have:=y2q f;have:=y2q a;simp only[Tm.nd,Tm.dp];omega
theorem y1e:∀(t:Tm)(m d j:Nat),oc (rs t m d) j=if j<d then oc t j else if j<d+m then 0 else oc t (j-m)
 |.nm _,m,d,j=>by simp[x9d,oc]
 |.lf _ _,m,d,j=>by simp[x9f,oc]
 |.bd k,m,d,j=>by
  by_cases h:k<d
  ·rw[x9e h];simp only[oc];(repeat' split)<;>first|rfl|omega
  ·rw[x9g (by omega)];simp only[oc];(repeat' split)<;>first|rfl|omega
 |.fn _ t,m,d,j=>by
  rw[x0e]
  simp only[oc]
  rw[y1e t m (d+1) (j+1)]
  by_cases h:j<d
  ·rw[if_pos h,if_pos (by omega)]
  ·rw[if_neg h,if_neg (by omega)]
   by_cases h2:j<d+m
   ·rw[if_pos h2,if_pos (by omega)]
   ·rw[if_neg h2,if_neg (by omega),show j+1-m=j-m+1 by omega]
 |.ap f a,m,d,j=>by
  rw[x4i]
  simp only[oc]
  rw[y1e f m d j,y1e a m d j]
  split
  ·rfl
  ·split<;>rfl
theorem y1d(a:Tm):∀(t:Tm)(d j:Nat),oc (sb t d a) j=(if j<d then oc t j else oc t (j+1))+oc t d*(if j<d then 0 else oc a (j-d))
 |.nm _,d,j=>by simp[x4d,oc]
 |.lf _ _,d,j=>by simp[x4e,oc]
 |.bd k,d,j=>by
  rcases Nat.lt_trichotomy k d with h|h|h
  ·rw[x0a h];simp only[oc,if_neg (show ¬k=d by omega),Nat.zero_mul,Nat.add_zero];(repeat' split)<;>first|rfl|omega
  ·subst h
   rw[x0d,y1e]
   simp only[oc,Nat.zero_add,if_true,Nat.one_mul,Nat.not_lt_zero,if_false]
   split
   ·split<;>omega
   ·rw[if_neg (by omega)];omega
  ·rw[x0b h];simp only[oc]
   rw[if_neg (show ¬k=d by omega),Nat.zero_mul,Nat.add_zero]
   (repeat' split)<;>first|rfl|omega
 |.fn _ t,d,j=>by
  rw[x0c]
  simp only[oc]
  rw[y1d a t (d+1) (j+1)]
  by_cases h:j<d
  ·rw[if_pos h,if_pos h,if_pos (by omega),if_pos (by omega)]
  ·rw[if_neg h,if_neg h,if_neg (by omega),if_neg (by omega),show j+1-(d+1)=j-d by omega]
 |.ap f g,d,j=>by
  rw[x4f]
  simp only[oc]
  rw[y1d a f d j,y1d a g d j,Nat.add_mul]
  split<;>omega
theorem y4r:∀(t:Tm)(m d:Nat),(rs t m d).sz=t.sz/\(rs t m d).nd=t.nd
 |.nm _,_,_=>⟨rfl,rfl⟩
 |.lf _ _,_,_=>⟨rfl,rfl⟩
 |.bd _,_,_=>⟨rfl,rfl⟩
 |.fn _ t,m,d=>by have:=y4r t m (d+1);rw[x0e];simp only[Tm.sz,Tm.nd];omega
 |.ap f a,m,d=>by have:=y4r f m d;have:=y4r a m d;rw[x4i];simp only[Tm.sz,Tm.nd];omega
theorem y4q(a:Tm):∀(t:Tm)(d:Nat),(sb t d a).sz+oc t d=t.sz+oc t d*a.sz/\(sb t d a).nd=t.nd+oc t d*a.nd
 |.nm _,d=>by simp[x4d,oc]
 |.lf _ _,d=>by simp[x4e,oc]
 |.bd k,d=>by
  rcases Nat.lt_trichotomy k d with h|h|h
  ·rw[x0a h];simp only[oc,if_neg (show ¬k=d by omega)];simp
  ·subst h
   have:=y4r a k 0
   rw[x0d];simp only[oc,if_true,Tm.sz,Tm.nd];omega
  ·rw[x0b h];simp only[oc,if_neg (show ¬k=d by omega)];simp[Tm.sz,Tm.nd]
 |.fn _ t,d=>by have:=y4q a t (d+1);rw[x0c];simp only[oc,Tm.sz,Tm.nd];omega
 |.ap f g,d=>by
  have h1:=y4q a f d
  have h2:=y4q a g d
  rw[x4f];simp only[oc,Tm.sz,Tm.nd,Nat.add_mul];omega
theorem y7r(u:Nat):∀(t:Tm)(m d:Nat),af u t->af u (rs t m d)
 |.nm _,_,_,_=>trivial
 |.lf _ _,_,_,_=>trivial
 |.bd _,_,_,_=>trivial
 |.fn _ t,m,d,h=>by
  rw[x0e]
  exact⟨by rw[y1e,if_pos (by omega)];exact h.1,y7r u t m (d+1) h.2⟩
 |.ap f a,m,d,h=>⟨y7r u f m d h.1,y7r u a m d h.2⟩
theorem y7q(u:Nat){a:Tm}(ha:af u a):∀(t:Tm)(d:Nat),af u t->af u (sb t d a)
 |.nm _,_,_=>trivial
 |.lf _ _,_,_=>trivial
 |.bd k,d,_=>by
  rw[y4z]
  split
  ·trivial
  ·split
   ·exact y7r u a d 0 ha
   ·trivial
 |.fn _ t,d,h=>by
  rw[x0c]
  refine⟨?_,y7q u ha t (d+1) h.2⟩
  rw[y1d,if_pos (by omega),if_pos (by omega),Nat.mul_zero,Nat.add_zero]
  exact h.1
 |.ap f g,d,h=>⟨y7q u ha f d h.1,y7q u ha g d h.2⟩
inductive R:Tm->Tm->Prop
 |be (k:PV) (b a:Tm):R (.ap (.fn k b) a) (sb b 0 a)
 |fn (k:PV) {t t':Tm}:R t t'->R (.fn k t) (.fn k t')
 |l (a:Tm) {f f':Tm}:R f f'->R (.ap f a) (.ap f' a)
 |r (f:Tm) {a a':Tm}:R a a'->R (.ap f a) (.ap f a')
inductive Rs:Tm->Tm->Prop
 |nil (t:Tm):Rs t t
 |cons {t u v:Tm}:R t u->Rs u v->Rs t v
theorem Rs.one{t u:Tm}(h:R t u):Rs t u:=.cons h (.nil _)
theorem Rs.trans{t u v:Tm}(h:Rs t u)(g:Rs u v):Rs t v:=by
 induction h with
 |nil=>exact g
 |cons h1 _ ih=>exact .cons h1 (ih g)
theorem Rs.fn(k:PV){t u:Tm}(h:Rs t u):Rs (.fn k t) (.fn k u):=by
 induction h with
 |nil=>exact .nil _
 |cons h1 _ ih=>exact .cons (.fn k h1) ih
theorem Rs.l(a:Tm){t u:Tm}(h:Rs t u):Rs (.ap t a) (.ap u a):=by
 induction h with
 |nil=>exact .nil _
 |cons h1 _ ih=>exact .cons (.l a h1) ih
theorem Rs.r(f:Tm){t u:Tm}(h:Rs t u):Rs (.ap f t) (.ap f u):=by
 induction h with
 |nil=>exact .nil _
 |cons h1 _ ih=>exact .cons (.r f h1) ih
theorem pl_R{t:Tm}{p:List Nat}(h:Pl t p):R t (dn t p):=by
 induction h with
 |here k b a=>exact .be k b a
 |fn k t p _ ih=>exact .fn k ih
 |l f a p _ ih=>rw[show dn (.ap f a) (0::p)=.ap (dn f p) a by simp only[dn]];exact .l a ih
 |r f a p _ ih=>rw[show dn (.ap f a) (1::p)=.ap f (dn a p) by simp only[dn]];exact .r f ih
theorem R_pl{t u:Tm}(h:R t u):∃p,Pl t p/\u=dn t p:=by
 induction h with
 |be k b a=>exact⟨[],.here k b a,rfl⟩
 |fn k _ ih=>obtain⟨p,h1,rfl⟩:=ih;exact⟨0::p,.fn k _ p h1,rfl⟩
 |l a _ ih=>obtain⟨p,h1,rfl⟩:=ih;exact⟨0::p,.l _ a p h1,by simp only[dn]⟩
 |r f _ ih=>obtain⟨p,h1,rfl⟩:=ih;exact⟨1::p,.r f _ p h1,by simp only[dn]⟩
theorem R_af{t u:Tm}(h:R t u):af 1 t->af 1 u/\(∀j,oc u j<=oc t j)/\u.sz+3<=t.sz/\u.nd+2<=t.nd:=by
 induction h with
 |be k b a=>
  rintro⟨⟨h1,h2⟩,h3⟩
  refine⟨y7q 1 h3 b 0 h2,fun j=>?_,?_⟩
  ·rw[y1d,if_neg (by omega),if_neg (by omega)]
   simp only[oc,Nat.sub_zero]
   have:=Nat.mul_le_mul_right (oc a j) h1
   omega
  ·obtain⟨e1,e2⟩:=y4q a b 0
   have m1:=Nat.mul_le_mul_right a.nd h1
   have sp:=y6d a
   simp only[Tm.sz,Tm.nd]
   refine⟨?_,by omega⟩
   rcases Nat.le_one_iff_eq_zero_or_eq_one.mp h1 with z|z
   ·rw[z]at e1;omega
   ·rw[z]at e1;omega
 |fn k _ ih=>
  rintro⟨h1,h2⟩
  obtain⟨i1,i2,i3,i4⟩:=ih h2
  exact⟨⟨Nat.le_trans (i2 0) h1,i1⟩,fun j=>i2 (j+1),by simp only[Tm.sz];omega,by simp only[Tm.nd];omega⟩
 |l a _ ih=>
  rintro⟨h1,h2⟩
  obtain⟨i1,i2,i3,i4⟩:=ih h1
  exact⟨⟨i1,h2⟩,fun j=>by have:=i2 j;simp only[oc];omega,by simp only[Tm.sz];omega,by simp only[Tm.nd];omega⟩
 |r f _ ih=>
  rintro⟨h1,h2⟩
  obtain⟨i1,i2,i3,i4⟩:=ih h2
  exact⟨⟨h1,i1⟩,fun j=>by have:=i2 j;simp only[oc];omega,by simp only[Tm.sz];omega,by simp only[Tm.nd];omega⟩
def Nf(t:Tm):Prop:=∀u,¬R t u
def lfs:Tm->List (Int×PV)
 |.lf n f=>[(n,f)]
 |.fn _ t=>lfs t
 |.ap f a=>lfs f++lfs a
 |_=>[]
def li:Tm->Prop
 |.fn _ t=>oc t 0=1/\li t
 |.ap f a=>li f/\li a
 |_=>True
instance w0s:DecidableEq (Int×PV):=fun _ _=>Classical.propDecidable _
def fl(L:Int->PV->Tm):Tm->Tm
 |.lf n f=>L n f
 |.fn k t=>.fn k (fl L t)
 |.ap f a=>.ap (fl L f) (fl L a)
 |t=>t
section
variable{L:Int->PV->Tm}(hL:∀n f,(L n f).gd 0)
include hL
end
inductive FK:PV->Kd->Prop
 |b (s:Str):FK (.tup [.str "basic",.str s]) (.a s)
 |n (l:Bool) {x y:PV} {kx ky:Kd}:FK x kx->FK y ky->FK (.tup [.str (if l=true then Str.ofString "\\" else Str.ofString "/"),x,y]) (.p ky kx)
theorem FK.plain{f:PV}{k:Kd}(h:FK f k):q4g f=true/\dep f<=k.dp+1:=by
 induction h with
 |b s=>exact⟨by simp[q4g,q7g],by simp[dep,deps]⟩
 |n l _ _ h1 h2=>exact⟨by simp only[q4g,q7g,List.length_cons,List.length_nil,Nat.reduceAdd,Nat.reduceLeDiff,decide_true,Bool.and_true,h1.1,h2.1,Bool.and_self],by simp only[dep,deps,Kd.dp];omega⟩
def lkN(ps:List (Str×Kd))(w:Str):Option Kd:=(ps.find? fun p=>decide (p.1=w)).map (·.2)
theorem x1q{ps qs:List (Str×Kd)}{w:Str}{k:Kd}(h:lkN ps w=some k):lkN (ps++qs) w=some k:=by
 unfold lkN at h ⊢
 rw[List.find?_append]
 cases e:ps.find? fun p=>decide (p.1=w)with
 |none=>rw[e]at h;cases h
 |some p=>rw[e]at h;exact h
theorem y1n{ps:List (Str×Kd)}{w:Str}{k:Kd}(h:w∉ps.map (·.1)):lkN (ps++[(w,k)]) w=some k:=by
 unfold lkN
 have:(ps.find? fun p=>decide (p.1=w))=none:=List.find?_eq_none.mpr fun p hp=>by
  simp only[decide_eq_true_eq]
  exact fun z=>h (List.mem_map.mpr ⟨p,hp,z⟩)
 rw[List.find?_append,this]
 simp
theorem y8k:∀{ps:List (Str×Kd)},(ps.map (·.1)).Nodup->∀{p:Str×Kd},p∈ps->lkN ps p.1=some p.2
 |x::r,nd,p,hp=>by
  rw[List.map_cons,List.nodup_cons]at nd
  unfold lkN
  rw[List.find?_cons]
  rcases List.mem_cons.mp hp with z|z
  ·subst z;simp
  ·have:¬x.1=p.1:=fun e=>nd.1 (List.mem_map.mpr ⟨p,z,e.symm⟩)
   rw[decide_eq_false this]
   exact y8k nd.2 z
inductive Ty(ps:List (Str×Kd)):List Kd->Tm->Kd->Prop
 |nm {e:List Kd} {w:Str} {k:Kd}:lkN ps w=some k->Ty ps e (.nm w) k
 |lf {e:List Kd} (n:Int) {f:PV} {k:Kd}:FK f k->k.dp<=20->Ty ps e (.lf n f) k
 |bd {e:List Kd} {j:Nat} {k:Kd}:e[j]?=some k->Ty ps e (.bd j) k
 |fn {e:List Kd} {k k':Kd} {t:Tm}:k.dp<=20->Ty ps (k::e) t k'->Ty ps e (.fn k.pv t) (.p k k')
 |ap {e:List Kd} {k k':Kd} {f a:Tm}:Ty ps e f (.p k k')->Ty ps e a k->Ty ps e (.ap f a) k'
theorem Ty.mono{ps qs:List (Str×Kd)}{e:List Kd}{t:Tm}{k:Kd}(h:Ty ps e t k):Ty (ps++qs) e t k:=by
 induction h with
 |nm h=>exact .nm (x1q h)
 |lf n h g=>exact .lf n h g
 |bd h=>exact .bd h
 |fn h _ ih=>exact .fn h ih
 |ap _ _ i1 i2=>exact .ap i1 i2
theorem Ty.gd{ps:List (Str×Kd)}{e:List Kd}{t:Tm}{k:Kd}(h:Ty ps e t k):t.gd e.length:=by
 induction h with
 |nm h=>trivial
 |lf n h g=>exact⟨h.plain.1,by have:=h.plain.2;omega⟩
 |bd h=>exact(List.getElem?_eq_some_iff.mp h).1
 |fn h _ ih=>exact⟨⟨q9a _,by rw[z1d];omega⟩,ih⟩
 |ap _ _ i1 i2=>exact⟨i1,i2⟩
instance w0r:DecidableEq Kd:=fun _ _=>Classical.propDecidable _
theorem z0d:∀f g:Kd,eqB f.pv g.pv=decide (f=g)
 |.a s,.a t=>by simp[Kd.pv,q4h]
 |.a s,.p f t=>by simp[Kd.pv,z7l]
 |.p f t,.a s=>by simp[Kd.pv,z7k]
 |.p f t,.p f' t'=>by
  have h1:=z0d f f'
  have h2:=z0d t t'
  simp only[Kd.pv,q6h,eqBs,h1,h2,Bool.and_true,Kd.p.injEq]
  by_cases z1:f=f'<;>by_cases z2:t=t'<;>simp[z1,z2]
theorem y8w{k k':Kd}{S:q0h}{Q:VC}(h1:k.dp<=20)(h2:k'.dp<=20)(h:Q (.bl (decide (k=k'))) S):cEq k.pv k'.pv S Q:=by
 have o1:=q9n (k:=k) (by omega)
 have o2:=q9n (k:=k') (by omega)
 rw[<-z0d]at h
 cases k with
 |a s=>
  cases k' with
  |a t=>rw[Kd.pv,Kd.pv,y8v];simpa[Kd.pv,q4h]using h
  |p f t=>rw[Kd.pv,Kd.pv,y8u];exact⟨by have:=o2.1;rw[Kd.pv,q8e]at this;exact this,by simpa[Kd.pv,z7l]using h⟩
 |p f t=>
  cases k' with
  |a t=>rw[Kd.pv,Kd.pv,y8t];exact⟨by have:=o1.1;rw[Kd.pv,q8e]at this;exact this,by simpa[Kd.pv,z7k]using h⟩
  |p f' t'=>rw[Kd.pv,Kd.pv,y3l];rw[Kd.pv]at o1 o2;exact⟨⟨o1,o2⟩,by simpa[Kd.pv,q6h]using h⟩
structure Wt(w b m d c u:Nat)(ps:List (Str×Kd))(S:q0h):Prop where
 dk:Deck d c S
 wd:S[w]?=some (.dK (y7v b m d (u:Nat)))
 bs:∃ws:List Str,S[b]?=some (.lst (ws.map PV.str))/\ws.length=3
 nm:S[m]?=some (.lst (ps.map encN))
 ok:∀p∈ps,q7r p.1=true/\p.2.dp<=20
 nd:(ps.map (·.1)).Nodup
 ne:(w≠d/\w≠c)/\(b≠d/\b≠c)/\(m≠d/\m≠c)/\w≠m/\b≠m
theorem Wt.ex{w b m d c u:Nat}{ps:List (Str×Kd)}{S S':q0h}(h:Wt w b m d c u ps S){D:List Nat}(e:Ex D S S')(hw:w∉D)(hb:b∉D)(hm:m∉D)(hd:d∉D)(hc:c∉D):Wt w b m d c u ps S':=by
 obtain⟨dk,wd,⟨ws,b1,b2⟩,p1,p2,p3,ne⟩:=h
 exact⟨dk.ex e hd hc,e.get wd hw,⟨ws,e.get b1 hb,b2⟩,e.get p1 hm,p2,p3,ne⟩
theorem Wt.nx{w b m d c u:Nat}{ps:List (Str×Kd)}{S S':q0h}(h:Wt w b m d c u ps S)(hd:Deck d c S')(e:Ex [d,c] S S'):Wt w b m d c u ps S':=by
 obtain⟨dk,wd,⟨ws,b1,b2⟩,p1,p2,p3,ne⟩:=h
 exact⟨hd,e.get wd (by simp;exact ne.1),⟨ws,e.get b1 (by simp;exact ne.2.1),b2⟩,e.get p1 (by simp;exact ne.2.2.1),p2,p3,ne⟩
theorem Wt.new{w b m d c u:Nat}{ps:List (Str×Kd)}{S:q0h}(h:Wt w b m d c u ps S)(xs:List SO):Wt w b m d c u ps (S++xs):=h.ex (Ex.new [] _ _) (by simp) (by simp) (by simp) (by simp) (by simp)
theorem Wt.lt{w b m d c u:Nat}{ps:List (Str×Kd)}{S:q0h}(h:Wt w b m d c u ps S):w<S.length/\b<S.length/\m<S.length/\d<S.length/\c<S.length:=by
 obtain⟨ws,g,_⟩:=h.bs
 have hd:=h.dk
 obtain⟨⟨_,_,_,_,_,_,g1,g2,_⟩,_⟩:=hd
 exact⟨q1j h.wd,q1j g,q1j h.nm,q1j g1,q1j g2⟩
def Fm.kk:Fm->Kd
 |.b s=>.a s
 |.n _ x y=>.p y.kk x.kk
theorem z3g:∀f:Fm,f.kk.pv=f.kd
 |.b s=>rfl
 |.n _ x y=>by simp only[Fm.kk,Kd.pv,Fm.kd,z3g x,z3g y]
theorem z5g:∀f:Fm,f.kk.dp<=f.dp
 |.b s=>Nat.zero_le _
 |.n _ x y=>by have:=z5g x;have:=z5g y;simp only[Fm.kk,Kd.dp,Fm.dp];omega
theorem x1w:∀f:Fm,f.kk.lv=f.lv
 |.b s=>rfl
 |.n _ x y=>by have:=x1w x;have:=x1w y;simp only[Fm.kk,Kd.lv,Fm.lv];omega
structure Bk2(a b n:Nat)(ps:List (Str×Kd))(S:q0h):Prop where
 is:∃ws:List Str,S[a]?=some (.lst (ps.map encN))/\S[b]?=some (.lst (ws.map PV.str))/\n<=ws.length/\ps.length+ws.length<=100/\(ps.map (·.1)++ws).Nodup
 dp:∀p∈ps,p.2.dp<=20
 ne:a≠b
theorem Bk2.ex{a b n:Nat}{ps:List (Str×Kd)}{S S':q0h}{D:List Nat}(h:Bk2 a b n ps S)(e:Ex D S S')(h1:a∉D)(h2:b∉D):Bk2 a b n ps S':=by
 obtain⟨⟨ws,g1,g2,r⟩,dp,ne⟩:=h
 exact⟨⟨ws,e.get g1 h1,e.get g2 h2,r⟩,dp,ne⟩
theorem Bk2.lt{a b n:Nat}{ps:List (Str×Kd)}{S:q0h}(h:Bk2 a b n ps S):a<S.length/\b<S.length:=by
 obtain⟨⟨ws,g1,g2,r⟩,_,ne⟩:=h
 exact⟨q1j g1,q1j g2⟩
theorem Bk2.le{a b n m:Nat}{ps:List (Str×Kd)}{S:q0h}(h:Bk2 a b n ps S)(k:m<=n):Bk2 a b m ps S:=by
 obtain⟨⟨ws,g1,g2,h1,r⟩,dp,ne⟩:=h
 exact⟨⟨ws,g1,g2,by omega,r⟩,dp,ne⟩
theorem z9a{d c:Nat}{S:q0h}(h:Deck d c S):d<S.length/\c<S.length:=by
 obtain⟨⟨_,_,_,_,_,_,g1,g2,_⟩,_⟩:=h
 exact⟨q1j g1,q1j g2⟩
def y3s(sp:Den):Prop:=∀(a b n:Nat)(ps:List (Str×Kd))(k:Kd)(S:q0h)(E:EK)(Q:VC),Bk2 a b (n+1) ps S->k.dp<=20->(∀(w:Str)(qs:List (Str×Kd)) S',lkN (ps++qs) w=some k->Bk2 a b n (ps++qs) S'->Ex [a,b] S S'->Q (Tm.nm w).pv S')->sp [.ref a,.ref b,k.pv] S E Q
theorem z3c:y3s (fnP 3 5 q4l):=by
 intro a b n ps k S E Q hb hk h
 refine⟨rfl,?_⟩
 unfold q4l
 have hb0:=hb
 obtain⟨⟨ws,g1,g2,hn,hl,hnd⟩,ho,ne⟩:=hb
 refine seqI fun K hK=>?_
 dsimp![q0v g1]
 refine forI (fun rest σ S1=>S1=S/\∃(qs:List (Str×Kd))(j3 j4:Option PV),rest=qs.map encN/\(∀p∈qs,p∈ps)/\σ=[some (.ref a),some (.ref b),some k.pv,j3,j4]) ?_ ?_ _ _ _ ⟨rfl,ps,none,none,rfl,fun p hp=>hp,rfl⟩
 ·rintro σ S1 ⟨rfl,qs,j3,j4,hr,hm,rfl⟩
  refine⟨q0v g1,hK _ _ ?_⟩
  clear hK hr hm
  obtain⟨w,wr,rfl⟩:∃w wr,ws=w::wr:=by
   cases ws with
   |nil=>simp at hn
   |cons a b=>exact⟨a,b,rfl⟩
  rw[List.map_cons]at g2
  rw[List.length_cons]at hn hl
  have g1':∀o,(S1.set b o)[a]?=some (.lst (ps.map encN)):=fun o=>q3n _ g1 (Ne.symm ne)
  have hni:w∉ps.map (·.1):=fun hm=>by
   rw[List.nodup_append]at hnd
   exact hnd.2.2 w hm w (by simp) rfl
  refine seqI fun K hK=>?_
  dsimp![g1,g2,q1m g2,q7v,q1m (g1' _),List.eraseIdx_cons_zero]
  refine⟨⟨by decide,by decide⟩,big (by decide),bigl (by rw[List.length_map];omega),hK _ _ ?_⟩
  have gA:=q1u (SO.lst (ps.map encN++[PV.tup [PV.str w,k.pv]])) (g1' (SO.lst (wr.map PV.str)))
  have gB:=q3n (SO.lst (ps.map encN++[PV.tup [PV.str w,k.pv]])) (q1u (SO.lst (wr.map PV.str)) g2) ne
  have sl:atI (ps.map encN++[PV.tup [PV.str w,k.pv]]) (-1)=some (PV.tup [PV.str w,k.pv]):=by
   have:=z6c (ps.map encN++[PV.tup [PV.str w,k.pv]]) 0 (by simp)
   simpa using this
  dsimp![gA,q0v gA,sl,y0v]
  refine⟨big (by decide),h w [(w,k)] _ (y1n hni) ⟨⟨wr,?_,gB,by omega,by simp only[List.length_append,List.length_singleton];omega,?_⟩,?_,ne⟩ ?_⟩
  ·rw[gA];simp[encN]
  ·have:(ps++[(w,k)]).map (·.1)++wr=ps.map (·.1)++w::wr:=by simp
   rw[this];exact hnd
  ·intro p hp
   rcases List.mem_append.mp hp with z|z
   ·exact ho p z
   ·simp at z;subst z;exact hk
  ·exact((Ex.refl _ _).set (.inl (by simp))).set (.inl (by simp))
 ·rintro x r σ S1 ⟨rfl,qs,j3,j4,hr,hm,rfl⟩ N hN
  obtain⟨p,qs,rfl⟩:∃p r,qs=p::r:=by
   cases qs with
   |nil=>simp at hr
   |cons a b=>exact⟨a,b,rfl⟩
  simp only[List.map_cons,List.cons.injEq]at hr
  obtain⟨rfl,rfl⟩:=hr
  refine⟨q0v g1,?_⟩
  have hpp:=hm p (by simp)
  dsimp![encN]
  refine y8w (ho p hpp) hk ?_
  dsimp![true_and]
  refine ite2 (fun z=>⟨big (by decide),h p.1 [] S1 ?_ (by rw[List.append_nil];exact hb0.le (by omega)) (Ex.refl _ _)⟩) (fun _=>hN _ _ ⟨rfl,qs,_,_,rfl,fun q hq=>hm q (by simp[hq]),rfl⟩)
  rw[List.append_nil,y8k (List.nodup_append.mp hnd).1 hpp,z]
theorem y0h:∀(n:Nat)(k:Nat),rPI (k:Int) n=(List.range' k n).map fun i:Nat=>PV.int i
 |0,k=>rfl
 |n+1,k=>by
  rw[rPI,List.range'_succ,List.map_cons]
  have:=y0h n (k+1)
  rw[show((k:Nat):Int)+1=((k+1:Nat):Int) by omega,this]
theorem z6z(n:Int)(m:Nat)(h:0<m):∃a:Nat,n % (m:Int)=(a:Int)/\a<m:=by
 have h1:=Int.emod_nonneg n (show(m:Int)≠0 by omega)
 have h2:=Int.emod_lt_of_pos n (show(0:Int)<(m:Int) by omega)
 exact⟨(n % (m:Int)).toNat,by omega,by omega⟩
theorem eraE:∀(l:List Nat)(j:Nat),(encI l).eraseIdx j=encI (l.eraseIdx j)
 |[],j=>rfl
 |x::r,0=>rfl
 |x::r,j+1=>by have:=eraE r j;simp only[encI,List.map_cons,List.eraseIdx_cons_succ]at this ⊢;rw[this]
theorem y2j:∀(l:List Nat)(j:Nat)(h:j<l.length),(l[j]::l.eraseIdx j).Perm l
 |x::r,0,h=>by simp
 |x::r,j+1,h=>by
  have:=y2j r j (by simpa using h)
  simp only[List.getElem_cons_succ,List.eraseIdx_cons_succ]
  exact(List.Perm.swap _ _ _).trans (this.cons x)
def z3h(ks:List Kd)(last:Kd):List Nat->Kd
 |[]=>last
 |i::r=>.p (ks.getD i last) (z3h ks last r)
theorem z7f{ks:List Kd}{last:Kd}(h1:∀k∈ks,k.dp<=10)(h2:last.dp<=10):∀s:List Nat,(z3h ks last s).dp<=10+s.length
 |[]=>by simpa[z3h]using h2
 |i::r=>by
  have:=z7f h1 h2 r
  have h3:(ks.getD i last).dp<=10:=by
   rw[List.getD_eq_getElem?_getD]
   cases e:ks[i]? with
   |none=>exact h2
   |some k=>exact h1 k (List.mem_of_getElem? e)
  simp only[z3h,Kd.dp,List.length_cons];omega
structure Ap2(d c a b:Nat):Prop where
 ad:a≠d
 ac:a≠c
 bd:b≠d
 bc:b≠c
structure Bd(ps:List (Str×Kd))(e:List Kd)(t:Tm)(k:Kd)(z:Nat):Prop where
 ty:Ty ps e t k
 oc:∀j,oc t j<=1
 af:af 1 t
 lf:lfs t=[]
 sz:t.sz<=z
 nd:t.nd+7<=z
def z7x(sp:Den):Prop:=∀(d c a b q n:Nat)(ps:List (Str×Kd))(ks:List Kd)(last:Kd)(S:q0h)(E:EK)(Q:VC),Ap2 d c a b->Deck d c S->Bk2 a b (n+1) ps S->S[q]?=some (.lst (ks.map Kd.pv))->q∉[d,c,a,b]->ks.length<=6->(∀v∈ks,v.dp<=10)->last.dp<=10->
 (∀(t:Tm)(qs:List (Str×Kd)) S',Bd (ps++qs) ks.reverse t last 13->Deck d c S'->Bk2 a b n (ps++qs) S'->Ex [d,c,a,b] S S'->Q t.pv S')->sp [.ref d,.ref a,.ref b,.ref q,last.pv] S E Q
theorem z6e{sn sm:Den}(hn:z0p sn)(hm:y3s sm):z7x (fnP 5 10 (q3j sn sm)):=by
 intro d c a b q n ps ks last S E Q ap hd hb hq hqn hkl hks hla h
 refine⟨rfl,?_⟩
 unfold q3j
 simp only[List.mem_cons,List.not_mem_nil,or_false,not_or]at hqn
 obtain⟨qd,qc,qa,qb⟩:=hqn
 have hql:=q1j hq
 have hbl:=hb.lt
 have lk:(ks.map Kd.pv).length=ks.length:=by simp
 refine seqI fun K hK=>?_
 dsimp![z4s,hq,q0v hq,lk]
 refine⟨ks.length,rfl,by omega,hK _ _ ?_⟩
 clear hK
 have e0:rPI 0 ks.length=encI (List.range' 0 ks.length):=y0h ks.length 0
 rw[e0]
 refine seqI fun K hK=>?_
 dsimp![true_and]
 refine⟨big (by decide),hK _ _ ?_⟩
 clear hK
 refine seqI fun K hK=>?_
 dsimp![true_and]
 have g5:(S++[SO.lst (encI (List.range' 0 ks.length))]++[SO.lst []])[S.length]?=some (.lst (encI (List.range' 0 ks.length))):=q2p (q1h _ _) _
 have g6:(S++[SO.lst (encI (List.range' 0 ks.length))]++[SO.lst []])[(S++[SO.lst (encI (List.range' 0 ks.length))]).length]?=some (.lst (encI [])):=q1h _ _
 have x2:Ex [] S (S++[SO.lst (encI (List.range' 0 ks.length))]++[SO.lst []]):=(Ex.new [] _ _).app _
 have h6l:(S++[SO.lst (encI (List.range' 0 ks.length))]).length=S.length+1:=by simp
 generalize (S++[SO.lst (encI (List.range' 0 ks.length))]).length=n6 at *
 generalize S++[SO.lst (encI (List.range' 0 ks.length))]++[SO.lst []]=S2 at *
 have hdl:=z9a hd
 have hd2:=hd.ex x2 (by simp) (by simp)
 have hb2:=hb.ex x2 (by simp) (by simp)
 have hq2:=x2.get hq (by simp)
 refine hn d c _ _ _ hd2 fun n1 S3 h0 h1 hd3 hx3=>?_
 have k5:S.length∉[d,c]:=by simp;omega
 have k6:n6∉[d,c]:=by simp;omega
 have kq:q∉[d,c]:=by simp;omega
 obtain⟨m1,e1,l1⟩:=z6z n1 (ks.length+1) (by omega)
 have e1:n1 % ((ks.length:Int)+1)=(m1:Int):=e1
 dsimp![q0v (hx3.get hq2 kq),lk,e1]
 refine⟨by omega,⟨by omega,by omega⟩,?_⟩
 have hin:∀i∈List.range' 0 ks.length,i<ks.length:=fun i hi=>by simp at hi;exact hi
 refine forI (fun rest σ S4=>∃(l s:List Nat)(j7:Option PV),σ=[some (.ref d),some (.ref a),some (.ref b),some (.ref q),some last.pv,some (.ref S.length),some (.ref n6),j7,none,none]/\S4[S.length]?=some (.lst (encI l))/\S4[n6]?=some (.lst (encI s))/\rest.length<=l.length/\l.length+s.length=ks.length/\(∀i∈l,i<ks.length)/\(∀i∈s,i<ks.length)/\(s++l).Nodup/\Deck d c S4/\Bk2 a b (n+1) ps S4/\S4[q]?=some (.lst (ks.map Kd.pv))/\Ex [d,c,a,b] S S4) ?_ ?_ _ _ _ ⟨List.range' 0 ks.length,[],none,rfl,hx3.get g5 k5,hx3.get g6 k6,by rw[q9j];simp;omega,by simp,hin,by simp,by simpa using List.nodup_range',hd3,hb2.ex hx3 (by simp[ap.ad,ap.ac]) (by simp[ap.bd,ap.bc]),hx3.get hq2 kq,x2.nil.trans (hx3.weak (by simp))⟩
 ·rintro σ S4 ⟨l,s,j7,rfl,q5,q6,hr,hls,hl,hs,hnd,hd4,hb4,hq4,hx4⟩
  refine⟨trivial,hK _ _ ?_⟩
  clear hK
  have hsl:s.length<=6:=by omega
  have hsn:=(List.nodup_append.mp hnd).1
  refine seqI fun K hK=>?_
  dsimp![true_and]
  refine hK _ _ ?_
  clear hK
  refine seqI fun K hK=>?_
  dsimp![q0v q6]
  refine forI (fun rest σ S5=>S5=S4/\∃(t u:List Nat)(j7:Option PV),rest=encI t/\t.reverse++u=s/\σ=[some (.ref d),some (.ref a),some (.ref b),some (.ref q),some last.pv,some (.ref S.length),some (.ref n6),j7,some (z3h ks last u).pv,none]) ?_ ?_ _ _ _ ⟨rfl,s.reverse,[],j7,by simp[encI],by simp,rfl⟩
  ·rintro σ S5 ⟨rfl,t,u,j7,ht,htu,rfl⟩
   obtain rfl:t=[]:=by cases t with
    |nil=>rfl
    |cons a b=>simp[encI]at ht
   simp only[List.reverse_nil,List.nil_append]at htu
   subst htu
   refine⟨q0v q6,hK _ _ ?_⟩
   clear hK
   have kd:=z7f hks hla u
   refine seqI fun K hK=>?_
   dsimp![true_and]
   refine hm a b n ps (z3h ks last u) _ _ _ hb4 (by omega) fun w qs S6 hw hb6 hx6=>hK _ _ ?_
   clear hK
   have k6':n6∉[a,b]:=by simp;omega
   have kq':q∉[a,b]:=by simp;omega
   have r6:=hx6.get q6 k6'
   have rq:=hx6.get hq4 kq'
   have hd6:=hd4.ex hx6 (by simp;exact⟨ap.ad.symm,ap.bd.symm⟩) (by simp;exact⟨ap.ac.symm,ap.bc.symm⟩)
   have hx7:=hx4.trans (hx6.weak (D':=[d,c,a,b]) (by simp))
   refine seqI fun K hK=>?_
   dsimp![q0v r6]
   refine forI (fun rest σ S7=>S7=S6/\∃(t pre:List Nat)(v:Tm)(j7 j8:Option PV),rest=encI t/\pre++t=u/\Ty (ps++qs) ks.reverse v (z3h ks last t)/\(∀j,oc v j<=1/\(oc v j≠0->j<ks.length/\ks.length-1-j∈pre))/\af 1 v/\lfs v=[]/\(v.sz=1+2*pre.length/\v.nd=pre.length)/\σ=[some (.ref d),some (.ref a),some (.ref b),some (.ref q),some last.pv,some (.ref S.length),some (.ref n6),j7,j8,some v.pv]) ?_ ?_ _ _ _ ⟨rfl,u,[],.nm w,_,_,rfl,rfl,.nm hw,fun j=>⟨Nat.zero_le _,fun z=>absurd rfl z⟩,trivial,rfl,⟨rfl,rfl⟩,rfl⟩
   ·rintro σ S7 ⟨rfl,t,pre,v,j7,j8,ht,hpt,hty,hoc,haf,hlf,hz,rfl⟩
    obtain rfl:t=[]:=by cases t with
     |nil=>rfl
     |cons a b=>simp[encI]at ht
    rw[List.append_nil]at hpt
    subst hpt
    refine⟨q0v r6,hK _ _ ?_⟩
    dsimp![true_and]
    exact h v qs _ ⟨hty,fun j=>(hoc j).1,haf,hlf,by omega,by omega⟩ hd6 hb6 hx7
   ·rintro x r σ S7 ⟨rfl,t,pre,v,j7,j8,ht,hpt,hty,hoc,haf,hlf,hz,rfl⟩ N hN
    obtain⟨i,t,rfl⟩:∃x y,t=x::y:=by
     cases t with
     |nil=>simp[encI]at ht
     |cons a b=>exact⟨a,b,rfl⟩
    simp only[encI,List.map_cons,List.cons.injEq]at ht
    obtain⟨rfl,rfl⟩:=ht
    have hi:i<ks.length:=hs i (by rw[<-hpt];simp)
    have hip:i∉pre:=fun hm=>by
     rw[<-hpt,List.nodup_append]at hsn
     exact hsn.2.2 i hm i (by simp) rfl
    refine⟨q0v r6,?_⟩
    dsimp![q0v rq,lk]
    rw[show(ks.length:Int)-1-(i:Int)=((ks.length-1-i:Nat):Int) by omega]
    refine⟨big (by decide),big (by decide),hN _ _ ⟨rfl,t,pre++[i],.ap v (.bd (ks.length-1-i)),_,_,rfl,by rw[<-hpt];simp,?_,fun j=>?_,⟨haf,trivial⟩,?_,?_,rfl⟩⟩
    ·refine .ap hty (.bd ?_)
     rw[List.getElem?_reverse (by omega),show ks.length-1-(ks.length-1-i)=i by omega,List.getElem?_eq_getElem hi,List.getD_eq_getElem?_getD,List.getElem?_eq_getElem hi]
     rfl
    ·obtain⟨o1,o2⟩:=hoc j
     simp only[oc]
     by_cases e:ks.length-1-i=j
     ·have:oc v j=0:=Classical.byContradiction fun z=>by
       have:=(o2 z).2
       rw[show ks.length-1-j=i by omega]at this
       exact hip this
      rw[if_pos e,this]
      exact⟨Nat.le_refl _,fun _=>⟨by omega,by rw[show ks.length-1-j=i by omega];simp⟩⟩
     ·rw[if_neg e,Nat.add_zero]
      exact⟨o1,fun z=>⟨(o2 z).1,List.mem_append_left _ (o2 z).2⟩⟩
    ·simp only[lfs,hlf,List.append_nil]
    ·simp only[Tm.sz,Tm.nd,List.length_append,List.length_singleton];omega
  ·rintro x r σ S5 ⟨rfl,t,u,j7,ht,htu,rfl⟩ N hN
   obtain⟨i,t,rfl⟩:∃x y,t=x::y:=by
    cases t with
    |nil=>simp[encI]at ht
    |cons a b=>exact⟨a,b,rfl⟩
   simp only[encI,List.map_cons,List.cons.injEq]at ht
   obtain⟨rfl,rfl⟩:=ht
   have hi:i<ks.length:=hs i (by rw[<-htu];simp)
   refine⟨q0v q6,?_⟩
   dsimp![hq4,q4a (ks.map Kd.pv) i (by rw[lk];exact hi)]
   refine⟨big (by decide),hN _ _ ⟨rfl,t,i::u,some (.int (i:Nat)),rfl,by rw[<-htu];simp,?_⟩⟩
   simp only[z3h,Kd.pv,List.getElem_map,List.getD_eq_getElem?_getD,List.getElem?_eq_getElem hi,Option.getD_some]
 ·rintro x r σ S4 ⟨l,s,j7,rfl,q5,q6,hr,hls,hl,hs,hnd,hd4,hb4,hq4,hx4⟩ N hN
  rw[List.length_cons]at hr
  refine⟨trivial,?_⟩
  have q5l:=q1j q5
  dsimp![q5,q6,q1m q5,q1m q6]
  refine hn d c _ _ _ hd4 fun n2 S5 _ _ hd5 hx5=>?_
  obtain⟨m2,e2,l2⟩:=z6z n2 l.length (by omega)
  have p5:=hx5.get q5 k5
  have p6:=hx5.get q6 k6
  have n65:n6≠S.length:=by omega
  have p6':∀o,(S5.set S.length o)[n6]?=some (.lst (encI s)):=fun o=>q3n _ p6 (Ne.symm n65)
  have ll:(encI l).length=l.length:=by simp[encI]
  have gl:(encI l)[m2]?=some (PV.int ((l[m2]:Nat):Int)):=by simp[encI,l2]
  have ix:ixN l.length (m2:Int)=some m2:=z7i l.length m2 l2
  dsimp![p5,p6,q1m p5,q1m p6,q0v p5,ll,e2,ix,gl,eraE,q1m (p6' _)]
  refine⟨by omega,⟨by omega,by omega⟩,bigl (by simp[encI];omega),hN _ _ ?_⟩
  have hb5:=hb4.ex hx5 (by simp[ap.ad,ap.ac]) (by simp[ap.bd,ap.bc])
  have pe:(l[m2]::l.eraseIdx m2).Perm l:=y2j l m2 l2
  refine⟨l.eraseIdx m2,s++[l[m2]],_,rfl,q3n _ (q1u _ p5) n65,by rw[q1u _ (p6' _)];simp[encI],?_,?_,?_,?_,?_,?_,?_,?_,?_⟩
  ·rw[List.length_eraseIdx,if_pos l2];omega
  ·rw[List.length_eraseIdx,if_pos l2,List.length_append,List.length_singleton];omega
  ·exact fun i hi=>hl i (List.mem_of_mem_eraseIdx hi)
  ·intro i hi
   rcases List.mem_append.mp hi with z|z
   ·exact hs i z
   ·simp at z;subst z;exact hl _ (List.getElem_mem l2)
  ·rw[List.append_assoc]
   exact((List.Perm.append_left s pe).nodup_iff).mpr hnd
  ·exact hd5.ex (D:=[S.length,n6]) (((Ex.refl _ _).set (.inl (by simp))).set (.inl (by simp))) (by simp;omega) (by simp;omega)
  ·exact hb5.ex (D:=[S.length,n6]) (((Ex.refl _ _).set (.inl (by simp))).set (.inl (by simp))) (by simp;omega) (by simp;omega)
  ·exact q3n _ (q3n _ (hx5.get hq4 kq) (by omega)) (by omega)
  ·exact((hx4.trans (hx5.weak (by simp))).set (.inr (Nat.le_refl _))).set (.inr (by omega))
structure Bt(ps:List (Str×Kd))(t:Tm)(k:Kd):Prop where
 ty:Ty ps [] t k
 af:af 1 t
 lf:lfs t=[]
 sz:t.sz<=30
 nd:t.nd<=19
theorem Bt.mono{ps qs:List (Str×Kd)}{t:Tm}{k:Kd}(h:Bt ps t k):Bt (ps++qs) t k:=⟨h.ty.mono,h.af,h.lf,h.sz,h.nd⟩
def q9v:Kd->List Kd
 |.a _=>[]
 |.p f t=>f::q9v t
def z8p:Kd->Kd
 |.a s=>.a s
 |.p _ t=>z8p t
def kput:List Kd->Kd->Kd
 |[],k=>k
 |x::r,k=>.p x (kput r k)
theorem y1t:∀k:Kd,kput (q9v k) (z8p k)=k
 |.a _=>rfl
 |.p f t=>by simp only[q9v,z8p,kput,y1t t]
def x3f(sp:Den):Prop:=∀(d c a b n:Nat)(ps:List (Str×Kd))(k:Kd)(S:q0h)(E:EK)(Q:VC),Ap2 d c a b->Deck d c S->Bk2 a b (n+1) ps S->k.lv<=6->
 (∀(t:Tm)(qs:List (Str×Kd)) S',Bt (ps++qs) t k->Deck d c S'->Bk2 a b n (ps++qs) S'->Ex [d,c,a,b] S S'->Q t.pv S')->sp [.ref d,.ref a,.ref b,k.pv] S E Q
theorem y9c{ps:List (Str×Kd)}{x:Kd}{e:List Kd}{t:Tm}{k:Kd}{z:Nat}(h:Bd ps (x::e) t k z)(hx:x.dp<=20):Bd ps e (.fn x.pv t) (.p x k) (z+1):=
 ⟨.fn hx h.ty,fun j=>h.oc (j+1),⟨h.oc 0,h.af⟩,h.lf,by simp only[Tm.sz];have:=h.sz;omega,by simp only[Tm.nd];have:=h.nd;omega⟩
theorem Bd.le{ps:List (Str×Kd)}{e:List Kd}{t:Tm}{k:Kd}{z y:Nat}(h:Bd ps e t k z)(l:z<=y):Bd ps e t k y:=⟨h.ty,h.oc,h.af,h.lf,Nat.le_trans h.sz l,Nat.le_trans h.nd l⟩
theorem Bd.mono{ps qs:List (Str×Kd)}{e:List Kd}{t:Tm}{k:Kd}{z:Nat}(h:Bd ps e t k z):Bd (ps++qs) e t k z:=⟨h.ty.mono,h.oc,h.af,h.lf,h.sz,h.nd⟩
theorem y4o{sn sm sa:Den}(hn:z0p sn)(hm:y3s sm)(ha:z7x sa):x3f (fnP 4 11 (q5a sn sm sa)):=by
 intro d c a b n ps k S E Q ap hd hb hf h
 refine⟨rfl,?_⟩
 unfold q5a
 have hfd:=k.dp_lv
 have hdl:=z9a hd
 have hbl:=hb.lt
 refine seqI fun K hK=>?_
 dsimp![true_and]
 refine hn d c _ _ _ hd fun n1 S1 h0 h1 hd1 hx1=>?_
 have hb1:=hb.ex hx1 (by simp[ap.ad,ap.ac]) (by simp[ap.bd,ap.bc])
 dsimp![true_and]
 refine⟨by decide,hK _ _ ?_⟩
 clear hK
 generalize n1 % 4=way at *
 refine seqI fun K hK=>?_
 dsimp![true_and]
 refine ite2 (fun _=>hm a b n ps k _ _ _ hb1 (by omega) fun w qs S2 hw hb2 hx2=>h (.nm w) qs _ ⟨.nm hw,trivial,rfl,by simp[Tm.sz],by simp[Tm.nd]⟩ (hd1.ex hx2 (by simp;exact⟨ap.ad.symm,ap.bd.symm⟩) (by simp;exact⟨ap.ac.symm,ap.bc.symm⟩)) hb2 ((hx1.weak (by simp)).trans (hx2.weak (by simp)))) (fun _=>hK _ _ ?_)
 clear hK
 refine seqI fun K hK=>?_
 dsimp![true_and]
 refine⟨big (by decide),hK _ _ ?_⟩
 clear hK
 refine seqI fun K hK=>?_
 dsimp![true_and]
 refine hK _ _ ?_
 clear hK
 refine seqI fun K hK=>?_
 have x1l:=hx1.1
 have hq0:S.length<=S1.length:=x1l
 have hqd:S1.length≠d:=by omega
 have hqc:S1.length≠c:=by omega
 have hqa:S1.length≠a:=by omega
 have hqb:S1.length≠b:=by omega
 refine z9k (fun m σ S2=>∃(g:Kd)(ks:List Kd),σ=[some (.ref d),some (.ref a),some (.ref b),some k.pv,some (.int way),some (.ref S1.length),some g.pv,none,none,none,none]/\S2[S1.length]?=some (.lst (ks.map Kd.pv))/\ks.length+g.lv<=k.lv/\m=g.lv/\(∀v∈ks,v.dp<=6)/\g.dp<=6/\ks++q9v g=q9v k/\z8p g=z8p k/\Deck d c S2/\Bk2 a b (n+1) ps S2/\Ex [d,c,a,b] S S2) k.lv ⟨k,[],rfl,q1h _ _,by simp,rfl,by simp,by omega,by simp,rfl,hd1.ex (Ex.new [] _ _) (by simp) (by simp),hb1.ex (Ex.new [] _ _) (by simp) (by simp),(hx1.weak (by simp)).app _⟩ ?_
 rintro m σ S2 ⟨g,ks,rfl,gq,hkl,rfl,hks,hgd,hpk,hlk,hd2,hb2,hx2⟩ T F hT hF
 have gp:=g.lv_pos
 cases g with
 |p y x=>
  have xp:=x.lv_pos
  have yp:=y.lv_pos
  simp only[Kd.lv]at hkl hT
  simp only[Kd.dp]at hgd
  dsimp![Kd.pv]
  refine hT _ fun N hN=>?_
  refine seqI fun K2 hK2=>?_
  dsimp![Kd.pv,gq,q1m gq,y0v]
  refine⟨bigl (by rw[List.length_map];omega),hK2 _ _ ?_⟩
  dsimp![Kd.pv,z6s]
  refine hN x.lv _ _ (by omega) ⟨x,ks++[y],rfl,by rw[q1u _ gq];simp,by simp only[List.length_append,List.length_singleton];omega,rfl,?_,by omega,by rw[<-hpk];simp[q9v],hlk,?_,?_,hx2.set (.inr hq0)⟩
  ·intro v hv
   rcases List.mem_append.mp hv with z|z
   ·exact hks v z
   ·simp at z;subst z;omega
  ·exact hd2.ex (D:=[S1.length]) ((Ex.refl _ _).set (.inl (by simp))) (by simp;omega) (by simp;omega)
  ·exact hb2.ex (D:=[S1.length]) ((Ex.refl _ _).set (.inl (by simp))) (by simp;omega) (by simp;omega)
 |a s=>
  simp only[q9v,List.append_nil]at hpk
  dsimp![Kd.pv]
  refine hF _ (hK _ _ ?_)
  clear hK hT hF
  have hkl:ks.length<=6:=by simp only[Kd.lv]at hkl;omega
  have lk:(ks.map Kd.pv).length=ks.length:=by simp
  have hkk:kput ks (.a s)=k:=by rw[hpk,show Kd.a s=z8p k from hlk];exact y1t k
  refine seqI fun K hK=>?_
  dsimp![true_and]
  refine hK _ _ ?_
  clear hK
  refine seqI fun K hK=>?_
  dsimp![q0v gq,lk]
  refine⟨⟨by omega,by omega⟩,?_⟩
  rw[Int.toNat_natCast]
  refine forI (fun rest σ S3=>S3=S2/\(∀x∈rest,x∈rngP 0 ks.length)/\∃(v7:PV)(j8 j9:Option PV),(v7=.non\/∃t,v7=Tm.pv t/\Bd ps ks.reverse t (.a s) 13)/\σ=[some (.ref d),some (.ref a),some (.ref b),some k.pv,some (.int way),some (.ref S1.length),some (.str s),some v7,j8,j9,none]) ?_ ?_ _ _ _ ⟨rfl,fun x hx=>hx,.non,none,none,.inl rfl,rfl⟩
  ·rintro σ S3 ⟨rfl,-,v7,j8,j9,hv7,rfl⟩
   refine⟨trivial,hK _ _ ?_⟩
   clear hK
   have b2:2<=sizeLine:=big (by decide)
   have b3:3<=sizeLine:=big (by decide)
   have fin:∀(t:Tm)(qs:List (Str×Kd))(S4:q0h),Bd (ps++qs) ks.reverse t (.a s) 20->S4[S1.length]?=some (.lst (ks.map Kd.pv))->Deck d c S4->Bk2 a b n (ps++qs) S4->Ex [d,c,a,b] S S4->∀(j8 j9:Option PV),(wSeq
   (wFor (z0i (wVar 5)) (q0z 10)
    (wSet 7 (wTup (q0d (wC (PV.str "fn")) (q0d (wVar 10) (q0d (wVar 7) wNil))))))
   (wRet (wVar 7))) {nx:=fun x S'=>Q PV.non S',rt:=Q} E [some (PV.ref d),some (PV.ref a),some (PV.ref b),some k.pv,some (PV.int way),some (PV.ref S1.length),some (PV.str s),some t.pv,j8,j9,none] S4:=by
    intro t qs S4 hv g4 hd4 hb4 hx4 j8 j9
    refine seqI fun K hK=>?_
    dsimp![q0v g4]
    rw[<-List.map_reverse]
    refine forI (fun rest σ S5=>S5=S4/\∃(u v:List Kd)(t:Tm)(j10:Option PV),rest=u.map Kd.pv/\u.reverse++v=ks/\Bd (ps++qs) u t (kput v (.a s)) (20+v.length)/\σ=[some (PV.ref d),some (PV.ref a),some (PV.ref b),some k.pv,some (PV.int way),some (PV.ref S1.length),some (PV.str s),some t.pv,j8,j9,j10]) ?_ ?_ _ _ _ ⟨rfl,ks.reverse,[],t,none,rfl,by simp,hv,rfl⟩
    ·rintro σ S5 ⟨rfl,u,v,t,j10,hu,huv,hb,rfl⟩
     obtain rfl:u=[]:=by cases u with
      |nil=>rfl
      |cons a b=>simp at hu
     simp only[List.reverse_nil,List.nil_append]at huv
     subst huv
     refine⟨q0v g4,hK _ _ ?_⟩
     dsimp![true_and]
     have:=hb.sz
     have:=hb.nd
     exact h t qs _ ⟨by have:=hb.ty;rw[hkk]at this;exact this,hb.af,hb.lf,by omega,by omega⟩ hd4 hb4 hx4
    ·rintro x r σ S5 ⟨rfl,u,v,t,j10,hu,huv,hb,rfl⟩ N hN
     obtain⟨y,u,rfl⟩:∃y r,u=y::r:=by
      cases u with
      |nil=>simp at hu
      |cons a b=>exact⟨a,b,rfl⟩
     simp only[List.map_cons,List.cons.injEq]at hu
     obtain⟨rfl,rfl⟩:=hu
     have hyk:y∈ks:=by rw[<-huv];simp
     refine⟨q0v g4,?_⟩
     dsimp![true_and]
     exact⟨b3,hN _ _ ⟨rfl,u,y::v,.fn y.pv t,_,rfl,by rw[<-huv];simp,(y9c hb (by have:=hks y hyk;omega)).le (by simp only[List.length_cons];omega),rfl⟩⟩
   have mid:∀(t:Tm)(qs:List (Str×Kd))(S4:q0h),Bd (ps++qs) ks.reverse t (.a s) 13->S4[S1.length]?=some (.lst (ks.map Kd.pv))->Deck d c S4->Bk2 a b n (ps++qs) S4->Ex [d,c,a,b] S S4->∀(j8 j9:Option PV),(wSeq
   (wIfS (q0y (wBin cEq (wVar 4) (wC (PV.int 3))))
    (wSet 7
     (wTup
      (q0d (wC (PV.str "of"))
       (q0d
        (wTup
         (q0d (wC (PV.str "fn"))
          (q0d (wVar 6)
           (q0d (wTup (q0d (wC (PV.str "bound")) (q0d (wC (PV.int 0)) wNil))) wNil))))
        (q0d (wVar 7) wNil)))))
    q1g)
   (wSeq
    (wFor (z0i (wVar 5)) (q0z 10)
     (wSet 7 (wTup (q0d (wC (PV.str "fn")) (q0d (wVar 10) (q0d (wVar 7) wNil))))))
    (wRet (wVar 7)))) {nx:=fun x S'=>Q PV.non S',rt:=Q} E [some (PV.ref d),some (PV.ref a),some (PV.ref b),some k.pv,some (PV.int way),some (PV.ref S1.length),some (PV.str s),some t.pv,j8,j9,none] S4:=by
    intro t qs S4 hv g4 hd4 hb4 hx4 j8 j9
    refine seqI fun K hK=>?_
    dsimp![true_and]
    refine ite2 (fun _=>⟨b2,b3,b3,hK _ _ (fin (.ap (.fn (Kd.a s).pv (.bd 0)) t) qs S4 ⟨.ap (.fn (Nat.zero_le _) (.bd rfl)) hv.ty,fun j=>?_,⟨⟨Nat.le_refl _,trivial⟩,hv.af⟩,by simp only[lfs,hv.lf,List.append_nil],?_,?_⟩ g4 hd4 hb4 hx4 j8 j9)⟩) (fun _=>hK _ _ (fin t qs S4 (hv.le (by decide)) g4 hd4 hb4 hx4 j8 j9))
    ·have:=hv.oc j
     simp only[oc]
     rw[if_neg (by omega)]
     omega
    ·have:=hv.sz
     simp only[Tm.sz];omega
    ·have:=hv.nd
     simp only[Tm.nd];omega
   refine seqI fun K hK=>?_
   rcases hv7 with rfl|⟨t7,rfl,hv7⟩
   ·dsimp![true_and]
    refine ha d c a b S1.length n ps ks (.a s) _ _ _ ap hd2 hb2 gq (by simp[hqd,hqc,hqa,hqb]) hkl (fun v hv=>by have:=hks v hv;omega) (Nat.zero_le _) fun t qs S4 hv hd4 hb4 hx4=>hK _ _ ?_
    exact mid t qs S4 hv (hx4.get gq (by simp[hqd,hqc,hqa,hqb])) hd4 hb4 (hx2.trans hx4) _ _
   ·dsimp![true_and]
    refine ite2 (fun e=>absurd e (by cases t7<;>exact Bool.false_ne_true)) (fun _=>hK _ _ (mid t7 [] _ (by rw[List.append_nil];exact hv7) gq hd2 (by rw[List.append_nil];exact hb2.le (by omega)) hx2 _ _))
  ·rintro x r σ S3 ⟨rfl,hr,v7,j8,j9,hv7,rfl⟩ N hN
   obtain⟨i,hi,rfl⟩:=z5b (hr x (by simp))
   refine⟨trivial,?_⟩
   dsimp![q0v gq,lk]
   refine⟨⟨by omega,by omega⟩,?_⟩
   rw[Int.toNat_natCast]
   refine forI (fun rest σ S4=>S4=S3/\(∀x∈rest,x∈rngP 0 ks.length)/\∃(v7:PV)(j9:Option PV),(v7=.non\/∃t,v7=Tm.pv t/\Bd ps ks.reverse t (.a s) 13)/\σ=[some (.ref d),some (.ref a),some (.ref b),some k.pv,some (.int way),some (.ref S1.length),some (.str s),some v7,some (.int (i:Nat)),j9,none]) ?_ ?_ _ _ _ ⟨rfl,fun x hx=>hx,v7,j9,hv7,rfl⟩
   ·rintro σ S4 ⟨rfl,-,v7,j9,hv7,rfl⟩
    exact⟨trivial,hN _ _ ⟨rfl,fun x hx=>hr x (by simp[hx]),v7,_,_,hv7,rfl⟩⟩
   ·rintro x2 r2 σ S4 ⟨rfl,hr2,v7,j9,hv7,rfl⟩ N2 hN2
    obtain⟨j,hj,rfl⟩:=z5b (hr2 x2 (by simp))
    refine⟨trivial,?_⟩
    have b2:2<=sizeLine:=big (by decide)
    have b3:3<=sizeLine:=big (by decide)
    have d1:=hks _ (List.getElem_mem hi)
    have d2:=hks _ (List.getElem_mem hj)
    have nxt:∀v:PV,(v=.non\/∃t,v=Tm.pv t/\Bd ps ks.reverse t (.a s) 13)->N2 [some (PV.ref d),some (PV.ref a),some (PV.ref b),some k.pv,some (PV.int way),some (PV.ref S1.length),some (PV.str s),some v,some (PV.int (i:Nat)),some (PV.int (j:Nat)),none] S4:=fun v hv=>hN2 _ _ ⟨rfl,fun x hx=>hr2 x (by simp[hx]),v,_,hv,rfl⟩
    dsimp![gq,q0v gq,lk,q4a (ks.map Kd.pv) i (by rw[lk];exact hi),q4a (ks.map Kd.pv) j (by rw[lk];exact hj),List.getElem_map]
    refine ite2 (fun _=>⟨b2,?_⟩) (fun _=>nxt _ hv7)
    refine y8w (k:=ks[i]) (k':=.p ks[j] (.a s)) (by omega) (by simp only[Kd.dp];omega) ?_
    dsimp![q0v gq,lk]
    refine ite2 (fun e=>⟨b2,b2,b3,?_⟩) (fun _=>nxt _ hv7)
    have hij:i≠j:=fun z=>by
     subst z
     have:=congrArg Kd.dp e
     simp only[Kd.dp]at this;omega
    rw[show(ks.length:Int)-1-(i:Int)=((ks.length-1-i:Nat):Int) by omega,show(ks.length:Int)-1-(j:Int)=((ks.length-1-j:Nat):Int) by omega]
    refine nxt _ (.inr ⟨.ap (.bd (ks.length-1-i)) (.bd (ks.length-1-j)),rfl,⟨.ap (k:=ks[j]) (.bd ?_) (.bd ?_),fun jj=>?_,⟨trivial,trivial⟩,rfl,by simp only[Tm.sz];omega,by simp only[Tm.nd];omega⟩⟩)
    ·rw[List.getElem?_reverse (by omega),show ks.length-1-(ks.length-1-i)=i by omega,List.getElem?_eq_getElem hi,e]
    ·rw[List.getElem?_reverse (by omega),show ks.length-1-(ks.length-1-j)=j by omega,List.getElem?_eq_getElem hj]
    ·simp only[oc]
     split
     ·rw[if_neg (by omega)];omega
     ·split<;>omega
mutual
theorem y0l:∀v:PV,plV v=true->nrf v=true
 |.str _,_=>rfl
 |.int _,_=>rfl
 |.tup xs,h=>by
  simp only[plV,Bool.and_eq_true]at h
  simp only[nrf]
  exact z6q xs h.1
 |.non,h=>by simp[plV]at h
 |.bl _,h=>by simp[plV]at h
 |.ref _,h=>by simp[plV]at h
 |.frl _,h=>by simp[plV]at h
 |.ty _,h=>by simp[plV]at h
 |.exc _,h=>by simp[plV]at h
theorem z6q:∀xs:List PV,plVs xs=true->nrfs xs=true
 |[],_=>rfl
 |x::r,h=>by
  simp only[plVs,Bool.and_eq_true]at h
  simp only[nrfs,y0l x h.1,z6q r h.2,Bool.and_self]
end
def okP(n:Nat)(v:PV):Prop:=plV v=true/\dep v<=n
theorem okP.le{n m:Nat}{v:PV}(h:okP n v)(k:n<=m):okP m v:=⟨h.1,Nat.le_trans h.2 k⟩
theorem okP.eq{n:Nat}{v:PV}(h:okP n v)(k:n<=190):okEq v:=⟨y0l v h.1,Nat.le_trans h.2 k⟩
theorem x1f(n:Nat)(s:Str):okP n (.str s):=⟨rfl,Nat.zero_le _⟩
theorem x9t{n:Nat}{u v:PV}(hu:okP n u)(hv:okP n v):okP (n+1) (.tup [u,v]):=by
 refine⟨by simp only[plV,plVs,hu.1,hv.1,Bool.and_self,List.length_cons,List.length_nil];rfl,?_⟩
 have:=hu.2
 have:=hv.2
 simp only[dep,deps];omega
def pfP(p:Str×Fm):PV:=.tup [.str p.1,p.2.pv]
def trP(t:(Str×Fm)×PV):PV:=.tup [.str t.1.1,t.1.2.pv,t.2]
theorem y8n(p q:Str×Fm):eqB (pfP p) (pfP q)=decide (p=q):=by
 obtain⟨s,f⟩:=p
 obtain⟨t,g⟩:=q
 simp only[pfP,q6h,eqBs,q4h,z3x,Bool.and_true,Prod.mk.injEq]
 by_cases h1:s=t<;>by_cases h2:f=g<;>simp[h1,h2]
theorem x6a{f:Fm}{n:Nat}(h:f.dp<=n):okP n f.pv:=⟨y0o f,by rw[z3z];exact h⟩
theorem y8j{p:Str×Fm}(h:p.2.lv<=5):okP 6 (pfP p):=x9t (x1f 5 _) (x6a (Nat.le_trans p.2.dp_lv h))
theorem z6u:∀{xs:List PV},(∀x∈xs,okP 190 x)->q6o xs
 |[],_=>by rw[q9m];trivial
 |x::r,h=>by
  obtain⟨a,b⟩:=z6u (xs:=r) fun y hy=>h y (by simp[hy])
  have c:=(h x (by simp)).eq (Nat.le_refl _)
  exact⟨by simp only[nrfs,c.1,a,Bool.and_self],by have:=c.2;simp only[deps];omega⟩
theorem y1v{chk:q0h->Prop}{Q:VC}:∀(tr:List ((Str×Fm)×PV))(ys:List PV)(σ:Ev.Loc)(S:q0h),(∃j,σ=[j])->chk S->Q (.ref S.length) (S++[.lst (ys++tr.map fun t=>pfP t.1)])->q7e chk (q0z 0) q4x (wSl (wVar 0) q5k (z0j (wC (.int 2)))) Q (tr.map trP) ys σ S
 |[],ys,σ,S,_,hc,h=>z5z hc (by simpa using h)
 |t::r,ys,σ,S,⟨j,e⟩,hc,h=>by
  subst e
  refine z0h hc fun N hN=>?_
  dsimp![trP]
  refine⟨by decide,hN _ _ _ ?_⟩
  refine y1v r _ _ S ⟨_,rfl⟩ hc ?_
  rw[List.append_assoc]
  exact h
def x8h(sp:Den):Prop:=∀(d c:Nat)(r:Rd)(S:q0h)(E:EK)(Q:VC),Deck d c S->r.lv<=10->(∀(ws:List Str) S',ws.length=r.lv->Deck d c S'->Ex [d,c] S S'->Q (.tup (ws.map PV.str)) S')->sp [.ref d,r.pv] S E Q
theorem y2g{chk:q0h->Prop}{Q:VC}{ws:List Str}{n:Nat}{S:q0h}(hn:S[n]?=some (.lst (ws.map PV.str)))(hc:chk S) :
  ∀(is:List PV)(vs:List Str)(σ:Ev.Loc),(∃j,σ=[j,some (.ref n)])->(∀x∈is,x∈rngP 0 ws.length)->(∀us:List Str,us.length=vs.length+is.length->Q (.ref S.length) (S++[.lst (us.map PV.str)]))->
  q7e chk (q0z 0) q4x (wBin bIx (wVar 1) (wBin q7z (wVar 0) (wC (.int 2)))) Q is (vs.map PV.str) σ S
 |[],vs,σ,_,hi,h=>z5z hc (h vs (by simp))
 |x::r,vs,σ,⟨j,e⟩,hi,h=>by
  subst e
  obtain⟨i,hil,rfl⟩:=z5b (hi x (by simp))
  have h2:i / 2<ws.length:=Nat.lt_of_le_of_lt (Nat.div_le_self _ _) hil
  have e2:((i:Nat):Int) / 2=((i / 2:Nat):Int):=by omega
  refine z0h hc fun N hN=>?_
  dsimp![hn,e2,q4a (ws.map PV.str) (i / 2) (by rw[List.length_map];exact h2)]
  refine⟨⟨by decide,by decide⟩,hN _ _ _ ?_⟩
  rw[List.getElem_map,show vs.map PV.str++[PV.str ws[i / 2]]=(vs++[ws[i / 2]]).map PV.str by simp]
  refine y2g hn hc r _ _ ⟨_,rfl⟩ (fun y hy=>hi y (by simp[hy])) fun us hu=>h us ?_
  rw[hu]
  simp only[List.length_append,List.length_cons,List.length_nil];omega
theorem y9z{so sw sn:Den}(ho:WoD so 10)(hw:z2l sw)(hn:z0p sn):x8h (fnP 2 4 (q3c so sw sn)):=by
 intro d c r S E Q hd hr h
 refine⟨rfl,?_⟩
 unfold q3c
 refine seqI fun K hK=>?_
 dsimp![true_and]
 refine ho r hr _ _ _ fun q S1 hq gq hx1=>hK _ _ ?_
 clear hK
 have hl:=q7j r
 refine seqI fun K hK=>?_
 dsimp![q0v gq,List.length_map,hl]
 refine hw d c r.lv _ _ _ (hd.ex hx1 (by simp) (by simp)) (by omega) fun n ws S2 gn hwl hwn _ hb hd2 hx2=>hK _ _ ?_
 clear hK
 refine seqI fun K hK=>?_
 dsimp![true_and]
 refine hn d c _ _ _ hd2 fun n1 S3 h0 h1 hd3 hx3=>?_
 dsimp![true_and]
 refine⟨by decide,?_⟩
 have hdl:=z9a hd
 have hx13:Ex [d,c] S S3:=(hx1.nil.trans hx2).trans hx3
 have hq3:=hx3.get (hx2.get gq (by simp;omega)) (by simp;omega)
 have hn3:=hx3.get gn (by have:=hx1.1;simp;omega)
 have fin:∀(m:Nat)(us:List Str)(S4:q0h),S4[m]?=some (.lst (us.map PV.str))->us.length=r.lv->Deck d c S4->Ex [d,c] S S4->K [some (PV.ref d),some r.pv,some (PV.ref q),some (PV.ref m)] S4:=fun m us S4 g4 hu hd4 hx4=>hK _ _ (by
  dsimp! [q0v g4]
  exact h us S4 hu hd4 hx4)
 refine ite2 (fun _=>?_) (fun _=>fin n ws S3 hn3 hwl hd3 hx13)
 dsimp![q0v hq3,List.length_map,hl]
 rw[Int.toNat_natCast]
 refine⟨⟨by omega,by omega⟩,big (by rw[q9j];exact Nat.le_trans hr (by decide)),?_⟩
 refine y2g hn3 trivial _ [] _ ⟨_,rfl⟩ (fun x hx=>by rw[hwl];exact hx) fun us hu=>?_
 rw[q9j]at hu
 exact fin _ us _ (q1h _ _) (by simpa using hu) (hd3.ex (Ex.new [] _ _) (by simp) (by simp)) (hx13.app _)
def lkT(tr:List ((Str×Fm)×PV))(k:Str×Fm):PV:=((tr.find? fun t=>decide (t.1=k)).map (·.2)).getD .non
theorem z7c:∀{tr:List ((Str×Fm)×PV)},(tr.map (·.1)).Nodup->∀{t:(Str×Fm)×PV},t∈tr->lkT tr t.1=t.2
 |x::r,nd,t,ht=>by
  rw[List.map_cons,List.nodup_cons]at nd
  unfold lkT
  rw[List.find?_cons]
  rcases List.mem_cons.mp ht with z|z
  ·subst z;simp
  ·have:¬x.1=t.1:=fun e=>nd.1 (List.mem_map.mpr ⟨t,z,e.symm⟩)
   rw[decide_eq_false this]
   exact z7c nd.2 z
def ky(ws:List Str)(p:Int×Fm):Str×Fm:=((ws[p.1.toNat]?).getD (mk []),p.2)
theorem x1v{ws:List Str}{p:Int×Fm}(h0:0<=p.1)(h1:p.1<(ws.length:Int)):atI (ws.map PV.str) p.1=some (.str (ky ws p).1):=by
 obtain⟨i,f⟩:=p
 obtain⟨n,rfl⟩:=Int.eq_ofNat_of_zero_le h0
 have hn:n<ws.length:=by simpa using h1
 show atI (ws.map PV.str) ((n:Nat):Int)=_
 rw[q4a _ n (by rw[List.length_map];exact hn),List.getElem_map]
 simp[ky,hn]
def LK(tr:List ((Str×Fm)×PV))(ws:List Str)(p:Int×Fm):PV:=lkT tr (ky ws p)
def bkP(x y:PV)(tr:List ((Str×Fm)×PV)):PV:=.tup [x,y,.tup (tr.map trP)]
theorem bk2(x y:PV)(tr:List ((Str×Fm)×PV))(S:q0h)(Q:VC):bIx (bkP x y tr) (.int 2) S Q=Q (.tup (tr.map trP)) S:=rfl
structure GB(tr:List ((Str×Fm)×PV))(ws:List Str)(r:Rd):Prop where
 nd:(tr.map (·.1)).Nodup
 len:tr.length<=10
 ok:∀t∈tr,t.1.2.lv<=5
 all:∀p∈r.ws,0<=p.1/\p.1<(ws.length:Int)/\ky ws p∈tr.map (·.1)/\p.2.lv<=5
def y8z(sp:Den):Prop:=∀(x y:PV)(tr:List ((Str×Fm)×PV))(ws:List Str)(r:Rd)(S:q0h)(E:EK)(Q:VC),GB tr ws r->r.lv<=10->
 (∀(t:Nat)(kvs:List (KTr×PV)) S',S'[t]?=some (.dN kvs)->(∀p∈r.ws,valN kvs (wk p)=some (LK tr ws p))->((∀u∈kvs,∃p∈r.ws,u.1=wk p)/\kvs.length<=20*r.ws.length)->Ex [] S S'->Q (.ref t) S')->sp [bkP x y tr,.tup (ws.map PV.str),r.pv] S E Q
theorem y5e{β:Type}{kvs:List (KTr×β)}{k:KTr}{v:β}{u:KTr×β}(h:u∈putN kvs k v):u.1=k\/∃u'∈kvs,u'.1=u.1:=by
 unfold putN at h
 split at h
 ·obtain⟨x,hx,rfl⟩:=List.mem_map.mp h
  right
  refine⟨x,hx,?_⟩
  split<;>rfl
 ·rcases List.mem_append.mp h with h|h
  ·exact .inr ⟨u,h,rfl⟩
  ·rw[List.mem_singleton]at h;subst h;exact .inl rfl
theorem y6g{so:Den}(ho:WoD so 10):y8z (fnP 3 9 (q4n so)):=by
 intro x y tr ws r S E Q gb hr h
 refine⟨rfl,?_⟩
 unfold q4n
 have hwl:=q7j r
 have hrp:=r.lv_pos
 refine seqI fun K hK=>?_
 dsimp![true_and]
 refine hK _ _ ?_
 clear hK
 have g0:=q1h S (.dK [])
 have x0:Ex [] S (S++[SO.dK []]):=Ex.new [] _ _
 have l0:(S++[SO.dK []]).length=S.length+1:=by simp
 refine seqI fun K hK=>?_
 dsimp![true_and]
 refine ho r hr _ _ _ fun q S1 hq0 hq hx1=>?_
 dsimp![q0v hq]
 refine forI (fun rest σ S2=>∃(ps qs:List (Int×Fm))(kvs:List (KTr×PV))(j4 j5 j6 j7 j8:Option PV),rest=ps.map encW/\σ=[some (bkP x y tr),some (.tup (ws.map PV.str)),some r.pv,some (.ref S.length),j4,j5,j6,j7,j8]/\qs++ps=r.ws/\(S2[S.length]?=some (.dN kvs)\/(S2[S.length]?=some (.dK [])/\kvs=[]))/\S2[q]?=some (.lst (r.ws.map encW))/\Ex [] S S2/\kvs.length<=20*qs.length/\(∀u∈kvs,∃p∈r.ws,u.1=wk p)/\(∀p∈qs,valN kvs (wk p)=some (LK tr ws p))) ?_ ?_ _ _ _
  ⟨r.ws,[],[],_,_,_,_,_,rfl,rfl,rfl,.inr ⟨hx1.get g0 (by simp),rfl⟩,hq,x0.trans hx1,Nat.zero_le _,by simp,by simp⟩
 ·rintro σ S2 ⟨ps,qs,kvs,j4,j5,j6,j7,j8,hr',rfl,e,k1,k2,k3,k4,k6,k5⟩
  obtain rfl:ps=[]:=by cases ps with
   |nil=>rfl
   |cons a b=>simp at hr'
  rw[List.append_nil]at e
  refine⟨q0v k2,hK _ _ ?_⟩
  clear hK
  have hdn:S2[S.length]?=some (.dN kvs):=by
   rcases k1 with z|⟨_,z⟩
   ·exact z
   ·subst z
    cases qs with
    |nil=>rw[<-e]at hwl;simp at hwl;omega
    |cons p r=>have:=k5 p (by simp);simp[valN]at this
  dsimp![true_and]
  exact h _ kvs S2 hdn (fun p hp=>k5 p (by rw[e];exact hp)) ⟨k6,by rw[<-e];exact k4⟩ k3
 ·rintro z rest σ S2 ⟨ps,qs,kvs,j4,j5,j6,j7,j8,hr',rfl,e,k1,k2,k3,k4,k6,k5⟩ N hN
  obtain⟨p,ps,rfl⟩:∃p r,ps=p::r:=by
   cases ps with
   |nil=>simp at hr'
   |cons a b=>exact⟨a,b,rfl⟩
  simp only[List.map_cons,List.cons.injEq]at hr'
  obtain⟨rfl,rfl⟩:=hr'
  refine⟨q0v k2,?_⟩
  have hle:=congrArg List.length e
  simp only[List.length_append,List.length_cons]at hle
  have hpm:p∈r.ws:=by rw[<-e];simp
  obtain⟨p0,p1,pk,p5⟩:=gb.all p hpm
  have p2:2<=sizeLine:=big (by decide)
  dsimp![encW,bk2]
  refine forI (fun rest σ S3=>∃(us vs:List ((Str×Fm)×PV))(kvs:List (KTr×PV))(j6 j7 j8:Option PV),rest=us.map trP/\vs++us=tr/\σ=[some (bkP x y tr),some (.tup (ws.map PV.str)),some r.pv,some (.ref S.length),some (.int p.1),some p.2.pv,j6,j7,j8]/\(S3[S.length]?=some (.dN kvs)\/(S3[S.length]?=some (.dK [])/\kvs=[]))/\S3[q]?=some (.lst (r.ws.map encW))/\Ex [] S S3/\kvs.length<=20*qs.length+vs.length/\(∀u∈kvs,∃p∈r.ws,u.1=wk p)/\(∀p∈qs,valN kvs (wk p)=some (LK tr ws p))/\(ky ws p∈vs.map (·.1)->valN kvs (wk p)=some (LK tr ws p))) ?_ ?_ _ _ _
   ⟨tr,[],kvs,_,_,_,rfl,rfl,rfl,k1,k2,k3,k4,k6,k5,by simp⟩
  ·rintro σ S3 ⟨us,vs,kvs,j6,j7,j8,hr',hvs,rfl,m1,m2,m3,m4,m7,m5,m6⟩
   obtain rfl:us=[]:=by cases us with
    |nil=>rfl
    |cons a b=>simp at hr'
   rw[List.append_nil]at hvs
   subst hvs
   have:=gb.len
   refine⟨trivial,hN _ _ ⟨ps,qs++[p],kvs,_,_,_,_,_,rfl,rfl,by rw[<-e];simp,m1,m2,m3,by simp only[List.length_append,List.length_singleton];omega,m7,?_⟩⟩
   intro p' hp'
   rcases List.mem_append.mp hp' with z|z
   ·exact m5 p' z
   ·rw[List.mem_singleton]at z
    subst z
    exact m6 pk
  ·rintro z rest σ S3 ⟨us,vs,kvs,j6,j7,j8,hr',hvs,rfl,m1,m2,m3,m4,m7,m5,m6⟩ N2 hN2
   obtain⟨t,us,rfl⟩:∃p r,us=p::r:=by
    cases us with
    |nil=>simp at hr'
    |cons a b=>exact⟨a,b,rfl⟩
   simp only[List.map_cons,List.cons.injEq]at hr'
   obtain⟨rfl,rfl⟩:=hr'
   have hvl:=congrArg List.length hvs
   simp only[List.length_append,List.length_cons]at hvl
   have htm:t∈tr:=by rw[<-hvs];simp
   have htk:True/\t.1.2.lv<=5:=⟨trivial,gb.ok t htm⟩
   have:=gb.len
   refine⟨trivial,?_⟩
   dsimp![trP,x1v p0 p1,y3m (f:=t.1.2) (g:=p.2) (Nat.le_trans t.1.2.dp_lv (by omega)) (Nat.le_trans p.2.dp_lv (by omega))]
   have skip:t.1≠ky ws p->N2 [some (bkP x y tr),some (.tup (ws.map PV.str)),some r.pv,some (.ref S.length),some (.int p.1),some p.2.pv,some (.str t.1.1),some t.1.2.pv,some t.2] S3:=fun hne=>
    hN2 _ _ ⟨us,vs++[t],kvs,_,_,_,rfl,by rw[<-hvs];simp,rfl,m1,m2,m3,by simp only[List.length_append,List.length_singleton];omega,m7,m5,fun hm=>m6 (by
     simp only [List.map_append,List.mem_append,List.map_cons,List.map_nil,List.mem_singleton]at hm
     exact hm.resolve_right fun z=>hne z.symm)⟩
   refine ite2 (fun c1=>ite2 (fun c2=>?_) (fun c2=>?_)) (fun c1=>?_)
   ·have ek:t.1=ky ws p:=Prod.ext c1 c2
    have ev:t.2=LK tr ws p:=by unfold LK;rw[<-ek];exact(z7c gb.nd htm).symm
    have hneq:S.length≠q:=by omega
    have hat:∃o,S3[S.length]?=some o:=by
     rcases m1 with z|⟨z,_⟩
     ·exact⟨_,z⟩
     ·exact⟨_,z⟩
    obtain⟨o,ho⟩:=hat
    refine⟨p2,S.length,wk p,kvs,rfl,(y3v p).symm,y9e p5,m1,bigl (by omega),?_⟩
    refine hN2 _ _ ⟨us,vs++[t],putN kvs (wk p) t.2,_,_,_,rfl,by rw[<-hvs];simp,rfl,.inl (q1u _ ho),q3n _ m2 hneq,m3.set (.inr (Nat.le_refl _)),?_,?_,?_,?_⟩
    ·have:=y5d kvs (wk p) t.2
     simp only[List.length_append,List.length_singleton];omega
    ·intro u hu
     rcases y5e hu with z|⟨u',hu',z⟩
     ·exact⟨p,hpm,z⟩
     ·obtain⟨p',hp',e'⟩:=m7 u' hu'
      exact⟨p',hp',by rw[<-z,e']⟩
    ·intro p' hp'
     rw[z6k]
     by_cases z:wk p'=wk p
     ·rw[if_pos z,y7w z,ev]
     ·rw[if_neg z]
      exact m5 p' hp'
    ·intro _
     rw[z6k,if_pos rfl,ev]
   ·exact skip fun z=>c2 (by rw[z];rfl)
   ·exact skip fun z=>c1 (by rw[z])
def ftP(t:(Str×Fm)×PV):PV:=.tup [t.1.2.pv,t.2]
def x8i(sp:Den):Prop:=∀(x y:PV)(tr:List ((Str×Fm)×PV))(w:Str)(S:q0h)(E:EK)(Q:VC),tr.length<=100->(∃t∈tr,t.1.1=w)->
 (∀(q:Nat) S',S'[q]?=some (.lst ((tr.filter fun t=>decide (t.1.1=w)).map ftP))->Ex [] S S'->Q (.ref q) S')->sp [bkP x y tr,.str w] S E Q
theorem x0g:x8i (fnP 2 3 q3v):=by
 intro x y tr w S E Q hl hex h
 refine⟨rfl,?_⟩
 unfold q3v
 have p2:2<=sizeLine:=big (by decide)
 refine seqI fun K hK=>?_
 dsimp![bk2]
 refine⟨by rw[List.length_map];exact big (by omega),?_⟩
 refine z9c (fun rest ys σ S2=>∃(us vs:List ((Str×Fm)×PV))(j0 j1 j2:Option PV),rest=us.map trP/\σ=[j0,j1,j2,some (.str w)]/\S2=S/\ys=(vs.filter fun t=>decide (t.1.1=w)).map ftP/\vs++us=tr) ?_ ?_ _ _ _ _ ⟨tr,[],none,none,none,rfl,rfl,rfl,rfl,rfl⟩
 ·rintro ys σ S2 ⟨us,vs,j0,j1,j2,hr',rfl,rfl,rfl,e⟩
  obtain rfl:us=[]:=by cases us with
   |nil=>rfl
   |cons a b=>simp at hr'
  rw[List.append_nil]at e
  subst e
  refine⟨trivial,hK _ _ ?_⟩
  clear hK
  have gn:=q1h S2 (.lst ((vs.filter fun t=>decide (t.1.1=w)).map ftP))
  have hx:Ex [] S2 (S2++[SO.lst ((vs.filter fun t=>decide (t.1.1=w)).map ftP)]):=Ex.new [] _ _
  refine seqI fun K hK=>?_
  have hne:(vs.filter fun t=>decide (t.1.1=w)).map ftP≠[]:=by
   obtain⟨t,ht,e⟩:=hex
   have:t∈vs.filter fun t=>decide (t.1.1=w):=List.mem_filter.mpr ⟨ht,by simpa using e⟩
   intro z
   rw[List.map_eq_nil_iff]at z
   rw[z]at this
   cases this
  generalize S2.length=q at *
  generalize S2++[SO.lst ((vs.filter fun t=>decide (t.1.1=w)).map ftP)]=S3 at *
  dsimp![gn]
  refine ite2 (fun c=>absurd (List.isEmpty_iff.mp (by simpa using c)) hne) (fun _=>hK _ _ ?_)
  dsimp![true_and]
  exact h q S3 gn hx
 ·rintro z rest ys σ S2 ⟨us,vs,j0,j1,j2,hr',rfl,rfl,rfl,e⟩ N hN
  obtain⟨t,us,rfl⟩:∃p r,us=p::r:=by
   cases us with
   |nil=>simp at hr'
   |cons a b=>exact⟨a,b,rfl⟩
  simp only[List.map_cons,List.cons.injEq]at hr'
  obtain⟨rfl,rfl⟩:=hr'
  refine⟨trivial,?_⟩
  dsimp![trP]
  have e2:(vs++[t])++us=tr:=by simp[<-e]
  refine ite2 (fun c=>⟨p2,?_⟩) (fun c=>?_)
  ·have:=hN _ _ _ ⟨us,vs++[t],some (.str t.1.1),some t.1.2.pv,some t.2,rfl,rfl,rfl,rfl,e2⟩
   rw[List.filter_append,List.filter_cons_of_pos (by simpa using c),List.filter_nil,List.map_append]at this
   exact this
  ·have:=hN _ _ _ ⟨us,vs++[t],some (.str t.1.1),some t.1.2.pv,some t.2,rfl,rfl,rfl,rfl,e2⟩
   rw[List.filter_append,List.filter_cons_of_neg (by simpa using c),List.filter_nil,List.append_nil]at this
   exact this
def y3q(sp:Den):Prop:=∀(x y:PV)(tr:List ((Str×Fm)×PV))(k:Str×Fm)(S:q0h)(E:EK)(Q:VC),tr.length<=100->(tr.map (·.1)).Nodup->(∀t∈tr,t.1.2.lv<=5)->k∈tr.map (·.1)->
 (∀S',Ex [] S S'->Q (lkT tr k) S')->sp [bkP x y tr,.str k.1,k.2.pv] S E Q
theorem z8b{sr:Den}(hr:x8i sr):y3q (fnP 3 5 (q3t sr)):=by
 intro x y tr k S E Q hl nd h5 hk h
 refine⟨rfl,?_⟩
 unfold q3t
 obtain⟨t0,ht0,rfl⟩:=List.mem_map.mp hk
 have k5:=h5 t0 ht0
 refine seqI fun K hK=>?_
 dsimp![true_and]
 refine hr x y tr t0.1.1 _ _ _ hl ⟨t0,ht0,rfl⟩ fun q S1 hq hx=>?_
 dsimp![q0v hq]
 generalize hLL:(tr.filter fun t=>decide (t.1.1=t0.1.1)).map ftP=LL at *
 refine forI (fun rest σ S2=>∃(us:List ((Str×Fm)×PV))(j3 j4:Option PV),rest=us.map ftP/\S2=S1/\t0∈us/\(∀t∈us,t∈tr/\t.1.1=t0.1.1)/\σ=[some (bkP x y tr),some (.str t0.1.1),some t0.1.2.pv,j3,j4]) ?_ ?_ _ _ _ ⟨tr.filter fun t=>decide (t.1.1=t0.1.1),_,_,hLL.symm,rfl,List.mem_filter.mpr ⟨ht0,by simp⟩,fun t ht=>⟨(List.mem_filter.mp ht).1,by simpa using(List.mem_filter.mp ht).2⟩,rfl⟩
 ·rintro σ S2 ⟨us,j3,j4,hr',rfl,hm,_⟩
  cases us with
  |nil=>cases hm
  |cons a b=>simp at hr'
 ·rintro z rest σ S2 ⟨us,j3,j4,hr',rfl,hm,ha,rfl⟩ N hN
  obtain⟨t,us,rfl⟩:∃p r,us=p::r:=by
   cases us with
   |nil=>simp at hr'
   |cons a b=>exact⟨a,b,rfl⟩
  simp only[List.map_cons,List.cons.injEq]at hr'
  obtain⟨rfl,rfl⟩:=hr'
  refine⟨q0v hq,?_⟩
  obtain⟨ht,hw⟩:=ha t (by simp)
  have t5:=h5 t ht
  dsimp![ftP,y3m (f:=t.1.2) (g:=t0.1.2) (Nat.le_trans t.1.2.dp_lv (by omega)) (Nat.le_trans t0.1.2.dp_lv (by omega))]
  refine ite2 (fun c=>?_) (fun c=>hN _ _ ⟨us,_,_,rfl,rfl,?_,fun u hu=>ha u (by simp[hu]),rfl⟩)
  ·have ek:t.1=t0.1:=Prod.ext hw c
   have:=h S2 hx
   rw[<-ek,z7c nd ht]at this
   exact this
  ·rcases List.mem_cons.mp hm with z|z
   ·subst z;exact absurd rfl c
   ·exact z
def MngD(sp:Den):Prop:=∀(x y:PV)(tr:List ((Str×Fm)×PV))(ws:List Str)(r:Rd)(a b:Int)(g:Fm),r.is a b g->r.sm->r.lv<=10->GB tr ws r->∀(S:q0h)(E:EK)(Q:VC),(∀S',Ex [] S S'->Q (r.tm (LK tr ws)) S')->sp [bkP x y tr,.tup (ws.map PV.str),r.pv] S E Q
theorem x6g{st s1 s2 sf:Den}(ht:y3q st)(h1:WoD s2 10)(hf:∀L,FtD L sf 10)(hs:s1=fnP 2 2 (q1n sf)):MngD (fnP 3 4 (q3w st s2 s1)):=by
 intro x y tr ws r a b g his hsm hr gb S E Q h
 refine⟨rfl,?_⟩
 unfold q3w
 refine seqI fun K hK=>?_
 dsimp![true_and]
 refine h1 r hr _ _ _ fun q S1 _ hq hx1=>?_
 dsimp![q0v hq]
 obtain⟨_,_,nd⟩:=z9h his
 have hl:=q7j r
 refine dcI (fun rest σ S2=>∃(ps qs:List (Int×Fm))(kvs:List (Key×PV))(j1 j2:Option PV),rest=ps.map encW/\σ=[j1,j2,some (bkP x y tr),some (.tup (ws.map PV.str))]/\qs++ps=r.ws/\S2[S1.length]?=some (.dK kvs)/\S2[q]?=some (.lst (r.ws.map encW))/\Ex [] S S2/\kvs.length<=qs.length/\(∀p∈qs,valP kvs (.inl p.1)=some (LK tr ws p))) ?_ ?_ _ _ _ ⟨r.ws,[],[],none,none,rfl,rfl,rfl,q1h _ _,q2p hq _,hx1.app _,Nat.le_refl _,by simp⟩
 ·rintro σ S2 ⟨ps,qs,kvs,j1,j2,hr',rfl,e,k1,k2,k3,k4,k5⟩
  obtain rfl:ps=[]:=by cases ps with
   |nil=>rfl
   |cons a b=>simp at hr'
  rw[List.append_nil]at e
  refine⟨q0v k2,hK _ _ ?_⟩
  dsimp![true_and]
  rw[hs]
  refine⟨rfl,?_⟩
  unfold q1n
  dsimp![true_and]
  refine hf (LK tr ws) r a b g his hsm hr _ kvs S2 _ _ k1 (fun p hp=>k5 p (by rw[e];exact hp)) ?_
  dsimp![z6s]
  exact h _ k3
 ·rintro z rest σ S2 ⟨ps,qs,kvs,j1,j2,hr',rfl,e,k1,k2,k3,k4,k5⟩ N hN
  obtain⟨p,ps,rfl⟩:∃p r,ps=p::r:=by
   cases ps with
   |nil=>simp at hr'
   |cons a b=>exact⟨a,b,rfl⟩
  simp only[List.map_cons,List.cons.injEq]at hr'
  obtain⟨rfl,rfl⟩:=hr'
  refine⟨q0v k2,?_⟩
  have hle:=congrArg List.length e
  simp only[List.length_append,List.length_cons]at hle
  have hq2:=q1j k2
  have hq1:=q1j hq
  have hS1:=q1j k1
  obtain⟨p0,p1,pk,p5⟩:=gb.all p (by rw[<-e];simp)
  dsimp![encW,x1v p0 p1]
  refine ht x y tr (ky ws p) _ _ _ (Nat.le_trans gb.len (by decide)) gb.nd (fun t ht=>gb.ok t ht) pk fun S3 hx3=>?_
  have k1':=hx3.get k1 (by simp)
  have k2':=hx3.get k2 (by simp)
  refine⟨kvs,.inl p.1,k1',rfl,bigl (by omega),hN _ _ ⟨ps,qs++[p],putP kvs (.inl p.1) (LK tr ws p),_,_,rfl,rfl,by rw[<-e];simp,q1u _ k1',q3n _ k2' (by omega),(k3.trans hx3).set (.inr hx1.1),?_,?_⟩⟩
  ·have:=q7q kvs (.inl p.1) (LK tr ws p)
   simp only[List.length_append,List.length_singleton];omega
  ·intro p' hp'
   rcases List.mem_append.mp hp' with z|z
   ·have hne:p'.1≠p.1:=by
     intro y
     rw[<-e,List.map_append,List.nodup_append]at nd
     exact nd.2.2 p'.1 (List.mem_map.mpr ⟨p',z,rfl⟩) p.1 (by simp) y
    rw[q5p _ _ _ _ (by simpa using hne)]
    exact k5 p' z
   ·rw[List.mem_singleton]at z
    subst z
    exact q6l _ _ _
theorem y8l{ws:List Str}{S:q0h}{Q:VC}{chk:q0h->Prop}(hc:chk S):∀(ps:List (Int×Fm))(vs:List (Str×Fm))(σ:Ev.Loc),(∀p∈ps,0<=p.1/\p.1<(ws.length:Int))->(∃j0 j1,σ=[j0,j1,some (.tup (ws.map PV.str))])->Q (.ref S.length) (S++[.lst ((vs++ps.map (ky ws)).map pfP)])->
  q7e chk (q3q 2 (q1e (q0z 0) (q1e (q0z 1) q3r))) q4x (wTup (q0d (wBin bIx (wVar 2) (wVar 0)) (q0d (wVar 1) wNil))) Q (ps.map encW) (vs.map pfP) σ S
 |[],vs,σ,hp,_,h=>z5z hc (by simpa using h)
 |p::r,vs,σ,hp,⟨j0,j1,e⟩,h=>by
  subst e
  obtain⟨p0,p1⟩:=hp p (by simp)
  refine z0h hc fun N hN=>?_
  dsimp![encW,x1v p0 p1]
  refine⟨big (by decide),hN _ _ _ ?_⟩
  rw[show vs.map pfP++[PV.tup [PV.str (ky ws p).1,p.2.pv]]=(vs++[ky ws p]).map pfP by simp[pfP,ky]]
  refine y8l hc r _ _ (fun q hq=>hp q (by simp[hq])) ⟨_,_,rfl⟩ ?_
  rw[List.append_assoc]
  exact h
structure TrsT(ks:List (Str×Fm))(tr:List ((Str×Fm)×Tm))(ps:List (Str×Kd)):Prop where
 nd:(tr.map (·.1)).Nodup
 all:∀p∈ks,p∈tr.map (·.1)
 ok:∀t∈tr,Bt ps t.2 t.1.2.kk/\t.1.2.lv<=5
 len:tr.length<=ks.length
def trV(tr:List ((Str×Fm)×Tm)):List ((Str×Fm)×PV):=tr.map fun t=>(t.1,t.2.pv)
theorem z9p(tr:List ((Str×Fm)×Tm)):(trV tr).map (·.1)=tr.map (·.1):=by simp[trV]
def x8l(sp:Den):Prop:=∀(d c bs sm:Nat)(xs:List PV)(ks:List (Str×Fm))(S:q0h)(E:EK)(Q:VC),Deck d c S->S[bs]?=some (.lst xs)->xs.length<=100->S[sm]?=some (.lst (ks.map pfP))->ks.length<=10->(∀p∈ks,p.2.lv<=5)->bs∉[d,c]->sm∉[d,c]->
 (∀(tr:List ((Str×Fm)×Tm))(ps:List (Str×Kd)) S' x,TrsT ks tr ps->(ps.map (·.1)).Nodup->(∀p∈ps,p.2.dp<=20)->ps.length<=100->Deck d c S'->Ex [d,c] S S'->Q (bkP x (.tup (ps.map encN)) (trV tr)) S')->sp [.ref d,.ref bs,.ref sm] S E Q
theorem y7l{sw st sk:Den}(hw:z2l sw)(ht:x3f st)(hk:z9f sk 10):x8l (fnP 3 8 (q5e sw st sk)):=by
 intro d c bs sm xs ks S E Q hd hbs hxl hsm hpl hpf nb ns h
 refine⟨rfl,?_⟩
 unfold q5e
 simp only[List.mem_cons,List.not_mem_nil,or_false,not_or]at nb ns
 have hdl:=z9a hd
 have hbl:=q1j hbs
 have hsl:=q1j hsm
 refine seqI fun K hK=>?_
 dsimp![true_and]
 refine⟨big (by decide),hK _ _ ?_⟩
 clear hK
 refine seqI fun K hK=>?_
 dsimp![true_and]
 have x1:Ex [] S (S++[SO.lst []]):=Ex.new [] _ _
 refine hw d c 20 _ _ _ (hd.ex x1 (by simp) (by simp)) (by decide) fun b ws S2 gb hwl hwn hwd hb hd2 hx2=>hK _ _ ?_
 clear hK
 rw[List.length_append,List.length_singleton]at hb
 have ga:S2[S.length]?=some (.lst (([]:List (Str×Kd)).map encN)):=hx2.get (q1h _ _) (by simp;omega)
 have hb2:Bk2 S.length b 20 [] S2:=⟨⟨ws,ga,gb,by omega,by simp;omega,by simpa using hwd⟩,by simp,by omega⟩
 have hbs2:=hx2.get (x1.get hbs (by simp)) (by simp;omega)
 have hsm2:=hx2.get (x1.get hsm (by simp)) (by simp;omega)
 have hx2':Ex [d,c] S S2:=x1.nil.trans hx2
 have ap:Ap2 d c S.length b:=⟨by omega,by omega,by omega,by omega⟩
 have hbl2:=q1j gb
 refine seqI fun K hK=>?_
 dsimp![true_and]
 refine⟨big (by decide),hK _ _ ?_⟩
 clear hK
 have x3:Ex [] S2 (S2++[SO.lst []]):=Ex.new [] _ _
 have gt:(S2++[SO.lst []])[S2.length]?=some (.lst ((trV []).map trP)):=q1h _ _
 refine seqI fun K hK=>?_
 dsimp![q0v (x3.get hsm2 (by simp))]
 have hl2:S.length<=S2.length:=hx2'.1
 refine forI (fun rest σ S3=>∃(qs us:List (Str×Fm))(tr:List ((Str×Fm)×Tm))(ps:List (Str×Kd))(j6 j7:Option PV),rest=qs.map pfP/\us++qs=ks/\TrsT us tr ps/\σ=[some (.ref d),some (.ref bs),some (.ref sm),some (.ref S.length),some (.ref b),some (.ref S2.length),j6,j7]/\S3[S2.length]?=some (.lst ((trV tr).map trP))/\Deck d c S3/\Bk2 S.length b qs.length ps S3/\S3[bs]?=some (.lst xs)/\S3[sm]?=some (.lst (ks.map pfP))/\Ex [d,c] S S3) ?_ ?_ _ _ _ ⟨ks,[],[],[],none,none,rfl,rfl,⟨by simp,by simp,by simp,by simp⟩,rfl,gt,hd2.ex x3 (by simp) (by simp),(hb2.ex x3 (by simp) (by simp)).le (by omega),x3.get hbs2 (by simp),x3.get hsm2 (by simp),hx2'.app _⟩
 ·rintro σ S3 ⟨qs,us,tr,ps,j6,j7,hr,hu,htr,rfl,gt3,hd3,hb3,hbs3,hsm3,hx3⟩
  obtain rfl:qs=[]:=by cases qs with
   |nil=>rfl
   |cons a b=>simp at hr
  rw[List.append_nil]at hu
  subst hu
  refine⟨q0v hsm3,hK _ _ ?_⟩
  obtain⟨⟨ws2,ga3,_,_,hq,hnd⟩,hdp,_⟩:=hb3
  dsimp![q0v hbs3,q0v gt3,q0v ga3]
  exact⟨big (by decide),h tr ps S3 _ htr (List.nodup_append.mp hnd).1 hdp (by omega) hd3 hx3⟩
 ·rintro x r σ S3 ⟨qs,us,tr,ps,j6,j7,hr,hu,htr,rfl,gt3,hd3,hb3,hbs3,hsm3,hx3⟩ N hN
  obtain⟨p,qs,rfl⟩:∃x y,qs=x::y:=by
   cases qs with
   |nil=>simp at hr
   |cons a b=>exact⟨a,b,rfl⟩
  simp only[List.map_cons,List.cons.injEq]at hr
  obtain⟨rfl,rfl⟩:=hr
  refine⟨q0v hsm3,?_⟩
  dsimp![pfP,q0v gt3]
  have tl:=htr.len
  have vl:(trV tr).length=tr.length:=by simp[trV]
  have ul:us.length+(qs.length+1)=ks.length:=by rw[<-hu];simp
  have hpp:p∈ks:=by rw[<-hu];simp
  have hp5:=hpf p hpp
  refine⟨big (by decide),big (show((trV tr).map trP).length<=1000000 by rw[List.length_map];omega),?_⟩
  refine y1v (trV tr) [] _ S3 ⟨_,rfl⟩ (q0v gt3) ?_
  have ge:q3o (S3++[SO.lst ([]++(trV tr).map fun t=>pfP t.1)]) S3.length=some ((trV tr).map fun t=>pfP t.1):=q0v (q1h _ _)
  have x4:Ex [] S3 (S3++[SO.lst ([]++(trV tr).map fun t=>pfP t.1)]):=Ex.new [] _ _
  generalize S3++[SO.lst ([]++(trV tr).map fun t=>pfP t.1)]=S4 at *
  have gt4:=x4.get gt3 (by simp)
  have hd4:=hd3.ex x4 (by simp) (by simp)
  have hb4:=hb3.ex x4 (by simp) (by simp)
  have hbs4:=x4.get hbs3 (by simp)
  have hsm4:=x4.get hsm3 (by simp)
  rw[z7s,ge]
  have e:(((trV tr).map fun t=>pfP t.1).any fun y=>eqB y (PV.tup [PV.str p.fst,p.snd.pv]))=decide (p∈tr.map (·.1)):=by
   show(((trV tr).map fun t=>pfP t.1).any fun y=>eqB y (pfP p))=_
   rw[<-z9p,Bool.eq_iff_iff]
   simp only[List.any_eq_true,decide_eq_true_eq,List.mem_map]
   constructor
   ·rintro⟨y,⟨t,ht',rfl⟩,he⟩
    rw[y8n]at he
    exact⟨t,ht',by simpa using he⟩
   ·rintro⟨t,ht',rfl⟩
    exact⟨_,⟨t,ht',rfl⟩,by rw[y8n];simp⟩
  refine⟨⟨(y8j hp5).eq (by decide),z6u fun y hy=>?_⟩,?_⟩
  ·obtain⟨t,ht',rfl⟩:=List.mem_map.mp hy
   obtain⟨t',ht2,rfl⟩:=List.mem_map.mp ht'
   exact(y8j (htr.ok t' ht2).2).le (by decide)
  ·rw[e]
   dsimp![gt4]
   refine ite2 (fun hc=>?_) (fun hc=>?_)
   ·have hni:p∉tr.map (·.1):=by simpa using hc
    refine hk p.2 (Nat.le_trans p.2.dp_lv (by omega)) _ _ _ ?_
    have hbx:Bk2 S.length b (qs.length+1) ps S4:=hb4
    rw[<-z3g]
    refine ht d c S.length b qs.length ps p.2.kk _ _ _ ap hd4 hbx (by rw[x1w];omega) fun v vs S5 hv hd5 hb5 hx5=>?_
    have nt:S2.length∉[d,c,S.length,b]:=by simp;omega
    have gt5:=hx5.get gt4 nt
    dsimp![q1m gt5]
    refine⟨big (by decide),bigl (by rw[List.length_map];omega),hN _ _ ⟨qs,us++[p],tr++[(p,v)],ps++vs,_,_,rfl,by rw[<-hu];simp,?_,rfl,by rw[q1u _ gt5];simp[trP,trV],?_,?_,?_,?_,?_⟩⟩
    ·refine⟨?_,?_,?_,?_⟩
     ·rw[List.map_append,List.map_cons,List.map_nil]
      exact List.nodup_append.mpr ⟨htr.nd,by simp,by
       intro u hu' w hw' ee
       simp at hw'
       rw [ee,hw']at hu'
       exact hni hu'⟩
     ·intro u hu'
      rw[List.map_append]
      rcases List.mem_append.mp hu' with z|z
      ·exact List.mem_append_left _ (htr.all u z)
      ·exact List.mem_append_right _ (by simpa using z)
     ·intro u hu'
      rcases List.mem_append.mp hu' with z|z
      ·exact⟨(htr.ok u z).1.mono,(htr.ok u z).2⟩
      ·simp at z;subst z;exact⟨hv,hp5⟩
     ·simp only[List.length_append,List.length_singleton];omega
    ·exact hd5.ex (D:=[S2.length]) ((Ex.refl _ _).set (.inl (by simp))) (by simp;omega) (by simp;omega)
    ·exact hb5.ex (D:=[S2.length]) ((Ex.refl _ _).set (.inl (by simp))) (by simp;omega) (by simp;omega)
    ·exact q3n _ (hx5.get hbs4 (by simp;omega)) (by omega)
    ·exact q3n _ (hx5.get hsm4 (by simp;omega)) (by omega)
    ·have:Ex [d,c] S S5:=⟨Nat.le_trans (hx3.trans x4.nil).1 hx5.1,fun i hi ni=>by
      have:=(hx3.trans x4.nil).2 i hi ni
      rw [<-this]
      exact hx5.2 i (Nat.lt_of_lt_of_le hi (hx3.trans x4.nil).1) (by simp only [List.mem_cons,List.not_mem_nil,or_false,not_or]at ni ⊢;omega)⟩
     exact this.set (.inr hl2)
   ·have hin:p∈tr.map (·.1):=by simpa using hc
    refine hN _ _ ⟨qs,us++[p],tr,ps,_,_,rfl,by rw[<-hu];simp,⟨htr.nd,?_,htr.ok,by simp only[List.length_append,List.length_singleton];omega⟩,rfl,gt4,hd4,hb4.le (by simp),hbs4,hsm4,hx3.trans x4.nil⟩
    intro u hu'
    rcases List.mem_append.mp hu' with z|z
    ·exact htr.all u z
    ·simp at z;subst z;exact hin
structure At(w b m d c a:Nat)(V:List (Nat×Kd))(g:Nat->Nat)(S:q0h):Prop where
 at':S[a]?=some (.lst (V.reverse.map fun x=>PV.ref x.1))
 rw':∀x∈V,S[x.1]?=some (.lst [x.2.pv,.int (g x.1:Nat)])/\x.2.dp<=20
 ne:∀r∈a::V.map (·.1),r≠w/\r≠b/\r≠m/\r≠d/\r≠c
 na:a∉V.map (·.1)
 nd:(V.map (·.1)).Nodup
theorem At.ex{w b m d c a:Nat}{V:List (Nat×Kd)}{g:Nat->Nat}{S S':q0h}(h:At w b m d c a V g S)(e:Ex [m,d,c] S S'):At w b m d c a V g S':=by
 have k:∀r∈a::V.map (·.1),r∉[m,d,c]:=fun r hr=>by have:=h.ne r hr;simp;exact⟨this.2.2.1,this.2.2.2.1,this.2.2.2.2⟩
 exact⟨e.get h.at' (k a (by simp)),fun x hx=>by obtain⟨h1,h2⟩:=h.rw' x hx;exact⟨e.get h1 (k x.1 (List.mem_cons_of_mem _ (List.mem_map.mpr ⟨x,hx,rfl⟩))),h2⟩,h.ne,h.na,h.nd⟩
theorem At.nx{w b m d c a:Nat}{V:List (Nat×Kd)}{g:Nat->Nat}{S S':q0h}(h:At w b m d c a V g S)(e:Ex [d,c] S S'):At w b m d c a V g S':=h.ex (e.weak (by simp))
structure Got(u:Nat)(ps:List (Str×Kd))(V:List (Nat×Kd))(g g':Nat->Nat)(t:Tm)(k:Kd):Prop where
 ty:Ty ps (V.map (·.2)) t k
 af:af u t
 us:∀j x,V[j]?=some x->oc t j+g' x.1<=g x.1
theorem x6d{l:List Nat}(nd:l.Nodup){i j:Nat}(hi:i<l.length)(hj:j<l.length)(e:l[i]=l[j]):i=j:=by
 rw[<-List.Nodup.idxOf_getElem nd i hi,e,List.Nodup.idxOf_getElem nd j hj]
theorem forC{chk:q0h->Prop}{g:WG}{wb:WS}{D:PEnds}{E:EK}{x:PV}{r:List PV}{σ:Ev.Loc}{S:q0h}(hc:chk S)(h:∀N:Ev.Loc->q0h->Prop,(∀σ S,z3v chk g wb D E r σ S->N σ S)->g x σ S E fun σ2 S2=>wb {nx:=N,rt:=D.rt,ct:=N,bk:=D.nx} E σ2 S2):z3v chk g wb D E (x::r) σ S:=⟨hc,_,fun _ _ z=>z,h _ fun _ _ z=>z⟩
def bo:Tm->Nat->List (Nat×Nat)
 |.bd k,d=>[(k,d)]
 |.fn _ b,d=>bo b (d+1)
 |.ap f a,d=>bo f d++bo a d
 |_,_=>[]
structure Wb(x0 x1:PV)(r tl rw:Nat)(rows:List PV)(S0:q0h)(R st:List Tm)(σ:Ev.Loc)(S:q0h):Prop where
 loc:∃j4 j5 j6:Option PV,σ=[some x0,some x1,some (.ref r),some (.ref tl),j4,j5,j6]
 gr:S[r]?=some (.lst (R.map Tm.pv))
 gt:S[tl]?=some (.lst (st.reverse.map Tm.pv))
 gw:S[rw]?=some (.lst rows)
 ex:Ex [] S0 S
def wi:Tm->Nat->Tm->Tm
 |.fn k _,_,x=>.fn k x
 |.ap _ a,0,x=>.ap x a
 |.ap f _,_,x=>.ap f x
 |t,_,_=>t
def Nt.pv:Nt->PV
 |.nm w=>.tup [.str "name",.str w]
 |.lf n f=>.tup [.str "leaf",.int n,f]
 |.vr i=>.tup [.str "var",.int (i:Nat)]
 |.fn k o t=>.tup [.str "fn",k,.int (o:Nat),t.pv]
 |.ap f a=>.tup [.str "of",f.pv,a.pv]
def Nt.dp:Nt->Nat
 |.fn _ _ t=>t.dp+1
 |.ap f a=>max f.dp a.dp+1
 |_=>0
def Tm.pp:Tm->Prop
 |.lf _ f=>q4g f=true/\dep f<=30
 |.fn k t=>(q4g k=true/\dep k<=30)/\t.pp
 |.ap f a=>f.pp/\a.pp
 |_=>True
def Nt.gp:Nt->Prop
 |.lf _ f=>q4g f=true/\dep f<=30
 |.fn k _ t=>(q4g k=true/\dep k<=30)/\t.gp
 |.ap f a=>f.gp/\a.gp
 |_=>True
def isFn:Tm->Bool
 |.fn _ _=>true
 |_=>false
def pls:Tm->List (List Int)
 |.fn _ b=>(pls b).map (0::·)
 |.ap f a=>(if isFn f=true then[[]]else[])++((pls f).map (0::·)++(pls a).map (1::·))
 |_=>[]
def out(st:List (Tm×List Int)):List (List Int):=st.flatMap fun x=>(pls x.1).map (x.2++·)
def ci(p:List Nat):List Int:=p.map fun x:Nat=>(x:Int)
theorem x4w{t:Tm}{p:List Nat}(h:Pl t p):ci p∈pls t:=by
 induction h with
 |here k b a=>simp[pls,isFn,ci]
 |fn k t p _ ih=>simp only[pls];exact List.mem_map.mpr ⟨_,ih,rfl⟩
 |l f a p _ ih=>simp only[pls,List.mem_append];exact .inr (.inl (List.mem_map.mpr ⟨_,ih,rfl⟩))
 |r f a p _ ih=>simp only[pls,List.mem_append];exact .inr (.inr (List.mem_map.mpr ⟨_,ih,rfl⟩))
theorem x9u{t:Tm}(h:pls t=[]):Nf t:=fun u hu=>by
 obtain⟨p,hp,_⟩:=R_pl hu
 have:=x4w hp
 rw[h]at this
 cases this
inductive StepL:Tm->List Tm->Prop
 |stop {t:Tm}:pls t=[]->StepL t [t]
 |go {t:Tm} {p:List Nat} {qs:List (List Int)} {L:List Tm}:pls t=ci p::qs->Pl t p->StepL (dn t p) L->StepL t (t::L)
theorem StepL.last{t:Tm}{L:List Tm}(h:StepL t L):∃M u,L=M++[u]/\Rs t u/\Nf u:=by
 induction h with
 |stop h=>exact⟨[],_,rfl,.nil _,x9u h⟩
 |go h hp _ ih=>
  obtain⟨M,u,rfl,h1,h2⟩:=ih
  exact⟨_::M,u,rfl,.cons (pl_R hp) h1,h2⟩
theorem y6s:∀(t:Tm){n j:Nat},n<=j->t.gd n->oc t j=0
 |.nm _,_,_,_,_=>rfl
 |.lf _ _,_,_,_,h=>rfl
 |.bd k,n,j,l,h=>by
  have:k<n:=h
  simp only[oc]
  rw[if_neg (by omega)]
 |.fn _ t,n,j,l,h=>y6s t (Nat.succ_le_succ l) h.2
 |.ap f a,n,j,l,h=>by simp only[oc,y6s f l h.1,y6s a l h.2]
def Rd.tt(L:Int×Fm->Tm):Rd->Tm
 |.w i f=>L (i,f)
 |.n .a l r=>.ap (l.tt L) (r.tt L)
 |.n .b l r=>.ap (r.tt L) (l.tt L)
 |.n .c l r=>.fn r.fm.arg.kd (.ap (l.tt L) (.ap (r.tt L) (.bd 0)))
 |.n .d l r=>.fn l.fm.arg.kd (.ap (r.tt L) (.ap (l.tt L) (.bd 0)))
theorem z0k(L:Int×Fm->Tm):∀r:Rd,(r.tt L).pv=r.tm (fun p=>(L p).pv)
 |.w _ _=>rfl
 |.n .a l r=>by simp only[Rd.tt,Rd.tm,Tm.pv,z0k L l,z0k L r];rfl
 |.n .b l r=>by simp only[Rd.tt,Rd.tm,Tm.pv,z0k L l,z0k L r];rfl
 |.n .c l r=>by simp only[Rd.tt,Rd.tm,Tm.pv,z0k L l,z0k L r];rfl
 |.n .d l r=>by simp only[Rd.tt,Rd.tm,Tm.pv,z0k L l,z0k L r];rfl
theorem z1m{L M:Int×Fm->PV}:∀{r:Rd},(∀p∈r.ws,L p=M p)->r.tm L=r.tm M
 |.w i f,h=>h (i,f) (by simp[Rd.ws])
 |.n s l r,h=>by
  have h1:=z1m (r:=l) fun p hp=>h p (by simp[Rd.ws,hp])
  have h2:=z1m (r:=r) fun p hp=>h p (by simp[Rd.ws,hp])
  cases s<;>simp only[Rd.tm,h1,h2]
theorem z1t:∀f:Fm,q4g f.pv=true
 |.b s=>by simp[Fm.pv,q4g,q7g]
 |.n l x y=>by simp only[Fm.pv,q4g,q7g,List.length_cons,List.length_nil,Nat.reduceAdd,Nat.reduceLeDiff,decide_true,Bool.and_true,z1t x,z1t y,Bool.and_self]
theorem y4m{L:Int×Fm->Tm}{A:Tm->Prop}(hA:A=li\/A=af 1):∀{r:Rd},(∀p∈r.ws,(L p).gd 0/\A (L p))->A (r.tt L)/\(∀j,oc (r.tt L) j=0)
 |.w i f,h=>by
  obtain⟨h1,h2⟩:=h (i,f) (by simp[Rd.ws])
  exact⟨h2,fun j=>y6s _ (Nat.zero_le _) h1⟩
 |.n s l r,h=>by
  obtain⟨l1,l2⟩:=y4m hA (r:=l) fun p hp=>h p (by simp[Rd.ws,hp])
  obtain⟨r1,r2⟩:=y4m hA (r:=r) fun p hp=>h p (by simp[Rd.ws,hp])
  rcases hA with rfl|rfl
  ·cases s with
   |a=>exact⟨⟨l1,r1⟩,fun j=>by simp only[Rd.tt,oc,l2,r2]⟩
   |b=>exact⟨⟨r1,l1⟩,fun j=>by simp only[Rd.tt,oc,l2,r2]⟩
   |c=>exact⟨⟨by simp only[oc,l2,r2];rfl,l1,r1,trivial⟩,fun j=>by simp only[Rd.tt,oc,l2,r2];rw[if_neg (by omega)]⟩
   |d=>exact⟨⟨by simp only[oc,l2,r2];rfl,r1,l1,trivial⟩,fun j=>by simp only[Rd.tt,oc,l2,r2];rw[if_neg (by omega)]⟩
  ·cases s with
   |a=>exact⟨⟨l1,r1⟩,fun j=>by simp only[Rd.tt,oc,l2,r2]⟩
   |b=>exact⟨⟨r1,l1⟩,fun j=>by simp only[Rd.tt,oc,l2,r2]⟩
   |c=>exact⟨⟨by simp only[oc,l2,r2];decide,l1,r1,trivial⟩,fun j=>by simp only[Rd.tt,oc,l2,r2];rw[if_neg (by omega)]⟩
   |d=>exact⟨⟨by simp only[oc,l2,r2];decide,r1,l1,trivial⟩,fun j=>by simp only[Rd.tt,oc,l2,r2];rw[if_neg (by omega)]⟩
theorem y4k{L:Int×Fm->Tm}:∀{r:Rd},(∀p∈r.ws,(L p).sz<=30/\(L p).nd<=19)->(r.tt L).sz+4<=34*r.lv/\(r.tt L).nd+3<=22*r.lv
 |.w i f,h=>by have:=h (i,f) (by simp[Rd.ws]);simp only[Rd.tt,Rd.lv];omega
 |.n s l r,h=>by
  have h1:=y4k (r:=l) fun p hp=>h p (by simp[Rd.ws,hp])
  have h2:=y4k (r:=r) fun p hp=>h p (by simp[Rd.ws,hp])
  cases s<;>(simp only[Rd.tt,Rd.lv,Tm.sz,Tm.nd];omega)
def q8g(p:Int×Fm):Tm:=.lf p.1 p.2.pv
def UnQ(sp:Den):Prop:=∀(r:Rd)(a b:Int)(g:Fm),r.is a b g->r.sm->r.lv<=10->∀(S:q0h)(E:EK)(Q:VC),(∀S',Ex [] S S'->Q (r.tt q8g).pv S')->sp [r.pv] S E Q
theorem x3m{s1 s2 sf:Den}(h1:WoD s2 10)(hf:∀L,FtD L sf 10)(hs:s1=fnP 2 2 (q1n sf)):UnQ (fnP 1 1 (q3s s1 s2)):=by
 intro r a b g his hsm hr S E Q h
 refine⟨rfl,?_⟩
 unfold q3s
 dsimp![true_and]
 refine h1 r hr _ _ _ fun q S1 _ hq hx1=>?_
 dsimp![q0v hq]
 obtain⟨_,_,nd⟩:=z9h his
 have hl:=q7j r
 refine dcI (fun rest σ S2=>∃(ps qs:List (Int×Fm))(kvs:List (Key×PV))(j1 j2:Option PV),rest=ps.map encW/\σ=[j1,j2]/\qs++ps=r.ws/\S2[S1.length]?=some (.dK kvs)/\S2[q]?=some (.lst (r.ws.map encW))/\Ex [] S S2/\kvs.length<=qs.length/\(∀p∈qs,valP kvs (.inl p.1)=some (q8g p).pv)) ?_ ?_ _ _ _ ⟨r.ws,[],[],none,none,rfl,rfl,rfl,q1h _ _,q2p hq _,hx1.app _,Nat.le_refl _,by simp⟩
 ·rintro σ S2 ⟨ps,qs,kvs,j1,j2,hr',rfl,e,k1,k2,k3,k4,k5⟩
  obtain rfl:ps=[]:=by cases ps with
   |nil=>rfl
   |cons a b=>simp at hr'
  rw[List.append_nil]at e
  refine⟨q0v k2,?_⟩
  rw[hs]
  refine⟨rfl,?_⟩
  unfold q1n
  dsimp![true_and]
  refine hf (fun p=>(q8g p).pv) r a b g his hsm hr _ kvs S2 _ _ k1 (fun p hp=>k5 p (by rw[e];exact hp)) ?_
  dsimp![z6s]
  have:=h _ k3
  rw[z0k]at this
  exact this
 ·rintro x rest σ S2 ⟨ps,qs,kvs,j1,j2,hr',rfl,e,k1,k2,k3,k4,k5⟩ N hN
  obtain⟨p,ps,rfl⟩:∃p r,ps=p::r:=by
   cases ps with
   |nil=>simp at hr'
   |cons a b=>exact⟨a,b,rfl⟩
  simp only[List.map_cons,List.cons.injEq]at hr'
  obtain⟨rfl,rfl⟩:=hr'
  refine⟨q0v k2,?_⟩
  have hle:=congrArg List.length e
  simp only[List.length_append,List.length_cons]at hle
  have hq2:=q1j k2
  have hq1:=q1j hq
  dsimp![encW]
  refine⟨big (by decide),kvs,.inl p.1,k1,rfl,bigl (by omega),hN _ _ ⟨ps,qs++[p],putP kvs (.inl p.1) (q8g p).pv,_,_,rfl,rfl,by rw[<-e];simp,q1u _ k1,q3n _ k2 (by omega),k3.set (.inr hx1.1),?_,?_⟩⟩
  ·have:=q7q kvs (.inl p.1) (q8g p).pv
   simp only[List.length_append,List.length_singleton];omega
  ·intro p' hp'
   rcases List.mem_append.mp hp' with z|z
   ·have hne:p'.1≠p.1:=by
     intro y
     rw[<-e,List.map_append,List.nodup_append]at nd
     exact nd.2.2 p'.1 (List.mem_map.mpr ⟨p',z,rfl⟩) p.1 (by simp) y
    rw[q5p _ _ _ _ (by simpa using hne)]
    exact k5 p' z
   ·rw[List.mem_singleton]at z
    subst z
    exact q6l _ _ _
def q3h(spLuses:Den):WS:=
 (wSeq (wSet 1 (wLst wNil))
 (wRet (z1j (q0t spLuses (q0d (wVar 0) (q0d (wLst wNil) (q0d (wVar 1) wNil)))) (wBin cLt (wCB y6t (q0d (wBin bAdd (wVar 1) (wLst (q0d (wC (.int 0)) wNil))) wNil)) (wC (.int 2))))))
def q2x(spLkind_of_form:Den):WS:=
 (wSeq (wIfS (q0y (wBin cEq (wBin bIx (wVar 0) (wC (.int 0))) (wC (.str "basic"))))
 (wRet (wBin bIx (wVar 0) (wC (.int 1))))
 q1g)
 (wRet (wTup (q0d (q0t spLkind_of_form (q0d (wBin bIx (wVar 0) (wC (.int 2))) wNil)) (q0d (q0t spLkind_of_form (q0d (wBin bIx (wVar 0) (wC (.int 1))) wNil)) wNil)))))
def q1q(spLkind_of_form:Den)(spLkind_of:Den):WS:=
 (wSeq (wIfS (q0y (wBin cEq (wBin bIx (wVar 1) (wC (.int 0))) (wC (.str "name"))))
 (wRet (wBM "dict" mGet (wVar 0) (q0d (wBin bIx (wVar 1) (wC (.int 1))) wNil)))
 q1g)
 (wSeq (wIfS (q0y (wBin cEq (wBin bIx (wVar 1) (wC (.int 0))) (wC (.str "leaf"))))
 (wRet (q0t spLkind_of_form (q0d (wBin bIx (wVar 1) (wC (.int 2))) wNil)))
 q1g)
 (wSeq (wIfS (q0y (wBin cEq (wBin bIx (wVar 1) (wC (.int 0))) (wC (.str "bound"))))
 (wRet (wBin bIx (wVar 2) (wBin bSub (wNeg (wC (.int 1))) (wBin bIx (wVar 1) (wC (.int 1))))))
 q1g)
 (wSeq (wIfS (q0y (wBin cEq (wBin bIx (wVar 1) (wC (.int 0))) (wC (.str "fn"))))
 (wSeq (wSet 3 (q0t spLkind_of (q0d (wVar 0) (q0d (wBin bIx (wVar 1) (wC (.int 2))) (q0d (wBin bAdd (wVar 2) (wLst (q0d (wBin bIx (wVar 1) (wC (.int 1))) wNil))) wNil)))))
 (wSeq (wIfS (q0y (wBin cIs (wVar 3) (wC .non)))
 (wRet (wC .non))
 q1g)
 (wRet (wTup (q0d (wBin bIx (wVar 1) (wC (.int 1))) (q0d (wVar 3) wNil))))))
 q1g)
 (wSeq (wSet 4 (q0t spLkind_of (q0d (wVar 0) (q0d (wBin bIx (wVar 1) (wC (.int 1))) (q0d (wVar 2) wNil)))))
 (wSeq (wSet 5 (q0t spLkind_of (q0d (wVar 0) (q0d (wBin bIx (wVar 1) (wC (.int 2))) (q0d (wVar 2) wNil)))))
 (wSeq (wIfS (wOr (q0y (wBin cIs (wVar 4) (wC .non))) (wOr (q0y (wBin cIs (wVar 5) (wC .non))) (wOr (wTru (wCB fIsi (q0d (wVar 4) (q0d (wC (.ty "str")) wNil)))) (q0y (wBin cNe (wBin bIx (wVar 4) (wC (.int 0))) (wVar 5))))))
 (wRet (wC .non))
 q1g)
 (wRet (wBin bIx (wVar 4) (wC (.int 1)))))))))))
theorem x8o{ps:List (Str×Kd)}{e:List Kd}{t:Tm}{k:Kd}(h:Ty ps e t k):∀e1 e' e2,e=e1++e2->Ty ps (e1++e'++e2) (rs t e'.length e1.length) k:=by
 induction h with
 |nm h=>intro e1 e' e2 _;exact .nm h
 |lf n h g=>intro e1 e' e2 _;exact .lf n h g
 |@bd e j k h=>
  rintro e1 e' e2 rfl
  rw[x0f]
  split
  ·rename_i hl
   rw[List.getElem?_append_left hl]at h
   exact .bd (by rw[List.append_assoc,List.getElem?_append_left hl];exact h)
  ·rename_i hl
   rw[List.getElem?_append_right (by omega)]at h
   refine .bd ?_
   rw[List.getElem?_append_right (by simp;omega)]
   rw[<-h]
   congr 1
   simp;omega
 |fn h _ ih=>
  rintro e1 e' e2 rfl
  exact .fn h (ih (_::e1) e' e2 rfl)
 |ap _ _ i1 i2=>
  rintro e1 e' e2 rfl
  exact .ap (i1 e1 e' e2 rfl) (i2 e1 e' e2 rfl)
theorem x8n{ps:List (Str×Kd)}{e:List Kd}{t:Tm}{k:Kd}(h:Ty ps e t k):∀e1 k0 e2 (a:Tm),e=e1++k0::e2->Ty ps e2 a k0->Ty ps (e1++e2) (sb t e1.length a) k:=by
 induction h with
 |nm h=>intro e1 k0 e2 a _ _;exact .nm h
 |lf n h g=>intro e1 k0 e2 a _ _;exact .lf n h g
 |@bd e j k h=>
  rintro e1 k0 e2 a rfl ha
  rcases Nat.lt_trichotomy j e1.length with z|z|z
  ·rw[x0a z]
   rw[List.getElem?_append_left z]at h
   exact .bd (by rw[List.getElem?_append_left z];exact h)
  ·subst z
   rw[List.getElem?_append_right (Nat.le_refl _),Nat.sub_self,List.getElem?_cons_zero]at h
   cases h
   rw[x0d]
   exact x8o ha [] e1 e2 rfl
  ·rw[x0b z]
   rw[List.getElem?_append_right (by omega),show j-e1.length=(j-1-e1.length)+1 by omega,List.getElem?_cons_succ]at h
   exact .bd (by rw[List.getElem?_append_right (by omega)];exact h)
 |fn h _ ih=>
  rintro e1 k0 e2 a rfl ha
  exact .fn h (ih (_::e1) k0 e2 a rfl ha)
 |ap _ _ i1 i2=>
  rintro e1 k0 e2 a rfl ha
  exact .ap (i1 e1 k0 e2 a rfl ha) (i2 e1 k0 e2 a rfl ha)
theorem R_ty{ps:List (Str×Kd)}{t u:Tm}(h:R t u):∀{e:List Kd}{k:Kd},Ty ps e t k->Ty ps e u k:=by
 induction h with
 |be kk b a=>
  intro e k ht
  cases ht with
  |ap h1 h2=>cases h1 with
   |fn _ h3=>exact x8n h3 [] _ e a rfl h2
 |fn kk _ ih=>
  intro e k ht
  cases ht with
  |fn h1 h2=>exact .fn h1 (ih h2)
 |l a _ ih=>
  intro e k ht
  cases ht with
  |ap h1 h2=>exact .ap (ih h1) h2
 |r f _ ih=>
  intro e k ht
  cases ht with
  |ap h1 h2=>exact .ap h1 (ih h2)
theorem y8h{fs:List Nat}{k:Nat}(h:k<fs.length):own fs k=some (fs.reverse[k]'(by simpa using h)):=by
 unfold own
 rw[if_pos h,List.getElem?_eq_getElem (by omega),List.getElem_reverse]
theorem q7h:∀(t:Tm)(fs:List Nat)(i:Nat),t.gd fs.length->none∉ow t fs i
 |.nm _,_,_,_=>by simp[ow]
 |.lf _ _,_,_,_=>by simp[ow]
 |.bd k,fs,i,h=>by
  have h:k<fs.length:=h
  simp only[ow,List.mem_singleton]
  rw[y8h h]
  exact fun z=>by cases z
 |.fn _ t,fs,i,h=>by
  simp only[ow]
  exact q7h t (fs++[i]) (i+1) (by rw[List.length_append,List.length_singleton];exact h.2)
 |.ap f a,fs,i,h=>by
  simp only[ow,List.mem_append,not_or]
  exact⟨q7h f fs (i+1) h.1,q7h a fs (i+1+f.sz) h.2⟩
theorem z7p:∀(t:Tm)(fs:List Nat)(i j:Nat),t.gd fs.length->fs.Nodup->(∀x∈fs,x<i)->(hj:j<fs.length)->(ow t fs i).count (some (fs.reverse[j]'(by simpa using hj)))=oc t j
 |.nm _,_,_,_,_,_,_,_=>rfl
 |.lf _ _,_,_,_,_,_,_,_=>rfl
 |.bd k,fs,i,j,h,nd,hl,hj=>by
  have h:k<fs.length:=h
  simp only[ow,oc]
  rw[y8h h,List.count_singleton]
  by_cases e:k=j
  ·subst e;simp
  ·rw[if_neg e]
   have:fs.reverse[k]'(by simpa using h)≠fs.reverse[j]'(by simpa using hj):=fun z=>e (x6d ((List.reverse_perm fs).nodup_iff.mpr nd) _ _ z)
   simp only[List.getElem_reverse]at this ⊢
   simp[this]
 |.fn _ t,fs,i,j,h,nd,hl,hj=>by
  simp only[ow,oc]
  have:=z7p t (fs++[i]) (i+1) (j+1) (by rw[List.length_append,List.length_singleton];exact h.2) (by
   rw [List.nodup_append]
   exact ⟨nd,by simp,fun x hx y hy e=>by simp at hy;have:=hl x hx;omega⟩) (fun x hx=>by
   rcases List.mem_append.mp hx with z|z
   ·have:=hl x z;omega
   ·simp at z;omega) (by rw [List.length_append,List.length_singleton];omega)
  rw[<-this]
  congr 2
  simp
 |.ap f a,fs,i,j,h,nd,hl,hj=>by
  simp only[ow,oc,List.count_append]
  rw[z7p f fs (i+1) j h.1 nd (fun x hx=>by have:=hl x hx;omega) hj,z7p a fs (i+1+f.sz) j h.2 nd (fun x hx=>by have:=hl x hx;omega) hj]
theorem y8i:∀(t:Tm)(fs:List Nat)(i x:Nat),some x∈ow t fs i->x∈fs\/(i<=x/\x<i+t.sz):=fun t fs i x h=>by
 rcases z2v t fs i x h with z|z
 ·exact .inl z
 ·exact .inr (q5n t i x z)
theorem z4d:∀(t:Tm)(fs:List Nat)(i x:Nat),af 1 t->t.gd fs.length->fs.Nodup->(∀x∈fs,x<i)->i<=x->(ow t fs i).count (some x)<=1
 |.nm _,_,_,_,_,_,_,_,_=>by simp[ow]
 |.lf _ _,_,_,_,_,_,_,_,_=>by simp[ow]
 |.bd k,fs,i,x,_,h,nd,hl,hx=>by
  simp only[ow]
  exact Nat.le_trans (List.count_le_length) (Nat.le_refl _)
 |.fn _ t,fs,i,x,ha,h,nd,hl,hx=>by
  simp only[ow]
  have nd':(fs++[i]).Nodup:=by
   rw[List.nodup_append]
   exact⟨nd,by simp,fun x hx y hy e=>by simp at hy;have:=hl x hx;omega⟩
  have hl':∀x∈fs++[i],x<i+1:=fun x hx=>by
   rcases List.mem_append.mp hx with z|z
   ·have:=hl x z;omega
   ·simp at z;omega
  have hg:t.gd (fs++[i]).length:=by rw[List.length_append,List.length_singleton];exact h.2
  by_cases e:x=i
  ·subst e
   have:=z7p t (fs++[x]) (x+1) 0 hg nd' hl' (by simp)
   have e2:(fs++[x]).reverse[0]'(by simp)=x:=by simp
   rw[e2]at this
   rw[this]
   exact ha.1
  ·exact z4d t (fs++[i]) (i+1) x ha.2 hg nd' hl' (by omega)
 |.ap f a,fs,i,x,ha,h,nd,hl,hx=>by
  simp only[ow,List.count_append]
  have h1:=z4d f fs (i+1) x ha.1 h.1 nd (fun y hy=>by have:=hl y hy;omega)
  have h2:=z4d a fs (i+1+f.sz) x ha.2 h.2 nd (fun y hy=>by have:=hl y hy;omega)
  have n1:¬(i+1<=x/\x<i+1+f.sz)->(ow f fs (i+1)).count (some x)=0:=fun hn=>List.count_eq_zero.mpr fun hm=>by
   rcases y8i f fs (i+1) x hm with z|z
   ·have:=hl x z;omega
   ·exact hn z
  have n2:¬(i+1+f.sz<=x/\x<i+1+f.sz+a.sz)->(ow a fs (i+1+f.sz)).count (some x)=0:=fun hn=>List.count_eq_zero.mpr fun hm=>by
   rcases y8i a fs (i+1+f.sz) x hm with z|z
   ·have:=hl x z;omega
   ·exact hn z
  by_cases c1:i+1<=x/\x<i+1+f.sz
  ·rw[n2 (by omega)];have:=h1 c1.1;omega
  ·rw[n1 c1]
   by_cases c2:i+1+f.sz<=x/\x<i+1+f.sz+a.sz
   ·have:=h2 c2.1;omega
   ·rw[n2 c2];omega
theorem x7w{t:Tm}(ha:af 1 t)(hg:t.gd 0)(x:Nat):cnt t [] 0 x<=1/\0<=cnt t [] 0 x:=by
 have:=z4d t [] 0 x ha hg (by simp) (by simp) (Nat.zero_le _)
 unfold cnt
 omega
def x8g(sp:Den)(n:Nat):Prop:=∀(q:Nat)(t:Tm),t.dp<n->t.sz<=900->∀(p:Nat)(S:q0h)(E:EK)(Q:VC),S[p]?=some (.lst [])->S[q]?=some (.lst [])->p≠q->(∀S',S'[q]?=some (.lst (gI (fun x=>0+cnt t [] 0 x) ([]++idx t 0)))->Ex [q] S S'->Q (.bl (!decide (none∈ow t [] 0))) S')->sp [t.pv,.ref p,.ref q] S E Q
def LSpD(sp:Den)(n:Nat):Prop:=∀(t:Tm),t.dp<n->t.sz<=900->af 1 t->t.gd 0->∀(S:q0h)(E:EK)(Q:VC),(∀S',Ex [] S S'->Q (.bl true) S')->sp [t.pv] S E Q
theorem x6l{sp:Den}{n:Nat}(hu:x8g sp n):LSpD (fnP 1 2 (q3h sp)) n:=by
 intro t hn hz ha hg S E Q h
 refine⟨rfl,?_⟩
 unfold q3h
 refine seqI fun K hK=>?_
 dsimp![true_and]
 refine⟨big (by decide),hK _ _ ?_⟩
 clear hK K
 dsimp![true_and]
 refine⟨big (by decide),?_⟩
 refine hu S.length t hn hz _ _ _ _ (q1h _ _) (q2p (q1h _ _) _) (by simp) fun S2 u1 hx=>?_
 have hx':Ex [] S S2:=⟨by have:=hx.1;simp at this;omega,fun i hi _=>by
  have:=hx.2 i (by simp;omega) (by simp;omega)
  rw [this,List.append_assoc,List.getElem?_append_left hi]⟩
 have hno:=q7h t [] 0 hg
 rw[decide_eq_false hno]
 have eg:gI (fun x=>0+cnt t [] 0 x) ([]++idx t 0)=(((idx t 0).map fun x=>cnt t [] 0 x)).map PV.int:=by simp[gI]
 rw[eg]at u1
 have u3:=q2p u1 [SO.lst [PV.int 0]]
 have u4:=q1h S2 (SO.lst [PV.int 0])
 have il:=z0c t 0
 dsimp![true_and]
 refine⟨big (by decide),?_⟩
 dsimp![q1m u3,q1m u4]
 have eL:List.map PV.int ((idx t 0).map fun x=>cnt t [] 0 x)++[PV.int 0]=(((idx t 0).map fun x=>cnt t [] 0 x)++[0]).map PV.int:=by simp
 rw[eL]
 refine⟨by rw[List.length_map,List.length_map];exact big (by omega),?_⟩
 unfold y6t
 simp only[z4x,Option.bind_some,z1c]
 refine⟨by simp,fun M m1 m2=>?_⟩
 have hM:M<=1:=by
  rcases List.mem_append.mp m1 with z|z
  ·obtain⟨x,_,rfl⟩:=List.mem_map.mp z
   exact(x7w ha hg x).1
  ·simp at z;omega
 rw[decide_eq_true (show M<2 by omega)]
 exact h _ ((hx'.app _).app _)
theorem x6v{T:Nat->Den}(hT:∀n,T (n+1)=fnP 1 1 (q2x (T n))){f:PV}{k:Kd}(hf:FK f k):∀(n:Nat),k.dp<n->∀(S:q0h)(E:EK)(Q:VC),Q k.pv S->T n [f] S E Q:=by
 induction hf with
 |b s=>
  intro n hn S E Q h
  obtain⟨m,rfl⟩:∃m,n=m+1:=⟨n-1,by omega⟩
  rw[hT]
  refine⟨rfl,?_⟩
  unfold q2x
  dsimp![wSeq,q0w,q6g]
  exact h
 |n l _ _ ix iy=>
  intro n hn S E Q h
  simp only[Kd.dp]at hn
  obtain⟨m,rfl⟩:∃m,n=m+1:=⟨n-1,by omega⟩
  rw[hT]
  refine⟨rfl,?_⟩
  unfold q2x
  have e0:((if l=true then Str.ofString "\\" else Str.ofString "/")=Str.ofString "basic")=False:=by cases l<;>(simp only[eq_iff_iff,iff_false,if_true,Bool.false_eq_true,if_false];decide +kernel)
  dsimp![wSeq,q0w,q6g,q8a,e0]
  refine iy m (by omega) _ _ _ ?_
  refine ix m (by omega) _ _ _ ?_
  exact⟨big (by decide),h⟩
theorem Ty.dp{ps:List (Str×Kd)}{e:List Kd}{t:Tm}{k:Kd}(h:Ty ps e t k):(∀p∈ps,p.2.dp<=20)->(∀x∈e,x.dp<=20)->k.dp<=20+t.dp:=by
 induction h with
 |@nm e w k h=>
  intro h1 _
  unfold lkN at h
  cases q:ps.find? fun p=>decide (p.1=w)with
  |none=>rw[q]at h;cases h
  |some p=>
   rw[q]at h
   cases h
   have:=h1 p (List.mem_of_find?_eq_some q)
   simp only[Tm.dp];omega
 |lf n h g=>intro _ _;simp only[Tm.dp];omega
 |bd h=>intro _ h2;have:=h2 _ (List.mem_of_getElem? h);simp only[Tm.dp];omega
 |fn h _ ih=>
  intro h1 h2
  have:=ih h1 (fun x hx=>by
   rcases List.mem_cons.mp hx with z|z
   ·subst z;exact h
   ·exact h2 x z)
  simp only[Kd.dp,Tm.dp];omega
 |ap _ _ i1 i2=>
  intro h1 h2
  have:=i1 h1 h2
  simp only[Kd.dp]at this
  simp only[Tm.dp];omega
theorem x7z{k:Kd}(h:k.dp<=190)(S:q0h)(Q:VC):cNe k.pv k.pv S Q=Q (.bl false) S:=by
 have o:=q9n (k:=k) h
 have e:=z0d k k
 rw[decide_eq_true rfl]at e
 cases k with
 |a s=>rw[Kd.pv,y3j];simp
 |p f t=>
  rw[Kd.pv]at o e ⊢
  rw[q6h]at e
  rw[y3i,e]
  simp[o]
theorem x3o:(Str.ofString "leaf" = Str.ofString "name")=False:=eq_false (by decide +kernel)
theorem x3p:(Str.ofString "bound" = Str.ofString "name")=False:=eq_false (by decide +kernel)
theorem x8r:(Str.ofString "fn" = Str.ofString "name")=False:=eq_false (by decide +kernel)
theorem x8q:(Str.ofString "of" = Str.ofString "name")=False:=eq_false (by decide +kernel)
theorem x3q:(Str.ofString "bound" = Str.ofString "leaf")=False:=eq_false (by decide +kernel)
theorem x8t:(Str.ofString "fn" = Str.ofString "leaf")=False:=eq_false (by decide +kernel)
theorem x8s:(Str.ofString "of" = Str.ofString "leaf")=False:=eq_false (by decide +kernel)
def Kn(ps:List (Str×Kd))(q:Nat)(S:q0h):Prop:=∃kvs,S[q]?=some (.dK kvs)/\∀w k,lkN ps w=some k->valP kvs (.inr w)=some k.pv
theorem x6t{T F:Nat->Den}(hT:∀n,T (n+1)=fnP 3 6 (q1q (F n) (T n)))(hF:∀(n:Nat)(f:PV)(k:Kd),FK f k->k.dp<n->∀(S:q0h)(E:EK)(Q:VC),Q k.pv S->F n [f] S E Q){ps:List (Str×Kd)}(hps:∀p∈ps,p.2.dp<=20){e:List Kd}{t:Tm}{k:Kd}(h:Ty ps e t k) :
  ∀(n q a:Nat)(S:q0h)(E:EK)(Q:VC),t.dp+30<n->t.dp<=160->e.length+t.dp<=1000->(∀x∈e,x.dp<=20)->Kn ps q S->S[a]?=some (.lst (e.reverse.map Kd.pv))->(∀S',Ex [] S S'->Q k.pv S')->T n [.ref q,t.pv,.ref a] S E Q:=by
 induction h with
 |@nm e w k h=>
  rintro n q a S E Q hn _ _ _ ⟨kvs,hq,hk⟩ _ h'
  obtain⟨m,rfl⟩:∃m,n=m+1:=⟨n-1,by omega⟩
  rw[hT]
  refine⟨rfl,?_⟩
  unfold q1q
  refine tgY (i:=1) rfl ?_
  dsimp![Tm.pv,q6g,hq,hk w k h,Option.getD_some]
  exact h' S (Ex.refl _ _)
 |@lf e i f k h g=>
  rintro n q a S E Q hn _ _ _ ⟨kvs,hq,hk⟩ _ h'
  obtain⟨m,rfl⟩:∃m,n=m+1:=⟨n-1,by omega⟩
  rw[hT]
  refine⟨rfl,?_⟩
  unfold q1q
  refine tgN (i:=1) rfl x3o (tgY (i:=1) rfl ?_)
  dsimp![Tm.pv,q8a]
  exact hF m f k h (by simp only[Tm.dp]at hn;omega) _ _ _ (h' S (Ex.refl _ _))
 |@bd e j k h=>
  intro n q a S E Q hn _ _ _ _ ha h'
  obtain⟨m,rfl⟩:∃m,n=m+1:=⟨n-1,by omega⟩
  rw[hT]
  refine⟨rfl,?_⟩
  unfold q1q
  obtain⟨hj,ej⟩:=List.getElem?_eq_some_iff.mp h
  have hat:atI (e.reverse.map Kd.pv) (-1-(j:Int))=some k.pv:=by
   rw[z6c _ j (by simpa using hj),List.getElem?_map,List.length_map,List.length_reverse,List.getElem?_reverse (by omega),show e.length-1-(e.length-1-j)=j by omega,h]
   rfl
  refine tgN (i:=1) rfl x3p (tgN (i:=1) rfl x3q (tgY (i:=1) rfl ?_))
  dsimp![Tm.pv,q6g,ha,hat]
  exact h' S (Ex.refl _ _)
 |@fn e k k' t hk _ ih=>
  intro n q a S E Q hn h160 hl he hq ha h'
  obtain⟨m,rfl⟩:∃m,n=m+1:=⟨n-1,by omega⟩
  simp only[Tm.dp]at hn h160 hl
  rw[hT]
  refine⟨rfl,?_⟩
  unfold q1q
  refine tgN (i:=1) rfl x8r (tgN (i:=1) rfl x8t (tgN (i:=1) rfl tga (tgY (i:=1) rfl ?_)))
  dsimp![wSeq,Tm.pv,q6g,q8a]
  have g1:=q2p ha [SO.lst [k.pv]]
  have g2:=q1h S (SO.lst [k.pv])
  refine⟨big (by decide),?_⟩
  dsimp![q1m g1,q1m g2]
  refine⟨by rw[List.length_map,List.length_reverse];exact big (by omega),?_⟩
  have eL:e.reverse.map Kd.pv++[k.pv]=(k::e).reverse.map Kd.pv:=by simp
  rw[eL]
  have x2:Ex [] S (S++[SO.lst [k.pv]]++[SO.lst ((k::e).reverse.map Kd.pv)]):=(Ex.new [] _ _).app _
  obtain⟨kvs,q1,q2⟩:=hq
  refine ih m q _ _ _ _ (by omega) (by omega) (by simp only[List.length_cons];omega) (fun x hx=>by
   rcases List.mem_cons.mp hx with z|z
   ·subst z;exact hk
   ·exact he x z) ⟨kvs,x2.get q1 (by simp),q2⟩ (q1h _ _) fun S' hx'=>?_
  refine ite2 (fun c=>absurd c (by cases k'<;>exact Bool.false_ne_true)) (fun _=>?_)
  exact⟨big (by decide),h' S' (x2.trans hx')⟩
 |@ap e k k' f a h1 h2 i1 i2=>
  intro n q ar S E Q hn h160 hl he hq ha h'
  obtain⟨m,rfl⟩:∃m,n=m+1:=⟨n-1,by omega⟩
  have kd:=h2.dp hps he
  simp only[Tm.dp]at hn h160 hl
  rw[hT]
  refine⟨rfl,?_⟩
  unfold q1q
  refine tgN (i:=1) rfl x8q (tgN (i:=1) rfl x8s (tgN (i:=1) rfl tgc (tgN (i:=1) rfl tgb ?_)))
  dsimp![wSeq,Tm.pv,q6g,q8a]
  refine i1 m q ar _ _ _ (by omega) (by omega) (by omega) he hq ha fun S1 x1=>?_
  obtain⟨kvs,q1,q2⟩:=hq
  dsimp![Tm.pv,q8a]
  refine i2 m q ar _ _ _ (by omega) (by omega) (by omega) he ⟨kvs,x1.get q1 (by simp),q2⟩ (x1.get ha (by simp)) fun S2 x2=>?_
  dsimp![Kd.pv,q0w,q6g,x7z (k:=k) (by omega)]
  exact ite2 (fun c=>absurd c (by cases k<;>exact Bool.false_ne_true)) (fun _=>h' S2 (x1.trans x2))
theorem q8b(p:Key×PV)(r:List (Key×PV))(k:Key):valP (p::r) k=if p.1=k then some p.2 else valP r k:=by
 unfold valP
 rw[List.find?_cons]
 by_cases h:p.1=k
 ·rw[if_pos h,decide_eq_true h];rfl
 ·rw[if_neg h,decide_eq_false h]
theorem y4f(kvs:List (Key×PV))(k k':Key)(v:PV)(h:k'≠k):valP (putP kvs k v) k'=valP kvs k':=by
 have hk:¬k=k':=fun z=>h z.symm
 unfold putP
 split
 ·rename_i hh
  clear hh
  induction kvs with
  |nil=>rfl
  |cons p r ih=>
   rw[List.map_cons,q8b,q8b]
   by_cases z:p.1=k
   ·have:¬p.1=k':=by rw[z];exact hk
    rw[if_pos z,if_neg this,if_neg this,ih]
   ·rw[if_neg z,ih]
 ·rename_i hh
  clear hh
  induction kvs with
  |nil=>simp[valP,hk]
  |cons p r ih=>rw[List.cons_append,q8b,q8b];simp_all
theorem y9l(kvs:List (Key×PV))(k:Key)(v:PV):valP (putP kvs k v) k=some v:=by
 unfold putP
 split
 ·rename_i h
  induction kvs with
  |nil=>simp at h
  |cons p r ih=>
   rw[List.map_cons,q8b]
   by_cases z:p.1=k
   ·simp[z]
   ·rw[if_neg z,if_neg z]
    refine ih ?_
    rw[List.any_cons,decide_eq_false z,Bool.false_or]at h
    exact h
 ·rename_i h
  induction kvs with
  |nil=>simp[valP]
  |cons p r ih=>
   rw[List.cons_append,q8b]
   simp_all
theorem x5q(kvs:List (Key×PV))(k:Key)(v:PV):(putP kvs k v).length<=kvs.length+1:=by
 unfold putP
 split<;>simp
structure Th(ps:List (Str×Kd))(k:Kd)(t:Tm):Prop where
 af:af 1 t
 ty:Ty ps [] t k
 nd:t.nd<=93
 sz:t.sz<=94
theorem Th.gd{ps:List (Str×Kd)}{k:Kd}{t:Tm}(h:Th ps k t):t.gd 0:=h.ty.gd
theorem Th.r{ps:List (Str×Kd)}{k:Kd}{t u:Tm}(h:Th ps k t)(r:R t u):Th ps k u:=by
 obtain⟨a,_,b,c⟩:=R_af r h.af
 have:=h.nd
 have:=h.sz
 exact⟨a,R_ty r h.ty,by omega,by omega⟩
theorem Th.rs{ps:List (Str×Kd)}{k:Kd}{t u:Tm}(h:Th ps k t)(r:Rs t u):Th ps k u:=by
 induction r with
 |nil=>exact h
 |cons h1 _ ih=>exact ih (h.r h1)
theorem StepL.at{t:Tm}{L:List Tm}(h:StepL t L):∀i u,L[i]?=some u->Rs t u/\((pls u=[]/\i+1=L.length)\/∃p qs,pls u=ci p::qs/\Pl u p/\L[i+1]?=some (dn u p)):=by
 induction h with
 |@stop t h=>
  intro i u hi
  cases i with
  |zero=>cases hi;exact⟨.nil _,.inl ⟨h,rfl⟩⟩
  |succ i=>simp at hi
 |@go t p qs L hp hP hL ih=>
  intro i u hi
  cases i with
  |zero=>
   cases hi
   refine⟨.nil _,.inr ⟨p,qs,hp,hP,?_⟩⟩
   rw[List.getElem?_cons_succ]
   cases hL with
   |stop _=>rfl
   |go _ _ _=>rfl
  |succ i=>
   rw[List.getElem?_cons_succ]at hi
   obtain⟨h1,h2⟩:=ih i u hi
   refine⟨.cons (pl_R hP) h1,?_⟩
   rcases h2 with⟨a,b⟩|⟨p',q',a,b,c⟩
   ·exact .inl ⟨a,by rw[List.length_cons];omega⟩
   ·exact .inr ⟨p',q',a,b,by rw[List.getElem?_cons_succ];exact c⟩
theorem y8p:∀{p q:List Nat},ci p=ci q->p=q
 |[],[],_=>rfl
 |[],_::_,h=>by simp[ci]at h
 |_::_,[],h=>by simp[ci]at h
 |a::p,b::q,h=>by
  simp only[ci,List.map_cons,List.cons.injEq]at h
  rw[y8p (p:=p) (q:=q) h.2,show a=b by omega]
theorem StepL.uniq{t:Tm}{L:List Tm}(h:StepL t L):∀{L':List Tm},StepL t L'->L'=L:=by
 induction h with
 |stop h=>
  intro L' g
  cases g with
  |stop _=>rfl
  |go h2 _ _=>rw[h]at h2;cases h2
 |go h _ _ ih=>
  intro L' g
  cases g with
  |stop h2=>rw[h]at h2;cases h2
  |go h2 _ h3=>
   rw[h]at h2
   simp only[List.cons.injEq]at h2
   rw[<-y8p h2.1]at h3
   rw[ih h3]
theorem StepL.ne{t:Tm}{L:List Tm}(h:StepL t L):∃M,L=t::M:=by
 cases h with
 |stop _=>exact⟨_,rfl⟩
 |go _ _ _=>exact⟨_,rfl⟩
def q2u:WS:=
 (wSeq (wIfS (wOr (wNot (wTru (wCB fIsi (q0d (wVar 0) (q0d (wC (.ty "tuple")) wNil))))) (q0y (wBin cNe (wBin bIx (wVar 0) (wC (.int 0))) (wVar 1))))
 (q9c "NoKind" (q0d (wC (.str "f's kind is no pair that begins with a's kind")) wNil))
 q1g)
 (wRet (wBin bIx (wVar 0) (wC (.int 1)))))
def q2i:WS:=
 (wSeq (wIfS (q0y (wBin z2g (wVar 1) (wVar 0)))
 (q9c "NoKind" (q0d (wC (.str "a name has no pair")) wNil))
 q1g)
 (wRet (wBin bIx (wVar 0) (wVar 1))))
def q2c(spowner_of:Den):WS:=
 (wSeq (wSet 3 (q0t spowner_of (q0d (wVar 1) (q0d (wVar 2) wNil))))
 (wSeq (wIfS (q0y (wBin cIs (wVar 3) (wC .non)))
 (q9c "NoKind" (q0d (wC (.str "a bound one belongs to no fn")) wNil))
 q1g)
 (wSeq (wSet 4 (wBin bIx (wBin bIx (wVar 0) (wVar 3)) (wC (.int 0))))
 (wRet (wBin bIx (wVar 4) (wC (.int 1)))))))
def q3x(spparts_and_fns:Den)(spkind_of_of:Den)(spkind_of_name:Den)(spkind_of_form:Den)(spkind_of_bound:Den):WS:=
 (wSeq (wSet 2 (q8l (q5o (wVar 0)) [none,none] (q3q 2 (q1e (q0z 0) (q1e (q0z 1) q3r))) (wVar 0) (wVar 1)))
 (wSeq (wSet 3 (q0t spparts_and_fns (q0d (wVar 1) wNil)))
 (wSeq (wSet 4 (wLst wNil))
 (wSeq (wFor (z0i (wVar 3)) (q3q 2 (q1e (q0z 5) (q1e (q0z 6) q3r))) (wIfS (q0y (wBin cEq (wBin bIx (wVar 5) (wC (.int 0))) (wC (.str "of"))))
 (wSeq (wSet 7 (wBM0 "list" mPop (wVar 4)))
 (wSeq (wSet 8 (wBM0 "list" mPop (wVar 4)))
 (q4p (wBM "list" q1y (wVar 4) (q0d (q0t spkind_of_of (q0d (wVar 7) (q0d (wVar 8) wNil))) wNil)))))
 (wIfS (q0y (wBin cEq (wBin bIx (wVar 5) (wC (.int 0))) (wC (.str "fn"))))
 (q4p (wBM "list" q1y (wVar 4) (q0d (wTup (q0d (wBin bIx (wVar 5) (wC (.int 1))) (q0d (wBM0 "list" mPop (wVar 4)) wNil))) wNil)))
 (wIfS (q0y (wBin cEq (wBin bIx (wVar 5) (wC (.int 0))) (wC (.str "name"))))
 (q4p (wBM "list" q1y (wVar 4) (q0d (q0t spkind_of_name (q0d (wVar 2) (q0d (wBin bIx (wVar 5) (wC (.int 1))) wNil))) wNil)))
 (wIfS (q0y (wBin cEq (wBin bIx (wVar 5) (wC (.int 0))) (wC (.str "leaf"))))
 (q4p (wBM "list" q1y (wVar 4) (q0d (q0t spkind_of_form (q0d (wBin bIx (wVar 5) (wC (.int 2))) wNil)) wNil)))
 (q4p (wBM "list" q1y (wVar 4) (q0d (q0t spkind_of_bound (q0d (wVar 3) (q0d (wVar 6) (q0d (wBin bIx (wVar 5) (wC (.int 1))) wNil)))) wNil))))))))
 (wRet (wBin bIx (wVar 4) (wC (.int 0))))))))
def Ks:Tm->Nat->Prop
 |.nm _,_=>True
 |.lf _ f,_=>∃k,FK f k/\k.dp<=20
 |.bd j,n=>j<n
 |.fn k t,n=>(∃kd:Kd,k=kd.pv/\kd.dp<=20)/\Ks t (n+1)
 |.ap f a,n=>Ks f n/\Ks a n
theorem Ks.gd:∀{t:Tm}{n:Nat},Ks t n->t.gd n
 |.nm _,_,_=>trivial
 |.lf _ _,_,⟨k,h,g⟩=>⟨h.plain.1,by have:=h.plain.2;omega⟩
 |.bd j,n,h=>h
 |.fn _ t,n,⟨⟨kd,h1,h2⟩,h3⟩=>by subst h1;exact⟨⟨q9a _,by rw[z1d];omega⟩,Ks.gd h3⟩
 |.ap f a,n,h=>⟨Ks.gd h.1,Ks.gd h.2⟩
theorem Ks.mono:∀{t:Tm}{n m:Nat},n<=m->Ks t n->Ks t m
 |.nm _,_,_,_,_=>trivial
 |.lf _ _,_,_,_,h=>h
 |.bd j,n,m,l,h=>Nat.lt_of_lt_of_le (show j<n from h) l
 |.fn _ t,n,m,l,h=>⟨h.1,Ks.mono (Nat.succ_le_succ l) h.2⟩
 |.ap f a,n,m,l,h=>⟨Ks.mono l h.1,Ks.mono l h.2⟩
theorem Ty.ks{ps:List (Str×Kd)}{e:List Kd}{t:Tm}{k:Kd}(h:Ty ps e t k):Ks t e.length:=by
 induction h with
 |nm h=>trivial
 |lf n h g=>exact⟨_,h,g⟩
 |bd h=>exact(List.getElem?_eq_some_iff.mp h).1
 |fn h _ ih=>exact⟨⟨_,rfl,h⟩,ih⟩
 |ap _ _ i1 i2=>exact⟨i1,i2⟩
theorem y1s{k k':Kd}(h:k.pv=k'.pv):k=k':=by
 have:=z0d k k'
 rw[h,z0d,decide_eq_true rfl]at this
 exact of_decide_eq_true this.symm
theorem FK.inv{f:PV}{k:Kd}(h:FK f k):(∃s,f=.tup [.str "basic",.str s]/\k=.a s)\/∃(z:Str)(x y:PV)(kx ky:Kd),f=.tup [.str z,x,y]/\FK x kx/\FK y ky/\k=.p ky kx:=by
 cases h with
 |b s=>exact .inl ⟨s,rfl,rfl⟩
 |n l hx hy=>exact .inr ⟨_,_,_,_,_,rfl,hx,hy,rfl⟩
theorem FK.uniq{f:PV}{k:Kd}(h:FK f k):∀{k'},FK f k'->k'=k:=by
 induction h with
 |b s=>
  intro k' g
  rcases g.inv with⟨s',e,rfl⟩|⟨z,x,y,kx,ky,e,_⟩
  ·simp only[PV.tup.injEq,List.cons.injEq,PV.str.injEq,and_true]at e
   rw[e.2]
  ·simp at e
 |n l hx hy ix iy=>
  intro k' g
  rcases g.inv with⟨s',e,rfl⟩|⟨z,x,y,kx,ky,e,gx,gy,rfl⟩
  ·simp at e
  ·simp only[PV.tup.injEq,List.cons.injEq,and_true]at e
   obtain⟨_,e1,e2⟩:=e
   subst e1 e2
   rw[ix gx,iy gy]
theorem Ty.uniq{ps:List (Str×Kd)}{e:List Kd}{t:Tm}{k:Kd}(h:Ty ps e t k):∀{k'},Ty ps e t k'->k'=k:=by
 induction h with
 |nm h=>intro k' g;cases g with|nm g=>rw[h]at g;cases g;rfl
 |lf n h _=>intro k' g;cases g with|lf _ g _=>exact h.uniq g
 |bd h=>intro k' g;cases g with|bd g=>rw[h]at g;cases g;rfl
 |@fn e k k1 t hk _ ih=>
  intro k' g
  generalize ek:k.pv=kk at g
  cases g with
  |fn _ g=>
   have:=y1s ek
   subst this
   rw[ih g]
 |ap _ _ i1 i2=>
  intro k' g
  cases g with
  |ap g1 g2=>
   have e2:=i2 g2
   have e1:=i1 g1
   simp only[Kd.p.injEq]at e1
   exact e1.2
theorem y3k{k k':Kd}{S:q0h}{Q:VC}(h1:k.dp<=190)(h2:k'.dp<=190)(h:Q (.bl (!decide (k=k'))) S):cNe k.pv k'.pv S Q:=by
 have o1:=q9n (k:=k) (by omega)
 have o2:=q9n (k:=k') (by omega)
 rw[<-z0d]at h
 cases k with
 |a s=>
  cases k' with
  |a t=>rw[Kd.pv,Kd.pv,y3j];simpa[Kd.pv,q4h]using h
  |p f t=>rw[Kd.pv,Kd.pv,y8s];exact⟨by have:=o2.1;rw[Kd.pv,q8e]at this;exact this,by simpa[Kd.pv,z7l]using h⟩
 |p f t=>
  cases k' with
  |a t=>rw[Kd.pv,Kd.pv,y8r];exact⟨by have:=o1.1;rw[Kd.pv,q8e]at this;exact this,by simpa[Kd.pv,z7k]using h⟩
  |p f' t'=>rw[Kd.pv,Kd.pv,y3i];rw[Kd.pv]at o1 o2;exact⟨⟨o1,o2⟩,by simpa[Kd.pv,q6h]using h⟩
theorem y6i{vs:List (Str×Kd)}{p:Str×Kd}(h:p.1∉vs.map (·.1))(w:Str):lkN (vs++[p]) w=if p.1=w then some p.2 else lkN vs w:=by
 by_cases e:p.1=w
 ·rw[if_pos e,<-e];exact y1n h
 ·rw[if_neg e]
  unfold lkN
  rw[List.find?_append]
  have:([p].find? fun p=>decide (p.1=w))=none:=by simp[e]
  rw[this,Option.or_none]
def Kq(ps:List (Str×Kd))(kvs:List (Key×PV)):Prop:=∀w,valP kvs (.inr w)=(lkN ps w).map Kd.pv
theorem Kq.put{vs:List (Str×Kd)}{kvs:List (Key×PV)}{p:Str×Kd}(h:Kq vs kvs)(hn:p.1∉vs.map (·.1)):Kq (vs++[p]) (putP kvs (.inr p.1) p.2.pv):=fun w=>by
 rw[y6i hn]
 by_cases e:p.1=w
 ·subst e;rw[if_pos rfl,y9l];rfl
 ·rw[if_neg e,y4f _ _ _ _ (by simp only[ne_eq,Sum.inr.injEq];exact fun z=>e z.symm)]
  exact h w
theorem Kq.nil:Kq [] []:=fun w=>rfl
theorem x6w{T:Nat->Den}(hT:∀n,T (n+1)=fnP 1 1 (q1w (T n))){f:PV}{k:Kd}(hf:FK f k):∀(n:Nat),k.dp<n->∀(S:q0h)(E:EK)(Q:VC),Q k.pv S->T n [f] S E Q:=by
 induction hf with
 |b s=>
  intro n hn S E Q h
  obtain⟨m,rfl⟩:∃m,n=m+1:=⟨n-1,by omega⟩
  rw[hT]
  refine⟨rfl,?_⟩
  unfold q1w
  dsimp![wSeq,q0w,q6g]
  exact h
 |n l _ _ ix iy=>
  intro n hn S E Q h
  simp only[Kd.dp]at hn
  obtain⟨m,rfl⟩:∃m,n=m+1:=⟨n-1,by omega⟩
  rw[hT]
  refine⟨rfl,?_⟩
  unfold q1w
  have e0:((if l=true then Str.ofString "\\" else Str.ofString "/")=Str.ofString "basic")=False:=by cases l<;>(simp only[eq_iff_iff,iff_false,if_true,Bool.false_eq_true,if_false];decide +kernel)
  dsimp![wSeq,q0w,q6g,q8a,e0]
  refine iy m (by omega) _ _ _ ?_
  refine ix m (by omega) _ _ _ ?_
  exact⟨big (by decide),h⟩
def KooD(sp:Den):Prop:=∀(kf ka:Kd)(S:q0h)(E:EK)(Q:VC),kf.dp<=190->ka.dp<=190->(∀k,kf=.p ka k->Q k.pv S)->((¬∃k,kf=.p ka k)->E (.exc "NoKind") S)->sp [kf.pv,ka.pv] S E Q
theorem x6r:KooD (fnP 2 2 q2u):=by
 intro kf ka S E Q h1 h2 hy hn
 refine⟨rfl,?_⟩
 unfold q2u
 refine seqI fun K hK=>?_
 cases kf with
 |a s=>
  dsimp![Kd.pv]
  exact⟨big (by decide),hn (by rintro⟨k,e⟩;cases e)⟩
 |p k0 k1=>
  simp only[Kd.dp]at h1
  dsimp![Kd.pv,q0w]
  refine y3k (by omega) h2 ?_
  dsimp![true_and]
  refine ite2 (fun c=>⟨big (by decide),hn ?_⟩) (fun c=>hK _ _ ?_)
  ·rintro⟨k,e⟩
   cases e
   exact c rfl
  ·have c:k0=ka:=Classical.not_not.mp c
   subst c
   dsimp![q6g]
   exact hy k1 rfl
def KonD(sp:Den):Prop:=∀(ps:List (Str×Kd))(q:Nat)(kvs:List (Key×PV))(w:Str)(S:q0h)(E:EK)(Q:VC),S[q]?=some (.dK kvs)->Kq ps kvs->(∀k,lkN ps w=some k->Q k.pv S)->(lkN ps w=none->E (.exc "NoKind") S)->sp [.ref q,.str w] S E Q
theorem x6s:KonD (fnP 2 2 q2i):=by
 intro ps q kvs w S E Q hq hk hy hn
 refine⟨rfl,?_⟩
 unfold q2i
 have:=hk w
 refine seqI fun K hK=>?_
 cases e:lkN ps w with
 |none=>
  rw[e,Option.map_none]at this
  dsimp![hq,this,Option.isSome_none]
  exact⟨big (by decide),hn e⟩
 |some k=>
  rw[e,Option.map_some]at this
  dsimp![hq,this,Option.isSome_some]
  refine hK _ _ ?_
  dsimp![hq,this]
  exact hy k e
def KobD(sp:Den):Prop:=∀(rw':Nat)(rows:List PV)(fs:List Nat)(j x:Nat)(k:Kd)(b y:PV)(S:q0h)(E:EK)(Q:VC),S[rw']?=some (.lst rows)->own fs j=some x->rows[x]?=some (.tup [.tup [.str "fn",k.pv,b],y])->Q k.pv S->sp [.ref rw',.tup (encI fs),.int (j:Nat)] S E Q
theorem x6u{so:Den}(ho:y3r so):KobD (fnP 3 5 (q2c so)):=by
 intro rw' rows fs j x k b y S E Q hr hx hrow h
 refine⟨rfl,?_⟩
 unfold q2c
 obtain⟨hl,el⟩:=List.getElem?_eq_some_iff.mp hrow
 have hat:atI rows (x:Int)=some (.tup [.tup [.str "fn",k.pv,b],y]):=by rw[q4a _ x hl,el]
 refine seqI fun K hK=>?_
 dsimp![true_and]
 refine ho fs j _ _ _ ?_
 rw[hx]
 dsimp![encO]
 refine hK _ _ ?_
 clear hK K
 refine seqI fun K hK=>?_
 dsimp![true_and]
 refine hK _ _ ?_
 clear hK K
 dsimp![wSeq,hr,hat,q0w,q6g]
 exact h
def kpG:WG:=q3q 2 (q1e (q0z 5) (q1e (q0z 6) q3r))
def kpB(s1 s2 s3 s4:Den):WS:=(wIfS (q0y (wBin cEq (wBin bIx (wVar 5) (wC (.int 0))) (wC (.str "of"))))
 (wSeq (wSet 7 (wBM0 "list" mPop (wVar 4)))
 (wSeq (wSet 8 (wBM0 "list" mPop (wVar 4)))
 (q4p (wBM "list" q1y (wVar 4) (q0d (q0t s1 (q0d (wVar 7) (q0d (wVar 8) wNil))) wNil)))))
 (wIfS (q0y (wBin cEq (wBin bIx (wVar 5) (wC (.int 0))) (wC (.str "fn"))))
 (q4p (wBM "list" q1y (wVar 4) (q0d (wTup (q0d (wBin bIx (wVar 5) (wC (.int 1))) (q0d (wBM0 "list" mPop (wVar 4)) wNil))) wNil)))
 (wIfS (q0y (wBin cEq (wBin bIx (wVar 5) (wC (.int 0))) (wC (.str "name"))))
 (q4p (wBM "list" q1y (wVar 4) (q0d (q0t s2 (q0d (wVar 2) (q0d (wBin bIx (wVar 5) (wC (.int 1))) wNil))) wNil)))
 (wIfS (q0y (wBin cEq (wBin bIx (wVar 5) (wC (.int 0))) (wC (.str "leaf"))))
 (q4p (wBM "list" q1y (wVar 4) (q0d (q0t s3 (q0d (wBin bIx (wVar 5) (wC (.int 2))) wNil)) wNil)))
 (q4p (wBM "list" q1y (wVar 4) (q0d (q0t s4 (q0d (wVar 3) (q0d (wVar 6) (q0d (wBin bIx (wVar 5) (wC (.int 1))) wNil)))) wNil)))))))
structure Wk(x0 x1:PV)(dq rw' tl:Nat)(kvs:List (Key×PV))(rows:List PV)(S0:q0h)(st:List Kd)(σ:Ev.Loc)(S:q0h):Prop where
 loc:∃j5 j6 j7 j8:Option PV,σ=[some x0,some x1,some (.ref dq),some (.ref rw'),some (.ref tl),j5,j6,j7,j8]
 gd:S[dq]?=some (.dK kvs)
 gw:S[rw']?=some (.lst rows)
 gt:S[tl]?=some (.lst (st.reverse.map Kd.pv))
 ex:Ex [] S0 S
 n1:tl≠dq
 n2:tl≠rw'
 n3:S0.length<=tl
theorem Wk.push{x0 x1:PV}{dq rw' tl:Nat}{kvs:List (Key×PV)}{rows:List PV}{S0:q0h}{st st':List Kd}{σ σ':Ev.Loc}{S:q0h}(h:Wk x0 x1 dq rw' tl kvs rows S0 st σ S)(hs:∃j5 j6 j7 j8:Option PV,σ'=[some x0,some x1,some (.ref dq),some (.ref rw'),some (.ref tl),j5,j6,j7,j8]){o:SO}(ho:o=.lst (st'.reverse.map Kd.pv)):Wk x0 x1 dq rw' tl kvs rows S0 st' σ' (S.set tl o):=by
 subst ho
 exact⟨hs,q3n _ h.gd h.n1,q3n _ h.gw h.n2,q1u _ h.gt,h.ex.set (.inr h.n3),h.n1,h.n2,h.n3⟩
def Rf(rows:List PV)(fs:List Nat)(e:List Kd):Prop:=fs.length=e.length/\∀j k,e[j]?=some k->∃x b y,own fs j=some x/\rows[x]?=some (.tup [.tup [.str "fn",k.pv,b],y])
theorem y5u(fs:List Nat)(i j:Nat):own (fs++[i]) (j+1)=own fs j:=by
 unfold own
 rw[List.length_append,List.length_singleton]
 by_cases h:j<fs.length
 ·rw[if_pos h,if_pos (by omega),List.getElem?_append_left (by omega),show fs.length+1-1-(j+1)=fs.length-1-j by omega]
 ·rw[if_neg h,if_neg (by omega)]
theorem y5v(fs:List Nat)(i:Nat):own (fs++[i]) 0=some i:=by
 unfold own
 rw[if_pos (by simp)]
 simp
theorem Rf.push{rows:List PV}{fs:List Nat}{e:List Kd}(h:Rf rows fs e){i:Nat}{k:Kd}{b y:PV}(hi:rows[i]?=some (.tup [.tup [.str "fn",k.pv,b],y])):Rf rows (fs++[i]) (k::e):=by
 refine⟨by simp[h.1],fun j k' hj=>?_⟩
 cases j with
 |zero=>cases hj;exact⟨i,b,y,y5v fs i,hi⟩
 |succ j=>
  obtain⟨x,b',y',h1,h2⟩:=h.2 j k' hj
  exact⟨x,b',y',by rw[y5u];exact h1,h2⟩
theorem w0a{s1 s2 s3 s4:Den}{ps:List (Str×Kd)}(hps:∀p∈ps,p.2.dp<=20)(h1:KooD s1)(h2:KonD s2)(h3:∀(f:PV)(k:Kd),FK f k->k.dp<=20->∀(S:q0h)(E:EK)(Q:VC),Q k.pv S->s3 [f] S E Q)(h4:KobD s4){x0 x1:PV}{dq rw' tl:Nat}{kvs:List (Key×PV)}{rows:List PV}{S0:q0h}{D:PEnds}{E:EK}(hk:Kq ps kvs) :
  ∀(t:Tm)(fs:List Nat)(i:Nat)(e:List Kd)(REST:List PV)(st:List Kd)(σ:Ev.Loc)(S:q0h),Ks t e.length->t.dp<=160->(∀x∈e,x.dp<=20)->t.sz+st.length<=2000->Rf rows fs e->(∀j,j<t.sz->rows[i+j]?=((q2a t fs i).map enc)[j]?)->Wk x0 x1 dq rw' tl kvs rows S0 st σ S->
  (∀k,Ty ps e t k->∀σ' S',Wk x0 x1 dq rw' tl kvs rows S0 (k::st) σ' S'->z3v (fun S=>q3o S rw'=some rows) kpG (kpB s1 s2 s3 s4) D E REST σ' S')->
  ((¬∃k,Ty ps e t k)->∀S',Ex [] S0 S'->E (.exc "NoKind") S')->
  z3v (fun S=>q3o S rw'=some rows) kpG (kpB s1 s2 s3 s4) D E ((q2a t fs i).reverse.map enc++REST) σ S:=by
 intro t
 induction t with
 |nm w=>
  intro fs i e REST st σ S _ _ _ hz _ _ W hy hn
  obtain⟨j5,j6,j7,j8,rfl⟩:=W.loc
  refine forC (q0v W.gw) fun N hN=>?_
  unfold kpG
  dsimp![enc]
  refine tnN (i:=5) rfl tg2 (tnN (i:=5) rfl tg1 (tnY (i:=5) rfl ?_))
  dsimp![Tm.pv,q6g,W.gt]
  refine h2 ps dq kvs w _ _ _ W.gd hk (fun k hk'=>?_) (fun hno=>hn (fun hh1=>by obtain⟨k,g⟩:=hh1;cases g with|nm g=>rw[hno]at g;cases g) _ W.ex)
  dsimp![q1m W.gt]
  refine⟨by simp only[List.length_map,List.length_reverse];exact bigl (by omega),hN _ _ (hy k (.nm hk') _ _ (W.push ⟨_,_,_,_,rfl⟩ (by simp)))⟩
 |lf n f=>
  rintro fs i e REST st σ S ⟨k,hf,hkd⟩ _ _ hz _ _ W hy hn
  obtain⟨j5,j6,j7,j8,rfl⟩:=W.loc
  refine forC (q0v W.gw) fun N hN=>?_
  unfold kpG
  dsimp![enc]
  refine tnN (i:=5) rfl tg5 (tnN (i:=5) rfl tg4 (tnN (i:=5) rfl x3o (tnY (i:=5) rfl ?_)))
  dsimp![Tm.pv,q8a,W.gt]
  refine h3 f k hf hkd _ _ _ ?_
  dsimp![q1m W.gt]
  refine⟨by simp only[List.length_map,List.length_reverse];exact bigl (by omega),hN _ _ (hy k (.lf n hf hkd) _ _ (W.push ⟨_,_,_,_,rfl⟩ (by simp)))⟩
 |bd j=>
  intro fs i e REST st σ S hj _ _ hz hR _ W hy hn
  have hj:j<e.length:=hj
  obtain⟨j5,j6,j7,j8,rfl⟩:=W.loc
  have ej:e[j]?=some e[j]:=List.getElem?_eq_getElem hj
  obtain⟨x,b,y,r1,r2⟩:=hR.2 j _ ej
  refine forC (q0v W.gw) fun N hN=>?_
  unfold kpG
  dsimp![enc]
  refine tnN (i:=5) rfl tg8 (tnN (i:=5) rfl tg7 (tnN (i:=5) rfl x3p (tnN (i:=5) rfl x3q ?_)))
  dsimp![Tm.pv,q6g,W.gt]
  refine h4 rw' rows fs j x _ b y _ _ _ W.gw r1 r2 ?_
  dsimp![q1m W.gt]
  refine⟨by simp only[List.length_map,List.length_reverse];exact bigl (by omega),hN _ _ (hy _ (.bd ej) _ _ (W.push ⟨_,_,_,_,rfl⟩ (by simp)))⟩
 |fn kk b ih=>
  rintro fs i e REST st σ S ⟨⟨k,hkk,hkd⟩,hks⟩ hd he hz hR hseg W hy hn
  subst hkk
  simp only[Tm.sz]at hz hseg
  simp only[Tm.dp]at hd
  simp only[q2a,List.reverse_cons,List.map_append,List.append_assoc,List.map_cons,List.map_nil,List.singleton_append]
  have h0:=hseg 0 (by omega)
  simp only[q2a,List.map_cons,Nat.add_zero,List.getElem?_cons_zero]at h0
  refine ih (fs++[i]) (i+1) (k::e) _ st σ S hks (by omega) (fun x hx=>by
   rcases List.mem_cons.mp hx with z|z
   ·subst z;exact hkd
   ·exact he x z) (by omega) (hR.push h0) (fun j hj=>by
   have:=hseg (j+1) (by omega)
   simp only [q2a,List.map_cons,List.getElem?_cons_succ]at this
   rw [show i+1+j=i+(j+1) by omega]
   exact this) W (fun k' hk' σ' S' W'=>?_) (fun hno=>hn (fun hh2=>by
    obtain ⟨k',g⟩:=hh2
    generalize ek:k.pv=kz at g
    cases g with
    |fn _ g=>have:=y1s ek;subst this;exact hno ⟨_,g⟩))
  obtain⟨j5,j6,j7,j8,rfl⟩:=W'.loc
  have gt:=W'.gt
  simp only[List.reverse_cons,List.map_append,List.map_cons,List.map_nil]at gt
  have gt2:=q1u (.lst (st.reverse.map Kd.pv)) gt
  refine forC (q0v W'.gw) fun N hN=>?_
  unfold kpG
  dsimp![enc]
  refine tnN (i:=5) rfl tg9 (tnY (i:=5) rfl ?_)
  dsimp![Tm.pv,q6g,gt,q1m gt,List.getLast?_append,List.getLast?_singleton,Option.or,Option.some_or,List.dropLast_concat]
  dsimp![q1m gt2]
  refine⟨big (by decide),by simp only[List.length_map,List.length_reverse];exact bigl (by omega),hN _ _ (hy (.p k k') (.fn hkd hk') _ _ ?_)⟩
  exact(W'.push (st':=st) (σ':=_) ⟨none,none,none,none,rfl⟩ rfl).push ⟨_,_,_,_,rfl⟩ (by simp[Kd.pv])
 |ap f a ihf iha=>
  rintro fs i e REST st σ S ⟨ksf,ksa⟩ hd he hz hR hseg W hy hn
  simp only[Tm.sz]at hz hseg
  simp only[Tm.dp]at hd
  simp only[q2a,List.reverse_cons,List.reverse_append,List.map_append,List.append_assoc,List.map_cons,List.map_nil,List.singleton_append]
  have fl:=q6x f fs (i+1)
  refine iha fs (i+1+f.sz) e _ st σ S ksa (by omega) he (by omega) hR (fun j hj=>by
   have:=hseg (1+f.sz+j) (by omega)
   simp only [q2a,List.map_cons,List.map_append]at this
   rw [show 1+f.sz+j=(f.sz+j)+1 by omega,List.getElem?_cons_succ,List.getElem?_append_right (by rw [List.length_map,fl];omega),List.length_map,fl,show f.sz+j-f.sz=j by omega]at this
   rw [show i+1+f.sz+j=i+(f.sz+j+1) by omega]
   exact this) W (fun ka hka σ1 S1 W1=>?_) (fun hno=>hn (fun hh3=>by obtain ⟨k',g⟩:=hh3;cases g with|ap _ g2=>exact hno ⟨_,g2⟩))
  refine ihf fs (i+1) e _ (ka::st) σ1 S1 ksf (by omega) he (by simp only[List.length_cons];omega) hR (fun j hj=>by
   have:=hseg (1+j) (by omega)
   simp only [q2a,List.map_cons,List.map_append]at this
   rw [show 1+j=j+1 by omega,List.getElem?_cons_succ,List.getElem?_append_left (by rw [List.length_map,fl];omega)]at this
   rw [show i+1+j=i+(j+1) by omega]
   exact this) W1 (fun kf hkf σ2 S2 W2=>?_) (fun hno=>hn (fun hh4=>by obtain ⟨k',g⟩:=hh4;cases g with|ap g1 _=>exact hno ⟨_,g1⟩))
  obtain⟨j5,j6,j7,j8,rfl⟩:=W2.loc
  have kd1:=hka.dp hps he
  have kd2:=hkf.dp hps he
  have gt:=W2.gt
  simp only[List.reverse_cons,List.map_append,List.map_cons,List.map_nil]at gt
  have gt2:=q1u (.lst (st.reverse.map Kd.pv++[ka.pv])) gt
  have gt3:=q1u (.lst (st.reverse.map Kd.pv)) gt2
  refine forC (q0v W2.gw) fun N hN=>?_
  unfold kpG
  dsimp![enc]
  refine tnY (i:=5) rfl ?_
  refine seqI fun K2 hK2=>?_
  dsimp![gt,q1m gt,List.getLast?_append,List.getLast?_singleton,Option.or,Option.some_or,List.dropLast_concat]
  refine hK2 _ _ ?_
  refine seqI fun K2 hK2=>?_
  dsimp![gt2,q1m gt2,List.getLast?_append,List.getLast?_singleton,Option.or,Option.some_or,List.dropLast_concat]
  refine hK2 _ _ ?_
  have W3:=(W2.push (st':=ka::st) (σ':=_) ⟨none,none,none,none,rfl⟩ (o:=.lst (st.reverse.map Kd.pv++[ka.pv])) (by simp)).push (st':=st) (σ':=_) ⟨none,none,none,none,rfl⟩ (o:=.lst (st.reverse.map Kd.pv)) rfl
  dsimp![gt3]
  refine h1 kf ka _ _ _ (by omega) (by omega) (fun k hkk=>?_) (fun hno=>hn (fun hh5=>by
   obtain ⟨k',g⟩:=hh5
   cases g with
   |ap g1 g2=>
    have e1:=hkf.uniq g1
    have e2:=hka.uniq g2
    subst e2
    exact hno ⟨k',e1.symm⟩) _ W3.ex)
  subst hkk
  dsimp![q1m gt3]
  refine⟨by simp only[List.length_map,List.length_reverse];exact bigl (by omega),hN _ _ (hy k (.ap hkf hka) _ _ (W3.push ⟨_,_,_,_,rfl⟩ (by simp)))⟩
theorem dcI2{chk:q0h->Prop}{g:WG}{wk wv:WE}{d:Nat}{Q:VC}(P:List PV->Ev.Loc->q0h->Prop)(hn:∀σ S,P [] σ S->chk S/\Q (.ref d) S)
  (hc:∀x r σ S,P (x::r) σ S->∀N:Ev.Loc->q0h->Prop,(∀σ S,P r σ S->N σ S)->chk S/\g x σ S NoX fun σ2 S2=>wk σ2 S2 NoX fun k S3=>wv σ2 S3 NoX fun v S4=>∃kvs kk,S4[d]?=some (.dK kvs)/\q8r k=some kk/\kvs.length<sizeLine/\N σ2 (S4.set d (.dK (putP kvs kk v)))):∀(xs:List PV)(σ:Ev.Loc)(S:q0h),P xs σ S->dcGo chk g wk wv d Q xs σ S
 |[],σ,S,h=>hn σ S h
 |x::r,σ,S,h=>⟨(hc x r σ S h (P r) fun _ _ z=>z).1,P r,fun σ' S' q=>dcI2 P hn hc r σ' S' q,(hc x r σ S h (P r) fun _ _ z=>z).2⟩
inductive Nms(ps:List (Str×Kd)):PV->q0h->Prop
 |l {n:Nat} {S:q0h}:S[n]?=some (.lst (ps.map encN))->Nms ps (.ref n) S
 |t (S:q0h):Nms ps (.tup (ps.map encN)) S
structure Pok(ps:List (Str×Kd)):Prop where
 nd:(ps.map (·.1)).Nodup
 dp:∀p∈ps,p.2.dp<=20
 len:ps.length<=1000
def KpD(sp:Den):Prop:=∀(ps:List (Str×Kd))(x:PV)(t:Tm)(S:q0h)(E:EK)(Q:VC),Pok ps->Nms ps x S->Ks t 0->t.dp<=160->t.sz<=1000->(∀k,Ty ps [] t k->∀S',Ex [] S S'->Q k.pv S')->((¬∃k,Ty ps [] t k)->∀S',Ex [] S S'->E (.exc "NoKind") S')->sp [x,t.pv] S E Q
theorem x9z{s0 s1 s2 s3 s4:Den}(h0:z4l s0)(h1:KooD s1)(h2:KonD s2)(h3:∀(f:PV)(k:Kd),FK f k->k.dp<=20->∀(S:q0h)(E:EK)(Q:VC),Q k.pv S->s3 [f] S E Q)(h4:KobD s4):KpD (fnP 2 9 (q3x s0 s1 s2 s3 s4)):=by
 intro ps x t S E Q pok hx ks hd hz hy hn
 refine⟨rfl,?_⟩
 unfold q3x
 have rest:∀(kvs:List (Key×PV))(S1:q0h),Kq ps kvs->S1[S.length]?=some (.dK kvs)->Ex [] S S1->∀j2,wSeq (wSet 3 (q0t s0 (q0d (wVar 1) wNil))) (wSeq (wSet 4 (wLst wNil)) (wSeq (wFor (z0i (wVar 3)) kpG (kpB s1 s2 s3 s4)) (wRet (wBin bIx (wVar 4) (wC (.int 0)))))) {nx:=fun _ S'=>Q .non S',rt:=Q} E [some x,some t.pv,some (.ref S.length),j2,none,none,none,none,none] S1:=by
  intro kvs S1 hk g1 hx1 j2
  refine seqI fun K hK=>?_
  dsimp![true_and]
  refine h0 t _ _ _ hz fun r S2 e2 hr hx2=>hK _ _ ?_
  clear hK K
  refine seqI fun K hK=>?_
  dsimp![true_and]
  refine⟨big (by decide),hK _ _ ?_⟩
  clear hK K
  have l1:=q1j g1
  have l2:=q1j e2
  have g3:=q2p (hx2.get g1 (by simp)) [SO.lst []]
  have e3:=q2p e2 [SO.lst []]
  have x3:Ex [] S (S2++[SO.lst []]):=(hx1.trans hx2).app _
  have t3:=q1h S2 (SO.lst [])
  have hl2:=hx2.1
  refine seqI fun K hK=>?_
  dsimp![z0i,q0v e3]
  have e1:((q2a t [] 0).map enc).reverse=(q2a t [] 0).reverse.map enc++[]:=by rw[List.append_nil,List.map_reverse]
  rw[e1]
  refine w0a pok.dp h1 h2 h3 h4 (x0:=x) (x1:=t.pv) (dq:=S.length) (rw':=r) (tl:=S2.length) (S0:=S) hk t [] 0 [] [] [] _ _ ks hd (by simp) (by simp;omega) ⟨rfl,by simp⟩ (fun j hj=>by rw[Nat.zero_add]) ⟨⟨_,_,_,_,rfl⟩,g3,e3,t3,x3,by omega,by omega,by omega⟩ (fun k hkt σ' S' W=>?_) hn
  obtain⟨j5,j6,j7,j8,rfl⟩:=W.loc
  refine⟨q0v W.gw,hK _ _ ?_⟩
  have gt:=W.gt
  simp only[List.reverse_cons,List.reverse_nil,List.nil_append,List.map_cons,List.map_nil]at gt
  dsimp![gt,q0w]
  exact hy k hkt _ W.ex
 refine seqI fun K hK=>?_
 have goal:∀(chk:q0h->Prop),(∀S',Ex [] S S'->chk S')->dcGo chk (q3q 2 (q1e (q0z 0) (q1e (q0z 1) q3r))) (wVar 0) (wVar 1) S.length (fun v S1=>K [some x,some t.pv,some v,none,none,none,none,none,none] S1) (ps.map encN) [none,none] (S++[SO.dK []]):=by
  intro chk hc
  refine dcI2 (fun rest σ S2=>∃(us vs:List (Str×Kd))(kvs:List (Key×PV))(j1 j2:Option PV),rest=us.map encN/\σ=[j1,j2]/\vs++us=ps/\S2[S.length]?=some (.dK kvs)/\Ex [] S S2/\kvs.length<=vs.length/\Kq vs kvs) ?_ ?_ _ _ _ ⟨ps,[],[],none,none,rfl,rfl,rfl,q1h _ _,Ex.new [] _ _,Nat.le_refl _,Kq.nil⟩
  ·rintro σ S2 ⟨us,vs,kvs,j1,j2,hr,rfl,e,k1,k2,k3,k4⟩
   obtain rfl:us=[]:=by cases us with
    |nil=>rfl
    |cons a b=>simp at hr
   rw[List.append_nil]at e
   subst e
   exact⟨hc _ k2,hK _ _ (rest kvs S2 k4 k1 k2 _)⟩
  ·rintro z r σ S2 ⟨us,vs,kvs,j1,j2,hr,rfl,e,k1,k2,k3,k4⟩ N hN
   obtain⟨p,us,rfl⟩:∃p r,us=p::r:=by
    cases us with
    |nil=>simp at hr
    |cons a b=>exact⟨a,b,rfl⟩
   simp only[List.map_cons,List.cons.injEq]at hr
   obtain⟨rfl,rfl⟩:=hr
   refine⟨hc _ k2,?_⟩
   have hle:=congrArg List.length e
   simp only[List.length_append,List.length_cons]at hle
   have pl:=pok.len
   have hni:p.1∉vs.map (·.1):=fun hm=>by
    have nd:=pok.nd
    rw[<-e,List.map_append,List.nodup_append]at nd
    exact nd.2.2 p.1 hm p.1 (by simp) rfl
   dsimp![encN]
   refine⟨kvs,.inr p.1,k1,rfl,bigl (by omega),hN _ _ ⟨us,vs++[p],putP kvs (.inr p.1) p.2.pv,_,_,rfl,rfl,by rw[<-e];simp,q1u _ k1,k2.set (.inr (Nat.le_refl _)),?_,k4.put hni⟩⟩
   have:=x5q kvs (.inr p.1) p.2.pv
   simp only[List.length_append,List.length_singleton];omega
 cases hx with
 |l hn'=>
  dsimp![q0v hn']
  exact goal _ fun S' h=>q0v (h.get hn' (by simp))
 |t S=>
  dsimp![true_and]
  exact goal _ fun _ _=>trivial
theorem Ty.sub{ps qs:List (Str×Kd)}(hq:∀w k,lkN ps w=some k->lkN qs w=some k){e:List Kd}{t:Tm}{k:Kd}(h:Ty ps e t k):Ty qs e t k:=by
 induction h with
 |nm h=>exact .nm (hq _ _ h)
 |lf n h g=>exact .lf n h g
 |bd h=>exact .bd h
 |fn h _ ih=>exact .fn h ih
 |ap _ _ i1 i2=>exact .ap i1 i2
theorem Ty.more{ps:List (Str×Kd)}{e:List Kd}{t:Tm}{k:Kd}(h:Ty ps e t k)(d:List Kd):Ty ps (e++d) t k:=by
 induction h with
 |nm h=>exact .nm h
 |lf n h g=>exact .lf n h g
 |@bd e j k h=>exact .bd (by rw[List.getElem?_append_left (List.getElem?_eq_some_iff.mp h).1];exact h)
 |fn h _ ih=>exact .fn h ih
 |ap _ _ i1 i2=>exact .ap i1 i2
theorem x3i:∀f:Fm,FK f.pv f.kk
 |.b s=>.b s
 |.n l x y=>by
  have:=FK.n l (x3i x) (x3i y)
  cases l<;>exact this
theorem y4j{ps:List (Str×Kd)}{L:Int×Fm->Tm}:∀{r:Rd}{a b:Int}{g:Fm},r.is a b g->r.sm->(∀p∈r.ws,Ty ps [] (L p) p.2.kk)->Ty ps [] (r.tt L) g.kk
 |.w i f,a,b,g,⟨_,_,e⟩,_,h=>by subst e;exact h (i,f) (by simp[Rd.ws])
 |.n s l r,a,b,g,⟨k,x,y,h1,h2,h3⟩,hs,h=>by
  have tl:=y4j h1 hs.1 fun p hp=>h p (by simp[Rd.ws,hp])
  have tr:=y4j h2 hs.2 fun p hp=>h p (by simp[Rd.ws,hp])
  have f1:=z3t h1
  have f2:=z3t h2
  have d1:=z0n h1 hs.1
  have d2:=z0n h2 hs.2
  have:=z7b h3
  cases s with
  |a=>
   obtain rfl:x=.n false g y:=this
   exact .ap tl tr
  |b=>
   obtain rfl:y=.n true g x:=this
   exact .ap tr tl
  |c=>
   obtain⟨u,v,z,rfl,rfl,rfl⟩:=this
   simp only[Rd.tt,f2,Fm.arg]
   rw[<-z3g]
   have:=z5g z
   simp only[Fm.dp]at d1 d2
   exact .fn (by omega) (.ap (tl.more [z.kk]) (.ap (tr.more [z.kk]) (.bd rfl)))
  |d=>
   obtain⟨u,v,z,rfl,rfl,rfl⟩:=this
   simp only[Rd.tt,f1,Fm.arg]
   rw[<-z3g]
   simp only[Fm.dp]at d1 d2
   first
    |exact .fn (by have:=z5g z;omega) (.ap (tr.more [z.kk]) (.ap (tl.more [z.kk]) (.bd rfl)))
    |exact .fn (by have:=z5g v;omega) (.ap (tr.more [v.kk]) (.ap (tl.more [v.kk]) (.bd rfl)))
theorem x1u{r:Rd}{a b:Int}{g:Fm}(h:r.is a b g)(hs:r.sm):Ty [] [] (r.tt q8g) g.kk:=
 y4j h hs fun p hp=>.lf _ (x3i _) (by have:=z5g p.2;have:=p.2.dp_lv;have:=z4p hs hp;omega)
def Rd.sd(f:Int->Nat):Rd->Nat
 |.w i _=>f i
 |.n .a l r=>1+l.sd f+r.sd f
 |.n .b l r=>1+l.sd f+r.sd f
 |.n .c l r=>4+l.sd f+r.sd f
 |.n .d l r=>4+l.sd f+r.sd f
theorem y4l{L:Int×Fm->Tm}{f:Int->Nat}:∀{r:Rd},(∀p∈r.ws,(L p).sz=f p.1)->(r.tt L).sz=r.sd f
 |.w i g,h=>h (i,g) (by simp[Rd.ws])
 |.n s l r,h=>by
  have h1:=y4l (r:=l) fun p hp=>h p (by simp[Rd.ws,hp])
  have h2:=y4l (r:=r) fun p hp=>h p (by simp[Rd.ws,hp])
  cases s<;>(simp only[Rd.tt,Rd.sd,Tm.sz,h1,h2];try omega)
def q4o(spLkind_of_form:Den)(spLsame:Den)(spkind_of:Den)(spLkind_of:Den)(spis_closed:Den)(spis_sparing:Den)(spLsparing:Den)(spsize_of:Den)(spLsize:Den):WS:=
 (wSeq (wSet 4 z4t)
 (wSeq (wFor (q5o (wVar 0)) (q3q 2 (q1e (q0z 5) (q1e (q0z 6) q3r))) (wAsg (wVar 6) (q7k (wVar 4) (wVar 5) sSet)))
 (wSeq (wSet 7 (q0t spLkind_of_form (q0d (wVar 2) wNil)))
 (wSeq (wIfS (wOr (wNot (wTru (q0t spLsame (q0d (wVar 7) (q0d (q0t spkind_of (q0d (wVar 0) (q0d (wVar 1) wNil))) wNil))))) (q0y (wBin cNe (q0t spLkind_of (q0d (wVar 4) (q0d (wVar 1) (q0d (wLst wNil) wNil)))) (wVar 7))))
 (wRet (wC (.bl false)))
 q1g)
 (wSeq (wIfS (wOr (q0y (wBin z1g (q0t spis_closed (q0d (wVar 1) wNil)) (wC (.bl true)))) (wOr (q0y (wBin z1g (q0t spis_sparing (q0d (wVar 1) wNil)) (wC (.bl true)))) (wNot (wTru (q0t spLsparing (q0d (wVar 1) wNil))))))
 (wRet (wC (.bl false)))
 q1g)
 (wRet (z1j (wBin cEq (q0t spsize_of (q0d (wVar 1) wNil)) (wVar 3)) (wBin cEq (q0t spLsize (q0d (wVar 1) wNil)) (wVar 3)))))))))
def q3i(spLsized:Den):WS:=
 (wSeq (wIfS (q0y (wBin cEq (wBin bIx (wVar 0) (wC (.int 0))) (wC (.str "word"))))
 (wRet (wBin bIx (wVar 1) (wBin bIx (wVar 0) (wC (.int 1)))))
 q1g)
 (wSeq (wSet 2 (wBin bIx (wLst (q0d (wC (.int 1)) (q0d (wC (.int 4)) wNil))) (wBin bSub (wCB fLen (q0d (wBin bIx (wVar 0) (wC (.int 0))) wNil)) (wC (.int 1)))))
 (wRet (wBin bAdd (wBin bAdd (wVar 2) (q0t spLsized (q0d (wBin bIx (wVar 0) (wC (.int 1))) (q0d (wVar 1) wNil)))) (q0t spLsized (q0d (wBin bIx (wVar 0) (wC (.int 2))) (q0d (wVar 1) wNil)))))))
def q6v(spLdeck:Den)(spLwords:Den)(spLnext:Den)(spLtree:Den)(spLdrawn_form:Den)(spLsentence:Den)(spLbook:Den)(spLwords_of:Den)(spLmeans:Den)(spLsize:Den)(spLwithin:Den)(spLmeant:Den)(spLholds:Den)(spLsized:Den)(spmeaning:Den)(spunknown:Den):WS:=
 (wSeq (wSet 1 (q0t spLdeck (q0d (wVar 0) wNil)))
 (wSeq (wSet 2 (q0t spLwords (q0d (wVar 1) (q0d (wBin bAdd (wC (.int 2)) (wBin bMod (q0t spLnext (q0d (wVar 1) wNil)) (wC (.int 2)))) wNil))))
 (wSeq (wSet 3 (q0t spLtree (q0d (wVar 1) (q0d (wVar 2) (q0d (q0t spLdrawn_form (q0d (wVar 1) (q0d (wVar 2) wNil))) (q0d (wC (.int 0)) (q0d (wBin bAdd (wC (.int 1)) (wBin bMod (q0t spLnext (q0d (wVar 1) wNil)) (wC (.int 6)))) wNil)))))))
 (wSeq (wSet 4 (q0t spLsentence (q0d (wVar 1) (q0d (wVar 3) wNil))))
 (wSeq (wSet 5 (q0t spLbook (q0d (wVar 1) (q0d (wVar 2) (q0d (q7l (q5o (q0t spLwords_of (q0d (wVar 3) wNil))) [none,none,some 4] (q3q 2 (q1e (q0z 0) (q1e (q0z 1) q3r))) q4x (wTup (q0d (wBin bIx (wVar 2) (wVar 0)) (q0d (wVar 1) wNil)))) wNil)))))
 (wSeq (wSet 6 (q0t spLmeans (q0d (wVar 5) (q0d (wVar 4) (q0d (wVar 3) wNil)))))
 (wSeq (wSet 7 z4t)
 (wSeq (wSet 8 z4t)
 (wSeq (wFor (y3y (wVar 6)) (q3q 2 (q1e (q0z 9) (q1e (q0z 10) q3r))) (wSeq (wAsg (q0t spLsize (q0d (wBin bIxN (wVar 6) (wTup (q0d (wVar 9) (q0d (wVar 10) wNil)))) wNil)) (q7k (wVar 7) (wVar 9) sSet))
 (wAsg (wC (.int 1)) (q7k (wVar 8) (wVar 9) sSet))))
 (wSeq (wFor (q5o (q0t spLwithin (q0d (wVar 3) wNil))) (q0z 11) (wSeq (wSet 10 (wBin bIx (q0t spLmeant (q0d (wVar 11) (q0d (wVar 6) wNil))) (wC (.int 0))))
 (wSeq (wIfS (wNot (wTru (q0t spLholds (q0d (wBin bIx (wVar 5) (wC (.int 1))) (q0d (q0t spmeaning (q0d (wVar 5) (q0d (wVar 4) (q0d (wVar 11) wNil)))) (q0d (wVar 10) (q0d (q0t spLsized (q0d (wVar 11) (q0d (wVar 7) wNil))) wNil)))))))
 (wRet (wC (.bl false)))
 q1g)
 (wIfS (wNot (wTru (q0t spLholds (q0d (wTup wNil) (q0d (q0t spunknown (q0d (wVar 11) wNil)) (q0d (wVar 10) (q0d (q0t spLsized (q0d (wVar 11) (q0d (wVar 8) wNil))) wNil)))))))
 (wRet (wC (.bl false)))
 q1g))))
 (wRet (wC (.bl true)))))))))))))
def Sg.ct:Sg->Nat
 |.a=>1
 |.b=>1
 |.c=>4
 |.d=>4
theorem w0m(s:Sg):s.st.length<=2/\atI [PV.int 1,PV.int 4] ((s.st.length:Int)-1)=some (.int s.ct):=by
 cases s with
 |a=>rw[show Sg.a.st.length=1 by decide +kernel];exact⟨by decide,rfl⟩
 |b=>rw[show Sg.b.st.length=1 by decide +kernel];exact⟨by decide,rfl⟩
 |c=>rw[show Sg.c.st.length=2 by decide +kernel];exact⟨by decide,rfl⟩
 |d=>rw[show Sg.d.st.length=2 by decide +kernel];exact⟨by decide,rfl⟩
theorem sd_n(f:Int->Nat)(s:Sg)(l r:Rd):(Rd.n s l r).sd f=s.ct+l.sd f+r.sd f:=by cases s<;>rfl
theorem y4t(s:Sg):(s.st=Str.ofString "word")=False:=z9u s
theorem x3w{T:Nat->Den}(hT:∀n,T (n+1)=fnP 2 3 (q3i (T n)))(f:Int->Nat)(dm:Nat)(kvs:List (Key×PV)):∀(r:Rd)(n:Nat),r.lv<=n->(∀p∈r.ws,valP kvs (.inl p.1)=some (.int (f p.1)))->∀(S:q0h)(E:EK)(Q:VC),S[dm]?=some (.dK kvs)->(∀S',Ex [] S S'->Q (.int (r.sd f)) S')->T n [r.pv,.ref dm] S E Q:=by
 intro r
 induction r with
 |w i g=>
  intro n hn hv S E Q hd h
  obtain⟨m,rfl⟩:∃m,n=m+1:=⟨n-1,by simp only[Rd.lv]at hn;omega⟩
  rw[hT]
  refine⟨rfl,?_⟩
  unfold q3i
  have hv':=hv (i,g) (by simp[Rd.ws])
  dsimp![wSeq,rw0,rw1,z4y,hd,hv']
  exact h _ (Ex.refl _ _)
 |n s l r ihl ihr=>
  intro n hn hv S E Q hd h
  have l1:=l.lv_pos
  have l2:=r.lv_pos
  simp only[Rd.lv]at hn
  obtain⟨m,rfl⟩:∃m,n=m+1:=⟨n-1,by omega⟩
  rw[hT]
  refine⟨rfl,?_⟩
  unfold q3i
  refine seqI fun K hK=>?_
  dsimp![rn0,y4t]
  refine hK _ _ ?_
  clear hK
  refine seqI fun K hK=>?_
  dsimp![rn0]
  refine⟨big (by decide),?_⟩
  obtain⟨c1,c2⟩:=w0m s
  rw[c2]
  refine⟨big (by omega),hK _ _ ?_⟩
  clear hK
  dsimp![rn1]
  refine ihl m (by omega) (fun p hp=>hv p (by simp[Rd.ws,hp])) _ _ _ (q2p hd _) fun S1 hx1=>?_
  dsimp![rn2]
  refine ihr m (by omega) (fun p hp=>hv p (by simp[Rd.ws,hp])) _ _ _ (hx1.get (q2p hd _) (by simp)) fun S2 hx2=>?_
  have:=h S2 (((Ex.new [] S [SO.lst [PV.int 1,PV.int 4]]).trans hx1).trans hx2)
  rw[sd_n]at this
  dsimp![true_and]
  rw[show((s.ct:Int)+(l.sd f:Int)+(r.sd f:Int))=((s.ct+l.sd f+r.sd f:Nat):Int) by omega]
  exact this
theorem x9p{t:Tm}(ha:af 1 t)(hg:t.gd 0):(ow t [] 0).Nodup:=by
 rw[List.nodup_iff_count]
 intro x
 cases x with
 |none=>rw[List.count_eq_zero.mpr (q7h t [] 0 hg)];exact Nat.zero_le _
 |some x=>exact z4d t [] 0 x ha hg (by simp) (by simp) (Nat.zero_le _)
def y9a(sp:Den):Prop:=∀(ps:List (Str×Kd))(t:Tm)(f:Fm)(S:q0h)(E:EK)(Q:VC),Pok ps->Ty ps [] t f.kk->af 1 t->t.sz<=300->t.nd<=130->f.dp<=5->(∀S',Ex [] S S'->Q (.bl true) S')->sp [.tup (ps.map encN),t.pv,f.pv,.int t.sz] S E Q
theorem y6q{s1 s2 s3 s4 s5 s6 s7 s8 s9:Den}(h1:z9f s1 10)
  (h2:∀(x:PV),plV x=true->dep x<=10->∀(S:q0h)(E:EK)(Q:VC),(∀S',Ex [] S S'->Q (.bl true) S')->s2 [x,x] S E Q)
  (h3:KpD s3)
  (h4:∀(ps:List (Str×Kd))(t:Tm)(k:Kd)(q a:Nat)(S:q0h)(E:EK)(Q:VC),(∀p∈ps,p.2.dp<=20)->Ty ps [] t k->t.dp<=130->Kn ps q S->S[a]?=some (.lst [])->(∀S',Ex [] S S'->Q k.pv S')->s4 [.ref q,t.pv,.ref a] S E Q)
  (h5:∀{t:Tm}{S:q0h}{E:EK}{Q:VC},t.sz<=1000->(∀S',Ex [] S S'->Q (.bl (!decide (none∈ow t [] 0))) S')->s5 [t.pv] S E Q)
  (h6:∀{t:Tm}{S:q0h}{E:EK}{Q:VC},t.sz<=1000->none∉ow t [] 0->(∀S',Ex [] S S'->Q (.bl (decide (ow t [] 0).Nodup)) S')->s6 [t.pv] S E Q)
  (h7:LSpD s7 140)
  (h8:∀{t:Tm}{S:q0h}{E:EK}{Q:VC},t.sz<=1000->(∀S',Ex [] S S'->Q (.int t.sz) S')->s8 [t.pv] S E Q)
  (h9:∀(t:Tm),t.dp<140->∀(S:q0h)(E:EK)(Q:VC),Q (.int t.sz) S->s9 [t.pv] S E Q):y9a (fnP 4 8 (q4o s1 s2 s3 s4 s5 s6 s7 s8 s9)):=by
 intro ps t f S E Q pok ty ha hz hn hf h
 refine⟨rfl,?_⟩
 unfold q4o
 have td:=y2q t
 have tg:t.gd 0:=ty.gd
 have kd:=z5g f
 refine seqI fun K hK=>?_
 dsimp![true_and]
 refine hK _ _ ?_
 clear hK
 have g0:=q1h S (.dK [])
 have x0:Ex [] S (S++[SO.dK []]):=Ex.new [] _ _
 refine seqI fun K hK=>?_
 dsimp![true_and]
 refine forI (fun rest σ S6=>∃(us vs:List (Str×Kd))(kvs:List (Key×PV))(j5 j6:Option PV),rest=us.map encN/\vs++us=ps/\σ=[some (.tup (ps.map encN)),some t.pv,some f.pv,some (.int t.sz),some (.ref S.length),j5,j6,none]/\S6[S.length]?=some (.dK kvs)/\Ex [] S S6/\kvs.length<=vs.length/\(∀p∈vs,valP kvs (.inr p.1)=some p.2.pv)) ?_ ?_ _ _ _ ⟨ps,[],[],none,none,rfl,rfl,rfl,g0,x0,Nat.le_refl _,by simp⟩
 case refine_2=>
  rintro x rest σ S6 ⟨us,vs,kvs,j5,j6,hr,hvs,rfl,g2,gx,g3,g4⟩ N hN
  obtain⟨p,us,rfl⟩:∃p r,us=p::r:=by
   cases us with
   |nil=>simp at hr
   |cons a b=>exact⟨a,b,rfl⟩
  simp only[List.map_cons,List.cons.injEq]at hr
  obtain⟨rfl,rfl⟩:=hr
  have hvl:=congrArg List.length hvs
  simp only[List.length_append,List.length_cons]at hvl
  have pl:=pok.len
  refine⟨trivial,?_⟩
  dsimp![encN,g2]
  refine⟨bigl (by omega),?_⟩
  refine hN _ _ ⟨us,vs++[p],putP kvs (.inr p.1) p.2.pv,_,_,rfl,by rw[<-hvs];simp,rfl,q1u _ g2,gx.set (.inr (Nat.le_refl _)),?_,?_⟩
  ·have:=q7q kvs (.inr p.1) p.2.pv
   simp only[List.length_append,List.length_singleton];omega
  ·intro p' hp'
   rcases List.mem_append.mp hp' with z|z
   ·have hne:p'.1≠p.1:=fun y=>by
     have nd:=pok.nd
     rw[<-hvs,List.map_append,List.nodup_append]at nd
     exact nd.2.2 p'.1 (List.mem_map.mpr ⟨p',z,rfl⟩) p.1 (by simp) y
    rw[q5p _ _ _ _ (by simpa using hne)]
    exact g4 p' z
   ·rw[List.mem_singleton]at z
    subst z
    exact q6l _ _ _
 rintro σ S6 ⟨us,vs,kvs,j5,j6,hr,hvs,rfl,g2,gx,g3,g4⟩
 obtain rfl:us=[]:=by cases us with
  |nil=>rfl
  |cons a b=>simp at hr
 rw[List.append_nil]at hvs
 subst hvs
 refine⟨trivial,hK _ _ ?_⟩
 clear hK K
 have kn:Kn vs S.length S6:=⟨kvs,g2,fun w' k' hk'=>by
  unfold lkN at hk'
  cases q:vs.find? fun p=>decide (p.1=w')with
  |none=>rw [q]at hk';cases hk'
  |some p=>
   rw [q]at hk'
   cases hk'
   have:=g4 p (List.mem_of_find?_eq_some q)
   have e:p.1=w':=by simpa using List.find?_some q
   rw [e]at this
   exact this⟩
 refine seqI fun K hK=>?_
 dsimp![true_and]
 refine h1 f (by omega) _ _ _ (hK _ _ ?_)
 clear hK K
 refine seqI fun K hK=>?_
 dsimp![true_and]
 refine h3 vs _ t _ _ _ pok (.t _) ty.ks (by omega) (by omega) (fun k' hk' S7 x7=>?_) (fun hno=>absurd ⟨_,ty⟩ hno)
 cases ty.uniq hk'
 rw[z3g]
 refine h2 f.kd (y0n f) (by rw[<-z3g,z1d];omega) _ _ _ fun S8 x8=>?_
 have x78:=x7.trans x8
 dsimp![true_and]
 refine⟨big (by decide),?_⟩
 have x9:Ex [] S6 (S8++[SO.lst []]):=x78.app _
 have kn9:Kn vs S.length (S8++[SO.lst []]):=by obtain⟨kvs,a,b⟩:=kn;exact⟨kvs,x9.get a (by simp),b⟩
 refine h4 vs t f.kk S.length _ _ _ _ pok.dp ty (by omega) kn9 (q1h _ _) fun Sa xa=>?_
 rw[<-z3g]
 refine y3k (by omega) (by omega) ?_
 rw[decide_eq_true rfl]
 dsimp![true_and]
 refine hK _ _ ?_
 clear hK K
 have y1:=(gx.trans x9).trans xa
 refine seqI fun K hK=>?_
 dsimp![true_and]
 refine h5 (by omega) fun Sb xb=>?_
 rw[decide_eq_false (q7h t [] 0 tg)]
 dsimp![true_and]
 refine h6 (by omega) (q7h t [] 0 tg) fun Sc xc=>?_
 rw[decide_eq_true (x9p ha tg)]
 dsimp![true_and]
 refine h7 t (by omega) (by omega) ha tg _ _ _ fun Sd xd=>?_
 dsimp![true_and]
 refine hK _ _ ?_
 clear hK K
 dsimp![true_and]
 refine h8 (by omega) fun Se xe=>?_
 dsimp![true_and]
 refine h9 t (by omega) _ _ _ ?_
 dsimp![true_and]
 exact h Se ((((y1.trans xb).trans xc).trans xd).trans xe)
section
open PySem L2 Ev PySem.Spec PyProof.Rows
def top(i:Nat):Stmt:=PySem.Challenge.pw_slashwise_k62_whole_kinds_of_meanings.main.body.getD i (.Pass ⟨0,0,0,0⟩)
structure Tab where
 dLdeck:Den
 dLnext:Den
 dLspelled:Den
 dLword:Den
 dLwords:Den
 dLwide:Den
 dLother:Den
 dLtree:Den
 dLdrawn_form:Den
 dLwithin:Den
 dLwords_of:Den
 dLsentence:Den
 dLnamed:Den
 dLapplied:Den
 dLterm:Den
 dLkind_of_form:Den
 dLbook:Den
 dLmeans:Den
 dLsize:Den
 dLjoined:Den
 dLmeant:Den
 dLsame:Den
 dparts_and_fns:Den
 dkind_of_of:Den
 dkind_of_name:Den
 dkind_of_form:Den
 downer_of:Den
 dkind_of_bound:Den
 dkind_of:Den
 dLkind_of:Den
 downers_in:Den
 dis_closed:Den
 dis_sparing:Den
 dLuses:Den
 dLsparing:Den
 dsize_of:Den
 dLholds:Den
 dLsized:Den
 drows_of:Den
 dterm_of:Den
 dwords_of:Den
 dmade:Den
 djoined:Den
 dmeant:Den
 dform_and_term:Den
 dmeaning_with:Den
 dmeaning:Den
 dunknown:Den
 dlaw:Den
def tabS(t:Tab):Tab where
 dLdeck:=fnP 1 3 (q5d)
 dLnext:=fnP 1 4 (q5c)
 dLspelled:=fnP 2 4 (q6i)
 dLword:=fnP 2 7 (q4y t.dLnext t.dLspelled)
 dLwords:=fnP 2 4 (q4j t.dLword)
 dLwide:=fnP 1 1 (q4b t.dLwide)
 dLother:=fnP 3 5 (q4k t.dLnext t.dLwide)
 dLtree:=fnP 5 11 (q4z t.dLnext t.dLother t.dLwide t.dLtree)
 dLdrawn_form:=fnP 2 5 (q2o t.dLnext t.dLother)
 dLwithin:=fnP 1 1 (q3y t.dLwithin)
 dLwords_of:=fnP 1 1 (q3b t.dLwithin)
 dLsentence:=fnP 2 4 (q3c t.dLwords_of t.dLwords t.dLnext)
 dLnamed:=fnP 3 5 (q4l)
 dLapplied:=fnP 5 10 (q3j t.dLnext t.dLnamed)
 dLterm:=fnP 4 11 (q5a t.dLnext t.dLnamed t.dLapplied)
 dLkind_of_form:=fnP 1 1 (q4f t.dLkind_of_form)
 dLbook:=fnP 3 8 (q5e t.dLwords t.dLterm t.dLkind_of_form)
 dLmeans:=fnP 3 9 (q4n t.dLwords_of)
 dLsize:=fnP 1 1 (q2h t.dLsize)
 dLjoined:=fnP 3 3 (q3z)
 dLmeant:=fnP 2 7 (q4m t.dLmeant t.dLjoined t.dLkind_of_form)
 dLsame:=fnP 2 2 (q5b t.dLsame)
 dparts_and_fns:=fnP 1 5 (q2b)
 dkind_of_of:=fnP 2 2 (q2u)
 dkind_of_name:=fnP 2 2 (q2i)
 dkind_of_form:=fnP 1 1 (q1w t.dkind_of_form)
 downer_of:=fnP 2 2 (q3g)
 dkind_of_bound:=fnP 3 5 (q2c t.downer_of)
 dkind_of:=fnP 2 9 (q3x t.dparts_and_fns t.dkind_of_of t.dkind_of_name t.dkind_of_form t.dkind_of_bound)
 dLkind_of:=fnP 3 6 (q1q t.dLkind_of_form t.dLkind_of)
 downers_in:=fnP 1 1 (q2z t.downer_of t.dparts_and_fns)
 dis_closed:=fnP 1 1 (q3a t.downers_in)
 dis_sparing:=fnP 1 2 (q2v t.downers_in)
 dLuses:=fnP 3 4 (q2g t.dLuses)
 dLsparing:=fnP 1 2 (q3h t.dLuses)
 dsize_of:=fnP 1 1 (q3u t.dparts_and_fns)
 dLholds:=fnP 4 8 (q4o t.dLkind_of_form t.dLsame t.dkind_of t.dLkind_of t.dis_closed t.dis_sparing t.dLsparing t.dsize_of t.dLsize)
 dLsized:=fnP 2 3 (q3i t.dLsized)
 drows_of:=fnP 2 3 (q3v)
 dterm_of:=fnP 3 5 (q3t t.drows_of)
 dwords_of:=fnP 1 1 (q3f t.dwords_of)
 dmade:=fnP 2 2 (q5y)
 djoined:=fnP 3 3 (q4i t.dkind_of_form)
 dmeant:=fnP 5 5 (q2r t.djoined)
 dform_and_term:=fnP 2 8 (q2d t.dform_and_term t.dmade t.dmeant)
 dmeaning_with:=fnP 2 2 (q1n t.dform_and_term)
 dmeaning:=fnP 3 4 (q3w t.dterm_of t.dwords_of t.dmeaning_with)
 dunknown:=fnP 1 1 (q3s t.dmeaning_with t.dwords_of)
 dlaw:=fnP 1 12 (q6v t.dLdeck t.dLwords t.dLnext t.dLtree t.dLdrawn_form t.dLsentence t.dLbook t.dLwords_of t.dLmeans t.dLsize t.dLwithin t.dLmeant t.dLholds t.dLsized t.dmeaning t.dunknown)
def tab:Nat->Tab
 |0=>⟨fun _ _ _ _=>False,fun _ _ _ _=>False,fun _ _ _ _=>False,fun _ _ _ _=>False,fun _ _ _ _=>False,fun _ _ _ _=>False,fun _ _ _ _=>False,fun _ _ _ _=>False,fun _ _ _ _=>False,fun _ _ _ _=>False,fun _ _ _ _=>False,fun _ _ _ _=>False,fun _ _ _ _=>False,fun _ _ _ _=>False,fun _ _ _ _=>False,fun _ _ _ _=>False,fun _ _ _ _=>False,fun _ _ _ _=>False,fun _ _ _ _=>False,fun _ _ _ _=>False,fun _ _ _ _=>False,fun _ _ _ _=>False,fun _ _ _ _=>False,fun _ _ _ _=>False,fun _ _ _ _=>False,fun _ _ _ _=>False,fun _ _ _ _=>False,fun _ _ _ _=>False,fun _ _ _ _=>False,fun _ _ _ _=>False,fun _ _ _ _=>False,fun _ _ _ _=>False,fun _ _ _ _=>False,fun _ _ _ _=>False,fun _ _ _ _=>False,fun _ _ _ _=>False,fun _ _ _ _=>False,fun _ _ _ _=>False,fun _ _ _ _=>False,fun _ _ _ _=>False,fun _ _ _ _=>False,fun _ _ _ _=>False,fun _ _ _ _=>False,fun _ _ _ _=>False,fun _ _ _ _=>False,fun _ _ _ _=>False,fun _ _ _ _=>False,fun _ _ _ _=>False,fun _ _ _ _=>False⟩
 |k+1=>tabS (tab k)
structure Sta(K:Frag)(mg:Str->Option Value):Prop where
 z0:mg "all" = none
 z1:mg "bool" = none
 z2:mg "int" = none
 z3:mg "isinstance" = none
 z4:mg "len" = none
 z5:mg "list" = none
 z6:mg "max" = none
 z7:mg "range" = none
 z8:mg "reversed" = none
 z9:mg "set" = none
 z10:mg "str" = none
 z11:mg "sum" = none
 z12:mg "tuple" = none
 z13:mg "zip" = none
 h0:ExcC K mg "NoForm"
 h1:ExcC K mg "NoKind"
abbrev sF0:Stmt:=top 32
abbrev nF0:List Str:=["_law_script", "_law_cells", "_law_mixed"]
abbrev pF0:List Str:=["_law_script"]
abbrev sF1:Stmt:=top 33
abbrev nF1:List Str:=["_law_deck_here", "_law_cells", "_law_cell", "_law_number"]
abbrev pF1:List Str:=["_law_deck_here"]
abbrev sF2:Stmt:=top 34
abbrev nF2:List Str:=["_law_number", "_law_size_here", "_law_word_here", "_law_k"]
abbrev pF2:List Str:=["_law_number", "_law_size_here"]
abbrev sF3:Stmt:=top 35
abbrev nF3:List Str:=["_law_deck_here", "_law_words_here", "_law_way", "_law_number", "_law_size_here", "_law_word_here", "_law_at"]
abbrev pF3:List Str:=["_law_deck_here", "_law_words_here"]
abbrev sF4:Stmt:=top 36
abbrev nF4:List Str:=["_law_deck_here", "_law_many", "_law_words_here", "_law_k"]
abbrev pF4:List Str:=["_law_deck_here", "_law_many"]
abbrev sF5:Stmt:=top 37
abbrev nF5:List Str:=["_law_form"]
abbrev pF5:List Str:=["_law_form"]
abbrev sF6:Stmt:=top 38
abbrev nF6:List Str:=["_law_deck_here", "_law_basics", "_law_form", "_law_way", "_law_one"]
abbrev pF6:List Str:=["_law_deck_here", "_law_basics", "_law_form"]
abbrev sF7:Stmt:=top 39
abbrev nF7:List Str:=["_law_deck_here", "_law_basics", "_law_form", "_law_at", "_law_many", "_law_cut", "_law_way", "_law_other_here", "_law_sign", "_law_some", "_law_left"]
abbrev pF7:List Str:=["_law_deck_here", "_law_basics", "_law_form", "_law_at", "_law_many"]
abbrev sF8:Stmt:=top 40
abbrev nF8:List Str:=["_law_deck_here", "_law_basics", "_law_one", "_law_other_here", "_law_way"]
abbrev pF8:List Str:=["_law_deck_here", "_law_basics"]
abbrev sF9:Stmt:=top 43
abbrev nF9:List Str:=["_law_reading"]
abbrev pF9:List Str:=["_law_reading"]
abbrev sF10:Stmt:=top 44
abbrev nF10:List Str:=["_law_reading"]
abbrev pF10:List Str:=["_law_reading"]
abbrev sF11:Stmt:=top 49
abbrev nF11:List Str:=["_law_deck_here", "_law_reading", "_law_some", "_law_words_here"]
abbrev pF11:List Str:=["_law_deck_here", "_law_reading"]
abbrev sF12:Stmt:=top 45
abbrev nF12:List Str:=["_law_book_names", "_law_words_here", "_law_kind", "_law_name", "_law_other_here"]
abbrev pF12:List Str:=["_law_book_names", "_law_words_here", "_law_kind"]
abbrev sF13:Stmt:=top 46
abbrev nF13:List Str:=["_law_deck_here", "_law_names", "_law_words_here", "_law_kinds", "_law_last", "_law_left", "_law_some", "_law_k", "_law_kind", "_law_body"]
abbrev pF13:List Str:=["_law_deck_here", "_law_names", "_law_words_here", "_law_kinds", "_law_last"]
abbrev sF14:Stmt:=top 47
abbrev nF14:List Str:=["_law_deck_here", "_law_names", "_law_words_here", "_law_kind", "_law_way", "_law_kinds", "_law_last", "_law_body", "_law_i", "_law_j", "_law_one"]
abbrev pF14:List Str:=["_law_deck_here", "_law_names", "_law_words_here", "_law_kind"]
abbrev sF15:Stmt:=top 55
abbrev nF15:List Str:=["_law_form"]
abbrev pF15:List Str:=["_law_form"]
abbrev sF16:Stmt:=top 48
abbrev nF16:List Str:=["_law_deck_here", "_law_basics", "_law_some", "_law_names", "_law_words_here", "_law_triples", "_law_word_here", "_law_form"]
abbrev pF16:List Str:=["_law_deck_here", "_law_basics", "_law_some"]
abbrev sF17:Stmt:=top 50
abbrev nF17:List Str:=["_law_book_here", "_law_words_here", "_law_reading", "_law_means_here", "_law_place", "_law_form", "_law_word_here", "_law_other_here", "_law_term_here"]
abbrev pF17:List Str:=["_law_book_here", "_law_words_here", "_law_reading"]
abbrev sF18:Stmt:=top 53
abbrev nF18:List Str:=["_law_term_here"]
abbrev pF18:List Str:=["_law_term_here"]
abbrev sF19:Stmt:=top 41
abbrev nF19:List Str:=["_law_sign", "_law_left", "_law_right"]
abbrev pF19:List Str:=["_law_sign", "_law_left", "_law_right"]
abbrev sF20:Stmt:=top 42
abbrev nF20:List Str:=["_law_reading", "_law_means_here", "_law_left", "_law_first", "_law_right", "_law_second", "_law_form"]
abbrev pF20:List Str:=["_law_reading", "_law_means_here"]
abbrev sF21:Stmt:=top 56
abbrev nF21:List Str:=["_law_one", "_law_other_here"]
abbrev pF21:List Str:=["_law_one", "_law_other_here"]
abbrev sF22:Stmt:=top 21
abbrev nF22:List Str:=["term", "rows", "todo", "part", "fns"]
abbrev pF22:List Str:=["term"]
abbrev sF23:Stmt:=top 28
abbrev nF23:List Str:=["wanting", "given"]
abbrev pF23:List Str:=["wanting", "given"]
abbrev sF24:Stmt:=top 29
abbrev nF24:List Str:=["kinds", "name"]
abbrev pF24:List Str:=["kinds", "name"]
abbrev sF25:Stmt:=top 6
abbrev nF25:List Str:=["form"]
abbrev pF25:List Str:=["form"]
abbrev sF26:Stmt:=top 22
abbrev nF26:List Str:=["fns", "k"]
abbrev pF26:List Str:=["fns", "k"]
abbrev sF27:Stmt:=top 30
abbrev nF27:List Str:=["rows", "fns", "k", "owner", "fn"]
abbrev pF27:List Str:=["rows", "fns", "k"]
abbrev sF28:Stmt:=top 27
abbrev nF28:List Str:=["names", "term", "kinds", "rows", "told", "part", "fns", "wanting", "given"]
abbrev pF28:List Str:=["names", "term"]
abbrev sF29:Stmt:=top 54
abbrev nF29:List Str:=["_law_known", "_law_term_here", "_law_around", "_law_inner", "_law_f", "_law_a"]
abbrev pF29:List Str:=["_law_known", "_law_term_here", "_law_around"]
abbrev sF30:Stmt:=top 23
abbrev nF30:List Str:=["term"]
abbrev pF30:List Str:=["term"]
abbrev sF31:Stmt:=top 25
abbrev nF31:List Str:=["term"]
abbrev pF31:List Str:=["term"]
abbrev sF32:Stmt:=top 26
abbrev nF32:List Str:=["term", "owners"]
abbrev pF32:List Str:=["term"]
abbrev sF33:Stmt:=top 51
abbrev nF33:List Str:=["_law_term_here", "_law_around", "_law_uses_here", "_law_f"]
abbrev pF33:List Str:=["_law_term_here", "_law_around", "_law_uses_here"]
abbrev sF34:Stmt:=top 52
abbrev nF34:List Str:=["_law_term_here", "_law_uses_here"]
abbrev pF34:List Str:=["_law_term_here"]
abbrev sF35:Stmt:=top 24
abbrev nF35:List Str:=["term"]
abbrev pF35:List Str:=["term"]
abbrev sF36:Stmt:=top 58
abbrev nF36:List Str:=["_law_names", "_law_term_here", "_law_form", "_law_size_here", "_law_known", "_law_name", "_law_kind", "_law_due"]
abbrev pF36:List Str:=["_law_names", "_law_term_here", "_law_form", "_law_size_here"]
abbrev sF37:Stmt:=top 57
abbrev nF37:List Str:=["_law_reading", "_law_sizes", "_law_more"]
abbrev pF37:List Str:=["_law_reading", "_law_sizes"]
abbrev sF38:Stmt:=top 8
abbrev nF38:List Str:=["book", "word", "rows"]
abbrev pF38:List Str:=["book", "word"]
abbrev sF39:Stmt:=top 9
abbrev nF39:List Str:=["book", "word", "form", "own", "term"]
abbrev pF39:List Str:=["book", "word", "form"]
abbrev sF40:Stmt:=top 17
abbrev nF40:List Str:=["reading"]
abbrev pF40:List Str:=["reading"]
abbrev sF41:Stmt:=top 11
abbrev nF41:List Str:=["left", "right"]
abbrev pF41:List Str:=["left", "right"]
abbrev sF42:Stmt:=top 13
abbrev nF42:List Str:=["wanted", "f", "g"]
abbrev pF42:List Str:=["wanted", "f", "g"]
abbrev sF43:Stmt:=top 12
abbrev nF43:List Str:=["sign", "left", "right", "first", "second"]
abbrev pF43:List Str:=["sign", "left", "right", "first", "second"]
abbrev sF44:Stmt:=top 19
abbrev nF44:List Str:=["reading", "terms", "left", "first", "right", "second", "sign", "form"]
abbrev pF44:List Str:=["reading", "terms"]
abbrev sF45:Stmt:=top 18
abbrev nF45:List Str:=["reading", "terms"]
abbrev pF45:List Str:=["reading", "terms"]
abbrev sF46:Stmt:=top 15
abbrev nF46:List Str:=["book", "words", "reading", "terms"]
abbrev pF46:List Str:=["book", "words", "reading"]
abbrev sF47:Stmt:=top 16
abbrev nF47:List Str:=["reading"]
abbrev pF47:List Str:=["reading"]
abbrev sF48:Stmt:=top 59
abbrev nF48:List Str:=["_law_script", "_law_deck_here", "_law_basics", "_law_reading", "_law_words_here", "_law_book_here", "_law_means_here", "_law_sizes", "_law_ones", "_law_place", "_law_form", "_law_one"]
abbrev pF48:List Str:=["_law_script"]
structure Fns(P:Program)(w:World)(K:Frag)(mg:Str->Option Value)(base:Heap)(k:Nat)(t:Tab)(f:Nat->Addr)(fd:Nat->FuncData):Prop where
 c0:Cal P w K mg base k "_law_deck" pF0 (q1d K t.dLdeck) (f 0) (fd 0)
 c1:Cal P w K mg base k "_law_next" pF1 (q1d K t.dLnext) (f 1) (fd 1)
 c2:Cal P w K mg base k "_law_spelled" pF2 (q1d K t.dLspelled) (f 2) (fd 2)
 c3:Cal P w K mg base k "_law_word" pF3 (q1d K t.dLword) (f 3) (fd 3)
 c4:Cal P w K mg base k "_law_words" pF4 (q1d K t.dLwords) (f 4) (fd 4)
 c5:Cal P w K mg base k "_law_wide" pF5 (q1d K t.dLwide) (f 5) (fd 5)
 c6:Cal P w K mg base k "_law_other" pF6 (q1d K t.dLother) (f 6) (fd 6)
 c7:Cal P w K mg base k "_law_tree" pF7 (q1d K t.dLtree) (f 7) (fd 7)
 c8:Cal P w K mg base k "_law_drawn_form" pF8 (q1d K t.dLdrawn_form) (f 8) (fd 8)
 c9:Cal P w K mg base k "_law_within" pF9 (q1d K t.dLwithin) (f 9) (fd 9)
 c10:Cal P w K mg base k "_law_words_of" pF10 (q1d K t.dLwords_of) (f 10) (fd 10)
 c11:Cal P w K mg base k "_law_sentence" pF11 (q1d K t.dLsentence) (f 11) (fd 11)
 c12:Cal P w K mg base k "_law_named" pF12 (q1d K t.dLnamed) (f 12) (fd 12)
 c13:Cal P w K mg base k "_law_applied" pF13 (q1d K t.dLapplied) (f 13) (fd 13)
 c14:Cal P w K mg base k "_law_term" pF14 (q1d K t.dLterm) (f 14) (fd 14)
 c15:Cal P w K mg base k "_law_kind_of_form" pF15 (q1d K t.dLkind_of_form) (f 15) (fd 15)
 c16:Cal P w K mg base k "_law_book" pF16 (q1d K t.dLbook) (f 16) (fd 16)
 c17:Cal P w K mg base k "_law_means" pF17 (q1d K t.dLmeans) (f 17) (fd 17)
 c18:Cal P w K mg base k "_law_size" pF18 (q1d K t.dLsize) (f 18) (fd 18)
 c19:Cal P w K mg base k "_law_joined" pF19 (q1d K t.dLjoined) (f 19) (fd 19)
 c20:Cal P w K mg base k "_law_meant" pF20 (q1d K t.dLmeant) (f 20) (fd 20)
 c21:Cal P w K mg base k "_law_same" pF21 (q1d K t.dLsame) (f 21) (fd 21)
 c22:Cal P w K mg base k "parts_and_fns" pF22 (q1d K t.dparts_and_fns) (f 22) (fd 22)
 c23:Cal P w K mg base k "kind_of_of" pF23 (q1d K t.dkind_of_of) (f 23) (fd 23)
 c24:Cal P w K mg base k "kind_of_name" pF24 (q1d K t.dkind_of_name) (f 24) (fd 24)
 c25:Cal P w K mg base k "kind_of_form" pF25 (q1d K t.dkind_of_form) (f 25) (fd 25)
 c26:Cal P w K mg base k "owner_of" pF26 (q1d K t.downer_of) (f 26) (fd 26)
 c27:Cal P w K mg base k "kind_of_bound" pF27 (q1d K t.dkind_of_bound) (f 27) (fd 27)
 c28:Cal P w K mg base k "kind_of" pF28 (q1d K t.dkind_of) (f 28) (fd 28)
 c29:Cal P w K mg base k "_law_kind_of" pF29 (q1d K t.dLkind_of) (f 29) (fd 29)
 c30:Cal P w K mg base k "owners_in" pF30 (q1d K t.downers_in) (f 30) (fd 30)
 c31:Cal P w K mg base k "is_closed" pF31 (q1d K t.dis_closed) (f 31) (fd 31)
 c32:Cal P w K mg base k "is_sparing" pF32 (q1d K t.dis_sparing) (f 32) (fd 32)
 c33:Cal P w K mg base k "_law_uses" pF33 (q1d K t.dLuses) (f 33) (fd 33)
 c34:Cal P w K mg base k "_law_sparing" pF34 (q1d K t.dLsparing) (f 34) (fd 34)
 c35:Cal P w K mg base k "size_of" pF35 (q1d K t.dsize_of) (f 35) (fd 35)
 c36:Cal P w K mg base k "_law_holds" pF36 (q1d K t.dLholds) (f 36) (fd 36)
 c37:Cal P w K mg base k "_law_sized" pF37 (q1d K t.dLsized) (f 37) (fd 37)
 c38:Cal P w K mg base k "rows_of" pF38 (q1d K t.drows_of) (f 38) (fd 38)
 c39:Cal P w K mg base k "term_of" pF39 (q1d K t.dterm_of) (f 39) (fd 39)
 c40:Cal P w K mg base k "words_of" pF40 (q1d K t.dwords_of) (f 40) (fd 40)
 c41:Cal P w K mg base k "made" pF41 (q1d K t.dmade) (f 41) (fd 41)
 c42:Cal P w K mg base k "joined" pF42 (q1d K t.djoined) (f 42) (fd 42)
 c43:Cal P w K mg base k "meant" pF43 (q1d K t.dmeant) (f 43) (fd 43)
 c44:Cal P w K mg base k "form_and_term" pF44 (q1d K t.dform_and_term) (f 44) (fd 44)
 c45:Cal P w K mg base k "meaning_with" pF45 (q1d K t.dmeaning_with) (f 45) (fd 45)
 c46:Cal P w K mg base k "meaning" pF46 (q1d K t.dmeaning) (f 46) (fd 46)
 c47:Cal P w K mg base k "unknown" pF47 (q1d K t.dunknown) (f 47) (fd 47)
 c48:Cal P w K mg base k "law" pF48 (q1d K t.dlaw) (f 48) (fd 48)
structure Locs(K:Frag)(mg:Str->Option Value)(f:Nat->Addr)(fd:Nat->FuncData):Prop where
 l0:Loc2 K mg "_law_deck" sF0 pF0 (f 0) (fd 0)
 l1:Loc2 K mg "_law_next" sF1 pF1 (f 1) (fd 1)
 l2:Loc2 K mg "_law_spelled" sF2 pF2 (f 2) (fd 2)
 l3:Loc2 K mg "_law_word" sF3 pF3 (f 3) (fd 3)
 l4:Loc2 K mg "_law_words" sF4 pF4 (f 4) (fd 4)
 l5:Loc2 K mg "_law_wide" sF5 pF5 (f 5) (fd 5)
 l6:Loc2 K mg "_law_other" sF6 pF6 (f 6) (fd 6)
 l7:Loc2 K mg "_law_tree" sF7 pF7 (f 7) (fd 7)
 l8:Loc2 K mg "_law_drawn_form" sF8 pF8 (f 8) (fd 8)
 l9:Loc2 K mg "_law_within" sF9 pF9 (f 9) (fd 9)
 l10:Loc2 K mg "_law_words_of" sF10 pF10 (f 10) (fd 10)
 l11:Loc2 K mg "_law_sentence" sF11 pF11 (f 11) (fd 11)
 l12:Loc2 K mg "_law_named" sF12 pF12 (f 12) (fd 12)
 l13:Loc2 K mg "_law_applied" sF13 pF13 (f 13) (fd 13)
 l14:Loc2 K mg "_law_term" sF14 pF14 (f 14) (fd 14)
 l15:Loc2 K mg "_law_kind_of_form" sF15 pF15 (f 15) (fd 15)
 l16:Loc2 K mg "_law_book" sF16 pF16 (f 16) (fd 16)
 l17:Loc2 K mg "_law_means" sF17 pF17 (f 17) (fd 17)
 l18:Loc2 K mg "_law_size" sF18 pF18 (f 18) (fd 18)
 l19:Loc2 K mg "_law_joined" sF19 pF19 (f 19) (fd 19)
 l20:Loc2 K mg "_law_meant" sF20 pF20 (f 20) (fd 20)
 l21:Loc2 K mg "_law_same" sF21 pF21 (f 21) (fd 21)
 l22:Loc2 K mg "parts_and_fns" sF22 pF22 (f 22) (fd 22)
 l23:Loc2 K mg "kind_of_of" sF23 pF23 (f 23) (fd 23)
 l24:Loc2 K mg "kind_of_name" sF24 pF24 (f 24) (fd 24)
 l25:Loc2 K mg "kind_of_form" sF25 pF25 (f 25) (fd 25)
 l26:Loc2 K mg "owner_of" sF26 pF26 (f 26) (fd 26)
 l27:Loc2 K mg "kind_of_bound" sF27 pF27 (f 27) (fd 27)
 l28:Loc2 K mg "kind_of" sF28 pF28 (f 28) (fd 28)
 l29:Loc2 K mg "_law_kind_of" sF29 pF29 (f 29) (fd 29)
 l30:Loc2 K mg "owners_in" sF30 pF30 (f 30) (fd 30)
 l31:Loc2 K mg "is_closed" sF31 pF31 (f 31) (fd 31)
 l32:Loc2 K mg "is_sparing" sF32 pF32 (f 32) (fd 32)
 l33:Loc2 K mg "_law_uses" sF33 pF33 (f 33) (fd 33)
 l34:Loc2 K mg "_law_sparing" sF34 pF34 (f 34) (fd 34)
 l35:Loc2 K mg "size_of" sF35 pF35 (f 35) (fd 35)
 l36:Loc2 K mg "_law_holds" sF36 pF36 (f 36) (fd 36)
 l37:Loc2 K mg "_law_sized" sF37 pF37 (f 37) (fd 37)
 l38:Loc2 K mg "rows_of" sF38 pF38 (f 38) (fd 38)
 l39:Loc2 K mg "term_of" sF39 pF39 (f 39) (fd 39)
 l40:Loc2 K mg "words_of" sF40 pF40 (f 40) (fd 40)
 l41:Loc2 K mg "made" sF41 pF41 (f 41) (fd 41)
 l42:Loc2 K mg "joined" sF42 pF42 (f 42) (fd 42)
 l43:Loc2 K mg "meant" sF43 pF43 (f 43) (fd 43)
 l44:Loc2 K mg "form_and_term" sF44 pF44 (f 44) (fd 44)
 l45:Loc2 K mg "meaning_with" sF45 pF45 (f 45) (fd 45)
 l46:Loc2 K mg "meaning" sF46 pF46 (f 46) (fd 46)
 l47:Loc2 K mg "unknown" sF47 pF47 (f 47) (fd 47)
 l48:Loc2 K mg "law" sF48 pF48 (f 48) (fd 48)
section
variable{P:Program}{w:World}{K:Frag}{mg:Str->Option Value}{base:Heap}{k:Nat}{t:Tab}{f:Nat->Addr}{fd:Nat->FuncData}{g:Addr}(Z:Sta K mg)(I:Fns P w K mg base k t f fd)
include Z I
theorem mF0:SimF P w K mg base k "_law_deck" nF0 sF0 (q5d) g:=
 fun hw hr hx hu hn=>(q0e (q0p 1 hn (q0n q1i (q5r (q0b 0) q5t (q5s q0f)) (q1x (q0a q0f q0c))))
 (q0e (q0p 2 hn (q6m (q1b hu) (q0n q1l (q0j hu (q0b 1) q0f) q0f) q0f (q0u _)))
 (q0e (q2t (q0n q4s (q0j hu (q0b 1) q0f) q0f) (q3l (sets hu) (q0b 1) q0f))
 (q0g (q0m (y4u (q6n q0k (q0b 1) (q6n q0k q0f (q6n q0k q0f (q6n q0k (q0n q1i q0f (q0n q1l (q0x (y3f rfl) Z.z11 L2.y7e (q0a (q0b 1) q0c)) q0f)) (q6n q0k (q0b 2) y4x)))))))))))
theorem mF1:SimF P w K mg base k "_law_next" nF1 sF1 (q5c) g:=
 fun hw hr hx hu hn=>(q0e (q0p 1 hn (q0j hu (q0b 0) q0k))
 (q0e (q1a (q2w (q0j hu (q0b 0) q0k)) (q0e (q2t (q0n q1i (q0j hu (q0b 0) q0k) q0f) (q3l (sets hu) (q0b 0) q0k))
 (q0e (q0p 2 hn (q0j hu (q0b 1) (q0n q1l (q0j hu (q0b 0) q0k) (q0x q1f Z.z4 PySem.boot_len (q0a (q0b 1) q0c)))))
 (q0e (q2t (q0n q1l (q0n q1i (q0n q1i (q0n z1v (q0j hu (q0b 0) q0k) q0f) (q0b 2)) (q0j hu (q0b 0) q0k)) q0f) (q3l (sets hu) (q0b 0) q0k))
 (q0e (q0p 3 hn (q0n q1l (q0n q1i (q0n z1v (q0j hu (q0b 0) q0k) (q0j hu (q0b 0) q0k)) (q0n z1v q0f (q0j hu (q0b 0) q0k))) q0f))
 (q0g (q0m (q0n q1l (q0n z1v (q0b 3) (q0n q1i (q0b 3) q0f)) q0f))))))) q0q)
 (q0e (q0p 3 hn (q0n q1l (q0j hu (q0b 1) q0f) (q0n y0y q0f q0f)))
 (q0e (q2t (q0n q4s (q0j hu (q0b 1) q0f) (q0n y0y q0f q0f)) (q3l (sets hu) (q0b 1) q0f))
 (q0e (q2t (q0n q2y (q0j hu (q0b 0) q0k) q0f) (q3l (sets hu) (q0b 0) q0k))
 (q0e (q1a (SimW.t (q4r (q0l (q1b hu) (q0j hu (q0b 0) q0k) q0f (q0u _)) (q3k (q0l q9l (q0x q1f Z.z4 PySem.boot_len (q0a (q0b 1) q0c)) q0f (q0u _))))) (q0e (q2j (q3p PySem.F.plainAttrs_list PySem.F.slot_list_pop PySem.F.type_list_pop q9o (q0b 1) (q0a q0f q0c)))
 (q0g (q2t q0f (q3l (sets hu) (q0b 0) q0k)))) q0q)
 (q0g (q0m (q0b 3)))))))))
theorem mF2:SimF P w K mg base k "_law_spelled" nF2 sF2 (q6i) g:=
 fun hw hr hx hu hn=>(q0e (q0p 2 hn q0k)
 (q0e (q2s PassesOwn.leaving rfl (q4t Z.z7 (q0a (q0b 1) q0c)) (q0o (i:=3) hn) (q0e (q0p 2 hn (q0n q1i (q0b 2) (q0j hu q0k (q0n q1l (q0b 0) q0f))))
 (q0g (q0p 0 hn (q0n q4s (q0b 0) q0f)))))
 (q0g (q0m (q0b 2)))))
theorem mF3:SimF P w K mg base k "_law_word" nF3 sF3 (q4y t.dLnext t.dLspelled) g:=
 fun hw hr hx hu hn=>(q0e (q0p 2 hn (q0i I.c1 hr hx (q0a (q0b 0) q0c)))
 (q0e (q0p 3 hn (q0i I.c1 hr hx (q0a (q0b 0) q0c)))
 (q0e (q0p 4 hn (q0n q1i q0f (q0n q1l (q0b 2) q0f)))
 (q0e (q0p 5 hn (q0i I.c2 hr hx (q0a (q0b 3) (q0a (q0b 4) q0c))))
 (q0e (q1a (SimW.t (q4r (q0l (z2x hu) (q0b 1) (q1x q0c) (q0u _)) (q3k (q0l (q1b hu) (q0n q1l (q0n q4s (q0b 2) q0f) q0f) q0f (q0u _))))) (q0e (q0p 6 hn (q0n q1l (q0n q4s (q0b 2) q0f) (q0x q1f Z.z4 PySem.boot_len (q0a (q0j hu (q0b 1) q0f) q0c))))
 (q0g (q0p 5 hn (q0n q1i (q0n q1i (q5r (q0j hu (q0b 1) q0f) q5t (q5s (q0b 6))) (q0j hu (q0b 5) q0f)) (q5r (q0j hu (q0b 1) q0f) (q5s (q0n q1i (q0b 6) q0f)) q5t))))) q0q)
 (q0e (q9g PassesOwn.leaving (SimW.t (q4e (q0l (y0z hu) (q0b 5) (q0b 1) (by with_unfolding_all rfl)) (q4q (q0l (q1b hu) (q0b 5) q0k (q0u _))))) (q0e (q0p 3 hn (q0n q1i (q0b 3) q0f))
 (q0e (q0p 4 hn (q0n q1i (q0n q1l (q0b 4) q0f) q0f))
 (q0g (q0p 5 hn (q0i I.c2 hr hx (q0a (q0b 3) (q0a (q0b 4) q0c))))))))
 (q0g (q0m (q0b 5)))))))))
theorem mF4:SimF P w K mg base k "_law_words" nF4 sF4 (q4j t.dLword) g:=
 fun hw hr hx hu hn=>(q0e (q0p 2 hn (q1x q0c))
 (q0e (q2s PassesOwn.leaving rfl (q4t Z.z7 (q0a (q0b 1) q0c)) (q0o (i:=3) hn) (q0g (q2j (q3p PySem.F.plainAttrs_list PySem.F.slot_list_append PySem.F.type_list_append q1v (q0b 2) (q0a (q0i I.c3 hr hx (q0a (q0b 0) (q0a (q0b 2) q0c))) q0c)))))
 (q0g (q0m (q0b 2)))))
theorem mF5:SimF P w K mg base k "_law_wide" nF5 sF5 (q4b t.dLwide) g:=
 fun hw hr hx hu hn=>(q0e (q1a (q0l (q1b hu) (q0j hu (q0b 0) q0f) q0k (q0u _)) (q0g (q0m q0f)) q0q)
 (q0g (q0m (q0n q1i (q0i I.c5 hr hx (q0a (q0j hu (q0b 0) q0f) q0c)) (q0i I.c5 hr hx (q0a (q0j hu (q0b 0) q0f) q0c))))))
theorem mF6:SimF P w K mg base k "_law_other" nF6 sF6 (q4k t.dLnext t.dLwide) g:=
 fun hw hr hx hu hn=>(q0e (q0p 3 hn (q0i I.c1 hr hx (q0a (q0b 0) q0c)))
 (q0e (q0p 4 hn (q0r (q0a q0k (q0a (q0j hu (q0b 1) (q0n q1l (q0b 3) (q0x q1f Z.z4 PySem.boot_len (q0a (q0b 1) q0c)))) q0c))))
 (q0e (q1a (SimW.t (q4e (q0l q9l (q0n q1l (q0n q4s (q0b 3) q0f) q0f) q0f (q0u _)) (q4q (q0l q9l (q0i I.c5 hr hx (q0a (q0b 2) q0c)) q0f (q0u _))))) (q0g (q0m (q0b 4))) q0q)
 (q0g (q0m (q0r (q0a (q0j hu (q1x (q0a q0k (q0a q0k q0c))) (q0n q1l (q0n q4s (q0b 3) q0f) q0f)) (q0a (q0b 4) (q0a (q0r (q0a q0k (q0a (q0j hu (q0b 1) (q0n q1l (q0n q4s (q0b 3) q0f) (q0x q1f Z.z4 PySem.boot_len (q0a (q0b 1) q0c)))) q0c))) q0c)))))))))
theorem mF7:SimF P w K mg base k "_law_tree" nF7 sF7 (q4z t.dLnext t.dLother t.dLwide t.dLtree) g:=
 fun hw hr hx hu hn=>(q0e (q1a (q0l z2y (q0b 4) q0f (q0u _)) (q0g (q0m (q0r (q0a q0k (q0a (q0b 3) (q0a (q0b 2) q0c)))))) q0q)
 (q0e (q0p 5 hn (q0n q1i q0f (q0n q1l (q0i I.c1 hr hx (q0a (q0b 0) q0c)) (q0n q2y (q0b 4) q0f))))
 (q0e (q0p 6 hn (q0i I.c1 hr hx (q0a (q0b 0) q0c)))
 (q0e (q0p 7 hn (q0i I.c6 hr hx (q0a (q0b 0) (q0a (q0b 1) (q0a (q0b 2) q0c)))))
 (q0e (q0p 8 hn q0k)
 (q0e (q0p 9 hn (q0r (q0a (q0r (q0a q0k (q0a (q0b 2) (q0a (q0b 7) q0c)))) (q0a (q0b 7) q0c))))
 (q0e (q1a (q0l (q1b hu) (q0n q1l (q0b 6) q0f) q0f (q0u _)) (q0e (q0p 8 hn q0k)
 (q0g (q0p 9 hn (q0r (q0a (q0b 7) (q0a (q0r (q0a q0k (q0a (q0b 2) (q0a (q0b 7) q0c)))) q0c)))))) q0q)
 (q0e (q1a (SimW.t (q4r (q0l (q1b hu) (q0j hu (q0b 2) q0f) q0k (q0u _)) (q3k (SimW.t (q4e (q0l q9l (q0n q1l (q0b 6) q0f) q0f (q0u _)) (q4q (q0l q9l (q0i I.c5 hr hx (q0a (q0b 2) q0c)) q0f (q0u _)))))))) (q0e (q0p 8 hn q0k)
 (q0g (q0p 9 hn (q0r (q0a (q0r (q0a q0k (q0a (q0j hu (q0b 2) q0f) (q0a (q0b 7) q0c)))) (q0a (q0r (q0a q0k (q0a (q0b 7) (q0a (q0j hu (q0b 2) q0f) q0c)))) q0c)))))) q0q)
 (q0e (q1a (SimW.t (q4r (q0l (q1b hu) (q0j hu (q0b 2) q0f) q0k (q0u _)) (q3k (SimW.t (q4e (q0l q9l (q0n q1l (q0b 6) q0f) q0f (q0u _)) (q4q (q0l q9l (q0i I.c5 hr hx (q0a (q0b 2) q0c)) q0f (q0u _)))))))) (q0e (q0p 8 hn q0k)
 (q0g (q0p 9 hn (q0r (q0a (q0r (q0a q0k (q0a (q0b 7) (q0a (q0j hu (q0b 2) q0f) q0c)))) (q0a (q0r (q0a q0k (q0a (q0j hu (q0b 2) q0f) (q0a (q0b 7) q0c)))) q0c)))))) q0q)
 (q0e (q0p 10 hn (q0i I.c7 hr hx (q0a (q0b 0) (q0a (q0b 1) (q0a (q0j hu (q0b 9) q0f) (q0a (q0b 3) (q0a (q0b 5) q0c)))))))
 (q0g (q0m (q0r (q0a (q0b 8) (q0a (q0b 10) (q0a (q0i I.c7 hr hx (q0a (q0b 0) (q0a (q0b 1) (q0a (q0j hu (q0b 9) q0f) (q0a (q0n q1i (q0b 3) (q0b 5)) (q0a (q0n q2y (q0b 4) (q0b 5)) q0c)))))) q0c))))))))))))))))
theorem mF8:SimF P w K mg base k "_law_drawn_form" nF8 sF8 (q2o t.dLnext t.dLother) g:=
 fun hw hr hx hu hn=>(q0e (q0p 2 hn (q0r (q0a q0k (q0a (q0j hu (q0b 1) (q0n q1l (q0i I.c1 hr hx (q0a (q0b 0) q0c)) (q0x q1f Z.z4 PySem.boot_len (q0a (q0b 1) q0c)))) q0c))))
 (q0e (q0p 3 hn (q0i I.c6 hr hx (q0a (q0b 0) (q0a (q0b 1) (q0a (q0b 2) q0c)))))
 (q0e (q0p 4 hn (q0n q1l (q0i I.c1 hr hx (q0a (q0b 0) q0c)) q0f))
 (q0e (q1a (q0l z2y (q0b 4) q0f (q0u _)) (q0g (q0m (q0b 2))) q0q)
 (q0g (q0m (q0r (q0a (q0j hu (q1x (q0a q0k (q0a q0k q0c))) (q0n q1l (q0b 4) q0f)) (q0a (q0b 2) (q0a (q0b 3) q0c))))))))))
theorem mF9:SimF P w K mg base k "_law_within" nF9 sF9 (q3y t.dLwithin) g:=
 fun hw hr hx hu hn=>(q0e (q1a (q0l (q1b hu) (q0j hu (q0b 0) q0f) q0k (q0u _)) (q0g (q0m (q1x (q0a (q0b 0) q0c)))) q0q)
 (q0g (q0m (q0n q1i (q0n q1i (q1x (q0a (q0b 0) q0c)) (q0i I.c9 hr hx (q0a (q0j hu (q0b 0) q0f) q0c))) (q0i I.c9 hr hx (q0a (q0j hu (q0b 0) q0f) q0c))))))
theorem mF10:SimF P w K mg base k "_law_words_of" nF10 sF10 (q3b t.dLwithin) g:=
 fun hw hr hx hu hn=>(q0g (q0m (z0v ["_law_one"] [none] rfl (q6s rfl (by decide +kernel) (by decide +kernel) rfl trivial) (q1z (q0i I.c9 hr hx (q0a (q0b 0) q0c))) (fun _ _ _ _ _=>(q0o (i:=0) (show(["_law_one"]:List Str).Nodup by decide +kernel))) (fun _ _ _ _ _=>(q0l (q1b hu) (q0j hu (q0b 0) q0f) q0k (q0u _))) (fun _ _ _ _ _=>(q5r (q0b 0) (q5s q0f) q5t)))))
theorem mF11:SimF P w K mg base k "_law_sentence" nF11 sF11 (q3c t.dLwords_of t.dLwords t.dLnext) g:=
 fun hw hr hx hu hn=>(q0e (q0p 2 hn (q0i I.c10 hr hx (q0a (q0b 1) q0c)))
 (q0e (q0p 3 hn (q0i I.c4 hr hx (q0a (q0b 0) (q0a (q0x q1f Z.z4 PySem.boot_len (q0a (q0b 2) q0c)) q0c))))
 (q0e (q1a (q0l (q1b hu) (q0n q1l (q0i I.c1 hr hx (q0a (q0b 0) q0c)) q0f) q0f (q0u _)) (q0g (q0p 3 hn (q8z ["_law_k", "_law_words_here"] [none,some 3] rfl (q6s rfl (by decide +kernel) (by decide +kernel) rfl ⟨⟨rfl,rfl,by first|exact Or.inl rfl|exact Or.inr rfl⟩,trivial⟩) (q4t Z.z7 (q0a (q0x q1f Z.z4 PySem.boot_len (q0a (q0b 2) q0c)) q0c)) (fun _ _ _ _ _=>(q0o (i:=0) (show (["_law_k", "_law_words_here"]:List Str).Nodup by decide +kernel))) (fun _ _ _ _ _=>(q0j hu (q0b 1) (q0n q4s (q0b 0) q0f)))))) q0q)
 (q0g (q0m (q6w q6f Z.z12 L2.q3e (q0a (q0b 3) q0c)))))))
theorem mF12:SimF P w K mg base k "_law_named" nF12 sF12 (q4l) g:=
 fun hw hr hx hu hn=>(q0e (q2s PassesOwn.leaving rfl (q1z (q0b 0)) (q1p 2 rfl (q0s (q0o (i:=3) hn) (q0s (q0o (i:=4) hn) q1k))) (q0g (q1a (q0l (q1b hu) (q0b 4) (q0b 2) (q0u _)) (q0g (q0m (q0r (q0a q0k (q0a (q0b 3) q0c))))) q0q)))
 (q0e (q2j (q3p PySem.F.plainAttrs_list PySem.F.slot_list_append PySem.F.type_list_append q1v (q0b 0) (q0a (q0r (q0a (q3p PySem.F.plainAttrs_list PySem.F.slot_list_pop PySem.F.type_list_pop q9o (q0b 1) (q0a q0f q0c)) (q0a (q0b 2) q0c))) q0c)))
 (q0g (q0m (q0r (q0a q0k (q0a (q0j hu (q0j hu (q0b 0) (z1q q0f)) q0f) q0c)))))))
theorem mF13:SimF P w K mg base k "_law_applied" nF13 sF13 (q3j t.dLnext t.dLnamed) g:=
 fun hw hr hx hu hn=>(q0e (q0p 5 hn (z8g rfl Z.z5 Z.z7 (q0a (q0x q1f Z.z4 PySem.boot_len (q0a (q0b 3) q0c)) q0c)))
 (q0e (q0p 6 hn (q1x q0c))
 (q0e (q2s PassesOwn.leaving rfl (q4t Z.z7 (q0a (q0n q1l (q0i I.c1 hr hx (q0a (q0b 0) q0c)) (q0n q1i (q0x q1f Z.z4 PySem.boot_len (q0a (q0b 3) q0c)) q0f)) q0c)) (q0o (i:=7) hn) (q0g (q2j (q3p PySem.F.plainAttrs_list PySem.F.slot_list_append PySem.F.type_list_append q1v (q0b 6) (q0a (q3p PySem.F.plainAttrs_list PySem.F.slot_list_pop PySem.F.type_list_pop q9o (q0b 5) (q0a (q0n q1l (q0i I.c1 hr hx (q0a (q0b 0) q0c)) (q0x q1f Z.z4 PySem.boot_len (q0a (q0b 5) q0c))) q0c)) q0c)))))
 (q0e (q0p 8 hn (q0b 4))
 (q0e (q2s PassesOwn.leaving rfl (z1s Z.z8 (q0b 6)) (q0o (i:=7) hn) (q0g (q0p 8 hn (q0r (q0a (q0j hu (q0b 3) (q0b 7)) (q0a (q0b 8) q0c))))))
 (q0e (q0p 9 hn (q0i I.c12 hr hx (q0a (q0b 1) (q0a (q0b 2) (q0a (q0b 8) q0c)))))
 (q0e (q2s PassesOwn.leaving rfl (q1z (q0b 6)) (q0o (i:=7) hn) (q0g (q0p 9 hn (q0r (q0a q0k (q0a (q0b 9) (q0a (q0r (q0a q0k (q0a (q0n q2y (q0n q2y (q0x q1f Z.z4 PySem.boot_len (q0a (q0b 3) q0c)) q0f) (q0b 7)) q0c))) q0c)))))))
 (q0g (q0m (q0b 9))))))))))
theorem mF14:SimF P w K mg base k "_law_term" nF14 sF14 (q5a t.dLnext t.dLnamed t.dLapplied) g:=
 fun hw hr hx hu hn=>(q0e (q0p 4 hn (q0n q1l (q0i I.c1 hr hx (q0a (q0b 0) q0c)) q0f))
 (q0e (q1a (q0l (q1b hu) (q0b 4) q0f (q0u _)) (q0g (q0m (q0i I.c12 hr hx (q0a (q0b 1) (q0a (q0b 2) (q0a (q0b 3) q0c)))))) q0q)
 (q0e (q0p 5 hn (q1x q0c))
 (q0e (q0p 6 hn (q0b 3))
 (q0e (q9g PassesOwn.leaving (q2w (q0x q3m Z.z3 L2.q2l (q0a (q0b 6) (q0a (q7n Z.z12 L2.q3e) q0c)))) (q0e (q2j (q3p PySem.F.plainAttrs_list PySem.F.slot_list_append PySem.F.type_list_append q1v (q0b 5) (q0a (q0j hu (q0b 6) q0f) q0c)))
 (q0g (q0p 6 hn (q0j hu (q0b 6) q0f)))))
 (q0e (q0p 7 hn q4d)
 (q0e (q2s PassesOwn.leaving rfl (q4t Z.z7 (q0a (q0x q1f Z.z4 PySem.boot_len (q0a (q0b 5) q0c)) q0c)) (q0o (i:=8) hn) (q0g (q2s PassesOwn.leaving rfl (q4t Z.z7 (q0a (q0x q1f Z.z4 PySem.boot_len (q0a (q0b 5) q0c)) q0c)) (q0o (i:=9) hn) (q0g (q1a (SimW.t (q4r (q0l z2y (q0b 4) q0f (q0u _)) (q3k (q0l (q1b hu) (q0j hu (q0b 5) (q0b 8)) (q0r (q0a (q0j hu (q0b 5) (q0b 9)) (q0a (q0b 6) q0c))) (q0u _))))) (q0g (q0p 7 hn (q0r (q0a q0k (q0a (q0r (q0a q0k (q0a (q0n q2y (q0n q2y (q0x q1f Z.z4 PySem.boot_len (q0a (q0b 5) q0c)) q0f) (q0b 8)) q0c))) (q0a (q0r (q0a q0k (q0a (q0n q2y (q0n q2y (q0x q1f Z.z4 PySem.boot_len (q0a (q0b 5) q0c)) q0f) (q0b 9)) q0c))) q0c)))))) q0q)))))
 (q0e (q1a (q0l z2z (q0b 7) q4d (q0u _)) (q0g (q0p 7 hn (q0i I.c13 hr hx (q0a (q0b 0) (q0a (q0b 1) (q0a (q0b 2) (q0a (q0b 5) (q0a (q0b 6) q0c)))))))) q0q)
 (q0e (q1a (q0l (q1b hu) (q0b 4) q0f (q0u _)) (q0g (q0p 7 hn (q0r (q0a q0k (q0a (q0r (q0a q0k (q0a (q0b 6) (q0a (q0r (q0a q0k (q0a q0f q0c))) q0c)))) (q0a (q0b 7) q0c)))))) q0q)
 (q0e (q2s PassesOwn.leaving rfl (z1s Z.z8 (q0b 5)) (q0o (i:=10) hn) (q0g (q0p 7 hn (q0r (q0a q0k (q0a (q0b 10) (q0a (q0b 7) q0c)))))))
 (q0g (q0m (q0b 7)))))))))))))
theorem mF15:SimF P w K mg base k "_law_kind_of_form" nF15 sF15 (q4f t.dLkind_of_form) g:=
 fun hw hr hx hu hn=>(q0e (q1a (q0l (q1b hu) (q0j hu (q0b 0) q0f) q0k (q0u _)) (q0g (q0m (q0j hu (q0b 0) q0f))) q0q)
 (q0g (q0m (q0r (q0a (q0i I.c15 hr hx (q0a (q0j hu (q0b 0) q0f) q0c)) (q0a (q0i I.c15 hr hx (q0a (q0j hu (q0b 0) q0f) q0c)) q0c))))))
theorem mF16:SimF P w K mg base k "_law_book" nF16 sF16 (q5e t.dLwords t.dLterm t.dLkind_of_form) g:=
 fun hw hr hx hu hn=>(q0e (q0p 3 hn (q1x q0c))
 (q0e (q0p 4 hn (q0i I.c4 hr hx (q0a (q0b 0) (q0a q0f q0c))))
 (q0e (q0p 5 hn (q1x q0c))
 (q0e (q2s PassesOwn.leaving rfl (q1z (q0b 2)) (q1p 2 rfl (q0s (q0o (i:=6) hn) (q0s (q0o (i:=7) hn) q1k))) (q0g (q1a (q0l (z2w hu) (q0r (q0a (q0b 6) (q0a (q0b 7) q0c))) (q8z ["_law_triple"] [none] rfl (q6s rfl (by decide +kernel) (by decide +kernel) rfl trivial) (q1z (q0b 5)) (fun _ _ _ _ _=>(q0o (i:=0) (show (["_law_triple"]:List Str).Nodup by decide +kernel))) (fun _ _ _ _ _=>(q5r (q0b 0) q5t (q5s q0f)))) (by with_unfolding_all rfl)) (q0g (q2j (q3p PySem.F.plainAttrs_list PySem.F.slot_list_append PySem.F.type_list_append q1v (q0b 5) (q0a (q0r (q0a (q0b 6) (q0a (q0b 7) (q0a (q0i I.c14 hr hx (q0a (q0b 0) (q0a (q0b 3) (q0a (q0b 4) (q0a (q0i I.c15 hr hx (q0a (q0b 7) q0c)) q0c))))) q0c)))) q0c)))) q0q)))
 (q0g (q0m (q0r (q0a (q6w q6f Z.z12 L2.q3e (q0a (q0b 1) q0c)) (q0a (q6w q6f Z.z12 L2.q3e (q0a (q0b 3) q0c)) (q0a (q6w q6f Z.z12 L2.q3e (q0a (q0b 5) q0c)) q0c))))))))))
theorem mF17:SimF P w K mg base k "_law_means" nF17 sF17 (q4n t.dLwords_of) g:=
 fun hw hr hx hu hn=>(q0e (q0p 3 hn q8y)
 (q0e (q2s PassesOwn.leaving rfl (q1z (q0i I.c10 hr hx (q0a (q0b 2) q0c))) (q1p 2 rfl (q0s (q0o (i:=4) hn) (q0s (q0o (i:=5) hn) q1k))) (q0g (q2s PassesOwn.leaving rfl (q1z (q0j hu (q0b 0) q0f)) (q1p 3 rfl (q0s (q0o (i:=6) hn) (q0s (q0o (i:=7) hn) (q0s (q0o (i:=8) hn) q1k)))) (q0g (q1a (SimW.t (q4r (q0l (q1b hu) (q0b 6) (q0j hu (q0b 1) (q0b 4)) (q0u _)) (q3k (q0l (q1b hu) (q0b 7) (q0b 5) (q0u _))))) (q0g (q2t (q0b 8) (q3l (x4b hu) (q0b 3) (q0r (q0a (q0b 4) (q0a (q0b 5) q0c)))))) q0q)))))
 (q0g (q0m (q0b 3)))))
theorem mF18:SimF P w K mg base k "_law_size" nF18 sF18 (q2h t.dLsize) g:=
 fun hw hr hx hu hn=>(q0e (q1a (q0l (q1b hu) (q0j hu (q0b 0) q0f) q0k (q0u _)) (q0g (q0m (q0n q1i q0f (q0i I.c18 hr hx (q0a (q0j hu (q0b 0) q0f) q0c))))) q0q)
 (q0e (q1a (q0l (q1b hu) (q0j hu (q0b 0) q0f) q0k (q0u _)) (q0g (q0m (q0n q1i (q0n q1i q0f (q0i I.c18 hr hx (q0a (q0j hu (q0b 0) q0f) q0c))) (q0i I.c18 hr hx (q0a (q0j hu (q0b 0) q0f) q0c))))) q0q)
 (q0g (q0m q0f))))
theorem mF19:SimF P w K mg base k "_law_joined" nF19 sF19 (q3z) g:=
 fun hw hr hx hu hn=>(q0e (q1a (q0l (q1b hu) (q0b 0) q0k (q0u _)) (q0g (q0m (q0j hu (q0b 1) q0f))) q0q)
 (q0e (q1a (q0l (q1b hu) (q0b 0) q0k (q0u _)) (q0g (q0m (q0j hu (q0b 2) q0f))) q0q)
 (q0e (q1a (q0l (q1b hu) (q0b 0) q0k (q0u _)) (q0g (q0m (q0r (q0a q0k (q0a (q0j hu (q0b 1) q0f) (q0a (q0j hu (q0b 2) q0f) q0c)))))) q0q)
 (q0g (q0m (q0r (q0a q0k (q0a (q0j hu (q0b 2) q0f) (q0a (q0j hu (q0b 1) q0f) q0c)))))))))
theorem mF20:SimF P w K mg base k "_law_meant" nF20 sF20 (q4m t.dLmeant t.dLjoined t.dLkind_of_form) g:=
 fun hw hr hx hu hn=>(q0e (q1a (q0l (q1b hu) (q0j hu (q0b 0) q0f) q0k (q0u _)) (q0g (q0m (q0r (q0a (q0j hu (q0b 0) q0f) (q0a (y0b hu (q0b 1) (q5r (q0b 0) (q5s q0f) q5t)) q0c))))) q0q)
 (q0e (q2t (q0i I.c20 hr hx (q0a (q0j hu (q0b 0) q0f) (q0a (q0b 1) q0c))) (q1p 2 rfl (q0s (q0o (i:=2) hn) (q0s (q0o (i:=3) hn) q1k))))
 (q0e (q2t (q0i I.c20 hr hx (q0a (q0j hu (q0b 0) q0f) (q0a (q0b 1) q0c))) (q1p 2 rfl (q0s (q0o (i:=4) hn) (q0s (q0o (i:=5) hn) q1k))))
 (q0e (q0p 6 hn (q0i I.c19 hr hx (q0a (q0j hu (q0b 0) q0f) (q0a (q0b 2) (q0a (q0b 4) q0c)))))
 (q0e (q1a (q0l (y0z hu) (q0j hu (q0b 0) q0f) (q0r (q0a q0k (q0a q0k q0c))) (by with_unfolding_all rfl)) (q0g (y9x 3 5 hn rfl (q0a (q0b 5) (q0a (q0b 3) q0c)))) q0q)
 (q0e (q1a (q0l (y0z hu) (q0j hu (q0b 0) q0f) (q0r (q0a q0k (q0a q0k q0c))) (by with_unfolding_all rfl)) (q0g (q0m (q0r (q0a (q0b 6) (q0a (q0r (q0a q0k (q0a (q0b 3) (q0a (q0b 5) q0c)))) q0c))))) q0q)
 (q0g (q0m (q0r (q0a (q0b 6) (q0a (q0r (q0a q0k (q0a (q0i I.c15 hr hx (q0a (q0j hu (q0b 6) q0f) q0c)) (q0a (q0r (q0a q0k (q0a (q0b 3) (q0a (q0r (q0a q0k (q0a (q0b 5) (q0a (q0r (q0a q0k (q0a q0f q0c))) q0c)))) q0c)))) q0c)))) q0c)))))))))))
theorem mF21:SimF P w K mg base k "_law_same" nF21 sF21 (q5b t.dLsame) g:=
 fun hw hr hx hu hn=>(q0e (q1a (q2w (q0x q3m Z.z3 L2.q2l (q0a (q0b 0) (q0a (q7n Z.z10 L2.z2i) q0c)))) (q0g (q0m (q8c (q0x q3m Z.z3 L2.q2l (q0a (q0b 1) (q0a (q7n Z.z10 L2.z2i) q0c))) (q9h (q6m (q1b hu) (q0b 0) (q0b 1) (q0u _)))))) q0q)
 (q0e (q1a (q5f (q2w (q0x q3m Z.z3 L2.q2l (q0a (q0b 0) (q0a (q7n Z.z12 L2.q3e) q0c))))) (q0g (q0m (q8c (q0x q3m Z.z3 L2.q2l (q0a (q0b 1) (q0a (q7n Z.z2 L2.y7i) q0c))) (q8c (y9y (q0x q3m Z.z3 L2.q2l (q0a (q0b 1) (q0a (q7n Z.z1 L2.y3o) q0c)))) (q9h (q6m (q1b hu) (q0b 0) (q0b 1) (q0u _))))))) q0q)
 (q0e (q1a (SimW.t (q4e (q5f (q2w (q0x q3m Z.z3 L2.q2l (q0a (q0b 1) (q0a (q7n Z.z12 L2.q3e) q0c))))) (q4q (q0l (z2x hu) (q0x q1f Z.z4 PySem.boot_len (q0a (q0b 0) q0c)) (q0x q1f Z.z4 PySem.boot_len (q0a (q0b 1) q0c)) (q0u _))))) (q0g (q0m q7c)) q0q)
 (q0g (q0m (q0x (y3g rfl) Z.z0 L2.y7j (q0a (q8z ["_law_here", "_law_there"] [none,none] rfl (q6s rfl (by decide +kernel) (by decide +kernel) rfl trivial) (y4v Z.z13 (q0a (q0b 0) (q0a (q0b 1) q0c))) (fun _ _ _ _ _=>(q1p 2 rfl (q0s (q0o (i:=0) (show (["_law_here", "_law_there"]:List Str).Nodup by decide +kernel)) (q0s (q0o (i:=1) (show (["_law_here", "_law_there"]:List Str).Nodup by decide +kernel)) q1k)))) (fun _ _ _ _ _=>(q0i I.c21 hr y0u (q0a (q0b 0) (q0a (q0b 1) q0c))))) q0c)))))))
theorem mF22:SimF P w K mg base k "parts_and_fns" nF22 sF22 (q2b) g:=
 fun hw hr hx hu hn=>(q0e (q0p 1 hn (q1x q0c))
 (q0e (q0p 2 hn (q1x (q0a (q0r (q0a (q0b 0) (q0a (q0r q0c) q0c))) q0c)))
 (q0e (q9g PassesOwn.leaving (q2w (q0b 2)) (q0e (q2t (z1r PySem.F.plainAttrs_list PySem.F.slot_list_pop PySem.F.type_list_pop z1z (q0b 2)) (q1p 2 rfl (q0s (q0o (i:=3) hn) (q0s (q0o (i:=4) hn) q1k))))
 (q0e (q1a (q0l (q1b hu) (q0j hu (q0b 3) q0f) q0k (q0u _)) (q0g (q2j (q3p PySem.F.plainAttrs_list PySem.F.slot_list_append PySem.F.type_list_append q1v (q0b 2) (q0a (q0r (q0a (q0j hu (q0b 3) q0f) (q0a (q0n q1i (q0b 4) (q0r (q0a (q0x q1f Z.z4 PySem.boot_len (q0a (q0b 1) q0c)) q0c))) q0c))) q0c)))) (q0g (q1a (q0l (q1b hu) (q0j hu (q0b 3) q0f) q0k (q0u _)) (q0g (q2j (q3p PySem.F.plainAttrs_list PySem.F.slot_list_extend PySem.F.type_list_extend z8m (q0b 2) (q0a (q1x (q0a (q0r (q0a (q0j hu (q0b 3) q0f) (q0a (q0b 4) q0c))) (q0a (q0r (q0a (q0j hu (q0b 3) q0f) (q0a (q0b 4) q0c))) q0c))) q0c)))) q0q)))
 (q0g (q2j (q3p PySem.F.plainAttrs_list PySem.F.slot_list_append PySem.F.type_list_append q1v (q0b 1) (q0a (q0r (q0a (q0b 3) (q0a (q0b 4) q0c))) q0c)))))))
 (q0g (q0m (q0b 1))))))
theorem mF23:SimF P w K mg base k "kind_of_of" nF23 sF23 (q2u) g:=
 fun hw hr hx hu hn=>(q0e (q1a (SimW.t (q4e (q5f (q2w (q0x q3m Z.z3 L2.q2l (q0a (q0b 0) (q0a (q7n Z.z12 L2.q3e) q0c))))) (q4q (q0l (z2x hu) (q0j hu (q0b 0) q0f) (q0b 1) (q0u _))))) (q0g (q7p Z.h1 hx rfl (q0a q0k q0c))) q0q)
 (q0g (q0m (q0j hu (q0b 0) q0f))))
theorem mF24:SimF P w K mg base k "kind_of_name" nF24 sF24 (q2i) g:=
 fun hw hr hx hu hn=>(q0e (q1a (q0l (z8k hu) (q0b 1) (q0b 0) (by with_unfolding_all rfl)) (q0g (q7p Z.h1 hx rfl (q0a q0k q0c))) q0q)
 (q0g (q0m (q0j hu (q0b 0) (q0b 1)))))
theorem mF25:SimF P w K mg base k "kind_of_form" nF25 sF25 (q1w t.dkind_of_form) g:=
 fun hw hr hx hu hn=>(q0e (q1a (q0l (q1b hu) (q0j hu (q0b 0) q0f) q0k (q0u _)) (q0g (q0m (q0j hu (q0b 0) q0f))) q0q)
 (q0g (q0m (q0r (q0a (q0i I.c25 hr hx (q0a (q0j hu (q0b 0) q0f) q0c)) (q0a (q0i I.c25 hr hx (q0a (q0j hu (q0b 0) q0f) q0c)) q0c))))))
theorem mF26:SimF P w K mg base k "owner_of" nF26 sF26 (q3g) g:=
 fun hw hr hx hu hn=>(q0e (q1a (q0l x5r (q0b 1) (q0x q1f Z.z4 PySem.boot_len (q0a (q0b 0) q0c)) (q0u _)) (q0g (q0m q4d)) q0q)
 (q0g (q0m (q0j hu (q0b 0) (q0n q2y (q0n q2y (q0x q1f Z.z4 PySem.boot_len (q0a (q0b 0) q0c)) q0f) (q0b 1))))))
theorem mF27:SimF P w K mg base k "kind_of_bound" nF27 sF27 (q2c t.downer_of) g:=
 fun hw hr hx hu hn=>(q0e (q0p 3 hn (q0i I.c26 hr hx (q0a (q0b 1) (q0a (q0b 2) q0c))))
 (q0e (q1a (q0l z2z (q0b 3) q4d (q0u _)) (q0g (q7p Z.h1 hx rfl (q0a q0k q0c))) q0q)
 (q0e (q0p 4 hn (q0j hu (q0j hu (q0b 0) (q0b 3)) q0f))
 (q0g (q0m (q0j hu (q0b 4) q0f))))))
theorem mF28:SimF P w K mg base k "kind_of" nF28 sF28 (q3x t.dparts_and_fns t.dkind_of_of t.dkind_of_name t.dkind_of_form t.dkind_of_bound) g:=
 fun hw hr hx hu hn=>(q0e (z2t 2 ["name", "kind"] [none,none] hn rfl (q6s rfl (by decide +kernel) (by decide +kernel) rfl trivial) (q1z (q0b 0)) (fun _ _ _ _ _=>(q1p 2 rfl (q0s (q0o (i:=0) (show(["name", "kind"]:List Str).Nodup by decide +kernel)) (q0s (q0o (i:=1) (show(["name", "kind"]:List Str).Nodup by decide +kernel)) q1k)))) (fun _ _ _ _ _=>(q0b 0)) (fun _ _ _ _ _=>(q0b 1)))
 (q0e (q0p 3 hn (q0i I.c22 hr hx (q0a (q0b 1) q0c)))
 (q0e (q0p 4 hn (q1x q0c))
 (q0e (q2s PassesOwn.leaving rfl (z1s Z.z8 (q0b 3)) (q1p 2 rfl (q0s (q0o (i:=5) hn) (q0s (q0o (i:=6) hn) q1k))) (q0g (q1a (q0l (q1b hu) (q0j hu (q0b 5) q0f) q0k (q0u _)) (q0e (q0p 7 hn (z1r PySem.F.plainAttrs_list PySem.F.slot_list_pop PySem.F.type_list_pop z1z (q0b 4)))
 (q0e (q0p 8 hn (z1r PySem.F.plainAttrs_list PySem.F.slot_list_pop PySem.F.type_list_pop z1z (q0b 4)))
 (q0g (q2j (q3p PySem.F.plainAttrs_list PySem.F.slot_list_append PySem.F.type_list_append q1v (q0b 4) (q0a (q0i I.c23 hr hx (q0a (q0b 7) (q0a (q0b 8) q0c))) q0c)))))) (q0g (q1a (q0l (q1b hu) (q0j hu (q0b 5) q0f) q0k (q0u _)) (q0g (q2j (q3p PySem.F.plainAttrs_list PySem.F.slot_list_append PySem.F.type_list_append q1v (q0b 4) (q0a (q0r (q0a (q0j hu (q0b 5) q0f) (q0a (z1r PySem.F.plainAttrs_list PySem.F.slot_list_pop PySem.F.type_list_pop z1z (q0b 4)) q0c))) q0c)))) (q0g (q1a (q0l (q1b hu) (q0j hu (q0b 5) q0f) q0k (q0u _)) (q0g (q2j (q3p PySem.F.plainAttrs_list PySem.F.slot_list_append PySem.F.type_list_append q1v (q0b 4) (q0a (q0i I.c24 hr hx (q0a (q0b 2) (q0a (q0j hu (q0b 5) q0f) q0c))) q0c)))) (q0g (q1a (q0l (q1b hu) (q0j hu (q0b 5) q0f) q0k (q0u _)) (q0g (q2j (q3p PySem.F.plainAttrs_list PySem.F.slot_list_append PySem.F.type_list_append q1v (q0b 4) (q0a (q0i I.c25 hr hx (q0a (q0j hu (q0b 5) q0f) q0c)) q0c)))) (q0g (q2j (q3p PySem.F.plainAttrs_list PySem.F.slot_list_append PySem.F.type_list_append q1v (q0b 4) (q0a (q0i I.c27 hr hx (q0a (q0b 3) (q0a (q0b 6) (q0a (q0j hu (q0b 5) q0f) q0c)))) q0c)))))))))))))
 (q0g (q0m (q0j hu (q0b 4) q0f)))))))
theorem mF29:SimF P w K mg base k "_law_kind_of" nF29 sF29 (q1q t.dLkind_of_form t.dLkind_of) g:=
 fun hw hr hx hu hn=>(q0e (q1a (q0l (q1b hu) (q0j hu (q0b 1) q0f) q0k (q0u _)) (q0g (q0m (q3p PySem.F.plainAttrs_dict PySem.F.slot_dict_get PySem.F.type_dict_get (x1m hu) (q0b 0) (q0a (q0j hu (q0b 1) q0f) q0c)))) q0q)
 (q0e (q1a (q0l (q1b hu) (q0j hu (q0b 1) q0f) q0k (q0u _)) (q0g (q0m (q0i I.c15 hr hx (q0a (q0j hu (q0b 1) q0f) q0c)))) q0q)
 (q0e (q1a (q0l (q1b hu) (q0j hu (q0b 1) q0f) q0k (q0u _)) (q0g (q0m (q0j hu (q0b 2) (q0n q2y (z1q q0f) (q0j hu (q0b 1) q0f))))) q0q)
 (q0e (q1a (q0l (q1b hu) (q0j hu (q0b 1) q0f) q0k (q0u _)) (q0e (q0p 3 hn (q0i I.c29 hr hx (q0a (q0b 0) (q0a (q0j hu (q0b 1) q0f) (q0a (q0n q1i (q0b 2) (q1x (q0a (q0j hu (q0b 1) q0f) q0c))) q0c)))))
 (q0e (q1a (q0l z2z (q0b 3) q4d (q0u _)) (q0g (q0m q4d)) q0q)
 (q0g (q0m (q0r (q0a (q0j hu (q0b 1) q0f) (q0a (q0b 3) q0c))))))) q0q)
 (q0e (q0p 4 hn (q0i I.c29 hr hx (q0a (q0b 0) (q0a (q0j hu (q0b 1) q0f) (q0a (q0b 2) q0c)))))
 (q0e (q0p 5 hn (q0i I.c29 hr hx (q0a (q0b 0) (q0a (q0j hu (q0b 1) q0f) (q0a (q0b 2) q0c)))))
 (q0e (q1a (SimW.t (q4e (q0l z2z (q0b 4) q4d (q0u _)) (q4e (q0l z2z (q0b 5) q4d (q0u _)) (q4e (q2w (q0x q3m Z.z3 L2.q2l (q0a (q0b 4) (q0a (q7n Z.z10 L2.z2i) q0c)))) (q4q (q0l (z2x hu) (q0j hu (q0b 4) q0f) (q0b 5) (q0u _))))))) (q0g (q0m q4d)) q0q)
 (q0g (q0m (q0j hu (q0b 4) q0f))))))))))
theorem mF30:SimF P w K mg base k "owners_in" nF30 sF30 (q2z t.downer_of t.dparts_and_fns) g:=
 fun hw hr hx hu hn=>(q0g (q0m (z0v ["part", "fns"] [none,none] rfl (q6s rfl (by decide +kernel) (by decide +kernel) rfl trivial) (q1z (q0i I.c22 hr hx (q0a (q0b 0) q0c))) (fun _ _ _ _ _=>(q1p 2 rfl (q0s (q0o (i:=0) (show(["part", "fns"]:List Str).Nodup by decide +kernel)) (q0s (q0o (i:=1) (show(["part", "fns"]:List Str).Nodup by decide +kernel)) q1k)))) (fun _ _ _ _ _=>(q0l (q1b hu) (q0j hu (q0b 0) q0f) q0k (q0u _))) (fun _ _ _ _ _=>(q0i I.c26 hr y0u (q0a (q0b 1) (q0a (q0j hu (q0b 0) q0f) q0c)))))))
theorem mF31:SimF P w K mg base k "is_closed" nF31 sF31 (q3a t.downers_in) g:=
 fun hw hr hx hu hn=>(q0g (q0m (q6m (z2w hu) q4d (q0i I.c30 hr hx (q0a (q0b 0) q0c)) (by with_unfolding_all rfl))))
theorem mF32:SimF P w K mg base k "is_sparing" nF32 sF32 (q2v t.downers_in) g:=
 fun hw hr hx hu hn=>(q0e (q7o 1 ["owner"] [none] hn rfl (q6s rfl (by decide +kernel) (by decide +kernel) rfl trivial) (q1z (q0i I.c30 hr hx (q0a (q0b 0) q0c))) (fun _ _ _ _ _=>(q0o (i:=0) (show(["owner"]:List Str).Nodup by decide +kernel))) (fun _ _ _ _ _=>(q0l q9k (q0b 0) q4d (q0u _))) (fun _ _ _ _ _=>(q0b 0)))
 (q0g (q0m (q6m (q1b hu) (z8h rfl Z.z4 PySem.boot_len Z.z9 Ev.y7f (q0b 1)) (q0x q1f Z.z4 PySem.boot_len (q0a (q0b 1) q0c)) (q0u _)))))
theorem mF33:SimF P w K mg base k "_law_uses" nF33 sF33 (q2g t.dLuses) g:=
 fun hw hr hx hu hn=>(q0e (q1a (SimW.t (q4r (q0l (q1b hu) (q0j hu (q0b 0) q0f) q0k (q0u _)) (q3k (q0l z2y (q0j hu (q0b 0) q0f) (q0x q1f Z.z4 PySem.boot_len (q0a (q0b 1) q0c)) (q0u _))))) (q0g (q2t (q0n q1i (q0j hu (q0b 2) (q0j hu (q0b 1) (q0n q2y (z1q q0f) (q0j hu (q0b 0) q0f)))) q0f) (q3l (sets hu) (q0b 2) (q0j hu (q0b 1) (q0n q2y (z1q q0f) (q0j hu (q0b 0) q0f)))))) (q0g (q1a (q0l (q1b hu) (q0j hu (q0b 0) q0f) q0k (q0u _)) (q0g (q0m q7c)) q0q)))
 (q0e (q1a (q0l (q1b hu) (q0j hu (q0b 0) q0f) q0k (q0u _)) (q0e (q2j (q3p PySem.F.plainAttrs_list PySem.F.slot_list_append PySem.F.type_list_append q1v (q0b 2) (q0a q0f q0c)))
 (q0g (q0m (q0i I.c33 hr hx (q0a (q0j hu (q0b 0) q0f) (q0a (q0n q1i (q0b 1) (q1x (q0a (q0n q2y (q0x q1f Z.z4 PySem.boot_len (q0a (q0b 2) q0c)) q0f) q0c))) (q0a (q0b 2) q0c))))))) q0q)
 (q0e (q1a (q0l (q1b hu) (q0j hu (q0b 0) q0f) q0k (q0u _)) (q0e (q0p 3 hn (q0i I.c33 hr hx (q0a (q0j hu (q0b 0) q0f) (q0a (q0b 1) (q0a (q0b 2) q0c)))))
 (q0g (q0m (q8c (q0i I.c33 hr hx (q0a (q0j hu (q0b 0) q0f) (q0a (q0b 1) (q0a (q0b 2) q0c)))) (q9h (q0b 3)))))) q0q)
 (q0g (q0m q7c)))))
theorem mF34:SimF P w K mg base k "_law_sparing" nF34 sF34 (q3h t.dLuses) g:=
 fun hw hr hx hu hn=>(q0e (q0p 1 hn (q1x q0c))
 (q0g (q0m (q8c (q0i I.c33 hr hx (q0a (q0b 0) (q0a (q1x q0c) (q0a (q0b 1) q0c)))) (q9h (q6m z2y (q0x (z9d rfl) Z.z6 L2.y7h (q0a (q0n q1i (q0b 1) (q1x (q0a q0f q0c))) q0c)) q0f (q0u _)))))))
theorem mF35:SimF P w K mg base k "size_of" nF35 sF35 (q3u t.dparts_and_fns) g:=
 fun hw hr hx hu hn=>(q0g (q0m (q0x q1f Z.z4 PySem.boot_len (q0a (q0i I.c22 hr hx (q0a (q0b 0) q0c)) q0c))))
theorem mF36:SimF P w K mg base k "_law_holds" nF36 sF36 (q4o t.dLkind_of_form t.dLsame t.dkind_of t.dLkind_of t.dis_closed t.dis_sparing t.dLsparing t.dsize_of t.dLsize) g:=
 fun hw hr hx hu hn=>(q0e (q0p 4 hn q8y)
 (q0e (q2s PassesOwn.leaving rfl (q1z (q0b 0)) (q1p 2 rfl (q0s (q0o (i:=5) hn) (q0s (q0o (i:=6) hn) q1k))) (q0g (q2t (q0b 6) (q3l (sets hu) (q0b 4) (q0b 5)))))
 (q0e (q0p 7 hn (q0i I.c15 hr hx (q0a (q0b 2) q0c)))
 (q0e (q1a (SimW.t (q4e (q5f (q2w (q0i I.c21 hr hx (q0a (q0b 7) (q0a (q0i I.c28 hr hx (q0a (q0b 0) (q0a (q0b 1) q0c))) q0c))))) (q4q (q0l (z2x hu) (q0i I.c29 hr hx (q0a (q0b 4) (q0a (q0b 1) (q0a (q1x q0c) q0c)))) (q0b 7) (q0u _))))) (q0g (q0m q7c)) q0q)
 (q0e (q1a (SimW.t (q4e (q0l q9k (q0i I.c31 hr hx (q0a (q0b 1) q0c)) q7c (q0u _)) (q4e (q0l q9k (q0i I.c32 hr hx (q0a (q0b 1) q0c)) q7c (q0u _)) (q4q (q5f (q2w (q0i I.c34 hr hx (q0a (q0b 1) q0c)))))))) (q0g (q0m q7c)) q0q)
 (q0g (q0m (q8c (q6m (q1b hu) (q0i I.c35 hr hx (q0a (q0b 1) q0c)) (q0b 3) (q0u _)) (q9h (q6m (q1b hu) (q0i I.c18 hr hx (q0a (q0b 1) q0c)) (q0b 3) (q0u _)))))))))))
theorem mF37:SimF P w K mg base k "_law_sized" nF37 sF37 (q3i t.dLsized) g:=
 fun hw hr hx hu hn=>(q0e (q1a (q0l (q1b hu) (q0j hu (q0b 0) q0f) q0k (q0u _)) (q0g (q0m (q0j hu (q0b 1) (q0j hu (q0b 0) q0f)))) q0q)
 (q0e (q0p 2 hn (q0j hu (q1x (q0a q0f (q0a q0f q0c))) (q0n q2y (q0x q1f Z.z4 PySem.boot_len (q0a (q0j hu (q0b 0) q0f) q0c)) q0f)))
 (q0g (q0m (q0n q1i (q0n q1i (q0b 2) (q0i I.c37 hr hx (q0a (q0j hu (q0b 0) q0f) (q0a (q0b 1) q0c)))) (q0i I.c37 hr hx (q0a (q0j hu (q0b 0) q0f) (q0a (q0b 1) q0c))))))))
theorem mF38:SimF P w K mg base k "rows_of" nF38 sF38 (q3v) g:=
 fun hw hr hx hu hn=>(q0e (q7o 2 ["own", "form", "term", "word"] [none,none,none,some 1] hn rfl (q6s rfl (by decide +kernel) (by decide +kernel) rfl ⟨⟨rfl,rfl,by first|exact Or.inl rfl|exact Or.inr rfl⟩,trivial⟩) (q1z (q0j hu (q0b 0) q0f)) (fun _ _ _ _ _=>(q1p 3 rfl (q0s (q0o (i:=0) (show(["own", "form", "term", "word"]:List Str).Nodup by decide +kernel)) (q0s (q0o (i:=1) (show(["own", "form", "term", "word"]:List Str).Nodup by decide +kernel)) (q0s (q0o (i:=2) (show(["own", "form", "term", "word"]:List Str).Nodup by decide +kernel)) q1k))))) (fun _ _ _ _ _=>(q0l (q1b hu) (q0b 0) (q0b 3) (q0u _))) (fun _ _ _ _ _=>(q0r (q0a (q0b 1) (q0a (q0b 2) q0c)))))
 (q0e (q1a (q5f (q2w (q0b 2))) (q0g y0a) q0q)
 (q0g (q0m (q0b 2)))))
theorem mF39:SimF P w K mg base k "term_of" nF39 sF39 (q3t t.drows_of) g:=
 fun hw hr hx hu hn=>(q0e (q2s PassesOwn.leaving rfl (q1z (q0i I.c38 hr hx (q0a (q0b 0) (q0a (q0b 1) q0c)))) (q1p 2 rfl (q0s (q0o (i:=3) hn) (q0s (q0o (i:=4) hn) q1k))) (q0g (q1a (q0l (q1b hu) (q0b 3) (q0b 2) (q0u _)) (q0g (q0m (q0b 4))) q0q)))
 (q0g (q7p Z.h0 hx rfl (q0a q0k q0c))))
theorem mF40:SimF P w K mg base k "words_of" nF40 sF40 (q3f t.dwords_of) g:=
 fun hw hr hx hu hn=>(q0e (q1a (q0l (q1b hu) (q0j hu (q0b 0) q0f) q0k (q0u _)) (q0g (q0m (q1x (q0a (q0r (q0a (q0j hu (q0b 0) q0f) (q0a (q0j hu (q0b 0) q0f) q0c))) q0c)))) q0q)
 (q0g (q0m (q0n q1i (q0i I.c40 hr hx (q0a (q0j hu (q0b 0) q0f) q0c)) (q0i I.c40 hr hx (q0a (q0j hu (q0b 0) q0f) q0c))))))
theorem mF41:SimF P w K mg base k "made" nF41 sF41 (q5y) g:=
 fun hw hr hx hu hn=>(q0e (q1a (q0l (q1b hu) (q0j hu (q0b 0) q0f) q0k (q0u _)) (q0e (q1a (q0l (q1b hu) (q0j hu (q0b 0) q0f) (q0b 1) (q0u _)) (q0g (q0m (q0r (q0a q0k (q0a (q0j hu (q0b 0) q0f) q0c))))) q0q)
 (q0g (q1a (SimW.t (q4r (q0l (q1b hu) (q0j hu (q0b 1) q0f) q0k (q0u _)) (q3k (q0l (q1b hu) (q0j hu (q0b 0) q0f) (q0j hu (q0b 1) q0f) (q0u _))))) (q0g (q0m (q0r (q0a q0k (q0a (q0r (q0a q0k (q0a (q0j hu (q0b 0) q0f) (q0a (q0j hu (q0b 1) q0f) q0c)))) q0c))))) q0q))) q0q)
 (q0e (q1a (q0l (q1b hu) (q0j hu (q0b 1) q0f) q0k (q0u _)) (q0e (q1a (q0l (q1b hu) (q0j hu (q0b 1) q0f) (q0b 0) (q0u _)) (q0g (q0m (q0r (q0a q0k (q0a (q0j hu (q0b 1) q0f) q0c))))) q0q)
 (q0g (q1a (SimW.t (q4r (q0l (q1b hu) (q0j hu (q0b 0) q0f) q0k (q0u _)) (q3k (q0l (q1b hu) (q0j hu (q0b 1) q0f) (q0j hu (q0b 0) q0f) (q0u _))))) (q0g (q0m (q0r (q0a q0k (q0a (q0r (q0a q0k (q0a (q0j hu (q0b 1) q0f) (q0a (q0j hu (q0b 0) q0f) q0c)))) q0c))))) q0q))) q0q)
 (q0g (q0m q4d))))
theorem mF42:SimF P w K mg base k "joined" nF42 sF42 (q4i t.dkind_of_form) g:=
 fun hw hr hx hu hn=>(q0g (q0m (q0r (q0a q0k (q0a (q0i I.c25 hr hx (q0a (q0b 0) q0c)) (q0a (q0r (q0a q0k (q0a (q0b 1) (q0a (q0r (q0a q0k (q0a (q0b 2) (q0a (q0r (q0a q0k (q0a q0f q0c))) q0c)))) q0c)))) q0c))))))
theorem mF43:SimF P w K mg base k "meant" nF43 sF43 (q2r t.djoined) g:=
 fun hw hr hx hu hn=>(q0e (q1a (q0l (q1b hu) (q0b 0) q0k (q0u _)) (q0g (q0m (q0r (q0a q0k (q0a (q0b 3) (q0a (q0b 4) q0c)))))) q0q)
 (q0e (q1a (q0l (q1b hu) (q0b 0) q0k (q0u _)) (q0g (q0m (q0r (q0a q0k (q0a (q0b 4) (q0a (q0b 3) q0c)))))) q0q)
 (q0e (q1a (q0l (q1b hu) (q0b 0) q0k (q0u _)) (q0g (q0m (q0i I.c42 hr hx (q0a (q0j hu (q0b 2) q0f) (q0a (q0b 3) (q0a (q0b 4) q0c)))))) q0q)
 (q0g (q0m (q0i I.c42 hr hx (q0a (q0j hu (q0b 1) q0f) (q0a (q0b 4) (q0a (q0b 3) q0c)))))))))
theorem mF44:SimF P w K mg base k "form_and_term" nF44 sF44 (q2d t.dform_and_term t.dmade t.dmeant) g:=
 fun hw hr hx hu hn=>(q0e (q1a (q0l (q1b hu) (q0j hu (q0b 0) q0f) q0k (q0u _)) (q0g (q0m (q0r (q0a (q0j hu (q0b 0) q0f) (q0a (q0j hu (q0b 1) (q0j hu (q0b 0) q0f)) q0c))))) q0q)
 (q0e (q2t (q0i I.c44 hr hx (q0a (q0j hu (q0b 0) q0f) (q0a (q0b 1) q0c))) (q1p 2 rfl (q0s (q0o (i:=2) hn) (q0s (q0o (i:=3) hn) q1k))))
 (q0e (q2t (q0i I.c44 hr hx (q0a (q0j hu (q0b 0) q0f) (q0a (q0b 1) q0c))) (q1p 2 rfl (q0s (q0o (i:=4) hn) (q0s (q0o (i:=5) hn) q1k))))
 (q0e (q2t (q0i I.c41 hr hx (q0a (q0b 2) (q0a (q0b 4) q0c))) (q1p 2 rfl (q0s (q0o (i:=6) hn) (q0s (q0o (i:=7) hn) q1k))))
 (q0g (q0m (q0r (q0a (q0b 7) (q0a (q0i I.c43 hr hx (q0a (q0b 6) (q0a (q0b 2) (q0a (q0b 4) (q0a (q0b 3) (q0a (q0b 5) q0c)))))) q0c)))))))))
theorem mF45:SimF P w K mg base k "meaning_with" nF45 sF45 (q1n t.dform_and_term) g:=
 fun hw hr hx hu hn=>(q0g (q0m (q0j hu (q0i I.c44 hr hx (q0a (q0b 0) (q0a (q0b 1) q0c))) q0f)))
theorem mF46:SimF P w K mg base k "meaning" nF46 sF46 (q3w t.dterm_of t.dwords_of t.dmeaning_with) g:=
 fun hw hr hx hu hn=>(q0e (z2t 3 ["place", "form", "book", "words"] [none,none,some 0,some 1] hn rfl (q6s rfl (by decide +kernel) (by decide +kernel) rfl ⟨⟨rfl,rfl,by first|exact Or.inl rfl|exact Or.inr rfl⟩,⟨⟨rfl,rfl,by first|exact Or.inl rfl|exact Or.inr rfl⟩,trivial⟩⟩) (q1z (q0i I.c40 hr hx (q0a (q0b 2) q0c))) (fun _ _ _ _ _=>(q1p 2 rfl (q0s (q0o (i:=0) (show(["place", "form", "book", "words"]:List Str).Nodup by decide +kernel)) (q0s (q0o (i:=1) (show(["place", "form", "book", "words"]:List Str).Nodup by decide +kernel)) q1k)))) (fun _ _ _ _ _=>(q0b 0)) (fun _ _ _ _ _=>(q0i I.c39 hr y0u (q0a (q0b 2) (q0a (q0j hu (q0b 3) (q0b 0)) (q0a (q0b 1) q0c))))))
 (q0g (q0m (q0i I.c45 hr hx (q0a (q0b 2) (q0a (q0b 3) q0c))))))
theorem mF47:SimF P w K mg base k "unknown" nF47 sF47 (q3s t.dmeaning_with t.dwords_of) g:=
 fun hw hr hx hu hn=>(q0g (q0m (q0i I.c45 hr hx (q0a (q0b 0) (q0a (y0c ["place", "form"] [none,none] rfl (q6s rfl (by decide +kernel) (by decide +kernel) rfl trivial) (q1z (q0i I.c40 hr hx (q0a (q0b 0) q0c))) (fun _ _ _ _ _=>(q1p 2 rfl (q0s (q0o (i:=0) (show(["place", "form"]:List Str).Nodup by decide +kernel)) (q0s (q0o (i:=1) (show(["place", "form"]:List Str).Nodup by decide +kernel)) q1k)))) (fun _ _ _ _ _=>(q0b 0)) (fun _ _ _ _ _=>(q0r (q0a q0k (q0a (q0b 0) (q0a (q0b 1) q0c)))))) q0c)))))
theorem mF48:SimF P w K mg base k "law" nF48 sF48 (q6v t.dLdeck t.dLwords t.dLnext t.dLtree t.dLdrawn_form t.dLsentence t.dLbook t.dLwords_of t.dLmeans t.dLsize t.dLwithin t.dLmeant t.dLholds t.dLsized t.dmeaning t.dunknown) g:=
 fun hw hr hx hu hn=>(q0e (q0p 1 hn (q0i I.c0 hr hx (q0a (q0b 0) q0c)))
 (q0e (q0p 2 hn (q0i I.c4 hr hx (q0a (q0b 1) (q0a (q0n q1i q0f (q0n q1l (q0i I.c1 hr hx (q0a (q0b 1) q0c)) q0f)) q0c))))
 (q0e (q0p 3 hn (q0i I.c7 hr hx (q0a (q0b 1) (q0a (q0b 2) (q0a (q0i I.c8 hr hx (q0a (q0b 1) (q0a (q0b 2) q0c))) (q0a q0f (q0a (q0n q1i q0f (q0n q1l (q0i I.c1 hr hx (q0a (q0b 1) q0c)) q0f)) q0c)))))))
 (q0e (q0p 4 hn (q0i I.c11 hr hx (q0a (q0b 1) (q0a (q0b 3) q0c))))
 (q0e (q0p 5 hn (q0i I.c16 hr hx (q0a (q0b 1) (q0a (q0b 2) (q0a (q8z ["_law_place", "_law_form", "_law_words_here"] [none,none,some 4] rfl (q6s rfl (by decide +kernel) (by decide +kernel) rfl ⟨⟨rfl,rfl,by first|exact Or.inl rfl|exact Or.inr rfl⟩,trivial⟩) (q1z (q0i I.c10 hr hx (q0a (q0b 3) q0c))) (fun _ _ _ _ _=>(q1p 2 rfl (q0s (q0o (i:=0) (show (["_law_place", "_law_form", "_law_words_here"]:List Str).Nodup by decide +kernel)) (q0s (q0o (i:=1) (show (["_law_place", "_law_form", "_law_words_here"]:List Str).Nodup by decide +kernel)) q1k)))) (fun _ _ _ _ _=>(q0r (q0a (q0j hu (q0b 2) (q0b 0)) (q0a (q0b 1) q0c))))) q0c)))))
 (q0e (q0p 6 hn (q0i I.c17 hr hx (q0a (q0b 5) (q0a (q0b 4) (q0a (q0b 3) q0c)))))
 (q0e (q0p 7 hn q8y)
 (q0e (q0p 8 hn q8y)
 (q0e (q2s PassesOwn.leaving rfl (y4w (q0b 6)) (q1p 2 rfl (q0s (q0o (i:=9) hn) (q0s (q0o (i:=10) hn) q1k))) (q0e (q2t (q0i I.c18 hr hx (q0a (y0b hu (q0b 6) (q0r (q0a (q0b 9) (q0a (q0b 10) q0c)))) q0c)) (q3l (sets hu) (q0b 7) (q0b 9)))
 (q0g (q2t q0f (q3l (sets hu) (q0b 8) (q0b 9))))))
 (q0e (q2s PassesOwn.leaving rfl (q1z (q0i I.c9 hr hx (q0a (q0b 3) q0c))) (q0o (i:=11) hn) (q0e (q0p 10 hn (q0j hu (q0i I.c20 hr hx (q0a (q0b 11) (q0a (q0b 6) q0c))) q0f))
 (q0e (q1a (q5f (q2w (q0i I.c36 hr hx (q0a (q0j hu (q0b 5) q0f) (q0a (q0i I.c46 hr hx (q0a (q0b 5) (q0a (q0b 4) (q0a (q0b 11) q0c)))) (q0a (q0b 10) (q0a (q0i I.c37 hr hx (q0a (q0b 11) (q0a (q0b 7) q0c))) q0c))))))) (q0g (q0m q7c)) q0q)
 (q0g (q1a (q5f (q2w (q0i I.c36 hr hx (q0a (q0r q0c) (q0a (q0i I.c47 hr hx (q0a (q0b 11) q0c)) (q0a (q0b 10) (q0a (q0i I.c37 hr hx (q0a (q0b 11) (q0a (q0b 8) q0c))) q0c))))))) (q0g (q0m q7c)) q0q)))))
 (q0g (q0m q7c))))))))))))
end
theorem good{P:Program}{w:World}{K:Frag}{mg:Str->Option Value}{base:Heap}{f:Nat->Addr}{fd:Nat->FuncData}(Z:Sta K mg)(l:Locs K mg f fd):∀k,Fns P w K mg base k (tab k) f fd
 |0=>⟨l.l0.cal q1s,l.l1.cal q1s,l.l2.cal q1s,l.l3.cal q1s,l.l4.cal q1s,l.l5.cal q1s,l.l6.cal q1s,l.l7.cal q1s,l.l8.cal q1s,l.l9.cal q1s,l.l10.cal q1s,l.l11.cal q1s,l.l12.cal q1s,l.l13.cal q1s,l.l14.cal q1s,l.l15.cal q1s,l.l16.cal q1s,l.l17.cal q1s,l.l18.cal q1s,l.l19.cal q1s,l.l20.cal q1s,l.l21.cal q1s,l.l22.cal q1s,l.l23.cal q1s,l.l24.cal q1s,l.l25.cal q1s,l.l26.cal q1s,l.l27.cal q1s,l.l28.cal q1s,l.l29.cal q1s,l.l30.cal q1s,l.l31.cal q1s,l.l32.cal q1s,l.l33.cal q1s,l.l34.cal q1s,l.l35.cal q1s,l.l36.cal q1s,l.l37.cal q1s,l.l38.cal q1s,l.l39.cal q1s,l.l40.cal q1s,l.l41.cal q1s,l.l42.cal q1s,l.l43.cal q1s,l.l44.cal q1s,l.l45.cal q1s,l.l46.cal q1s,l.l47.cal q1s,l.l48.cal q1s⟩
 |k+1=>by
  have I:=good (P:=P) (w:=w) (base:=base) Z l k
  exact⟨l.l0.sim (mF0 Z I),l.l1.sim (mF1 Z I),l.l2.sim (mF2 Z I),l.l3.sim (mF3 Z I),l.l4.sim (mF4 Z I),l.l5.sim (mF5 Z I),l.l6.sim (mF6 Z I),l.l7.sim (mF7 Z I),l.l8.sim (mF8 Z I),l.l9.sim (mF9 Z I),l.l10.sim (mF10 Z I),l.l11.sim (mF11 Z I),l.l12.sim (mF12 Z I),l.l13.sim (mF13 Z I),l.l14.sim (mF14 Z I),l.l15.sim (mF15 Z I),l.l16.sim (mF16 Z I),l.l17.sim (mF17 Z I),l.l18.sim (mF18 Z I),l.l19.sim (mF19 Z I),l.l20.sim (mF20 Z I),l.l21.sim (mF21 Z I),l.l22.sim (mF22 Z I),l.l23.sim (mF23 Z I),l.l24.sim (mF24 Z I),l.l25.sim (mF25 Z I),l.l26.sim (mF26 Z I),l.l27.sim (mF27 Z I),l.l28.sim (mF28 Z I),l.l29.sim (mF29 Z I),l.l30.sim (mF30 Z I),l.l31.sim (mF31 Z I),l.l32.sim (mF32 Z I),l.l33.sim (mF33 Z I),l.l34.sim (mF34 Z I),l.l35.sim (mF35 Z I),l.l36.sim (mF36 Z I),l.l37.sim (mF37 Z I),l.l38.sim (mF38 Z I),l.l39.sim (mF39 Z I),l.l40.sim (mF40 Z I),l.l41.sim (mF41 Z I),l.l42.sim (mF42 Z I),l.l43.sim (mF43 Z I),l.l44.sim (mF44 Z I),l.l45.sim (mF45 Z I),l.l46.sim (mF46 Z I),l.l47.sim (mF47 Z I),l.l48.sim (mF48 Z I)⟩
theorem q6p{P:List Value->Prop}{ps:List Str}(hp:ps.length=1)(h:∀a0,P [a0])(us:List Value)(hl:us.length=ps.length):P us:=by
 rw[hp]at hl
 cases us with|nil=>exact absurd hl (by simp)|cons a r=>cases r with|nil=>exact h _|cons b r=>exact absurd hl (by simp)
theorem q7a{P:List Value->Prop}{ps:List Str}(hp:ps.length=2)(h:∀a0 a1,P [a0,a1])(us:List Value)(hl:us.length=ps.length):P us:=by
 rw[hp]at hl
 cases us with|nil=>exact absurd hl (by simp)|cons a r=>cases r with|nil=>exact absurd hl (by simp)|cons b r=>cases r with|nil=>exact h _ _|cons b r=>exact absurd hl (by simp)
theorem q9u{P:List Value->Prop}{ps:List Str}(hp:ps.length=3)(h:∀a0 a1 a2,P [a0,a1,a2])(us:List Value)(hl:us.length=ps.length):P us:=by
 rw[hp]at hl
 cases us with|nil=>exact absurd hl (by simp)|cons a r=>cases r with|nil=>exact absurd hl (by simp)|cons b r=>cases r with|nil=>exact absurd hl (by simp)|cons b r=>cases r with|nil=>exact h _ _ _|cons b r=>exact absurd hl (by simp)
theorem x6p{P:List Value->Prop}{ps:List Str}(hp:ps.length=4)(h:∀a0 a1 a2 a3,P [a0,a1,a2,a3])(us:List Value)(hl:us.length=ps.length):P us:=by
 rw[hp]at hl
 cases us with|nil=>exact absurd hl (by simp)|cons a r=>cases r with|nil=>exact absurd hl (by simp)|cons b r=>cases r with|nil=>exact absurd hl (by simp)|cons b r=>cases r with|nil=>exact absurd hl (by simp)|cons b r=>cases r with|nil=>exact h _ _ _ _|cons b r=>exact absurd hl (by simp)
theorem x1t{P:List Value->Prop}{ps:List Str}(hp:ps.length=5)(h:∀a0 a1 a2 a3 a4,P [a0,a1,a2,a3,a4])(us:List Value)(hl:us.length=ps.length):P us:=by
 rw[hp]at hl
 cases us with|nil=>exact absurd hl (by simp)|cons a r=>cases r with|nil=>exact absurd hl (by simp)|cons b r=>cases r with|nil=>exact absurd hl (by simp)|cons b r=>cases r with|nil=>exact absurd hl (by simp)|cons b r=>cases r with|nil=>exact absurd hl (by simp)|cons b r=>cases r with|nil=>exact h _ _ _ _ _|cons b r=>exact absurd hl (by simp)
theorem all_mk{l:PySem.W.OpenLaw}{w:World}{K:Frag}{h:Heap}{mg:Str->Option Value}{fa f0 f1 f2 f3 f4 f5 f6 f7 f8 f9 f10 f11 f12 f13 f14 f15 f16 f17 f18 f19 f20 f21 f22 f23 f24 f25 f26 f27 f28 f29 f30 f31 f32 f33 f34 f35 f36 f37 f38 f39 f40 f41 f42 f43 f44 f45 f46 f47 f48:Addr}(X:K.In h)(G:h.Ns mainGlobals mg)(hfa:mg "law" = some (.ref fa))
    (h0:FnIn K "_law_deck" sF0 f0)
    (h1:FnIn K "_law_next" sF1 f1)
    (h2:FnIn K "_law_spelled" sF2 f2)
    (h3:FnIn K "_law_word" sF3 f3)
    (h4:FnIn K "_law_words" sF4 f4)
    (h5:FnIn K "_law_wide" sF5 f5)
    (h6:FnIn K "_law_other" sF6 f6)
    (h7:FnIn K "_law_tree" sF7 f7)
    (h8:FnIn K "_law_drawn_form" sF8 f8)
    (h9:FnIn K "_law_within" sF9 f9)
    (h10:FnIn K "_law_words_of" sF10 f10)
    (h11:FnIn K "_law_sentence" sF11 f11)
    (h12:FnIn K "_law_named" sF12 f12)
    (h13:FnIn K "_law_applied" sF13 f13)
    (h14:FnIn K "_law_term" sF14 f14)
    (h15:FnIn K "_law_kind_of_form" sF15 f15)
    (h16:FnIn K "_law_book" sF16 f16)
    (h17:FnIn K "_law_means" sF17 f17)
    (h18:FnIn K "_law_size" sF18 f18)
    (h19:FnIn K "_law_joined" sF19 f19)
    (h20:FnIn K "_law_meant" sF20 f20)
    (h21:FnIn K "_law_same" sF21 f21)
    (h22:FnIn K "parts_and_fns" sF22 f22)
    (h23:FnIn K "kind_of_of" sF23 f23)
    (h24:FnIn K "kind_of_name" sF24 f24)
    (h25:FnIn K "kind_of_form" sF25 f25)
    (h26:FnIn K "owner_of" sF26 f26)
    (h27:FnIn K "kind_of_bound" sF27 f27)
    (h28:FnIn K "kind_of" sF28 f28)
    (h29:FnIn K "_law_kind_of" sF29 f29)
    (h30:FnIn K "owners_in" sF30 f30)
    (h31:FnIn K "is_closed" sF31 f31)
    (h32:FnIn K "is_sparing" sF32 f32)
    (h33:FnIn K "_law_uses" sF33 f33)
    (h34:FnIn K "_law_sparing" sF34 f34)
    (h35:FnIn K "size_of" sF35 f35)
    (h36:FnIn K "_law_holds" sF36 f36)
    (h37:FnIn K "_law_sized" sF37 f37)
    (h38:FnIn K "rows_of" sF38 f38)
    (h39:FnIn K "term_of" sF39 f39)
    (h40:FnIn K "words_of" sF40 f40)
    (h41:FnIn K "made" sF41 f41)
    (h42:FnIn K "joined" sF42 f42)
    (h43:FnIn K "meant" sF43 f43)
    (h44:FnIn K "form_and_term" sF44 f44)
    (h45:FnIn K "meaning_with" sF45 f45)
    (h46:FnIn K "meaning" sF46 f46)
    (h47:FnIn K "unknown" sF47 f47)
    (h48:FnIn K "law" sF48 f48)
     {C_NoForm:Addr} {C_NoKind:Addr}
    (xa_NoForm:PySem.W.nsIn K mainGlobals "NoForm" = some (some (.ref C_NoForm)))
    (xa_NoKind:PySem.W.nsIn K mainGlobals "NoKind" = some (some (.ref C_NoKind)))
    (xe_NoForm:PySem.W.excIn K C_NoForm vErr "ValueError.__new__" = true)
    (xe_NoKind:PySem.W.excIn K C_NoKind vErr "ValueError.__new__" = true)
    (z_all:PySem.W.nsIn K mainGlobals "all" = some none)
    (z_bool:PySem.W.nsIn K mainGlobals "bool" = some none)
    (z_int:PySem.W.nsIn K mainGlobals "int" = some none)
    (z_isinstance:PySem.W.nsIn K mainGlobals "isinstance" = some none)
    (z_len:PySem.W.nsIn K mainGlobals "len" = some none)
    (z_list:PySem.W.nsIn K mainGlobals "list" = some none)
    (z_max:PySem.W.nsIn K mainGlobals "max" = some none)
    (z_range:PySem.W.nsIn K mainGlobals "range" = some none)
    (z_reversed:PySem.W.nsIn K mainGlobals "reversed" = some none)
    (z_set:PySem.W.nsIn K mainGlobals "set" = some none)
    (z_str:PySem.W.nsIn K mainGlobals "str" = some none)
    (z_sum:PySem.W.nsIn K mainGlobals "sum" = some none)
    (z_tuple:PySem.W.nsIn K mainGlobals "tuple" = some none)
    (z_zip:PySem.W.nsIn K mainGlobals "zip" = some none)
    : ∃fd:FuncData,(∀(s:Shared)(v:Value),BindsTo s fd ⟨[v],[]⟩ [("_law_script",v)])/\∀base:Heap,K.In base->base.Ns mainGlobals mg->FnOk l.prog w K mg base (CXE l.prog w) 200 fa fd ["_law_script"] (q1d K (tab 200).dlaw):=by
  cases hfa.symm.trans (h48.gl X G)
  have x_NoForm:ExcC K mg "NoForm" :=⟨⟨C_NoForm,xa_NoForm,PySem.W.mg_of X G xa_NoForm,xe_NoForm⟩⟩
  have x_NoKind:ExcC K mg "NoKind" :=⟨⟨C_NoKind,xa_NoKind,PySem.W.mg_of X G xa_NoKind,xe_NoKind⟩⟩
  obtain⟨d0,L0,b0⟩:=h0.loc (ps:=pF0) X G fun _ _ _ _ _ _=>q6p rfl fun _=>rfl
  obtain⟨d1,L1,b1⟩:=h1.loc (ps:=pF1) X G fun _ _ _ _ _ _=>q6p rfl fun _=>rfl
  obtain⟨d2,L2,b2⟩:=h2.loc (ps:=pF2) X G fun _ _ _ _ _ _=>q7a rfl fun _ _=>rfl
  obtain⟨d3,L3,b3⟩:=h3.loc (ps:=pF3) X G fun _ _ _ _ _ _=>q7a rfl fun _ _=>rfl
  obtain⟨d4,L4,b4⟩:=h4.loc (ps:=pF4) X G fun _ _ _ _ _ _=>q7a rfl fun _ _=>rfl
  obtain⟨d5,L5,b5⟩:=h5.loc (ps:=pF5) X G fun _ _ _ _ _ _=>q6p rfl fun _=>rfl
  obtain⟨d6,L6,b6⟩:=h6.loc (ps:=pF6) X G fun _ _ _ _ _ _=>q9u rfl fun _ _ _=>rfl
  obtain⟨d7,L7,b7⟩:=h7.loc (ps:=pF7) X G fun _ _ _ _ _ _=>x1t rfl fun _ _ _ _ _=>rfl
  obtain⟨d8,L8,b8⟩:=h8.loc (ps:=pF8) X G fun _ _ _ _ _ _=>q7a rfl fun _ _=>rfl
  obtain⟨d9,L9,b9⟩:=h9.loc (ps:=pF9) X G fun _ _ _ _ _ _=>q6p rfl fun _=>rfl
  obtain⟨d10,L10,b10⟩:=h10.loc (ps:=pF10) X G fun _ _ _ _ _ _=>q6p rfl fun _=>rfl
  obtain⟨d11,L11,b11⟩:=h11.loc (ps:=pF11) X G fun _ _ _ _ _ _=>q7a rfl fun _ _=>rfl
  obtain⟨d12,L12,b12⟩:=h12.loc (ps:=pF12) X G fun _ _ _ _ _ _=>q9u rfl fun _ _ _=>rfl
  obtain⟨d13,L13,b13⟩:=h13.loc (ps:=pF13) X G fun _ _ _ _ _ _=>x1t rfl fun _ _ _ _ _=>rfl
  obtain⟨d14,L14,b14⟩:=h14.loc (ps:=pF14) X G fun _ _ _ _ _ _=>x6p rfl fun _ _ _ _=>rfl
  obtain⟨d15,L15,b15⟩:=h15.loc (ps:=pF15) X G fun _ _ _ _ _ _=>q6p rfl fun _=>rfl
  obtain⟨d16,L16,b16⟩:=h16.loc (ps:=pF16) X G fun _ _ _ _ _ _=>q9u rfl fun _ _ _=>rfl
  obtain⟨d17,L17,b17⟩:=h17.loc (ps:=pF17) X G fun _ _ _ _ _ _=>q9u rfl fun _ _ _=>rfl
  obtain⟨d18,L18,b18⟩:=h18.loc (ps:=pF18) X G fun _ _ _ _ _ _=>q6p rfl fun _=>rfl
  obtain⟨d19,L19,b19⟩:=h19.loc (ps:=pF19) X G fun _ _ _ _ _ _=>q9u rfl fun _ _ _=>rfl
  obtain⟨d20,L20,b20⟩:=h20.loc (ps:=pF20) X G fun _ _ _ _ _ _=>q7a rfl fun _ _=>rfl
  obtain⟨d21,L21,b21⟩:=h21.loc (ps:=pF21) X G fun _ _ _ _ _ _=>q7a rfl fun _ _=>rfl
  obtain⟨d22,L22,b22⟩:=h22.loc (ps:=pF22) X G fun _ _ _ _ _ _=>q6p rfl fun _=>rfl
  obtain⟨d23,L23,b23⟩:=h23.loc (ps:=pF23) X G fun _ _ _ _ _ _=>q7a rfl fun _ _=>rfl
  obtain⟨d24,L24,b24⟩:=h24.loc (ps:=pF24) X G fun _ _ _ _ _ _=>q7a rfl fun _ _=>rfl
  obtain⟨d25,L25,b25⟩:=h25.loc (ps:=pF25) X G fun _ _ _ _ _ _=>q6p rfl fun _=>rfl
  obtain⟨d26,L26,b26⟩:=h26.loc (ps:=pF26) X G fun _ _ _ _ _ _=>q7a rfl fun _ _=>rfl
  obtain⟨d27,L27,b27⟩:=h27.loc (ps:=pF27) X G fun _ _ _ _ _ _=>q9u rfl fun _ _ _=>rfl
  obtain⟨d28,L28,b28⟩:=h28.loc (ps:=pF28) X G fun _ _ _ _ _ _=>q7a rfl fun _ _=>rfl
  obtain⟨d29,L29,b29⟩:=h29.loc (ps:=pF29) X G fun _ _ _ _ _ _=>q9u rfl fun _ _ _=>rfl
  obtain⟨d30,L30,b30⟩:=h30.loc (ps:=pF30) X G fun _ _ _ _ _ _=>q6p rfl fun _=>rfl
  obtain⟨d31,L31,b31⟩:=h31.loc (ps:=pF31) X G fun _ _ _ _ _ _=>q6p rfl fun _=>rfl
  obtain⟨d32,L32,b32⟩:=h32.loc (ps:=pF32) X G fun _ _ _ _ _ _=>q6p rfl fun _=>rfl
  obtain⟨d33,L33,b33⟩:=h33.loc (ps:=pF33) X G fun _ _ _ _ _ _=>q9u rfl fun _ _ _=>rfl
  obtain⟨d34,L34,b34⟩:=h34.loc (ps:=pF34) X G fun _ _ _ _ _ _=>q6p rfl fun _=>rfl
  obtain⟨d35,L35,b35⟩:=h35.loc (ps:=pF35) X G fun _ _ _ _ _ _=>q6p rfl fun _=>rfl
  obtain⟨d36,L36,b36⟩:=h36.loc (ps:=pF36) X G fun _ _ _ _ _ _=>x6p rfl fun _ _ _ _=>rfl
  obtain⟨d37,L37,b37⟩:=h37.loc (ps:=pF37) X G fun _ _ _ _ _ _=>q7a rfl fun _ _=>rfl
  obtain⟨d38,L38,b38⟩:=h38.loc (ps:=pF38) X G fun _ _ _ _ _ _=>q7a rfl fun _ _=>rfl
  obtain⟨d39,L39,b39⟩:=h39.loc (ps:=pF39) X G fun _ _ _ _ _ _=>q9u rfl fun _ _ _=>rfl
  obtain⟨d40,L40,b40⟩:=h40.loc (ps:=pF40) X G fun _ _ _ _ _ _=>q6p rfl fun _=>rfl
  obtain⟨d41,L41,b41⟩:=h41.loc (ps:=pF41) X G fun _ _ _ _ _ _=>q7a rfl fun _ _=>rfl
  obtain⟨d42,L42,b42⟩:=h42.loc (ps:=pF42) X G fun _ _ _ _ _ _=>q9u rfl fun _ _ _=>rfl
  obtain⟨d43,L43,b43⟩:=h43.loc (ps:=pF43) X G fun _ _ _ _ _ _=>x1t rfl fun _ _ _ _ _=>rfl
  obtain⟨d44,L44,b44⟩:=h44.loc (ps:=pF44) X G fun _ _ _ _ _ _=>q7a rfl fun _ _=>rfl
  obtain⟨d45,L45,b45⟩:=h45.loc (ps:=pF45) X G fun _ _ _ _ _ _=>q7a rfl fun _ _=>rfl
  obtain⟨d46,L46,b46⟩:=h46.loc (ps:=pF46) X G fun _ _ _ _ _ _=>q9u rfl fun _ _ _=>rfl
  obtain⟨d47,L47,b47⟩:=h47.loc (ps:=pF47) X G fun _ _ _ _ _ _=>q6p rfl fun _=>rfl
  obtain⟨d48,L48,b48⟩:=h48.loc (ps:=pF48) X G fun _ _ _ _ _ _=>q6p rfl fun _=>rfl
  exact⟨d48,fun s v=>.of_eq (b48 [v] rfl),fun base _ _=>(good (f:=fun i=>[f0,f1,f2,f3,f4,f5,f6,f7,f8,f9,f10,f11,f12,f13,f14,f15,f16,f17,f18,f19,f20,f21,f22,f23,f24,f25,f26,f27,f28,f29,f30,f31,f32,f33,f34,f35,f36,f37,f38,f39,f40,f41,f42,f43,f44,f45,f46,f47,fa].getD i fa) (fd:=fun i=>[d0,d1,d2,d3,d4,d5,d6,d7,d8,d9,d10,d11,d12,d13,d14,d15,d16,d17,d18,d19,d20,d21,d22,d23,d24,d25,d26,d27,d28,d29,d30,d31,d32,d33,d34,d35,d36,d37,d38,d39,d40,d41,d42,d43,d44,d45,d46,d47,d48].getD i d0) (⟨PySem.W.mg_none_of X G z_all,PySem.W.mg_none_of X G z_bool,PySem.W.mg_none_of X G z_int,PySem.W.mg_none_of X G z_isinstance,PySem.W.mg_none_of X G z_len,PySem.W.mg_none_of X G z_list,PySem.W.mg_none_of X G z_max,PySem.W.mg_none_of X G z_range,PySem.W.mg_none_of X G z_reversed,PySem.W.mg_none_of X G z_set,PySem.W.mg_none_of X G z_str,PySem.W.mg_none_of X G z_sum,PySem.W.mg_none_of X G z_tuple,PySem.W.mg_none_of X G z_zip,x_NoForm,x_NoKind⟩:Sta K mg) ⟨L0,L1,L2,L3,L4,L5,L6,L7,L8,L9,L10,L11,L12,L13,L14,L15,L16,L17,L18,L19,L20,L21,L22,L23,L24,L25,L26,L27,L28,L29,L30,L31,L32,L33,L34,L35,L36,L37,L38,L39,L40,L41,L42,L43,L44,L45,L46,L47,L48⟩ 200).c48.G⟩
theorem walk{l:PySem.W.OpenLaw}{q:Program}{loose:List Str}{XP:(Str->Option Value)->Heap->Prop}{YP:World->Heap->Prop}{d:DefRec}{K:Params->Frag}(hlaw:LawP (tab 200).dlaw)(hn:l.most=some 63)(hdf:d.params.defaults=[])
  (hY:∀(w:World)(h:Heap),YP w h->(K w.params).In h)
  (F:∀(w:World)(mg:Str->Option Value)(fa:Addr)(h:Heap),(K w.params).In h->h.Ns mainGlobals mg->mg d.name=some (.ref fa)->
   ∃fd:FuncData,(∀(s:Shared)(u:Value),BindsTo s fd ⟨[u],[]⟩ [("_law_script",u)])/\∀base:Heap,(K w.params).In base->base.Ns mainGlobals mg->FnOk l.prog w (K w.params) mg base (CXE l.prog w) 200 fa fd ["_law_script"] (q1d (K w.params) (tab 200).dlaw)) :
  PySem.W.WalkO q loose XP YP l.row.toRowW d [] (fun f vs=>PySem.call f vs):=
 L2.z9l (n:=63) (k:=200) (x:= "_law_script") (CX:=fun w=>CXE l.prog w) (sp:=fun w=>q1d (K w.params) (tab 200).dlaw) hn (by decide) hdf ⟨rfl,by decide,by decide⟩ hY F (fun _ H a ns hl hO hS=>x6q hlaw H a ns hl hO hS) fun _ _ _ _ _ hh1=>by obtain⟨_,_,_,_,_,_,_,_,_,_,_,z⟩:=hh1;exact(z)
end
def tmT(tr:List ((Str×Fm)×Tm))(k:Str×Fm):Tm:=((tr.find? fun t=>decide (t.1=k)).map (·.2)).getD (.nm (mk []))
theorem y8b:∀{tr:List ((Str×Fm)×Tm)},(tr.map (·.1)).Nodup->∀{t:(Str×Fm)×Tm},t∈tr->tmT tr t.1=t.2
 |x::r,nd,t,ht=>by
  rw[List.map_cons,List.nodup_cons]at nd
  unfold tmT
  rw[List.find?_cons]
  rcases List.mem_cons.mp ht with z|z
  ·subst z;simp
  ·have hne:x.1≠t.1:=fun e=>nd.1 (by rw[e];exact List.mem_map.mpr ⟨t,z,rfl⟩)
   rw[decide_eq_false hne]
   exact y8b nd.2 z
def atPl(M:Int×Fm->Tm)(ws:List (Int×Fm))(n:Int)(_:PV):Tm:=((ws.find? fun p=>decide (p.1=n)).map M).getD (.nm (mk []))
theorem z6a(M:Int×Fm->Tm):∀{ws:List (Int×Fm)},(ws.map (·.1)).Nodup->∀{p:Int×Fm},p∈ws->∀f,atPl M ws p.1 f=M p
 |x::r,nd,p,hp,f=>by
  rw[List.map_cons,List.nodup_cons]at nd
  unfold atPl
  rw[List.find?_cons]
  rcases List.mem_cons.mp hp with z|z
  ·subst z;simp
  ·have hne:x.1≠p.1:=fun e=>nd.1 (by rw[e];exact List.mem_map.mpr ⟨p,z,rfl⟩)
   rw[decide_eq_false hne]
   exact z6a M nd.2 z f
theorem q8n(n:Nat):z0p (tab (n+1)).dLnext:=x1k
theorem y1y(n:Nat):z2m (tab (n+1)).dLspelled:=z8e
theorem x7d(n:Nat):y3p (tab (n+2)).dLword:=y3u (q8n n) (y1y n)
theorem z5k(n:Nat):z2l (tab (n+3)).dLwords:=z9i (x7d n)
theorem x7l(n:Nat):x8k (tab (n+1)).dLdeck:=x2y
theorem y8m(n:Nat):y7s (tab n).dLwide n:=z4q (T:=fun n=>(tab n).dLwide) (fun _=>rfl) n
theorem x7j(n:Nat):z4m (tab (n+2)).dLother (n+1):=x1b (q8n n) (y8m (n+1))
theorem x2d(n:Nat):y3t (tab (n+3)).dLdrawn_form:=y2p (q8n (n+1)) (x7j n) (by omega)
theorem up{n k:Nat}(h:k<=n):∃m,n=m+k:=⟨n-k,by omega⟩
theorem z4m.le{sp:Den}{a b:Nat}(h:z4m sp a)(hb:b<=a):z4m sp b:=fun d c b' ws f S E Q h1 h2 h3 h4 h5 h6=>h d c b' ws f S E Q h1 h2 h3 h4 h5 (Nat.le_trans h6 hb)
theorem x1z(n:Nat)(h:20<=n):z0p (tab n).dLnext:=by obtain⟨m,rfl⟩:=up h;exact q8n (m+19)
theorem x7i(n:Nat)(h:20<=n):z4m (tab n).dLother 18:=by obtain⟨m,rfl⟩:=up h;exact(x7j (m+18)).le (by omega)
theorem x1y(n:Nat)(h:20<=n):y7s (tab n).dLwide 18:=fun f hf=>y8m n f (by omega)
theorem x7f:∀n m,m+20<=n->1<=m->y8x (tab n).dLtree m:=z1l (T:=fun n=>(tab n).dLtree) (N:=fun n=>(tab n).dLnext) (O:=fun n=>(tab n).dLother) (W:=fun n=>(tab n).dLwide) (fun _=>rfl) x1z x7i x1y
theorem k_wi(n:Nat)(h:n<=1000):WiD (tab (n+1)).dLwithin n:=y9g (T:=fun n=>(tab n).dLwithin) (fun _=>rfl) n h
theorem k_kf(n:Nat):z9f (tab n).dkind_of_form n:=z2b (T:=fun n=>(tab n).dkind_of_form) (fun _=>rfl) n
theorem k_lk(n:Nat):z9f (tab n).dLkind_of_form n:=z2b (T:=fun n=>(tab n).dLkind_of_form) (fun _=>rfl) n
theorem x7k(n:Nat)(h:20<=n):x3g (tab n).dmade:=by obtain⟨m,rfl⟩:=up h;exact x1n
theorem x2a(n:Nat)(h:20<=n):MeantD (tab n).dmeant 10:=by
 obtain⟨m,rfl⟩:=up h
 exact y6f (fun z f g S E Q hd h=>y2a (k_kf (m+18)) (by omega) h)
theorem k_ft(L:Int×Fm->PV):∀n m,m+21<=n->FtD L (tab n).dform_and_term m:=x2s (T:=fun n=>(tab n).dform_and_term) (M:=fun n=>(tab n).dmade) (N:=fun n=>(tab n).dmeant) (fun _=>rfl) x7k x2a
theorem k_wo(n:Nat)(h:n<=1000):WoD (tab (n+1)).dwords_of n:=y9d (T:=fun n=>(tab n).dwords_of) (fun _=>rfl) n h
theorem WoD.le{sp:Den}{a b:Nat}(h:WoD sp a)(hb:b<=a):WoD sp b:=fun r hr=>h r (by omega)
theorem WiD.le{sp:Den}{a b:Nat}(h:WiD sp a)(hb:b<=a):WiD sp b:=fun r hr=>h r (by omega)
theorem k_lw(n:Nat)(h:20<=n)(h2:n<=900):WoD (tab (n+1)).dLwords_of 10:=by
 obtain⟨m,rfl⟩:=up h
 exact x9w ((k_wi (m+19) (by omega)).le (by omega))
theorem x7h:x8h (tab 199).dLsentence:=y9z (k_lw 197 (by decide) (by decide)) (z5k 195) (q8n 197)
theorem x7g:x3f (tab 198).dLterm:=y4o (q8n 196) z3c (z6e (q8n 195) z3c)
theorem x7m:x8l (tab 199).dLbook:=y7l (z5k 195) x7g (fun f hf=>k_lk 198 f (by omega))
theorem x2b:y8z (tab 199).dLmeans:=y6g (k_lw 197 (by decide) (by decide))
theorem w0b:MngD (tab 199).dmeaning:=x6g (sf:=(tab 197).dform_and_term) (z8b x0g) ((k_wo 197 (by omega)).le (by omega)) (fun L=>k_ft L 197 10 (by omega)) rfl
theorem k_un:UnQ (tab 199).dunknown:=x3m (sf:=(tab 197).dform_and_term) ((k_wo 197 (by omega)).le (by omega)) (fun L=>k_ft L 197 10 (by omega)) rfl
theorem y1g:∀{ws:List (Int×Fm)},(ws.map (·.1)).Nodup->∀{p q:Int×Fm},p∈ws->q∈ws->p.1=q.1->p=q
 |x::r,nd,p,q,hp,hq,e=>by
  rw[List.map_cons,List.nodup_cons]at nd
  rcases List.mem_cons.mp hp with z|z<;>rcases List.mem_cons.mp hq with y|y
  ·rw[z,y]
  ·exact absurd (List.mem_map.mpr ⟨q,y,by rw[<-e,z]⟩) nd.1
  ·exact absurd (List.mem_map.mpr ⟨p,z,by rw[e,y]⟩) nd.1
  ·exact y1g nd.2 z y e
theorem k_jo(n:Nat)(h:20<=n):JoD (tab n).dLjoined:=by obtain⟨m,rfl⟩:=up h;exact w0d
theorem k_lm(L:Int×Fm->PV):∀n m,m+21<=n->LmD L (tab n).dLmeant m:=x1p (T:=fun n=>(tab n).dLmeant) (M:=fun n=>(tab n).dLjoined) (N:=fun n=>(tab n).dLkind_of_form) (fun _=>rfl) k_jo (fun n h f hf=>k_lk n f (by omega))
theorem w0c(t:Tm)(h:t.dp<199):∀(S:q0h)(E:EK)(Q:VC),Q (.int t.sz) S->(tab 199).dLsize [t.pv] S E Q:=z9z (T:=fun n=>(tab n).dLsize) (fun _=>rfl) t 199 h
theorem z5l(n:Nat):z4l (tab (n+1)).dparts_and_fns:=y5s
theorem y1z(n:Nat):y3r (tab (n+1)).downer_of:=fun fs k S E Q h=>y5t h
theorem z7h(n:Nat):z2o (tab (n+2)).downers_in:=y0x (y1z n) (z5l n)
theorem k_kp(n:Nat)(h:30<=n):KpD (tab (n+1)).dkind_of:=by
 obtain⟨m,rfl⟩:=up h
 exact x9z (z5l (m+29)) x6r x6s (fun f k hf hk S E Q hq=>x6w (T:=fun n=>(tab n).dkind_of_form) (fun _=>rfl) hf (m+30) (by omega) S E Q hq) (x6u (y1z (m+28)))
theorem x7e:x8g (tab 197).dLuses 140:=fun q t ht hz p S E Q h1 h2 h3 h4=>y9m (T:=fun n=>(tab n).dLuses) (fun _=>rfl) q t 197 (by omega) 0 [] [] [] (fun _=>0) p S E Q h1 h2 h3 (by simp) (by simp) rfl (by simp;omega) (by simp;omega) (fun _ _=>rfl) h4
theorem x2c:y9a (tab 199).dLholds:=y6q (fun f hf=>k_lk 198 f (by omega)) (fun x h1 h2=>y5a (T:=fun n=>(tab n).dLsame) (fun _=>rfl) 198 x h1 (by omega)) (k_kp 197 (by decide))
 (fun ps t k q a S E Q h1 h2 h3 h4 h5 h6=>x6t (T:=fun n=>(tab n).dLkind_of) (F:=fun n=>(tab n).dLkind_of_form) (fun _=>rfl) (fun n f k hf hk S E Q h=>x6v (T:=fun n=>(tab n).dLkind_of_form) (fun _=>rfl) hf n hk S E Q h) h1 h2 198 q a S E Q (by omega) (by omega) (by simp;omega) (by simp) h4 h5 h6)
 (fun hz h=>y3d (z7h 195) hz h) (fun hz hc h=>z8f (z7h 195) hz hc h) (x6l x7e) (fun hz h=>z9y (z5l 196) hz h) (fun t ht=>z9z (T:=fun n=>(tab n).dLsize) (fun _=>rfl) t 198 (by omega))
theorem bk1(x y:PV)(tr:List ((Str×Fm)×PV))(S:q0h)(Q:VC):bIx (bkP x y tr) (.int 1) S Q=Q y S:=rfl
theorem y4c{β:Type}{kvs:List (KTr×β)}{k:KTr}{v:β}(h:valN kvs k=some v):∃u∈kvs,u.1=k:=by
 unfold valN at h
 obtain⟨u,hu,_⟩:=Option.map_eq_some_iff.mp h
 exact⟨u,List.mem_of_find?_eq_some hu,by simpa using List.find?_some hu⟩
theorem law_ok:LawP (tab 200).dlaw:=by
 intro ns hns
 have hdeck:=x7l 198
 have hwords:=z5k 196
 have hnext:=q8n 198
 have hdrawn:=x2d 196
 have htree:=x7f 199
 have hwi:=k_wi 198 (by omega)
 have hlw:=k_lw 198 (by decide) (by decide)
 have hsent:=x7h
 have hbook:=x7m
 have hmeans:=x2b
 have hmng:=w0b
 have hun:=k_un
 have hsz:=w0c
 have hhold:=x2c
 have hlm:=fun L=>k_lm L 199 10 (by omega)
 have hsd:=fun(f:Int->Nat) (dm:Nat) (kvs:List (Key×PV)) (r:Rd) (h:r.lv<=10)=>x3w (T:=fun n=>(tab n).dLsized) (fun _=>rfl) f dm kvs r 199 (by omega)
 show fnP 1 12 (q6v (tab 199).dLdeck (tab 199).dLwords (tab 199).dLnext (tab 199).dLtree (tab 199).dLdrawn_form (tab 199).dLsentence (tab 199).dLbook (tab 199).dLwords_of (tab 199).dLmeans (tab 199).dLsize (tab 199).dLwithin (tab 199).dLmeant (tab 199).dLholds (tab 199).dLsized (tab 199).dmeaning (tab 199).dunknown) _ _ _ _
 generalize (tab 199).dLdeck=s1,(tab 199).dLwords=s2,(tab 199).dLnext=s3,(tab 199).dLdrawn_form=s4,(tab 199).dLtree=s5,(tab 199).dLwithin=s6,(tab 199).dLwords_of=s7,(tab 199).dLsize=s8,(tab 199).dmeaning=s9,(tab 199).dunknown=s10,(tab 199).dLsentence=s11,(tab 199).dLbook=s12,(tab 199).dLmeans=s13,(tab 199).dLmeant=s14,(tab 199).dLholds=s15,(tab 199).dLsized=s16 at *
 refine⟨rfl,?_⟩
 unfold q6v
 refine seqI fun K hK=>?_
 dsimp![true_and]
 refine hdeck ns _ _ _ hns fun d c S1 hd hx _ _=>hK _ _ ?_
 clear hK hx
 refine seqI fun K hK=>?_
 dsimp![true_and]
 refine hnext d c _ _ _ hd fun n1 S2 n10 n11 hd2 hx2=>?_
 dsimp![true_and]
 refine⟨by decide,?_⟩
 obtain⟨m,hm,hm1,hm2⟩:∃m:Nat,2+n1 % 2=(m:Int)/\2<=m/\m<=3:=⟨(2+n1 % 2).toNat,by omega,by omega,by omega⟩
 rw[hm]
 refine hwords d c m _ _ _ hd2 (by omega) fun b ws S3 hws hwl hna hnd0 hb hd3 hx3=>hK _ _ ?_
 clear hK
 have hne:ws≠[]:=fun z=>by rw[z]at hwl;simp at hwl;omega
 have nb:b≠d/\b≠c:=by
  have:=z9a hd2
  omega
 refine seqI fun K hK=>?_
 dsimp![true_and]
 refine hdrawn d c b ws _ _ _ hd3 hws hne nb.1 nb.2 fun f S4 hf hov hd4 hx4=>?_
 have hws4:=hx4.get hws (by simp;exact nb)
 refine hnext d c _ _ _ hd4 fun n2 S5 n20 n21 hd5 hx5=>?_
 have hws5:=hx5.get hws4 (by simp;exact nb)
 dsimp![true_and]
 refine⟨by decide,?_⟩
 obtain⟨k,hk,hk1,hk8⟩:∃k:Nat,1+n2 % 6=(k:Int)/\1<=k/\k<=6:=⟨(1+n2 % 6).toNat,by omega,by omega,by omega⟩
 rw[hk]
 refine htree k (by omega) hk1 d c b ws f 0 _ _ _ hd5 hws5 hne nb.1 nb.2 (by omega) (by omega) hov fun r S6 hrl hsm his _ hd6 hx6=>hK _ _ ?_
 clear hK hd hd2 hd3 hd4
 have hws6:=hx6.get hws5 (by simp;exact nb)
 clear hws hws4 hws5 hx2 hx3 hx4 hx5 hna hb hd5 hx6
 have hrl':=q7j r
 have hwi':=z0q r
 refine seqI fun K hK=>?_
 dsimp![true_and]
 refine hsent d c r _ _ _ hd6 (by omega) fun vs S7 hvl hd7 hx7=>hK _ _ ?_
 clear hK
 have hws7:=hx7.get hws6 (by simp;exact nb)
 obtain⟨_,win,wnd⟩:=z9h his
 have hvi:∀p∈r.ws,0<=p.1/\p.1<(vs.length:Int):=fun p hp=>by have:=win p hp;omega
 refine seqI fun K hK=>?_
 dsimp![true_and]
 refine hlw r (by omega) _ _ _ fun q S8 hq0 hq hx8=>?_
 have hd8:=hd7.ex hx8 (by simp) (by simp)
 have hws8:=hx8.get hws7 (by simp)
 dsimp![q0v hq]
 refine⟨by rw[List.length_map];exact big (by omega),?_⟩
 refine y8l (q0v hq) r.ws [] _ hvi ⟨_,_,rfl⟩ ?_
 rw[List.nil_append]
 have kl:(r.ws.map (ky vs)).length=k:=by rw[List.length_map];omega
 have hks:=q1h S8 (.lst ((r.ws.map (ky vs)).map pfP))
 have hd9:=hd8.ex (Ex.new [] S8 [SO.lst ((r.ws.map (ky vs)).map pfP)]) (by simp) (by simp)
 have hws9:=q2p hws8 [SO.lst ((r.ws.map (ky vs)).map pfP)]
 have hdl8:=z9a hd8
 have nq:S8.length≠d/\S8.length≠c:=by omega
 have hlv5:∀u∈r.ws.map (ky vs),u.2.lv<=5:=fun u hu=>by
  obtain⟨p,hp,rfl⟩:=List.mem_map.mp hu
  exact z4p hsm hp
 refine hbook d c b S8.length _ (r.ws.map (ky vs)) _ _ _ hd9 hws9 (by rw[List.length_map];omega) hks (by omega) hlv5 (by simp;exact nb) (by simp;omega) fun tr ps S12 x htr pnd pdp pln hd12 hx12=>hK _ _ ?_
 clear hK
 have fst:=z9p tr
 have hkm:∀p∈r.ws,ky vs p∈tr.map (·.1):=fun p hp=>htr.all _ (List.mem_map.mpr ⟨p,hp,rfl⟩)
 have hrw:r∈r.wi:=by cases r<;>simp[Rd.wi]
 have hgb:∀u∈r.wi,GB (trV tr) vs u:=fun u hu=>⟨by rw[fst];exact htr.nd,by have:=htr.len;simp only[trV,List.length_map]at this ⊢;omega,fun t ht=>by
  obtain ⟨t',ht',rfl⟩:=List.mem_map.mp ht
  exact (htr.ok t' ht').2,fun p hp=>by
  have hp':=y3w hu p hp
  obtain ⟨h0,h1⟩:=hvi p hp'
  exact ⟨h0,h1,by rw [fst];exact hkm p hp',z4p hsm hp'⟩⟩
 have hLt:∀p∈r.ws,LK (trV tr) vs p=(tmT tr (ky vs p)).pv/\Bt ps (tmT tr (ky vs p)) p.2.kk:=fun p hp=>by
  obtain⟨u,hu,e⟩:=List.mem_map.mp (hkm p hp)
  have e2:=y8b htr.nd hu
  have e3:=z7c (tr:=trV tr) (by rw[fst];exact htr.nd) (t:=(u.1,u.2.pv)) (List.mem_map.mpr ⟨u,hu,rfl⟩)
  unfold LK
  rw[<-e,e2,e3]
  refine⟨rfl,?_⟩
  have:=(htr.ok u hu).1
  rw[e]at this
  exact this
 generalize hLd:(fun p=>tmT tr (ky vs p))=Lt at *
 have hLp:∀p∈r.ws,LK (trV tr) vs p=(Lt p).pv/\Bt ps (Lt p) p.2.kk:=fun p hp=>by rw[<-hLd];exact hLt p hp
 clear hLt hLd
 refine seqI fun K hK=>?_
 dsimp![true_and]
 refine hmeans x _ (trV tr) vs r _ _ _ (hgb r hrw) (by omega) fun dm kvs S13 hdn hval hkk hx13=>hK _ _ ?_
 clear hK
 obtain⟨hkey,hkl⟩:(∀u∈kvs,∃p∈r.ws,u.1=wk p)/\kvs.length<=20*r.ws.length:=hkk
 refine seqI fun K hK=>?_
 dsimp![true_and]
 refine hK _ _ ?_
 clear hK
 refine seqI fun K hK=>?_
 dsimp![true_and]
 refine hK _ _ ?_
 clear hK
 have ds:=q2p (q1h S13 (.dK [])) [SO.dK []]
 have dn:=q1h (S13++[SO.dK []]) (.dK [])
 have dl:(S13++[SO.dK []]).length=S13.length+1:=by simp
 have dml:=q1j hdn
 have hdn1:=q2p (q2p hdn [SO.dK []]) [SO.dK []]
 rw[dl]at dn ⊢
 generalize S13++[SO.dK []]++[SO.dK []]=S14 at ds dn hdn1 ⊢
 generalize S13.length=q1 at ds dn dml ⊢
 refine seqI fun K hK=>?_
 dsimp![true_and]
 refine⟨dm,kvs,rfl,hdn1,?_⟩
 have hck:∀S:q0h,S[dm]?=some (.dN kvs)->∃ys,S[dm]?=some (.dN ys)/\ys.map (·.1)=kvs.map (·.1):=fun S h=>⟨kvs,h,rfl⟩
 refine forI (fun rest σ S2=>∃(us ws':List (KTr×PV))(k1 k2:List (Key×PV))(j9 j10:Option PV),rest=us.map (fun p=>ktP p.1)/\ws'++us=kvs/\σ=[some (PV.frl (List.map PV.int ns)),some (PV.ref d),some (PV.ref b),some r.pv,some (PV.tup (List.map PV.str vs)),some (bkP x (.tup (ps.map encN)) (trV tr)),some (.ref dm),some (.ref q1),some (.ref (q1+1)),j9,j10,none]/\S2[dm]?=some (.dN kvs)/\S2[q1]?=some (.dK k1)/\S2[q1+1]?=some (.dK k2)/\k1.length<=ws'.length/\k2.length<=ws'.length/\
  (∀u∈ws',∀p∈r.ws,u.1=wk p->valP k1 (.inl p.1)=some (.int ((atPl Lt r.ws p.1 .non).sz:Nat))/\valP k2 (.inl p.1)=some (.int (1:Nat)))) ?_ ?_ _ _ _ ⟨kvs,[],[],[],none,none,rfl,rfl,rfl,hdn1,ds,dn,Nat.le_refl _,Nat.le_refl _,by simp⟩
 case refine_2=>
  rintro z rest σ S2 ⟨us,ws',k1,k2,j9,j10,hr',hvs,rfl,m1,m2,m3,m4,m5,m6⟩ N hN
  obtain⟨u,us,rfl⟩:∃p r,us=p::r:=by
   cases us with
   |nil=>simp at hr'
   |cons a b=>exact⟨a,b,rfl⟩
  simp only[List.map_cons,List.cons.injEq]at hr'
  obtain⟨rfl,rfl⟩:=hr'
  have hvl':=congrArg List.length hvs
  simp only[List.length_append,List.length_cons]at hvl'
  obtain⟨p,hp,eu⟩:=hkey u (by rw[<-hvs];simp)
  refine⟨hck _ m1,?_⟩
  rw[eu,y3v]
  have p2:2<=sizeLine:=big (by decide)
  have hLz:=(hLp p hp).2
  have hLd':=y2q (Lt p)
  have hLn:=hLz.nd
  dsimp![true_and]
  refine seqI fun K2 hK2=>?_
  dsimp![true_and]
  refine⟨p2,dm,kvs,wk p,_,rfl,m1,(y3v p).symm,y9e (z4p hsm hp),hval p hp,?_⟩
  rw[(hLp p hp).1]
  refine hsz (Lt p) (by omega) _ _ _ ?_
  dsimp![m2]
  refine⟨bigl (by omega),hK2 _ _ ?_⟩
  clear hK2
  have t3:=q3n (SO.dK (putP k1 (.inl p.1) (.int ((Lt p).sz:Nat)))) m3 (j:=q1) (by omega)
  have t1:=q3n (SO.dK (putP k1 (.inl p.1) (.int ((Lt p).sz:Nat)))) m1 (j:=q1) (by omega)
  have t2:=q1u (SO.dK (putP k1 (.inl p.1) (.int ((Lt p).sz:Nat)))) m2
  dsimp![t3]
  refine⟨bigl (by omega),hN _ _ ⟨us,ws'++[u],_,_,_,_,rfl,by rw[<-hvs];simp,rfl,q3n _ t1 (by omega),q3n _ t2 (by omega),q1u _ t3,?_,?_,?_⟩⟩
  ·have:=q7q k1 (.inl p.1) (.int ((Lt p).sz:Nat))
   simp only[List.length_append,List.length_singleton];omega
  ·have:=q7q k2 (.inl p.1) (.int 1)
   simp only[List.length_append,List.length_singleton];omega
  ·intro u' hu' p' hp' e'
   by_cases hpp:p'=p
   ·subst hpp
    rw[q6l,q6l,z6a Lt wnd hp]
    exact⟨rfl,rfl⟩
   ·have hne:p'.1≠p.1:=fun z=>hpp (y1g wnd hp' hp z)
    have hni:(Sum.inl p'.1:Key)≠.inl p.1:=fun z=>hne (by injection z)
    rw[q5p _ _ _ _ hni,q5p _ _ _ _ hni]
    rcases List.mem_append.mp hu' with z|z
    ·exact m6 u' z p' hp' e'
    ·rw[List.mem_singleton]at z
     subst z
     exact absurd (y7w (e'.symm.trans eu)) hpp
 rintro σ S2 ⟨us,ws',k1,k2,j9,j10,hr',hvs,rfl,m1,m2,m3,m4,m5,m6⟩
 obtain rfl:us=[]:=by cases us with
  |nil=>rfl
  |cons a b=>simp at hr'
 rw[List.append_nil]at hvs
 subst hvs
 refine⟨hck _ m1,hK _ _ ?_⟩
 clear hK K
 have hv1:∀p∈r.ws,valP k1 (.inl p.1)=some (.int ((atPl Lt r.ws p.1 .non).sz:Nat))/\valP k2 (.inl p.1)=some (.int (1:Nat)):=fun p hp=>by
  obtain⟨u,hu,eu⟩:=y4c (hval p hp)
  exact m6 u hu p hp eu
 refine seqI fun K hK=>?_
 dsimp![true_and]
 refine hwi r (by omega) _ _ _ fun q5 S10 _ hq4 hx10=>?_
 have n1:=hx10.get m1 (by simp)
 have n2:=hx10.get m2 (by simp)
 have n3:=hx10.get m3 (by simp)
 dsimp![q0v hq4]
 generalize hLL:r.wi.map Rd.pv=LL at hq4 ⊢
 have pok:Pok ps:=⟨pnd,pdp,by omega⟩
 refine forI (fun rest σ S12=>∃(ts:List Rd)(j9 j10 j11:Option PV),rest=ts.map Rd.pv/\σ=[some (PV.frl (List.map PV.int ns)),some (PV.ref d),some (PV.ref b),some r.pv,some (PV.tup (List.map PV.str vs)),some (bkP x (.tup (ps.map encN)) (trV tr)),some (.ref dm),some (.ref q1),some (.ref (q1+1)),j9,j10,j11]/\(∀t∈ts,t∈r.wi)/\S12[dm]?=some (.dN ws')/\S12[q1]?=some (.dK k1)/\S12[q1+1]?=some (.dK k2)/\S12[q5]?=some (.lst LL)) ?_ ?_ _ _ _ ⟨r.wi,_,_,_,hLL.symm,rfl,fun t ht=>ht,n1,n2,n3,hq4⟩
 ·rintro σ S12 ⟨ts,j9,j10,j11,hr',rfl,_,_,_,_,w4⟩
  refine⟨q0v w4,hK _ _ ?_⟩
  dsimp![true_and]
 ·rintro z rest σ S12 ⟨ts,j9,j10,j11,hr',rfl,hin,w1,w2,w3,w4⟩ N hN
  obtain⟨t,ts,rfl⟩:∃p r,ts=p::r:=by
   cases ts with
   |nil=>simp at hr'
   |cons a b=>exact⟨a,b,rfl⟩
  simp only[List.map_cons,List.cons.injEq]at hr'
  obtain⟨rfl,rfl⟩:=hr'
  refine⟨q0v w4,?_⟩
  have htw:=hin t (by simp)
  obtain⟨a',b',g',hti⟩:=y9i his htw
  have hts:=y9f hsm htw
  have htl:=(y9h htw).1
  have hsub:∀p∈t.ws,p∈r.ws:=y3w htw
  have gbt:=hgb t htw
  have hgd:=z0n hti hts
  obtain⟨bl,_⟩:=y4m (L:=q8g) (A:=af 1) (.inr rfl) (r:=t) fun p hp=>⟨⟨z1t _,by rw[z3z];have:=p.2.dp_lv;have:=z4p hts hp;omega⟩,trivial⟩
  have bz:=y4k (L:=q8g) (r:=t) fun p hp=>⟨by simp[q8g,Tm.sz],by simp[q8g,Tm.nd]⟩
  obtain⟨da,_⟩:=y4m (L:=Lt) (A:=af 1) (.inr rfl) (r:=t) fun p hp=>⟨(hLp p (hsub p hp)).2.ty.gd,(hLp p (hsub p hp)).2.af⟩
  have dz:=y4k (L:=Lt) (r:=t) fun p hp=>⟨(hLp p (hsub p hp)).2.sz,(hLp p (hsub p hp)).2.nd⟩
  have dt:=y4j (L:=Lt) hti hts fun p hp=>(hLp p (hsub p hp)).2.ty
  have bt:=x1u hti hts
  have dv:t.tm (LK (trV tr) vs)=(t.tt Lt).pv:=by
   rw[z0k]
   exact z1m fun p hp=>(hLp p (hsub p hp)).1
  have dsd:(t.tt Lt).sz=t.sd (fun i=>(atPl Lt r.ws i .non).sz):=y4l fun p hp=>by rw[z6a Lt wnd (hsub p hp)]
  have bsd:(t.tt q8g).sz=t.sd (fun _=>1):=y4l fun p hp=>by simp[q8g,Tm.sz]
  refine seqI fun K2 hK2=>?_
  dsimp![true_and]
  refine hlm (LK (trV tr) vs) t a' b' g' hti hts (by omega) dm ws' _ _ _ w1 (fun p hp=>hval p (hsub p hp)) ?_
  dsimp![true_and]
  refine hK2 _ _ ?_
  clear hK2
  refine seqI fun K2 hK2=>?_
  dsimp![bk1]
  refine hmng x (.tup (ps.map encN)) (trV tr) vs t a' b' g' hti hts (by omega) gbt _ _ _ fun S3 hx3=>?_
  refine hsd (fun i=>(atPl Lt r.ws i .non).sz) q1 k1 t (by omega) (fun p hp=>(hv1 p (hsub p hp)).1) _ _ _ (hx3.get w2 (by simp)) fun S4 hx4=>?_
  rw[dv,<-dsd]
  refine hhold ps (t.tt Lt) g' _ _ _ pok dt da (by omega) (by omega) hgd fun S5 hx5=>?_
  dsimp![true_and]
  refine hK2 _ _ ?_
  clear hK2
  have x5:=(hx3.trans hx4).trans hx5
  dsimp![true_and]
  refine⟨Nat.zero_le _,?_⟩
  refine hun t a' b' g' hti hts (by omega) _ _ _ fun S6 hx6=>?_
  refine hsd (fun _=>1) (q1+1) k2 t (by omega) (fun p hp=>(hv1 p (hsub p hp)).2) _ _ _ ((x5.trans hx6).get w3 (by simp)) fun S7 hx7=>?_
  rw[<-bsd]
  refine hhold [] (t.tt q8g) g' _ _ _ ⟨by simp,by simp,by simp⟩ bt bl (by omega) (by omega) hgd fun S8 hx8=>?_
  have x8:=((x5.trans hx6).trans hx7).trans hx8
  dsimp![true_and]
  exact hN _ _ ⟨ts,_,_,_,rfl,rfl,fun u hu=>hin u (List.mem_cons_of_mem _ hu),x8.get w1 (by simp),x8.get w2 (by simp),x8.get w3 (by simp),x8.get w4 (by simp)⟩
end My
open PySem PySem.W PyProof.Rows
def PySem.W.Fast.tw14756513922843177822:Unit:=()
def PySem.W.Fast.tw3092752618043456262:Unit:=()
def PySem.W.Fast.tw8006495277431319515:Unit:=()
def PySem.W.Fast.tw3530016255125039944:Unit:=()
def PySem.W.Fast.tw9578371054595790209:Unit:=()
def PySem.W.Fast.tw17782964688548720091:Unit:=()
def PySem.W.Fast.tw14435534596707196362:Unit:=()
def PySem.W.Fast.tw2788952207041863437:Unit:=()
def PySem.W.Fast.tw744680032375882382:Unit:=()
def PySem.W.Fast.tw1782863114623359719:Unit:=()
def PySem.W.Fast.tw16116577832763589613:Unit:=()
def PySem.W.Fast.tw16321805629872370546:Unit:=()
def PySem.W.Fast.tw18082534527524562079:Unit:=()
def PySem.W.Fast.tw16100174853025767470:Unit:=()
def PySem.W.Fast.tw14208243936812100480:Unit:=()
def PySem.W.Fast.tw15524011725029810026:Unit:=()
def PySem.W.Fast.tw3260472204695268100:Unit:=()
def PySem.W.Fast.tw15105933017924543548:Unit:=()
def PySem.W.Fast.tw2329465863900592766:Unit:=()
def PySem.W.Fast.tw8447319543276214751:Unit:=()
def PySem.W.Fast.tw5570823667892845697:Unit:=()
def PySem.W.Fast.tw3959802173436157370:Unit:=()
def PySem.W.Fast.tw7541926089294038951:Unit:=()
def PySem.W.Fast.tw2966368988994690196:Unit:=()
def PySem.W.Fast.tw4221019411154162678:Unit:=()
def PySem.W.Fast.tw14263446402819735126:Unit:=()
def PySem.W.Fast.tw15143163506251728896:Unit:=()
def PySem.W.Fast.tw13004926541620183817:Unit:=()
def PySem.W.Fast.tw9918308093005942943:Unit:=()
def PySem.W.Fast.tw15995498020111506922:Unit:=()
def PySem.W.Fast.tw13671497524350584837:Unit:=()
def PySem.W.Fast.tw263402803895154881:Unit:=()
def PySem.W.Fast.tw8254288183434892472:Unit:=()
def PySem.W.Fast.tw3518622827501263219:Unit:=()
def PySem.W.Fast.tw18174834041395009025:Unit:=()
def PySem.W.Fast.tw1867499952841644418:Unit:=()
def PySem.W.Fast.tw3869289427700413650:Unit:=()
def PySem.W.Fast.tw14618828539200571099:Unit:=()
def PySem.W.Fast.tw9016783805595938684:Unit:=()
def PySem.W.Fast.tw7683853025663678139:Unit:=()
def PySem.W.Fast.tw17241534484868120284:Unit:=()
def PySem.W.Fast.tw10155013046368717277:Unit:=()
def PySem.W.Fast.tw11638558783979682816:Unit:=()
def PySem.W.Fast.tw4398219451059500734:Unit:=()
def PySem.W.Fast.tw16364559712388852251:Unit:=()
def PySem.W.Fast.tw2184398055015832848:Unit:=()
def PySem.W.Fast.tw8024319464047051246:Unit:=()
def PySem.W.Fast.tw15741902215058530134:Unit:=()
def PySem.W.Fast.tw11452371386435926312:Unit:=()
def PySem.W.Fast.tw18159740841767281458:Unit:=()
def PySem.W.Fast.tw6729879206614165089:Unit:=()
def PySem.W.Fast.tw13579280742365002077:Unit:=()
def PySem.W.Fast.tw9721510165713114231:Unit:=()
def PySem.W.Fast.tw11999064483251292283:Unit:=()
def PySem.W.Fast.tw8922330428256082821:Unit:=()
def PySem.W.Fast.tw805927430617033274:Unit:=()
def PySem.W.Fast.tw14680641399638279320:Unit:=()
def PySem.W.Fast.tw5765170166042927993:Unit:=()
def PySem.W.Fast.tw17454975791169073980:Unit:=()
def PySem.W.Fast.tw7928418885031078906:Unit:=()
def PySem.W.Fast.tw13668719134097760626:Unit:=()
def PySem.W.Fast.tw9634459131230491614:Unit:=()
def PySem.W.Fast.tw6039646047890837652:Unit:=()
def PySem.W.Fast.tw8623188554285551875:Unit:=()
def PySem.W.Fast.tw15016983267478151513:Unit:=()
def PySem.W.Fast.tw13622281883758065450:Unit:=()
def PySem.W.Fast.tw9556951865482538212:Unit:=()
def PySem.W.Fast.tw13765415779784352210:Unit:=()
def PySem.W.Fast.tw9671116797165070716:Unit:=()
def PySem.W.Fast.tw10815082371788206783:Unit:=()
def PySem.W.Fast.tw4045431258918042609:Unit:=()
def PySem.W.Fast.tw5185008369125622317:Unit:=()
def PySem.W.Fast.tw3281743691145303710:Unit:=()
def PySem.W.Fast.tw5305113884784908999:Unit:=()
def PySem.W.Fast.tw14889144836408894148:Unit:=()
def PySem.W.Fast.tw2027313786718481290:Unit:=()
def PySem.W.Fast.tw3804552287004600903:Unit:=()
def PySem.W.Fast.tw245916846605379622:Unit:=()
def PySem.W.Fast.tw10007324101426192417:Unit:=()
def PySem.W.Fast.tw6792214981514014926:Unit:=()
def PySem.W.Fast.tw7244349200326524011:Unit:=()
def PySem.W.Fast.tw16799880460441861851:Unit:=()
def PySem.W.Fast.tw2955892996237967375:Unit:=()
def PySem.W.Fast.tw3915546142868295312:Unit:=()
def PySem.W.Fast.tw10973883038967808383:Unit:=()
def PySem.W.Fast.tw5536208558701695360:Unit:=()
def PySem.W.Fast.tw7456497594503876572:Unit:=()
def PySem.W.Fast.tw12716764536424482385:Unit:=()
def PySem.W.Fast.tw3221154091026651229:Unit:=()
def PySem.W.Fast.tw397458974989240536:Unit:=()
def PySem.W.Fast.tw10644247347118792909:Unit:=()
def PySem.W.Fast.tw15471137747861604212:Unit:=()
def PySem.W.Fast.tw3254098165579696507:Unit:=()
def PySem.W.Fast.tw11307358720310271067:Unit:=()
def PySem.W.Fast.tw9294443260350912574:Unit:=()
def PySem.W.Fast.tw7365940992328185683:Unit:=()
def PySem.W.Fast.tw7163563484396594185:Unit:=()
set_option maxRecDepth 100000 in
set_option maxHeartbeats 0 in
theorem PySem.Challenge.cw_slashwise_k62_whole_kinds_of_meanings_holds : PySem.Challenge.rw_slashwise_k62_whole_kinds_of_meanings.Holds := by
 w_on; o_law; k_head; (case hw => w_witness2)
 k_fill
 refine My.walk (l := PySem.Challenge.rw_slashwise_k62_whole_kinds_of_meanings) My.law_ok rfl rfl (fun w h Y => PySem.W.kIn_of Y) ?F
 case F =>
  intro w mg fa h KX G hmg
  refine' My.all_mk KX G hmg (.mk ?a0 ?l0 ?c0 ?k0) (.mk ?a1 ?l1 ?c1 ?k1) (.mk ?a2 ?l2 ?c2 ?k2) (.mk ?a3 ?l3 ?c3 ?k3) (.mk ?a4 ?l4 ?c4 ?k4) (.mk ?a5 ?l5 ?c5 ?k5) (.mk ?a6 ?l6 ?c6 ?k6) (.mk ?a7 ?l7 ?c7 ?k7) (.mk ?a8 ?l8 ?c8 ?k8) (.mk ?a9 ?l9 ?c9 ?k9) (.mk ?a10 ?l10 ?c10 ?k10) (.mk ?a11 ?l11 ?c11 ?k11) (.mk ?a12 ?l12 ?c12 ?k12) (.mk ?a13 ?l13 ?c13 ?k13) (.mk ?a14 ?l14 ?c14 ?k14) (.mk ?a15 ?l15 ?c15 ?k15) (.mk ?a16 ?l16 ?c16 ?k16) (.mk ?a17 ?l17 ?c17 ?k17) (.mk ?a18 ?l18 ?c18 ?k18) (.mk ?a19 ?l19 ?c19 ?k19) (.mk ?a20 ?l20 ?c20 ?k20) (.mk ?a21 ?l21 ?c21 ?k21) (.mk ?a22 ?l22 ?c22 ?k22) (.mk ?a23 ?l23 ?c23 ?k23) (.mk ?a24 ?l24 ?c24 ?k24) (.mk ?a25 ?l25 ?c25 ?k25) (.mk ?a26 ?l26 ?c26 ?k26) (.mk ?a27 ?l27 ?c27 ?k27) (.mk ?a28 ?l28 ?c28 ?k28) (.mk ?a29 ?l29 ?c29 ?k29) (.mk ?a30 ?l30 ?c30 ?k30) (.mk ?a31 ?l31 ?c31 ?k31) (.mk ?a32 ?l32 ?c32 ?k32) (.mk ?a33 ?l33 ?c33 ?k33) (.mk ?a34 ?l34 ?c34 ?k34) (.mk ?a35 ?l35 ?c35 ?k35) (.mk ?a36 ?l36 ?c36 ?k36) (.mk ?a37 ?l37 ?c37 ?k37) (.mk ?a38 ?l38 ?c38 ?k38) (.mk ?a39 ?l39 ?c39 ?k39) (.mk ?a40 ?l40 ?c40 ?k40) (.mk ?a41 ?l41 ?c41 ?k41) (.mk ?a42 ?l42 ?c42 ?k42) (.mk ?a43 ?l43 ?c43 ?k43) (.mk ?a44 ?l44 ?c44 ?k44) (.mk ?a45 ?l45 ?c45 ?k45) (.mk ?a46 ?l46 ?c46 ?k46) (.mk ?a47 ?l47 ?c47 ?k47) (.mk ?a48 ?l48 ?c48 ?k48) ?xa_NoForm ?xa_NoKind ?xe_NoForm ?xe_NoKind ?z_all ?z_bool ?z_int ?z_isinstance ?z_len ?z_list ?z_max ?z_range ?z_reversed ?z_set ?z_str ?z_sum ?z_tuple ?z_zip
  (case a0 | l0 | c0 | k0 | a1 | l1 | c1 | k1 | a2 | l2 | c2 | k2 | a3 | l3 | c3 | k3 | a4 | l4 | c4 | k4 | a5 | l5 | c5 | k5 | a6 | l6 | c6 | k6 | a7 | l7 | c7 | k7 | a8 | l8 | c8 | k8 | a9 | l9 | c9 | k9 | a10 | l10 | c10 | k10 | a11 | l11 | c11 | k11 | a12 | l12 | c12 | k12 | a13 | l13 | c13 | k13 | a14 | l14 | c14 | k14 | a15 | l15 | c15 | k15 | a16 | l16 | c16 | k16 | a17 | l17 | c17 | k17 | a18 | l18 | c18 | k18 | a19 | l19 | c19 | k19 | a20 | l20 | c20 | k20 | a21 | l21 | c21 | k21 | a22 | l22 | c22 | k22 | a23 | l23 | c23 | k23 | a24 | l24 | c24 | k24 | a25 | l25 | c25 | k25 | a26 | l26 | c26 | k26 | a27 | l27 | c27 | k27 | a28 | l28 | c28 | k28 | a29 | l29 | c29 | k29 | a30 | l30 | c30 | k30 | a31 | l31 | c31 | k31 | a32 | l32 | c32 | k32 | a33 | l33 | c33 | k33 | a34 | l34 | c34 | k34 | a35 | l35 | c35 | k35 | a36 | l36 | c36 | k36 | a37 | l37 | c37 | k37 | a38 | l38 | c38 | k38 | a39 | l39 | c39 | k39 | a40 | l40 | c40 | k40 | a41 | l41 | c41 | k41 | a42 | l42 | c42 | k42 | a43 | l43 | c43 | k43 | a44 | l44 | c44 | k44 | a45 | l45 | c45 | k45 | a46 | l46 | c46 | k46 | a47 | l47 | c47 | k47 | a48 | l48 | c48 | k48 | xa_NoForm | xa_NoKind => k_is)
  (case xe_NoForm | xe_NoKind => k_exc)
  (case z_all | z_bool | z_int | z_isinstance | z_len | z_list | z_max | z_range | z_reversed | z_set | z_str | z_sum | z_tuple | z_zip => k_is)
#print axioms PySem.Challenge.cw_slashwise_k62_whole_kinds_of_meanings_holds
