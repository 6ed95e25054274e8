import PyProof.Rows.All
import PyProof.DictRoadsH
import Wide.All
import OpenK.AllK
import Wide.FinOn
import Lean
import PyProof.EqAt
import PyProof.EqKinds
import PyProof.TupleCall
import KE.KTryMore
import PyProof.StationsW
import PyProof.ExcBaseAll.ValueError
import PyProof.Rows.CatchOwn
import PyProof.ZipIter
import PyProof.Rows.TupAdd
import PyProof.NeKinds
import KE.KUnpack
import KE.KRevSl
import PyProof.FitsBits
import PyProof.RulesAs
import PyProof.NsDelKeeps
import PyProof.ExcArgsOwn
import OpenK.KDescr
import KE.KIsNot
import PyProof.ExcAttrAll.ValueError
import PyProof.StrOps2
import PyProof.EnumFor
import PyProof.EnumMake
import PyProof.DictCompW
import PyProof.ListRange
import PyProof.DictIter
import KE.KSortKey
import PyProof.Rows.SortStr
import KE.KDictLaws
import KE.KIntText
import PySem.Challenge.RW_slashwise_k18_terms_written
open PySem.W (Frag)
set_option Elab.async false
set_option linter.all false
set_option maxRecDepth 100000
set_option maxHeartbeats 4000000
noncomputable section
namespace L2
open PySem PySem.Spec PyProof.Rows
abbrev Key:=Sum Int Str
def z9d:Key->Value->Bool
 |.inl k,v=>Value.isInt k v
 |.inr x,v=>Value.isStrOf x v
def keyH(w:World):Key->Int
 |.inl k=>hashInt k
 |.inr x=>hashStr w x
theorem q2t:∀{k:Key}{v:Value},z9d k v=true->(∃i t,k=Sum.inl i/\v=Value.int i t)\/(∃x t,k=Sum.inr x/\v=Value.str x t)
 |.inl i,v,h=>by
  obtain⟨t,e⟩:=Value.isInt_shape (k:=i) (v:=v) h
  exact .inl ⟨i,t,rfl,e⟩
 |.inr x,v,h=>by
  obtain⟨t,e⟩:=Value.isStrOf_shape (x:=x) (v:=v) h
  exact .inr ⟨x,t,rfl,e⟩
theorem y2q(i:Int)(t:Tok):z9d (.inl i) (.int i t)=true:=by simp[z9d,Value.isInt]
theorem y2p(x:Str)(t:Tok):z9d (.inr x) (.str x t)=true:=by simp[z9d,Value.isStrOf]
theorem x7b(a b:Int):decide ((Sum.inl a:Key)=Sum.inl b)=(a==b):=by
 by_cases e:a=b
 ·subst e;simp
 ·have h:¬(Sum.inl a:Key)=Sum.inl b:=fun q=>e (Sum.inl.inj q)
  rw[decide_eq_false h]
  exact(beq_eq_false_iff_ne.mpr e).symm
theorem x6y(a b:Str):decide ((Sum.inr a:Key)=Sum.inr b)=decide (a=b):=by
 by_cases e:a=b
 ·subst e;simp
 ·have h:¬(Sum.inr a:Key)=Sum.inr b:=fun q=>e (Sum.inr.inj q)
  rw[decide_eq_false h,decide_eq_false e]
theorem x7a(a:Int)(b:Str):decide ((Sum.inl a:Key)=Sum.inr b)=false:=decide_eq_false (fun q=>nomatch q)
theorem x6z(a:Str)(b:Int):decide ((Sum.inr a:Key)=Sum.inl b)=false:=decide_eq_false (fun q=>nomatch q)
def q2d(prog:Program)(w:World):PySem.KeyKind prog w Key where
 is:=z9d
 hash:=keyH w
 inj:=fun v a b ha hb=>by
  rcases q2t ha with⟨i,t,rfl,rfl⟩|⟨x,t,rfl,rfl⟩
  ·rcases q2t hb with⟨j,u,rfl,e⟩|⟨y,u,rfl,e⟩
   ·injection e with e1 _;rw[e1]
   ·exact nomatch e
  ·rcases q2t hb with⟨j,u,rfl,e⟩|⟨y,u,rfl,e⟩
   ·exact nomatch e
   ·injection e with e1 _;rw[e1]
 byValue:=fun k v h=>by
  rcases q2t h with⟨i,t,rfl,rfl⟩|⟨x,t,rfl,rfl⟩<;>rfl
 pyHash:=fun hv h=>by
  rcases q2t hv with⟨i,t,rfl,rfl⟩|⟨x,t,rfl,rfl⟩
  ·exact wpAny_pyHash_int h
  ·exact wpAny_pyHash_str h
 eqBool:=fun hu hv h=>by
  rcases q2t hu with⟨i,t,rfl,rfl⟩|⟨x,t,rfl,rfl⟩
  ·rcases q2t hv with⟨j,u,rfl,rfl⟩|⟨y,u,rfl,rfl⟩
   ·rw[x7b]at h;exact wpAny_eqBool_int h
   ·rw[x7a]at h;exact SeqAt.EqAt.int_str i t y u _ _ _ _ h
  ·rcases q2t hv with⟨j,u,rfl,rfl⟩|⟨y,u,rfl,rfl⟩
   ·rw[x6z]at h;exact SeqAt.EqAt.str_int x t j u _ _ _ _ h
   ·rw[x6y]at h;exact wpAny_eqBool_str h
 «strs»:=fun k x t v h=>by
  rcases q2t h with⟨i,u,rfl,e⟩|⟨y,u,rfl,e⟩
  ·exact nomatch e
  ·injection e with e1 _
   subst e1
   cases v<;>rfl
theorem z0d(prog:Program)(w:World)(i:Int)(t:Tok):(q2d prog w).is (.inl i) (.int i t)=true:=y2q i t
theorem z0c(prog:Program)(w:World)(x:Str)(t:Tok):(q2d prog w).is (.inr x) (.str x t)=true:=y2p x t
inductive V where
 |non|bl (b:Bool)|int (i:Int)|str (x:Str)|byt (b:Array UInt8)|flt (b:UInt64)|ref (a:Addr)|ty (n:String)
 deriving DecidableEq
def RelV:V->Value->Prop
 |.non,u=>u=Value.none
 |.bl b,u=>u=Value.bool b
 |.int i,u=>∃t,u=Value.int i t
 |.str x,u=>∃t,u=Value.str x t
 |.byt b,u=>∃t,u=Value.bytes b t
 |.flt b,u=>∃t,u=Value.float b t
 |.ref a,u=>u=Value.ref a
 |.ty n,u=>u=Value.type n
abbrev Vals:List V->List Value->Prop:=Paired RelV
theorem Vals.length{xs:List V}{us:List Value}(r:Vals xs us):xs.length=us.length:=Paired.length r
theorem Vals.get:∀{xs:List V}{us:List Value}{i:Nat}{x:V},Vals xs us->xs[i]?=some x->∃u,us[i]?=some u/\RelV x u
 |_,_,_,_,.nil,e=>by simp at e
 |_,_,0,_,.cons r _,e=>by simp at e;subst e;exact⟨_,rfl,r⟩
 |_,_,i+1,x,.cons _ t,e=>by
  obtain⟨u,h1,h2⟩:=Vals.get (i:=i) (x:=x) t (by simpa using e)
  exact⟨u,by simpa using h1,h2⟩
theorem Vals.set{x:V}{u:Value}(r:RelV x u):∀{xs:List V}{us:List Value}(i:Nat),Vals xs us->Vals (xs.set i x) (us.set i u)
 |_,_,_,.nil=>.nil
 |_,_,0,.cons _ t=>.cons r t
 |_,_,i+1,.cons q t=>.cons q (Vals.set r i t)
theorem Vals.append:∀{xs ys:List V}{us ws:List Value},Vals xs us->Vals ys ws->Vals (xs++ys) (us++ws)
 |_,_,_,_,.nil,s=>s
 |_,_,_,_,.cons r t,s=>.cons r (Vals.append t s)
theorem Vals.take:∀{xs:List V}{us:List Value}(n:Nat),Vals xs us->Vals (xs.take n) (us.take n)
 |_,_,0,_=>.nil
 |_,_,_+1,.nil=>.nil
 |_,_,n+1,.cons r t=>.cons r (Vals.take n t)
theorem Vals.drop:∀{xs:List V}{us:List Value}(n:Nat),Vals xs us->Vals (xs.drop n) (us.drop n)
 |_,_,0,r=>r
 |_,_,_+1,.nil=>.nil
 |_,_,n+1,.cons _ t=>Vals.drop n t
def RelO:Option V->Option Value->Prop
 |some v,some u=>RelV v u
 |none,none=>True
 |_,_=>False
def KV{κ:Type}:List (κ×V)->List (κ×Value)->Prop:=Paired fun(p:κ×V) (q:κ×Value)=>p.1=q.1/\RelV p.2 q.2
def kV:Key->V
 |.inl i=>.int i
 |.inr x=>.str x
inductive KTr where
 |int (i:Int)|str (x:Str)|tup (xs:List KTr)
instance w1s:DecidableEq KTr:=fun _ _=>Classical.propDecidable _
mutual
def kdep:KTr->Nat
 |.tup xs=>1+y2r xs
 |_=>0
def y2r:List KTr->Nat
 |[]=>0
 |x::xs=>max (kdep x) (y2r xs)
end
theorem q7w:∀{xs:List KTr}{j:Nat}{x:KTr},xs[j]?=some x->kdep x<=y2r xs
 |[],_,_,e=>by simp at e
 |x::xs,0,y,e=>by simp at e;subst e;simp only[y2r];omega
 |x::xs,j+1,y,e=>by simp at e;have:=q7w e;simp only[y2r];omega
theorem z1k(A:Around):A.in1.units=A.units+1:=rfl
theorem z1l{xs:List KTr}{j:Nat}{x:KTr}(e:xs[j]?=some x):xs.getD j (.int 0)=x:=by rw[List.getD_eq_getElem?_getD,e];rfl
mutual
def TrA(h:Heap):KTr->Value->Prop
 |.int i,v=>∃t,v=.int i t
 |.str x,v=>∃t,v=.str x t
 |.tup xs,v=>∃(a:Addr)(its:List Value),v=.ref a/\IsTup h a its.toArray/\TrAs h xs its
def TrAs(h:Heap):List KTr->List Value->Prop
 |[],vs=>vs=[]
 |x::xs,vs=>∃y ys,vs=y::ys/\TrA h x y/\TrAs h xs ys
end
theorem IsTup.same{h:Heap}{a:Addr}{xs ys:List Value}(p:IsTup h a xs.toArray)(q:IsTup h a ys.toArray):xs=ys:=by
 obtain⟨o,e,_,n,d⟩:=p
 obtain⟨o',e',_,n',d'⟩:=q
 obtain rfl:o=o':=Option.some.inj (e.symm.trans e')
 rw[d]at d'
 injection d' with h1 _
 simpa using h1
mutual
theorem TrA.inj{h:Heap}:∀{x y:KTr}{v:Value},TrA h x v->TrA h y v->x=y
 |.int i,y,v,⟨t,e⟩,q=>by
  subst e
  cases y with
  |int j=>obtain⟨t',e⟩:=q;cases e;rfl
  |str z=>obtain⟨t',e⟩:=q;cases e
  |tup ys=>obtain⟨a,its,e,_⟩:=q;cases e
 |.str x,y,v,⟨t,e⟩,q=>by
  subst e
  cases y with
  |int j=>obtain⟨t',e⟩:=q;cases e
  |str z=>obtain⟨t',e⟩:=q;cases e;rfl
  |tup ys=>obtain⟨a,its,e,_⟩:=q;cases e
 |.tup xs,y,v,⟨a,its,e,p,r⟩,q=>by
  subst e
  cases y with
  |int j=>obtain⟨t',e⟩:=q;cases e
  |str z=>obtain⟨t',e⟩:=q;cases e
  |tup ys=>
   obtain⟨b,its2,e,p2,r2⟩:=q
   cases e
   have:=IsTup.same p p2
   subst this
   rw[TrAs.inj r r2]
theorem TrAs.inj{h:Heap}:∀{xs ys:List KTr}{vs:List Value},TrAs h xs vs->TrAs h ys vs->xs=ys
 |[],[],_,_,_=>rfl
 |[],_::_,_,h,⟨_,_,e,_⟩=>by rw[show _=[]from h]at e;cases e
 |_::_,[],_,⟨_,_,e,_⟩,h=>by rw[show _=[]from h]at e;cases e
 |x::xs,y::ys,_,⟨a,b,e,r,t⟩,⟨a',b',e',r',t'⟩=>by
  subst e
  cases e'
  rw[TrA.inj r r',TrAs.inj t t']
end
mutual
theorem TrA.at{h h':Heap}(k:∀a its,IsTup h a its->IsTup h' a its):∀{x:KTr}{v:Value},TrA h x v->TrA h' x v
 |.int i,_,h=>h
 |.str x,_,h=>h
 |.tup xs,_,⟨a,its,e,p,r⟩=>⟨a,its,e,k _ _ p,TrAs.at k r⟩
theorem TrAs.at{h h':Heap}(k:∀a its,IsTup h a its->IsTup h' a its):∀{xs:List KTr}{vs:List Value},TrAs h xs vs->TrAs h' xs vs
 |[],_,h=>h
 |x::xs,_,⟨y,ys,e,r,t⟩=>⟨y,ys,e,TrA.at k r,TrAs.at k t⟩
end
theorem TrAs.length{h:Heap}:∀{xs:List KTr}{vs:List Value},TrAs h xs vs->xs.length=vs.length
 |[],_,h=>by rw[show _=[]from h];rfl
 |_::xs,_,⟨y,ys,e,_,t⟩=>by rw[e,List.length_cons,List.length_cons,TrAs.length t]
theorem TrAs.get{h:Heap}:∀{xs:List KTr}{vs:List Value}{i:Nat}{x:KTr},TrAs h xs vs->xs[i]?=some x->∃y,vs[i]?=some y/\TrA h x y
 |[],_,_,_,_,e=>by simp at e
 |x::xs,_,0,x',⟨y,ys,e,r,t⟩,q=>by
  simp at q;subst q;subst e
  exact⟨y,by simp,r⟩
 |x::xs,_,i+1,x',⟨y,ys,e,r,t⟩,q=>by
  subst e
  obtain⟨z,h1,h2⟩:=TrAs.get (i:=i) t (by simpa using q)
  exact⟨z,by simpa using h1,h2⟩
theorem x3o(xs ys:List KTr):((List.range (min xs.length ys.length)).all (fun j=>decide (xs.getD j (.int 0)=ys.getD j (.int 0)))&&xs.length==ys.length)=decide (KTr.tup xs=KTr.tup ys):=by
 rw[Bool.eq_iff_iff]
 simp only[Bool.and_eq_true,List.all_eq_true,List.mem_range,decide_eq_true_eq,beq_iff_eq,KTr.tup.injEq]
 constructor
 ·rintro⟨h,hl⟩
  apply List.ext_getElem hl
  intro n h1 h2
  have:=h n (by omega)
  rw[List.getD_eq_getElem?_getD,List.getD_eq_getElem?_getD,List.getElem?_eq_getElem h1,List.getElem?_eq_getElem h2]at this
  exact this
 ·rintro rfl
  exact⟨fun _ _=>rfl,rfl⟩
theorem x9l{s:Shared}:∀(d:Nat)(A:Around)(x y:KTr)(v u:Value),kdep x<=d->A.units+d<cLine->TrA s.heap x v->TrA s.heap y u->SeqAt.EqAt A s v u (decide (x=y)):=by
 intro d
 induction d with
 |zero=>
  intro A x y v u hd hu rx ry
  cases x with
  |tup xs=>simp[kdep]at hd
  |int a=>
   obtain⟨t,rfl⟩:=rx
   cases y with
   |int b=>obtain⟨t',rfl⟩:=ry;rw[show decide (KTr.int a=KTr.int b)=(a==b) by rw[Bool.eq_iff_iff];simp];exact .int_int a t b t'
   |str b=>obtain⟨t',rfl⟩:=ry;simpa using SeqAt.EqAt.int_str (A:=A) (s:=s) a t b t'
   |tup ys=>obtain⟨b,its,rfl,p,_⟩:=ry;simpa using SeqAt.EqAt.int_tuple (A:=A) (s:=s) a t p (by omega)
  |str a=>
   obtain⟨t,rfl⟩:=rx
   cases y with
   |int b=>obtain⟨t',rfl⟩:=ry;simpa using SeqAt.EqAt.str_int (A:=A) (s:=s) a t b t'
   |str b=>obtain⟨t',rfl⟩:=ry;rw[show decide (KTr.str a=KTr.str b)=(a==b) by rw[Bool.eq_iff_iff];simp];exact .str_str a t b t'
   |tup ys=>obtain⟨b,its,rfl,p,_⟩:=ry;simpa using SeqAt.EqAt.str_tuple (A:=A) (s:=s) a t p (by omega)
 |succ d ih=>
  intro A x y v u hd hu rx ry
  cases x with
  |tup xs=>
   obtain⟨a,its,rfl,p1,r1⟩:=id rx
   cases y with
   |int b=>obtain⟨t',rfl⟩:=ry;simpa using SeqAt.EqAt.tuple_int (A:=A) (s:=s) b t' p1 (by omega)
   |str b=>obtain⟨t',rfl⟩:=ry;simpa using SeqAt.EqAt.tuple_str (A:=A) (s:=s) b t' p1 (by omega)
   |tup ys=>
    obtain⟨b,its2,rfl,p2,r2⟩:=id ry
    by_cases hab:a=b
    ·subst hab
     rw[decide_eq_true (TrA.inj rx ry)]
     exact .same _
    ·refine .of_refs hab ?_
     have e:decide (KTr.tup xs=KTr.tup ys)=((List.range (min its.toArray.size its2.toArray.size)).all (fun j=>decide (xs.getD j (.int 0)=ys.getD j (.int 0)))&&its.toArray.size==its2.toArray.size):=by
      rw[List.size_toArray,List.size_toArray,<-r1.length,<-r2.length,x3o]
     rw[e]
     refine .tuples p1 p2 (by omega) fun j h1 h2=>?_
     have hj1:j<xs.length:=by rw[r1.length];simpa using h1
     have hj2:j<ys.length:=by rw[r2.length];simpa using h2
     have e1:xs[j]?=some xs[j]:=List.getElem?_eq_getElem hj1
     have e2:ys[j]?=some ys[j]:=List.getElem?_eq_getElem hj2
     obtain⟨v1,g1,q1⟩:=r1.get e1
     obtain⟨v2,g2,q2⟩:=r2.get e2
     have l1:j<its.length:=by simpa using h1
     have l2:j<its2.length:=by simpa using h2
     rw[z1l e1,z1l e2]
     rw[List.getElem?_eq_getElem l1]at g1
     rw[List.getElem?_eq_getElem l2]at g2
     cases g1
     cases g2
     have hdd:=q7w e1
     simp only[kdep]at hd
     exact ih A.in1 _ _ _ _ (by omega) (by rw[z1k];omega) (by simpa using q1) (by simpa using q2)
  |int a=>exact ih A _ _ v u (Nat.zero_le _) (by omega) rx ry
  |str a=>exact ih A _ _ v u (Nat.zero_le _) (by omega) rx ry
mutual
def trH(P:Program)(w:World):KTr->Int
 |.int i=>(q2d P w).hash (.inl i)
 |.str x=>(q2d P w).hash (.inr x)
 |.tup xs=>reduceHash (Builtin.Tuple.tupleHashOf (trHs P w xs))
def trHs(P:Program)(w:World):List KTr->List Int
 |[]=>[]
 |x::xs=>trH P w x::trHs P w xs
end
mutual
def trD:KTr->Nat
 |.tup xs=>trDs xs+1
 |_=>1
def trDs:List KTr->Nat
 |[]=>0
 |x::xs=>trD x+trDs xs
end
def HsAt(P:Program)(w:World)(A:Around)(h:Heap)(v:Value)(x:Int)(d:Nat):Prop:=∀(E:Value->Shared->Prop)(s:Shared)(Q:Int->Shared->Prop),s.heap=h->Q x {s with toks:=s.toks+d}->wpAny (model P w) A (pyHash v) Q E s
theorem x7o{P:Program}{w:World}{A:Around}{h:Heap}{a:Addr}{its:List Value}{xs:List KTr}(hu:A.units<cLine)(p:IsTup h a its.toArray)(hl:xs.length=its.length)(hi:∀(j:Nat)(x:KTr)(v:Value),xs[j]?=some x->its[j]?=some v->HsAt P w A.in1 h v (trH P w x) (trD x)) :
  HsAt P w A h (.ref a) (trH P w (.tup xs)) (trD (.tup xs)):=by
 intro E s Q eh hQ
 subst eh
 obtain⟨o,ho,hc,n,hd⟩:=p
 have hT:s.TypeIs (.ref a) "tuple" :=⟨o,ho,hc⟩
 unfold pyHash
 first|unfold pyHashByItsType|skip
 first|refine wpAny_bind (wpAny_cRoomFor_or (.inr hu) ?_)|skip
 refine wpAny_bind (wpAny_specialOf hT F.slot_tuple_hash.lookup ?_)
 show wpAny _ _ (if(some (Value.builtin "tuple.__hash__")==some Value.none)=true then _ else _) Q E s
 rw[if_neg (by rw[beq_builtin_none];exact Bool.false_ne_true)]
 refine wpAny_bind (wpAny_specialOf hT F.slot_tuple_hash.lookup ?_)
 show wpAny _ _ (callSpecialIfBoundUnlessNone? (.ref a) "__hash__" _ >>= _) Q E s
 refine wpAny_bind (wpAny_callSpecialIfBoundUnlessNone?_slot hT F.slot_tuple_hash (wpAny_call_entry F.slot_tuple_hash hT F.entry_tuple_hash ?_ (F.args_tuple_hash_1 _)))
 show wpAny _ _ (Builtin.Tuple.tupleItemsOf (.ref a) >>= _) _ _ s
 refine wpAny_bind (wpAny_tupleItemsOf ho hd ?_)
 refine wpAny_bind ?_
 rw[<-Array.forIn_toList]
 refine wpAny_forIn_list _
  (fun rest (b:Array Int) s'=>∃(done left:List KTr),xs=done++left/\its.drop done.length=rest/\b.toList=trHs P w done/\s'={s with toks:=s.toks+trDs done})
  _ ?_ ?_ _ _ ⟨[],xs,rfl,rfl,rfl,rfl⟩
 ·rintro v rest b s' ⟨done,left,e1,e2,hb,rfl⟩
  have hlt:done.length<its.length:=by
   rcases Nat.lt_or_ge done.length its.length with z|z
   ·exact z
   ·rw[List.drop_eq_nil_of_le z]at e2;cases e2
  rw[List.drop_eq_getElem_cons hlt]at e2
  obtain⟨ev,er⟩:=List.cons.inj e2
  obtain⟨x,left',rfl⟩:∃x l,left=x::l:=by
   cases left with
   |nil=>rw[List.append_nil]at e1;subst e1;omega
   |cons x l=>exact⟨x,l,rfl⟩
  have hx:xs[done.length]?=some x:=by rw[e1,List.getElem?_append_right (Nat.le_refl _),Nat.sub_self];rfl
  have hv:its[done.length]?=some v:=by rw[List.getElem?_eq_getElem hlt,ev]
  have sn:∀(l:List KTr),trHs P w (l++[x])=trHs P w l++[trH P w x]:=fun l=>by
   induction l with
   |nil=>rfl
   |cons a r ih=>simp only[List.cons_append,trHs,ih]
  have sd:∀(l:List KTr),trDs (l++[x])=trDs l+trD x:=fun l=>by
   induction l with
   |nil=>simp[trDs]
   |cons a r ih=>simp only[List.cons_append,trDs,ih];omega
  refine wpAny_bind (hi done.length x v hx hv _ _ _ rfl ?_)
  have fin:∃(done' left'':List KTr),xs=done'++left''/\its.drop done'.length=rest/\(b.push (trH P w x)).toList=trHs P w done'/\({s with toks:=s.toks+trDs done+trD x}:Shared)={s with toks:=s.toks+trDs done' }:=
   ⟨done++[x],left',by rw[e1];simp,by rw[List.length_append,List.length_singleton];exact er,by rw[sn,Array.toList_push,hb],by rw[sd,Nat.add_assoc]⟩
  first
   |exact wpAny_pure fin
   |exact wpAny_bind (wpAny_pure (wpAny_pure fin))
 ·rintro b s' ⟨done,left,e1,e2,hb,rfl⟩
  have hz:left=[]:=by
   have h1:its.length<=done.length:=List.drop_eq_nil_iff.mp e2
   have h2:=congrArg List.length e1
   rw[List.length_append]at h2
   cases left with
   |nil=>rfl
   |cons _ _=>simp at h2;omega
  subst hz
  rw[List.append_nil]at e1
  subst e1
  show wpAny _ _ (retInt (Builtin.Tuple.tupleHashOf b.toList)) _ _ _
  rw[hb]
  refine wpAny_ret_mkInt ?_
  show wpAny _ _ (if(decide (-(2:Int) ^ 63<=Builtin.Tuple.tupleHashOf (trHs P w xs))&&decide (Builtin.Tuple.tupleHashOf (trHs P w xs)<2 ^ 63))=true then _ else _) Q E _
  simp only[trH,trD]at hQ
  unfold reduceHash at hQ
  by_cases hr:(decide (-(2:Int) ^ 63<=Builtin.Tuple.tupleHashOf (trHs P w xs))&&decide (Builtin.Tuple.tupleHashOf (trHs P w xs)<2 ^ 63))=true
  ·rw[if_pos hr]
   rw[if_pos hr]at hQ
   exact wpAny_pure (by simpa[Nat.add_assoc]using hQ)
  ·rw[if_neg hr]
   rw[if_neg hr]at hQ
   exact wpAny_bind (wpAny_rule (wpAny_pure (by simpa[Nat.add_assoc]using hQ)))
theorem x0g{P:Program}{w:World}{h:Heap}:∀(d:Nat)(A:Around)(x:KTr)(v:Value),kdep x<=d->A.units+d<cLine->TrA h x v->HsAt P w A h v (trH P w x) (trD x):=by
 intro d
 have atom:∀(A:Around)(k:Key)(v:Value),(q2d P w).is k v=true->HsAt P w A h v ((q2d P w).hash k) 1:=fun A k v hk E s Q eh hQ=>(q2d P w).pyHash hk hQ
 induction d with
 |zero=>
  intro A x v hd hu r
  cases x with
  |tup xs=>simp[kdep]at hd
  |int a=>obtain⟨t,rfl⟩:=r;exact atom A (.inl a) _ (z0d P w a t)
  |str a=>obtain⟨t,rfl⟩:=r;exact atom A (.inr a) _ (z0c P w a t)
 |succ d ih=>
  intro A x v hd hu r
  cases x with
  |tup xs=>
   obtain⟨a,its,rfl,p,q⟩:=r
   refine x7o (by omega) p q.length fun j x v e1 e2=>?_
   obtain⟨v',g,q'⟩:=q.get e1
   rw[e2]at g
   cases g
   have:=q7w e1
   simp only[kdep]at hd
   exact ih A.in1 x v (by omega) (by rw[z1k];omega) q'
  |int a=>exact ih A _ v (Nat.zero_le _) (by omega) r
  |str a=>exact ih A _ v (Nat.zero_le _) (by omega) r
theorem y5g{P:Program}{w:World}{A:Around}{E:Value->Shared->Prop}{s:Shared}:∀(n:Nat)(x:KTr)(v:Value)(Q:Bool->Shared->Prop),kdep x<=n->TrA s.heap x v->Q true s->wpAny (model P w) A (eqIsQuiet n v) Q E s:=by
 intro n
 induction n with
 |zero=>
  intro x v Q hd r hQ
  cases x with
  |tup xs=>simp[kdep]at hd
  |int a=>obtain⟨t,rfl⟩:=r;rw[eqIsQuiet_byValue 0 rfl];exact wpAny_pure hQ
  |str a=>obtain⟨t,rfl⟩:=r;rw[eqIsQuiet_byValue 0 rfl];exact wpAny_pure hQ
 |succ n ih=>
  intro x v Q hd r hQ
  cases x with
  |int a=>obtain⟨t,rfl⟩:=r;rw[eqIsQuiet_byValue _ rfl];exact wpAny_pure hQ
  |str a=>obtain⟨t,rfl⟩:=r;rw[eqIsQuiet_byValue _ rfl];exact wpAny_pure hQ
  |tup xs=>
   obtain⟨a,its,rfl,⟨o,ho,hc,n',hd'⟩,q⟩:=r
   have hT:s.TypeIs (.ref a) "tuple" :=⟨o,ho,hc⟩
   simp only[kdep]at hd
   unfold eqIsQuiet
   refine wpAny_bind (wpAny_specialOf hT F.slot_tuple_eq.lookup ?_)
   show wpAny _ _ (isInstance (.ref a) (.type "tuple") >>= _) _ _ s
   refine wpAny_bind (wpAny_isInstance hT isSubtype_tuple_tuple ?_)
   simp only[Bool.not_true,Bool.false_eq_true,if_false]
   refine wpAny_bind (wpAny_seqItems ho hd' ?_)
   refine wpAny_bind ?_
   show wpAny _ _ (forIn its.toArray _ _) _ _ s
   rw[<-Array.forIn_toList]
   refine wpAny_forIn_list _ (fun rest r s'=>r.1=none/\s'=s/\∀v∈rest,∃y,kdep y<=n/\TrA s.heap y v) _ ?_ ?_ _ _ ⟨rfl,rfl,fun v hv=>?_⟩
   ·rintro v rest r s' ⟨hr,rfl,hall⟩
    obtain⟨y,h1,h2⟩:=hall v List.mem_cons_self
    refine wpAny_bind (ih y v _ h1 h2 ?_)
    simp only[Bool.not_true,Bool.false_eq_true,if_false]
    exact wpAny_pure ⟨rfl,rfl,fun u hu'=>hall u (List.mem_cons_of_mem _ hu')⟩
   ·rintro⟨r1,r2⟩ s' ⟨hr,rfl,_⟩
    simp only at hr
    subst hr
    exact wpAny_pure hQ
   ·obtain⟨j,hj⟩:=List.mem_iff_getElem?.mp hv
    have hjl:j<its.length:=by
     have:=(List.getElem?_eq_some_iff.mp hj).1
     simpa using this
    have hjx:j<xs.length:=by rw[q.length];exact hjl
    obtain⟨v',g,q'⟩:=q.get (List.getElem?_eq_getElem hjx)
    have:v'=v:=by
     have hj':its[j]?=some v:=by simpa using hj
     rw[hj']at g
     exact(Option.some.inj g).symm
    subst this
    have:=q7w (List.getElem?_eq_getElem hjx)
    exact⟨_,by omega,q'⟩
def y5f(P:Program)(w:World):HeapKind P w KTr where
 is:=fun h x a=>(∃xs,x=.tup xs)/\kdep x<=8/\TrA h x (.ref a)
 hash:=trH P w
 draws:=trD
 room:=fun A=>A.units+8<cLine
 inj:=fun hx hy=>TrA.inj hx.2.2 hy.2.2
 keeps:=fun {h h' k a d o es ep} hk ho hd hs=>⟨hk.1,hk.2.1,TrA.at (fun b its ⟨o',e,c,n,q⟩=>⟨o',(hs.2 b (by
  rintro rfl
  obtain rfl:o'=o:=Option.some.inj (e.symm.trans ho)
  rw [hd]at q;exact nomatch q)).trans e,c,n,q⟩) hk.2.2⟩
 pyHash:=fun hu hk h=>x0g 8 _ _ _ hk.2.1 hu hk.2.2 _ _ _ rfl h
 eqBool:=fun {A E s x y a b Q} hu hx hy h=>x9l 8 A x y _ _ hx.2.1 hu hx.2.2 hy.2.2 _ _ _ _ h
 quiet:=fun hk h=>y5g 8 _ _ _ hk.2.1 hk.2.2 h
inductive HO where
 |lst (xs:List V)
 |tup (xs:List V)
 |dK (kvs:List (Key×V))|dT (kvs:List (List Key×V))|dH (c:Nat) (kvs:List (KTr×Addr×V))
 |set (S:Int->Bool) (n:Nat)
 |ins (C dx:Addr) (fs:List (Str×V))
 |own (x:Addr)
 |xd (fs:List (Str×V))
 |met (f x:Addr)
 |rng (lo hi:Int)
 |frz (o:Obj) (u:HO)
 |tbl (ps:Array Value)
 |ext (φ:Heap->Prop)
abbrev Hp:=Addr->Option HO
def upd(H:Hp)(a:Addr)(o:HO):Hp:=fun b=>if b=a then some o else H b
theorem q2h{H:Hp}{a:Addr}{o:HO}:upd H a o a=some o:=by unfold upd;rw[if_pos rfl]
theorem q0z{H:Hp}{a b:Addr}{o:HO}(h:b≠a):upd H a o b=H b:=by unfold upd;rw[if_neg h]
theorem z2l{H:Hp}{a b:Addr}{o u:HO}(h:H a=some o)(h':H b=some u)(d:o≠u):a≠b:=by
 intro e;subst e;rw[h]at h';exact d (Option.some.inj h')
theorem q2o{H:Hp}{a b:Addr}{o:HO}(h:H a=some o)(h':H b=none):a≠b:=by
 intro e;subst e;rw[h]at h';cases h'
section
variable(P:Program)(w:World)
def q3m(H:Hp)(h:Heap)(a:Addr):HO->Prop
 |.lst xs=>xs.length<=sizeLine/\∃(its:List Value)(n:Nat),Vals xs its/\h.get? a=some {cls:=.type "list",data:=.seq its.toArray n}
 |.tup xs=>xs.length<=sizeLine/\∃its:List Value,Vals xs its/\IsTup h a its.toArray
 |.dK kvs=>kvs.length<=sizeLine/\(a==sysModules)=false/\∃vs,KV kvs vs/\h.DictOf (q2d P w) a vs
 |.dT kvs=>kvs.length<=sizeLine/\(a==sysModules)=false/\∃xs:List (List Key×Addr×Value),
   Paired (fun(p:List Key×V) (q:List Key×Addr×Value)=>p.1=q.1/\H q.2.1=some (.tup (p.1.map kV))/\RelV p.2 q.2.2) kvs xs/\
   ∃o es ep,h.get? a=some o/\o.ExactDict/\o.data=.dict es ep/\es.toList=xs.map (entryOfKey (tupleKind (q2d P w)))/\(xs.map (·.1)).Nodup
 |.dH c kvs=>kvs.length<=sizeLine/\(a==sysModules)=false/\∃xs:List (KTr×Addr×Value),
   Paired (fun(p:KTr×Addr×V) (q:KTr×Addr×Value)=>p.1=q.1/\p.2.1=q.2.1/\RelV p.2.2 q.2.2) kvs xs/\
   ∃o es,h.get? a=some o/\o.ExactDict/\o.data=.dict es (c+kvs.length)/\es.toList=xs.map (entryOfKey (y5f P w))/\(xs.map (·.1)).Nodup
 |.set S n=>h.SetOf (intKind P w) a S n
 |.ins C dx fs=>H dx=some (.own a)/\fs.length<=1000/\dx≠a/\h.get? a=some (PySem.W.instObj C dx)/\
   ∃mA,h.Ns1 dx mA/\(∀f,RelO (fs.lookup f) (mA f))/\PySem.Within mA (fs.map (·.1))
 |.own _=>∃o,h.get? a=some o
 |.xd fs=>∃mA,h.Ns1 a mA/\∀f,RelO (fs.lookup f) (mA f)
 |.rng lo hi=>∃t u v,h.get? a=some {cls:=.type "range",data:=.fields #[.int lo t,.int hi u,.int 1 v]}
 |.frz o u=>h.get? a=some o/\q3m H h a u
 |.tbl ps=>h.get? a=some {cls:=.none,data:=.fields ps}
 |.met f x=>h.get? a=some (PySem.W.methodObj (.ref f) (.ref x))
 |.ext φ=>φ h/\(∃o,h.get? a=some o)/\∀h1 h2:Heap,φ h1->(∀o,h1.get? a=some o->h2.get? a=some o)->φ h2
def HOk(H:Hp)(h:Heap):Prop:=∀a o,H a=some o->q3m P w H h a o
end
section
variable{P:Program}{w:World}{H H':Hp}{h h':Heap}{a:Addr}{o:HO}
theorem q3m.lt(x:q3m P w H h a o):a<h.objs.size:=by
 cases o with
 |lst xs=>obtain⟨_,_,_,_,e⟩:=x;exact Heap.lt_size e
 |tup xs=>obtain⟨_,_,_,p⟩:=x;exact p.lt
 |dK kvs=>obtain⟨_,_,_,_,o,_,_,e,_⟩:=x;exact Heap.lt_size e
 |dT kvs=>obtain⟨_,_,_,_,o,_,_,e,_⟩:=x;exact Heap.lt_size e
 |dH c kvs=>obtain⟨_,_,_,_,o,_,e,_⟩:=x;exact Heap.lt_size e
 |set S n=>obtain⟨o,_,_,_,e,_⟩:=x;exact Heap.lt_size e
 |ins C dx fs=>obtain⟨_,_,_,e,_⟩:=x;exact Heap.lt_size e
 |own y=>obtain⟨_,e⟩:=x;exact Heap.lt_size e
 |xd fs=>obtain⟨_,⟨_,_,_,e,_⟩,_⟩:=x;exact Heap.lt_size e
 |rng lo hi=>obtain⟨_,_,_,e⟩:=x;exact Heap.lt_size e
 |frz ob u=>obtain⟨e,_⟩:=x;exact Heap.lt_size e
 |tbl ps=>exact Heap.lt_size (show h.get? a=some _ from x)
 |met f y=>exact Heap.lt_size (show h.get? a=some _ from x)
 |ext φ=>obtain⟨_,⟨_,e⟩,_⟩:=x;exact Heap.lt_size e
theorem Paired.mapP{α β:Type}{F G:α->β->Prop}:∀{l₁:List α}{l₂:List β},Paired F l₁ l₂->(∀a b,F a b->G a b)->Paired G l₁ l₂
 |_,_,.nil,_=>.nil
 |_,_,.cons r t,f=>.cons (f _ _ r) (Paired.mapP t f)
theorem q3m.stay(x:q3m P w H h a o)(k:∀b u,(b=a\/H b=some (.own a))->h.get? b=some u->h'.get? b=some u)
  (ho:∀b,H b=some (.own a)->H' b=some (.own a)) (ht:∀b xs,H b=some (.tup xs)->H' b=some (.tup xs)):q3m P w H' h' a o:=by
 induction o with
 |lst xs=>obtain⟨z,its,n,r,e⟩:=x;exact⟨z,its,n,r,k _ _ (.inl rfl) e⟩
 |tup xs=>obtain⟨z,its,r,ob,e,c⟩:=x;exact⟨z,its,r,ob,k _ _ (.inl rfl) e,c⟩
 |dK kvs=>obtain⟨z,y,vs,r,ob,es,ep,e,c⟩:=x;exact⟨z,y,vs,r,ob,es,ep,k _ _ (.inl rfl) e,c⟩
 |dT kvs=>
  obtain⟨z,y,xs,r,ob,es,ep,e,c⟩:=x
  exact⟨z,y,xs,Paired.mapP r fun p q z=>⟨z.1,ht _ _ z.2.1,z.2.2⟩,ob,es,ep,k _ _ (.inl rfl) e,c⟩
 |dH n kvs=>obtain⟨z,y,xs,r,ob,es,e,c⟩:=x;exact⟨z,y,xs,r,ob,es,k _ _ (.inl rfl) e,c⟩
 |set S n=>obtain⟨ob,es,ep,t,e,c⟩:=x;exact⟨ob,es,ep,t,k _ _ (.inl rfl) e,c⟩
 |ins C dx fs=>
  obtain⟨d,z,ne,e,mA,⟨od,es,ep,e2,c⟩,r⟩:=x
  exact⟨ho _ d,z,ne,k _ _ (.inl rfl) e,mA,⟨od,es,ep,k _ _ (.inr d) e2,c⟩,r⟩
 |own y=>obtain⟨ob,e⟩:=x;exact⟨ob,k _ _ (.inl rfl) e⟩
 |xd fs=>obtain⟨mA,⟨od,es,ep,e,c⟩,r⟩:=x;exact⟨mA,⟨od,es,ep,k _ _ (.inl rfl) e,c⟩,r⟩
 |rng lo hi=>obtain⟨t,u,v,e⟩:=x;exact⟨t,u,v,k _ _ (.inl rfl) e⟩
 |frz ob u ih=>obtain⟨e,q⟩:=x;exact⟨k _ _ (.inl rfl) e,ih q⟩
 |tbl ps=>
  have e:h.get? a=some {cls:=.none,data:=.fields ps}:=x
  show h'.get? a=some {cls:=.none,data:=.fields ps}
  exact k a _ (.inl rfl) e
 |met f y=>
  have e:h.get? a=some (PySem.W.methodObj (.ref f) (.ref y)):=x
  show h'.get? a=some (PySem.W.methodObj (.ref f) (.ref y))
  exact k a _ (.inl rfl) e
 |ext φ=>obtain⟨p,⟨o,e⟩,st⟩:=x;exact⟨st _ _ p fun o q=>k _ _ (.inl rfl) q,⟨o,k _ _ (.inl rfl) e⟩,st⟩
theorem HOk.lt(x:HOk P w H h)(e:H a=some o):a<h.objs.size:=(x a o e).lt
theorem HOk.fresh(x:HOk P w H h)(e:h.objs.size<=a):H a=none:=by
 cases q:H a with
 |none=>rfl
 |some u=>exact absurd (Nat.lt_of_lt_of_le (x.lt q) e) (Nat.lt_irrefl _)
theorem HOk.kept(x:HOk P w H h)(k:∀b u,h.get? b=some u->h'.get? b=some u):HOk P w H h':=fun a o e=>
 (x a o e).stay (fun b u _ q=>k b u q) (fun _ q=>q) fun _ _ q=>q
theorem HOk.laid(x:HOk P w H h)(k:∀b u,h.get? b=some u->h'.get? b=some u)(hp:h.objs.size<=a)(new:q3m P w (upd H a o) h' a o):HOk P w (upd H a o) h':=fun b u e=>by
 have hn:=x.fresh hp
 by_cases hb:b=a
 ·subst hb;rw[q2h]at e;cases e;exact new
 ·rw[q0z hb]at e
  exact(x b u e).stay (fun c v _ q=>k c v q) (fun c q=>by rw[q0z (q2o q hn)];exact q) fun c xs q=>by rw[q0z (q2o q hn)];exact q
end
def Rd(H:Hp)(a:Addr)(u:HO):Prop:=H a=some u\/∃o,H a=some (.frz o u)
theorem Rd.ok{P:Program}{w:World}{H:Hp}{h:Heap}{a:Addr}{u:HO}(r:Rd H a u)(x:HOk P w H h):q3m P w H h a u:=by
 rcases r with r|⟨o,r⟩
 ·exact x a u r
 ·obtain⟨_,q⟩:=x a _ r
  exact q
def Mut:Option HO->Prop
 |some (.lst _)=>True
 |some (.dK _)=>True
 |some (.dT _)=>True
 |some (.dH _ _)=>True
 |some (.set _ _)=>True
 |some (.ins _ _ _)=>True
 |some (.ext _)=>True
 |_=>False
section
variable{P:Program}{w:World}{H:Hp}{h h':Heap}{x e:Addr}{o':HO}
theorem HOk.write(ok:HOk P w H h)(mu:Mut (H x))(he:e=x\/H e=some (.own x))(k:∀b u,b≠e->h.get? b=some u->h'.get? b=some u)(heo:∃u,h'.get? e=some u)
  (new:q3m P w (upd H x o') h' x o'):HOk P w (upd H x o') h':=fun b u q=>by
 have nown:∀c y,H c=some (.own y)->c≠x:=fun c y r z=>by subst z;rw[r]at mu;exact mu
 have ntup:∀c xs,H c=some (.tup xs)->c≠x:=fun c xs r z=>by subst z;rw[r]at mu;exact mu
 by_cases hb:b=x
 ·subst hb;rw[q2h]at q;cases q;exact new
 ·rw[q0z hb]at q
  by_cases hbe:b=e
  ·have q':H b=some (.own x):=by
    rcases he with z|z
    ·exact absurd (hbe.trans z) hb
    ·rw[hbe];exact z
   rw[q]at q';cases q'
   obtain⟨v,hv⟩:=heo
   exact⟨v,by rw[hbe];exact hv⟩
  ·refine(ok b u q).stay (fun c v hc r=>k c v ?_ r) (fun c r=>by rw[q0z (nown c b r)];exact r) fun c xs r=>by rw[q0z (ntup c xs r)];exact r
   rcases hc with rfl|hc
   ·exact hbe
   ·rintro rfl
    rcases he with z|z
    ·exact nown c b hc z
    ·rw[hc]at z;cases z;exact hb rfl
end
structure Un(fs ex:List Addr)(H H':Hp)(h h':Heap):Prop where
 keep:∀b o,h.get? b=some o->H b=none->b∉fs->b∉ex->h'.get? b=some o
 slot:∀b o,h.get? b=some o->H b=none->b∈fs->b∉ex->∃sl,h'.get? b=some {o with slots:=sl}
 free:∀b o,h.get? b=some o->H b=none->b∉ex->H' b=none
 there:∀b o,h.get? b=some o->b∉ex->∃o',h'.get? b=some o'
 tups:∀b xs,H b=some (.tup xs)->H' b=some (.tup xs)
 frzs:∀b o u,H b=some (.frz o u)->H' b=some (.frz o u)
 tbls:∀b ps,H b=some (.tbl ps)->∃more,H' b=some (.tbl (ps++more))
section
variable{fs fs' ex ex':List Addr}{H H1 H2:Hp}{h h1 h2 h':Heap}{a x e:Addr}{o:HO}
theorem Un.any(u:Un fs ex H H1 h h1){b:Addr}{ob:Obj}(q:h.get? b=some ob)(n:H b=none)(hx:b∉ex):∃sl,h1.get? b=some {ob with slots:=sl}:=by
 by_cases hb:b∈fs
 ·exact u.slot b ob q n hb hx
 ·exact⟨ob.slots,u.keep b ob q n hb hx⟩
theorem Un.kept(k:∀b u,h.get? b=some u->h'.get? b=some u):Un fs ex H H h h':=
 ⟨fun b ob q _ _ _=>k b ob q,fun b ob q _ _ _=>⟨ob.slots,k b ob q⟩,fun _ _ _ n _=>n,fun b ob q _=>⟨ob,k b ob q⟩,fun _ _ q=>q,fun _ _ _ q=>q,fun _ ps q=>⟨#[],by rw[q];simp⟩⟩
theorem Un.refl:Un fs ex H H h h:=Un.kept fun _ _ q=>q
theorem Un.laid(k:∀b u,h.get? b=some u->h'.get? b=some u)(hp:h.objs.size<=a)(hn:H a=none):Un fs ex H (upd H a o) h h' where
 keep:=fun b u q _ _ _=>k b u q
 slot:=fun b u q _ _ _=>⟨u.slots,k b u q⟩
 free:=fun b u q n _=>by rw[q0z (Nat.ne_of_lt (Nat.lt_of_lt_of_le (Heap.lt_size q) hp))];exact n
 there:=fun b u q _=>⟨u,k b u q⟩
 tups:=fun b xs q=>by rw[q0z (q2o q hn)];exact q
 frzs:=fun b u xs q=>by rw[q0z (q2o q hn)];exact q
 tbls:=fun b ps q=>⟨#[],by rw[q0z (q2o q hn),q];simp⟩
theorem Un.write(mu:Mut (H x))(he:e=x\/H e=some (.own x))(k:∀b u,b≠e->h.get? b=some u->h'.get? b=some u)(heo:∃u,h'.get? e=some u):Un fs ex H (upd H x o) h h':=by
 have hx:∀b,H b=none->b≠x:=fun b n z=>by subst z;rw[n]at mu;exact mu
 have hb:∀b,H b=none->b≠e:=fun b n z=>by
  subst z
  rcases he with r|r
  ·exact hx b n r
  ·rw[n]at r;cases r
 have hm:∀b u,H b=some u->¬Mut (some u)->b≠x:=fun b u q nm z=>by subst z;rw[q]at mu;exact nm mu
 refine⟨fun b u q n _ _=>k b u (hb b n) q,fun b u q n _ _=>⟨u.slots,k b u (hb b n) q⟩,fun b u q n _=>by rw[q0z (hx b n)];exact n,fun b u q _=>?_,
  fun b xs q=>by rw [q0z (hm b _ q fun z=>z)];exact q,fun b u xs q=>by rw [q0z (hm b _ q fun z=>z)];exact q,fun b ps q=>⟨#[],by rw [q0z (hm b _ q fun z=>z),q];simp⟩⟩
 by_cases hbe:b=e
 ·subst hbe;exact heo
 ·exact⟨u,k b u hbe q⟩
end
def trk(h:Heap)(H:Hp):List Addr:=(List.range h.objs.size).filter fun a=>(H a).isSome
def hidT(h:Heap)(H:Hp):Heap:=PySem.W.hideAll h (trk h H)
theorem y2z(h:Heap)(H:Hp):(hidT h H).objs.size=h.objs.size:=PySem.W.hideAll_size _ _
theorem y7m{h:Heap}{H:Hp}{b:Addr}{o:Obj}(e:h.get? b=some o)(n:H b=none):(hidT h H).get? b=some o:=
 PySem.W.hideAll_get _ e fun hm=>by
  have q:(H b).isSome=true:=(List.mem_filter.mp hm).2
  rw[n]at q;simp at q
theorem x1t{h:Heap}{H:Hp}{b:Addr}{o:Obj}(e:(hidT h H).get? b=some o):h.get? b=some o/\H b=none:=by
 have e':h.get? b=some o:=PySem.W.of_hideAll (trk h H) e
 refine⟨e',?_⟩
 cases q:H b with
 |none=>rfl
 |some x=>
  have hm:b∈trk h H:=List.mem_filter.mpr ⟨List.mem_range.mpr (Heap.lt_size e'),by simp[q]⟩
  have z:(hidT h H).get? b=none:=PySem.W.hideAll_none (trk h H) hm
  rw[z]at e;cases e
structure Mod(K:Frag)(mg:Str->Option Value)(base:Heap):Prop where
 kin:K.In base
 glob:base.Ns mainGlobals mg
 blt:∃mb,base.Ns builtinsNs mb/\∀x:Str,x≠ "__name__" ->mb x=bootBuiltins x
 nolimit:base.NoLimit
/-- the context: a def's body (or a comprehension's block) running. base: fixed through the whole law;s₀,H₀: the entry;outer: the frames whose slots others may change (a def's callers);stack: all frames that run;
   ex: iterators that were made ahead of the entry and are walked here (a comprehension's);fn: the names whose cells were made at the entry (a def: all;a comprehension's block: its own);calm: not within an except suite;pn: pins that every state bears;xe: what is wanted of an exception that leaves the code -/
structure Cx where
 prog:Program
 w:World
 K:Frag
 mg:Str->Option Value
 base:Heap
 A:Around
 N:List Str
 s₀:Shared
 H₀:Hp
 env:Env
 outer:List Env
 stack:List Env
 ex:List Addr
 fn:Str->Bool
 calm:Bool
 pn:List (Addr×Obj)
 xe:Value->Shared->Prop
def frs(l:List Env):List Addr:=l.filterMap (·.frame)
abbrev Cx.fs(X:Cx):List Addr:=frs X.outer
def Vis(sc:Scope)(x:Str):Prop:=sc.names.lookup x=some .local\/sc.names.lookup x=some .cell\/sc.names.lookup x=some .free
def Loc(sc:Scope)(x:Str):Prop:=sc.names.lookup x=some .local\/sc.names.lookup x=some .cell
def Look(env:Env)(h:Heap)(m:Str->Option Value)(x:Str)(u:Value):Prop:=
 (env.kindOf x=some .local/\m x=some u)\/((env.kindOf x=some .cell\/env.kindOf x=some .free)/\∃c,env.cells.lookup x=some c/\h.IsCell c (some u))
structure Cx.Ok(X:Cx):Prop where
 mod:Mod X.K X.mg X.base
 kind:X.env.scope.kind=.function
 glob:X.env.globals=mainGlobals
 blt:X.env.builtins=builtinsNs
 above:X.s₀.heap.objs.size<=X.env.locals
 inj:∀x y c,X.env.cells.lookup x=some c->X.env.cells.lookup y=some c->x=y
 has:∀x,(X.env.kindOf x=some .cell\/X.env.kindOf x=some .free)->∃c,X.env.cells.lookup x=some c
 cab:∀x c,X.fn x=true->X.env.cells.lookup x=some c->X.s₀.heap.objs.size<=c
 hd:X.calm=true->X.A.handled=none
 frames:X.A.frames=some X.stack
 stk:X.stack=X.outer\/(X.stack=X.env::X.outer/\X.env.frame=some X.env.locals)
 exf:∀b∈X.ex,b≠X.env.locals/\∀x c,X.env.cells.lookup x=some c->c≠b
 bs:∀b o,X.base.get? b=some o->X.s₀.heap.get? b=some o/\X.H₀ b=none
 bsz:X.base.objs.size<=X.s₀.heap.objs.size
 noex:∀b o,X.base.get? b=some o->b∉X.ex
 exfs:∀b∈X.ex,b∉X.fs
 funs:X.s₀.heap.FunFrames X.base X.outer
 frf:∀b∈X.fs,X.H₀ b=none
structure Inv(X:Cx)(pins:List (Addr×Obj))(σ:List (Option V))(H:Hp)(s:Shared):Prop where
 ok:X.Ok
 os:s.os=X.s₀.os
 bare:AllBare s.gens
 base:Un X.fs X.ex X.H₀ H X.s₀.heap s.heap
 loc:∃m,s.heap.Ns X.env.locals m/\∀(i:Nat)(x:Str)(v:V),X.N[i]?=some x->σ[i]?=some (some v)->Vis X.env.scope x->∃u,RelV v u/\Look X.env s.heap m x u
 cell:∀x c,X.env.cells.lookup x=some c->∃v,s.heap.IsCell c v
 free:H X.env.locals=none
 freeC:∀x c,X.env.cells.lookup x=some c->H c=none
 pin:∀p∈X.pn++pins,s.heap.get? p.1=some p.2/\H p.1=none/\p.1≠X.env.locals/\p.1∉X.fs/\∀v,p.2.data≠.cell v
 hok:HOk X.prog X.w H s.heap
 len:σ.length=X.N.length
section
variable{X:Cx}{pins:List (Addr×Obj)}{σ:List (Option V)}{H H':Hp}{s:Shared}{h':Heap}
theorem Cx.Ok.nofr(ok:X.Ok){b:Addr}{o:Obj}(e:X.base.get? b=some o):b∉X.fs:=fun hb=>by
 have:=(ok.funs.mem hb).1
 rw[e]at this;cases this
theorem Inv.bs(I:Inv X pins σ H s):∀b o,X.base.get? b=some o->s.heap.get? b=some o/\H b=none:=fun b o e=>
 ⟨I.base.keep b o (I.ok.bs b o e).1 (I.ok.bs b o e).2 (I.ok.nofr e) (I.ok.noex b o e),I.base.free b o (I.ok.bs b o e).1 (I.ok.bs b o e).2 (I.ok.noex b o e)⟩
theorem Inv.bk(I:Inv X pins σ H s):∀b o,X.base.get? b=some o->s.heap.get? b=some o:=fun b o e=>(I.bs b o e).1
theorem Inv.mod(I:Inv X pins σ H s):Mod X.K X.mg X.base:=I.ok.mod
theorem Inv.kIn(I:Inv X pins σ H s):X.K.In s.heap:=I.ok.mod.kin.keeps I.bk
theorem Inv.lt(I:Inv X pins σ H s):X.env.locals<s.heap.objs.size:=let ⟨_,hn,_⟩:=I.loc;hn.lt
theorem Inv.sz(I:Inv X pins σ H s):X.s₀.heap.objs.size<=s.heap.objs.size:=Nat.le_trans I.ok.above (Nat.le_of_lt I.lt)
theorem Inv.nofs(I:Inv X pins σ H s){a:Addr}(h:s.heap.objs.size<=a):a∉X.fs:=fun hb=>by
 obtain⟨_,o,ho,_⟩:=I.ok.funs.mem hb
 exact absurd (Nat.lt_of_lt_of_le (Heap.lt_size ho) (Nat.le_trans I.sz h)) (Nat.lt_irrefl _)
theorem Inv.cne(I:Inv X pins σ H s):∀x c,X.env.cells.lookup x=some c->c≠X.env.locals:=fun x c e z=>by
 obtain⟨v,o,ho,hd⟩:=I.cell x c e
 obtain⟨m,⟨o',es,ep,ho',hd',_⟩,_⟩:=I.loc
 rw[z,ho']at ho;cases ho;rw[hd']at hd;cases hd
theorem Inv.funs(I:Inv X pins σ H s):s.heap.FunFrames X.base X.outer:=by
 have all:∀(l:List Env),(∀b∈frs l,b∈X.fs)->X.s₀.heap.FunFrames X.base l->s.heap.FunFrames X.base l:=by
  intro l
  induction l with
  |nil=>intro _ _;trivial
  |cons env r ih=>
   intro hs hl
   obtain⟨hk,⟨L,o,hf,hn,ho,hd⟩,hr⟩:=hl
   have hL:L∈X.fs:=hs L (by unfold frs;rw[List.filterMap_cons,hf];exact List.mem_cons_self)
   obtain⟨sl,e⟩:=I.base.slot L o ho (I.ok.frf L hL) hL fun z=>I.ok.exfs L z hL
   exact⟨hk,⟨L,_,hf,hn,e,hd⟩,ih (fun b hb=>hs b (by unfold frs;rw[List.filterMap_cons,hf];exact List.mem_cons_of_mem _ hb)) hr⟩
 exact all X.outer (fun _ hb=>hb) I.ok.funs
theorem Inv.stack(I:Inv X pins σ H s):s.heap.FunFrames X.base X.stack:=by
 rcases I.ok.stk with e|⟨e,hf⟩
 ·rw[e];exact I.funs
 ·rw[e]
  obtain⟨m,hn,_⟩:=I.loc
  refine .cons (by rw[I.ok.kind];decide) hf hn ?_ I.funs
  exact Heap.get?_none_of_le (Nat.le_trans I.ok.bsz I.ok.above)
theorem Inv.stkSub(I:Inv X pins σ H s):∀b∈frs X.stack,b∈X.env.locals::X.fs:=fun b hb=>by
 rcases I.ok.stk with e|⟨e,hf⟩
 ·rw[e]at hb;exact List.mem_cons_of_mem _ hb
 ·rw[e]at hb
  unfold frs at hb
  rw[List.filterMap_cons,hf]at hb
  exact hb
theorem Inv.stkFree(I:Inv X pins σ H s):∀b∈frs X.stack,H b=none:=fun b hb=>by
 rcases List.mem_cons.mp (I.stkSub b hb)with e|hb
 ·rw[e];exact I.free
 ·obtain⟨_,o,ho,_⟩:=I.ok.funs.mem hb
  exact I.base.free b o ho (I.ok.frf b hb) fun z=>I.ok.exfs b z hb
theorem Inv.step{g':Array GenState}{t':Nat}{d':Drawn}{ch:List Addr}(I:Inv X pins σ H s)
  (hch:∀b∈ch,(b∈X.ex\/X.s₀.heap.objs.size<=b)/\b≠X.env.locals/\(∀x c,X.env.cells.lookup x=some c->c≠b)/\∀p∈X.pn++pins,p.1≠b)
  (keep:∀b o,b≠X.env.locals->b∉X.fs->b∉ch->s.heap.get? b=some o->H b=none->h'.get? b=some o)
  (slot:∀b o,b≠X.env.locals->b∈X.fs->b∉ch->s.heap.get? b=some o->H b=none->∃sl,h'.get? b=some {o with slots:=sl}) (free:∀b o,b∉ch->s.heap.get? b=some o->H b=none->H' b=none)
  (there:∀b o,b∉ch->s.heap.get? b=some o->∃o',h'.get? b=some o')
  (tups:∀b xs,H b=some (.tup xs)->H' b=some (.tup xs)) (frzs:∀b o u,H b=some (.frz o u)->H' b=some (.frz o u)) (tbls:∀b ps,H b=some (.tbl ps)->∃more,H' b=some (.tbl (ps++more)))
  (ns:∀m,s.heap.Ns X.env.locals m->h'.Ns X.env.locals m) (hok:HOk X.prog X.w H' h') (hg:AllBare g') :
  Inv X pins σ H' {s with heap:=h',gens:=g',drawn:=d',toks:=t' }:=by
 have neL:∀b o,X.s₀.heap.get? b=some o->b≠X.env.locals:=fun b o e=>Nat.ne_of_lt (Nat.lt_of_lt_of_le (Heap.lt_size e) I.ok.above)
 have neC:∀b o,X.s₀.heap.get? b=some o->b∉X.ex->b∉ch:=fun b o e hx hb=>by
  rcases(hch b hb).1 with z|z
  ·exact hx z
  ·exact absurd (Nat.lt_of_lt_of_le (Heap.lt_size e) z) (Nat.lt_irrefl _)
 have cellK:∀x c,X.env.cells.lookup x=some c->∀v,s.heap.IsCell c v->h'.IsCell c v:=fun x c e v hh1=>by
  obtain⟨o,ho,hd⟩:=hh1
  have nch:c∉ch:=fun z=>(hch c z).2.2.1 x c e rfl
  by_cases hc:c∈X.fs
  ·obtain⟨sl,q⟩:=slot c o (I.cne x c e) hc nch ho (I.freeC x c e)
   exact⟨_,q,hd⟩
  ·exact⟨o,keep c o (I.cne x c e) hc nch ho (I.freeC x c e),hd⟩
 refine⟨I.ok,I.os,hg,⟨fun b o e n hb hx=>?_,fun b o e n hb hx=>?_,fun b o e n hx=>?_,fun b o e hx=>?_,fun b xs e=>tups b xs (I.base.tups b xs e),fun b o xs e=>frzs b o xs (I.base.frzs b o xs e),fun b ps e=>?_⟩,?_,fun x c e=>?_,?_,fun x c e=>?_,fun p hp=>?_,hok,I.len⟩
 ·exact keep b o (neL b o e) hb (neC b o e hx) (I.base.keep b o e n hb hx) (I.base.free b o e n hx)
 ·obtain⟨sl,e1⟩:=I.base.slot b o e n hb hx
  obtain⟨sl',e2⟩:=slot b _ (neL b o e) hb (neC b o e hx) e1 (I.base.free b o e n hx)
  exact⟨sl',e2⟩
 ·obtain⟨o',e1⟩:=I.base.there b o e hx
  exact free b o' (neC b o e hx) e1 (I.base.free b o e n hx)
 ·obtain⟨o',e1⟩:=I.base.there b o e hx
  exact there b o' (neC b o e hx) e1
 ·obtain⟨m1,e1⟩:=I.base.tbls b ps e
  obtain⟨m2,e2⟩:=tbls b _ e1
  exact⟨m1++m2,by rw[e2,Array.append_assoc]⟩
 ·obtain⟨m,hn,hl⟩:=I.loc
  refine⟨m,ns m hn,fun i x v e1 e2 e3=>?_⟩
  obtain⟨u,r,l⟩:=hl i x v e1 e2 e3
  refine⟨u,r,?_⟩
  rcases l with l|⟨k,c,e,z⟩
  ·exact .inl l
  ·exact .inr ⟨k,c,e,cellK x c e _ z⟩
 ·obtain⟨v,z⟩:=I.cell x c e
  exact⟨v,cellK x c e v z⟩
 ·obtain⟨m,⟨o,_,_,ho,_⟩,_⟩:=I.loc
  exact free _ o (fun z=>(hch _ z).2.1 rfl) ho I.free
 ·obtain⟨v,o,ho,hd⟩:=I.cell x c e
  exact free c o (fun z=>(hch c z).2.2.1 x c e rfl) ho (I.freeC x c e)
 ·obtain⟨e,n,ne,nf,d⟩:=I.pin p hp
  have nch:p.1∉ch:=fun z=>(hch p.1 z).2.2.2 p hp rfl
  exact⟨keep p.1 p.2 ne nf nch e n,free p.1 p.2 nch e n,ne,nf,d⟩
theorem Inv.un{t':Nat}(I:Inv X pins σ H s)(u:Un X.fs [] H H' s.heap h')(hok:HOk X.prog X.w H' h'):Inv X pins σ H' {s with heap:=h',toks:=t' }:=by
 obtain⟨m,⟨o,es,ep,ho,r⟩,_⟩:=id I.loc
 obtain⟨sl,hL⟩:=u.any ho I.free (by simp)
 exact I.step (g':=s.gens) (d':=s.drawn) (ch:=[]) (fun _ z=>nomatch z) (fun b o _ hb _ e n=>u.keep b o e n hb (by simp)) (fun b o _ hb _ e n=>u.slot b o e n hb (by simp)) (fun b o _ e n=>u.free b o e n (by simp)) (fun b o _ e=>u.there b o e (by simp)) u.tups u.frzs u.tbls (fun m' hm=>by
  obtain ⟨o',es',ep',ho',r'⟩:=hm
  rw [ho]at ho';cases ho'
  exact ⟨_,es',ep',hL,r'⟩) hok I.bare
theorem Inv.call{g':Array GenState}{t':Nat}{d':Drawn}{ch:List Addr}(I:Inv X pins σ H s)(u:Un (frs X.stack) ch H H' s.heap h')(hok:HOk X.prog X.w H' h')(hg:AllBare g')
  (hch:∀b∈ch,(b∈X.ex\/X.s₀.heap.objs.size<=b)/\b≠X.env.locals/\(∀x c,X.env.cells.lookup x=some c->c≠b)/\∀p∈X.pn++pins,p.1≠b) :
  Inv X pins σ H' {s with heap:=h',gens:=g',drawn:=d',toks:=t' }:=by
 obtain⟨m,⟨o,es,ep,ho,r⟩,_⟩:=id I.loc
 obtain⟨sl,hL⟩:=u.any ho I.free fun z=>(hch _ z).2.1 rfl
 exact I.step (ch:=ch) hch (fun b o hL hb hc e n=>u.keep b o e n (fun z=>(List.mem_cons.mp (I.stkSub b z)).elim hL hb) hc) (fun b o _ _ hc e n=>u.any e n hc) (fun b o hc e n=>u.free b o e n hc) (fun b o hc e=>u.there b o e hc) u.tups u.frzs u.tbls (fun m' hm=>by
  obtain ⟨o',es',ep',ho',r'⟩:=hm
  rw [ho]at ho';cases ho'
  exact ⟨_,es',ep',hL,r'⟩) hok hg
theorem Inv.turned{t':Nat}{it:Addr}(I:Inv X pins σ H s)(k:∀b o,b≠it->s.heap.get? b=some o->h'.get? b=some o)(hn:H it=none)(hL:it≠X.env.locals)
  (h1:it∈X.ex\/X.s₀.heap.objs.size<=it) (h2:∀x c,X.env.cells.lookup x=some c->c≠it) (h3:∀p∈X.pn++pins,p.1≠it):Inv X pins σ H {s with heap:=h',toks:=t' }:=by
 have nit:∀b u,H b=some u->b≠it:=fun b u e z=>by rw[z,hn]at e;cases e
 refine I.step (g':=s.gens) (d':=s.drawn) (ch:=[it]) (fun b hb=>?_) (fun b o _ _ hc e _=>k b o (fun z=>hc (by simp[z])) e) (fun b o _ _ hc e _=>⟨o.slots,k b o (fun z=>hc (by simp[z])) e⟩) (fun _ _ _ _ n=>n)
  (fun b o hc e=>⟨o,k b o (fun z=>hc (by simp[z])) e⟩) (fun _ _ e=>e) (fun _ _ _ e=>e) (fun b ps e=>⟨#[],by rw[e];simp⟩) (fun m hm=>?_) (fun b u e=>?_) I.bare
 ·have e:b=it:=by simpa using hb
  subst e
  exact⟨h1,hL,h2,h3⟩
 ·obtain⟨o,es,ep,ho,r⟩:=hm
  exact⟨o,es,ep,k _ o (Ne.symm hL) ho,r⟩
 ·refine(I.hok b u e).stay (fun c v hc q=>k c v ?_ q) (fun _ q=>q) fun _ _ q=>q
  rcases hc with z|z
  ·rw[z];exact nit b u e
  ·exact nit c _ z
theorem Inv.tok(I:Inv X pins σ H s)(t:Nat):Inv X pins σ H {s with toks:=t}:=I.un (h':=s.heap) (t':=t) Un.refl I.hok
theorem Inv.kept{t':Nat}(I:Inv X pins σ H s)(k:∀b u,s.heap.get? b=some u->h'.get? b=some u):Inv X pins σ H {s with heap:=h',toks:=t' }:=I.un (Un.kept k) (I.hok.kept k)
theorem Inv.laid{a:Addr}{o:HO}{t':Nat}(I:Inv X pins σ H s)(k:∀b u,s.heap.get? b=some u->h'.get? b=some u)(hp:s.heap.objs.size<=a)(new:q3m X.prog X.w (upd H a o) h' a o) :
  Inv X pins σ (upd H a o) {s with heap:=h',toks:=t' }:=I.un (Un.laid k hp (I.hok.fresh hp)) (I.hok.laid k hp new)
theorem Inv.write{x e:Addr}{o:HO}{t':Nat}(I:Inv X pins σ H s)(mu:Mut (H x))(he:e=x\/H e=some (.own x))(k:∀b u,b≠e->s.heap.get? b=some u->h'.get? b=some u)(heo:∃u,h'.get? e=some u)
  (new:q3m X.prog X.w (upd H x o) h' x o):Inv X pins σ (upd H x o) {s with heap:=h',toks:=t' }:=I.un (Un.write mu he k heo) (I.hok.write mu he k heo new)
theorem Inv.pins_of{pins':List (Addr×Obj)}(I:Inv X pins σ H s)(h:∀p∈pins',s.heap.get? p.1=some p.2/\H p.1=none/\p.1≠X.env.locals/\p.1∉X.fs/\∀v,p.2.data≠.cell v):Inv X pins' σ H s:=
 ⟨I.ok,I.os,I.bare,I.base,I.loc,I.cell,I.free,I.freeC,fun p hp=>(List.mem_append.mp hp).elim (fun z=>I.pin p (List.mem_append_left _ z)) (h p),I.hok,I.len⟩
theorem z2k{N:List Str}(hN:N.Nodup){i j:Nat}{x:Str}(a:N[i]?=some x)(b:N[j]?=some x):i=j:=by
 obtain⟨h1,e1⟩:=List.getElem?_eq_some_iff.mp a
 obtain⟨h2,e2⟩:=List.getElem?_eq_some_iff.mp b
 exact(List.getElem_inj hN).mp (e1.trans e2.symm)
theorem z3l{M:Model}{A:Around}{E:Value->Shared->Prop}{i:Nat}{x:Str}{v:V}{u:Value}{Q:Unit->Shared->Prop}(I:Inv X pins σ H s)(hN:X.N.Nodup)(hi:X.N[i]?=some x)(hx:Loc X.env.scope x)(r:RelV v u)
  (h:∀s',Inv X pins (σ.set i (some v)) H s'->(∃a,Heap.SameBut a s.heap s'.heap/\(a=X.env.locals\/X.env.cells.lookup x=some a))->Q () s') (hf:X.fn x=true\/X.env.scope.names.lookup x=some .local:=by first|exact .inl rfl|exact .inr rfl|assumption):wpAny M A (storeName X.env x u) Q E s:=by
 obtain⟨m,hn,hl⟩:=id I.loc
 have hcls:(X.env.scope.kind==.class||(X.env.scope.kind==.module&&X.env.locals != X.env.globals))=false:=by rw[I.ok.kind];rfl
 have hiσ:i<σ.length:=by rw[I.len];exact(List.getElem?_eq_some_iff.mp hi).1
 have cne:=I.cne
 have tracked:∀{a:Addr}{h':Heap},(∃o,s.heap.get? a=some o/\H a=none)->Heap.SameBut a s.heap h'->HOk X.prog X.w H h':=fun {a h'} ha hs b ob e=>by
  obtain⟨_,_,hfree⟩:=ha
  refine(I.hok b ob e).stay (fun c w' hc q=>(hs.2 c ?_).trans q) (fun _ q=>q) fun _ _ q=>q
  rintro rfl
  rcases hc with rfl|hc
  ·rw[hfree]at e;cases e
  ·rw[hfree]at hc;cases hc
 rcases hx with hk|hk
 ·refine wpAny_storeName_local hk hn (fun h' hn' hs=>?_) hcls
  obtain⟨oL,_,_,hoL,_⟩:=id hn
  refine h _ ⟨I.ok,I.os,I.bare,⟨fun b o e n hb hx=>?_,fun b o e n hb hx=>?_,I.base.free,fun b o e hx=>?_,I.base.tups,I.base.frzs,I.base.tbls⟩,⟨_,hn',fun j y v' e1 e2 e3=>?_⟩,fun y c e=>?_,I.free,I.freeC,fun p hp=>?_,tracked ⟨oL,hoL,I.free⟩ hs,by simpa using I.len⟩ ⟨_,hs,.inl rfl⟩
  ·exact(hs.2 b (Nat.ne_of_lt (Nat.lt_of_lt_of_le (Heap.lt_size e) I.ok.above))).trans (I.base.keep b o e n hb hx)
  ·obtain⟨sl,e1⟩:=I.base.slot b o e n hb hx
   exact⟨sl,(hs.2 b (Nat.ne_of_lt (Nat.lt_of_lt_of_le (Heap.lt_size e) I.ok.above))).trans e1⟩
  ·obtain⟨o',e1⟩:=I.base.there b o e hx
   exact⟨o',(hs.2 b (Nat.ne_of_lt (Nat.lt_of_lt_of_le (Heap.lt_size e) I.ok.above))).trans e1⟩
  ·by_cases hj:j=i
   ·subst hj
    rw[hi]at e1;cases e1
    rw[List.getElem?_set_self hiσ]at e2
    cases e2
    exact⟨u,r,.inl ⟨hk,by simp⟩⟩
   ·rw[List.getElem?_set_ne (Ne.symm hj)]at e2
    obtain⟨u',r',q⟩:=hl j y v' e1 e2 e3
    refine⟨u',r',?_⟩
    rcases q with⟨k,e⟩|⟨k,c,e,z⟩
    ·refine .inl ⟨k,?_⟩
     have:y≠x:=fun e=>hj (z2k hN e1 (e▸hi))
     simp[this,e]
    ·exact .inr ⟨k,c,e,z.sameBut hs (cne y c e)⟩
  ·obtain⟨w',z⟩:=I.cell y c e
   exact⟨w',z.sameBut hs (cne y c e)⟩
  ·obtain⟨e,n,ne,nf,d⟩:=I.pin p hp
   exact⟨(hs.2 p.1 ne).trans e,n,ne,nf,d⟩
 ·have hfn:X.fn x=true:=by
   rcases hf with z|z
   ·exact z
   ·rw[z]at hk;cases hk
  obtain⟨c,hc⟩:=I.ok.has x (.inl hk)
  obtain⟨w',z⟩:=I.cell x c hc
  refine wpAny_storeName_cell I.ok.kind hk hc z (fun h' hc' hs=>?_)
  obtain⟨oc,hoc,hocd⟩:=id z
  refine h {s with heap:=h' } ⟨I.ok,I.os,I.bare,⟨fun b o e n hb hx=>?_,fun b o e n hb hx=>?_,I.base.free,fun b o e hx=>?_,I.base.tups,I.base.frzs,I.base.tbls⟩,⟨m,hn.sameBut hs (Ne.symm (cne x c hc)),fun j y v' e1 e2 e3=>?_⟩,fun y c' e=>?_,I.free,I.freeC,fun p hp=>?_,tracked ⟨oc,hoc,I.freeC x c hc⟩ hs,by simpa using I.len⟩ ⟨c,hs,.inr hc⟩
  ·exact(hs.2 b (Nat.ne_of_lt (Nat.lt_of_lt_of_le (Heap.lt_size e) (I.ok.cab x c hfn hc)))).trans (I.base.keep b o e n hb hx)
  ·obtain⟨sl,e1⟩:=I.base.slot b o e n hb hx
   exact⟨sl,(hs.2 b (Nat.ne_of_lt (Nat.lt_of_lt_of_le (Heap.lt_size e) (I.ok.cab x c hfn hc)))).trans e1⟩
  ·obtain⟨o',e1⟩:=I.base.there b o e hx
   exact⟨o',(hs.2 b (Nat.ne_of_lt (Nat.lt_of_lt_of_le (Heap.lt_size e) (I.ok.cab x c hfn hc)))).trans e1⟩
  ·by_cases hj:j=i
   ·subst hj
    rw[hi]at e1;cases e1
    rw[List.getElem?_set_self hiσ]at e2
    cases e2
    exact⟨u,r,.inr ⟨.inl hk,c,hc,hc'⟩⟩
   ·rw[List.getElem?_set_ne (Ne.symm hj)]at e2
    obtain⟨u',r',q⟩:=hl j y v' e1 e2 e3
    refine⟨u',r',?_⟩
    rcases q with q|⟨k,c',e,z'⟩
    ·exact .inl q
    ·refine .inr ⟨k,c',e,z'.sameBut hs ?_⟩
     rintro rfl
     exact hj (z2k hN e1 (I.ok.inj _ _ _ e hc▸hi))
  ·by_cases hcc:c'=c
   ·subst hcc;exact⟨_,hc'⟩
   ·obtain⟨w2,z2⟩:=I.cell y c' e
    exact⟨w2,z2.sameBut hs hcc⟩
  ·obtain⟨e,n,ne,nf,d⟩:=I.pin p hp
   refine⟨(hs.2 p.1 ?_).trans e,n,ne,nf,d⟩
   intro q
   rw[q,hoc]at e
   have q':oc=p.2:=Option.some.inj e
   exact d w' (by rw[<-q'];exact hocd)
theorem q9h{M:Model}{A:Around}{E:Value->Shared->Prop}{i:Nat}{x:Str}{v:V}{u:Value}{Q:Unit->Shared->Prop}(I:Inv X pins σ H s)(hN:X.N.Nodup)(hi:X.N[i]?=some x)(hx:Loc X.env.scope x)(r:RelV v u)
  (h:∀s',Inv X pins (σ.set i (some v)) H s'->Q () s') (hf:X.fn x=true\/X.env.scope.names.lookup x=some .local:=by first|exact .inl rfl|exact .inr rfl|assumption):wpAny M A (storeName X.env x u) Q E s:=
 z3l I hN hi hx r (fun s' I' _=>h s' I') hf
theorem Inv.call'{s':Shared}{ch:List Addr}(I:Inv X pins σ H s)(ho:s'.os=s.os)(u:Un (frs X.stack) ch H H' s.heap s'.heap)(hok:HOk X.prog X.w H' s'.heap)(hg:AllBare s'.gens)
  (hch:∀b∈ch,(b∈X.ex\/X.s₀.heap.objs.size<=b)/\b≠X.env.locals/\(∀x c,X.env.cells.lookup x=some c->c≠b)/\∀p∈X.pn++pins,p.1≠b):Inv X pins σ H' s':=by
 obtain⟨h',g',d',t',o'⟩:=s'
 have e:o'=s.os:=ho
 subst e
 exact I.call (g':=g') (t':=t') (d':=d') u hok hg hch
end
abbrev XK:=Value->Option Addr->Hp->Prop
abbrev St:=List (Option V)
abbrev VK:=V->Hp->Prop
abbrev TE:=St->Hp->VK->Prop
abbrev TT:=St->Hp->(Bool->Hp->Prop)->Prop
abbrev TA:=St->Hp->(List V->Hp->Prop)->Prop
structure Ends where
 nx:St->Hp->Prop
 rt:VK
 bk:St->Hp->Prop:=fun _ _=>False
 ct:St->Hp->Prop:=fun _ _=>False
abbrev TS:=Ends->St->Hp->Prop
def EP(X:Cx)(pins:List (Addr×Obj))(σ:St)(Q:VK)(u:Value)(s':Shared):Prop:=∃v H',Inv X pins σ H' s'/\RelV v u/\Q v H'
def TP(X:Cx)(pins:List (Addr×Obj))(σ:St)(Q:Bool->Hp->Prop)(b:Bool)(s':Shared):Prop:=∃H',Inv X pins σ H' s'/\Q b H'
def AP(X:Cx)(pins:List (Addr×Obj))(σ:St)(Q:List V->Hp->Prop)(us:List Value)(s':Shared):Prop:=∃vs H',Inv X pins σ H' s'/\Vals vs us/\Q vs H'
def SP(X:Cx)(pins:List (Addr×Obj))(D:Ends)(f:Flow)(s':Shared):Prop:=
 match f with
 |.next=>∃σ' H',Inv X pins σ' H' s'/\D.nx σ' H'
 |.brk=>∃σ' H',Inv X pins σ' H' s'/\D.bk σ' H'
 |.cont=>∃σ' H',Inv X pins σ' H' s'/\D.ct σ' H'
 |.ret u=>∃v σ' H',Inv X pins σ' H' s'/\RelV v u/\D.rt v H'
def PE(X:Cx)(e:Expr)(t:TE):Prop:=
 ∀(pins:List (Addr×Obj))(s:Shared)(σ:St)(H:Hp)(Q:VK),Inv X pins σ H s->t σ H Q->wpAny (model X.prog X.w) X.A (eval e X.env) (EP X pins σ Q) X.xe s
def PT(X:Cx)(e:Expr)(t:TT):Prop:=
 ∀(pins:List (Addr×Obj))(s:Shared)(σ:St)(H:Hp)(Q:Bool->Hp->Prop),Inv X pins σ H s->t σ H Q->wpAny (model X.prog X.w) X.A (isTrue e X.env (eval e X.env)) (TP X pins σ Q) X.xe s
def PW(X:Cx)(e:Expr)(t:TT):Prop:=
 ∀(whole:Sem Value)(pins:List (Addr×Obj))(s:Shared)(σ:St)(H:Hp)(Q:Bool->Hp->Prop),Inv X pins σ H s->t σ H Q->wpAny (model X.prog X.w) X.A (isTrue e X.env whole) (TP X pins σ Q) X.xe s
def PA(X:Cx)(es:List Expr)(t:TA):Prop:=
 ∀(pos:Pos)(pins:List (Addr×Obj))(s:Shared)(σ:St)(H:Hp)(Q:List V->Hp->Prop),Inv X pins σ H s->t σ H Q->wpAny (model X.prog X.w) X.A (spliced (backTo pos (starEach es X.env))) (AP X pins σ Q) X.xe s
def PS(X:Cx)(st:Stmt)(t:TS):Prop:=
 ∀(pins:List (Addr×Obj))(s:Shared)(σ:St)(H:Hp)(D:Ends),Inv X pins σ H s->t D σ H->wpAny (model X.prog X.w) X.A (exec st X.env) (SP X pins D) X.xe s
def PSs(X:Cx)(st:List Stmt)(t:TS):Prop:=
 ∀(pins:List (Addr×Obj))(s:Shared)(σ:St)(H:Hp)(D:Ends),Inv X pins σ H s->t D σ H->wpAny (model X.prog X.w) X.A (execs st X.env) (SP X pins D) X.xe s
theorem thn{α:Type}{t:Sem α}{Q Q':α->Shared->Prop}{M:Model}{A:Around}{E:Value->Shared->Prop}{s:Shared}(h:wpAny M A t Q E s)(hQ:∀a s,Q a s->Q' a s):wpAny M A t Q' E s:=wpAny_mono h hQ fun _ _ x=>x
section
variable{X:Cx}
def tVar(i:Nat):TE:=fun σ H Q=>∃v,σ[i]?=some (some v)/\Q v H
def tC(v:V):TE:=fun _ H Q=>Q v H
theorem x5q{i:Nat}{x:Str}{pos:Pos}(hN:X.N[i]?=some x)(hv:Vis X.env.scope x)(hd:(x==("__debug__" : Str))=false:=by decide)(hcd:(x==("__classdict__" : Str))=false:=by decide):PE X (.Name x pos) (tVar i):=by
 intro pins s σ H Q I h
 obtain⟨v,e,h⟩:=h
 obtain⟨m,hn,hl⟩:=I.loc
 obtain⟨u,r,l⟩:=hl i x v hN e hv
 have fin:EP X pins σ Q u s:=⟨v,H,I,r,h⟩
 rcases l with⟨hk,hm⟩|⟨hk,c,hc,hcell⟩
 ·exact wpAny_Name (wpAny_loadName_local I.ok.kind hk hn hm fin) hd
 ·rcases hk with hk|hk
  ·exact wpAny_Name (wpAny_loadName_cell I.ok.kind hk hc hcell fin) hd
  ·exact wpAny_Name (wpAny_loadName_free I.ok.kind hk hc hcell fin hcd) hd
theorem x5w {i j pos}:PE X (.Constant (.int i) j pos) (tC (.int i)):=fun _ _ _ H _ I h=>wpAny_Constant_int ⟨.int i,H,I.tok _,⟨_,rfl⟩,h⟩
theorem w0m {b j pos}:PE X (.Constant (.bool b) j pos) (tC (.bl b)):=fun _ _ _ H _ I h=>Constant_bool ⟨.bl b,H,I,rfl,h⟩
theorem x5u {j pos}:PE X (.Constant .none j pos) (tC .non):=fun _ _ _ H _ I h=>Constant_none ⟨.non,H,I,rfl,h⟩
theorem x5r {x j pos}:PE X (.Constant (.str x) j pos) (tC (.str x)):=fun _ _ _ H _ I h=>Calls.Constant_str ⟨.str x,H,I.tok _,⟨_,rfl⟩,h⟩
def Gl(X:Cx)(x:Str):Prop:=X.env.kindOf x=some .globalImplicit
theorem q8j{E:Value->Shared->Prop}{pins:List (Addr×Obj)}{s:Shared}{σ:St}{H:Hp}{x:Str}{u:Value}{pos:Pos}{Q:Value->Shared->Prop}(I:Inv X pins σ H s)(hg:Gl X x)(hm:X.mg x=some u)(h:Q u s)
  (hd:(x==("__debug__" : Str))=false:=by decide):wpAny (model X.prog X.w) X.A (eval (.Name x pos) X.env) Q E s:=
 Calls.Name_function_global I.ok.kind hg (Calls.loadGlobal_global (by rw[I.ok.glob];exact I.mod.glob.keeps I.bk) hm h) hd
theorem z1j{E:Value->Shared->Prop}{pins:List (Addr×Obj)}{s:Shared}{σ:St}{H:Hp}{x:Str}{u:Value}{pos:Pos}{Q:Value->Shared->Prop}(I:Inv X pins σ H s)(hg:Gl X x)(hm:X.mg x=none)(hv:bootBuiltins x=some u)(h:Q u s)
  (hn:x≠ "__name__" :=by decide) (hd:(x==("__debug__" : Str))=false:=by decide):wpAny (model X.prog X.w) X.A (eval (.Name x pos) X.env) Q E s:=by
 obtain⟨mb,h1,h2⟩:=I.mod.blt
 exact Calls.Name_function_global I.ok.kind hg (Calls.loadGlobal_builtin (by rw[I.ok.glob];exact I.mod.glob.keeps I.bk) hm (by rw[I.ok.blt];exact h1.keeps I.bk) ((h2 x hn).trans hv) h) hd
theorem y1k{x:Str}{v:V}{u:Value}{pos:Pos}(hg:Gl X x)(hm:X.mg x=some u)(r:RelV v u)(hd:(x==("__debug__" : Str))=false:=by decide):PE X (.Name x pos) (tC v):=
 fun _ _ _ H _ I h=>q8j I hg hm ⟨v,H,I,r,h⟩ hd
theorem y1m{x:Str}{v:V}{u:Value}{pos:Pos}(hg:Gl X x)(hm:X.mg x=none)(hv:bootBuiltins x=some u)(r:RelV v u)(hn:x≠ "__name__" :=by decide)(hd:(x==("__debug__" : Str))=false:=by decide):PE X (.Name x pos) (tC v):=
 fun _ _ _ H _ I h=>z1j I hg hm hv ⟨v,H,I,r,h⟩ hn hd
variable{a b:Expr}{ta tb:TE}{pos:Pos}
variable{tA tB':TT}{rest:List Expr}
def tAnd(t u:TT):TT:=fun σ H Q=>t σ H fun c H1=>if c=true then u σ H1 Q else Q false H1
def tOr(t u:TT):TT:=fun σ H Q=>t σ H fun c H1=>if c=true then Q true H1 else u σ H1 Q
def tNot(t:TT):TT:=fun σ H Q=>t σ H fun c H1=>Q (!c) H1
theorem x0y(ha:PT X a tA):PW X (.BoolOp .And [a] pos) tA:=by
 intro wh pins s σ H Q I h
 refine isTrue_and (thn (ha pins s σ H Q I h) fun c s1 e=>?_)
 cases c with
 |true=>exact isTrue_and_nil e
 |false=>exact e
theorem x5c(ha:PT X a tA):PW X (.BoolOp .Or [a] pos) tA:=by
 intro wh pins s σ H Q I h
 refine isTrue_or (thn (ha pins s σ H Q I h) fun c s1 e=>?_)
 cases c with
 |false=>exact isTrue_or_nil e
 |true=>exact e
theorem x5d(ha:PT X a tA)(hb:PW X (.BoolOp .And (b::rest) pos) tB'):PW X (.BoolOp .And (a::b::rest) pos) (tAnd tA tB'):=by
 intro wh pins s σ H Q I h
 refine isTrue_and (thn (ha pins s σ H _ I h) fun c s1 hh1=>?_)
 obtain⟨H1,I1,q1⟩:=hh1
 cases c with
 |true=>exact hb wh pins s1 σ H1 Q I1 q1
 |false=>exact⟨H1,I1,q1⟩
theorem w0f(ha:PT X a tA)(hb:PW X (.BoolOp .Or (b::rest) pos) tB'):PW X (.BoolOp .Or (a::b::rest) pos) (tOr tA tB'):=by
 intro wh pins s σ H Q I h
 refine isTrue_or (thn (ha pins s σ H _ I h) fun c s1 hh1=>?_)
 obtain⟨H1,I1,q1⟩:=hh1
 cases c with
 |true=>exact⟨H1,I1,q1⟩
 |false=>exact hb wh pins s1 σ H1 Q I1 q1
theorem x5e(ha:PT X a tA):PT X (.UnaryOp .Not a pos) (tNot tA):=by
 intro pins s σ H Q I h
 exact isTrue_not (ha pins s σ H (fun c H1=>Q (!c) H1) I h)
def x9v(ta tb:TE):TE:=fun σ H Q=>ta σ H fun x H1=>∃c,x=.bl c/\if c=true then tb σ H1 Q else Q (.bl false) H1
def tOrV(ta tb:TE):TE:=fun σ H Q=>ta σ H fun x H1=>∃c,x=.bl c/\if c=true then Q (.bl true) H1 else tb σ H1 Q
def x9n(ta:TE):TE:=fun σ H Q=>ta σ H fun x H1=>∃c,x=.bl c/\Q (.bl (!c)) H1
theorem x5s {op} {t:TE} (h:PE X a t):PE X (.BoolOp op [a] pos) t:=fun pins s σ H Q I hw=>BoolOp_one (h pins s σ H Q I hw)
theorem x5z(ha:PE X a ta)(hb:PE X (.BoolOp .And (b::rest) pos) tb):PE X (.BoolOp .And (a::b::rest) pos) (x9v ta tb):=by
 intro pins s σ H Q I h
 refine BoolOp_and (thn (ha pins s σ H _ I h) fun v s1 hh1=>?_)
 obtain⟨x,H1,I1,r1,q1⟩:=hh1
 obtain⟨c,rfl,q1⟩:=q1
 cases r1
 refine wpAny_truthy_bool ?_
 cases c with
 |true=>exact hb pins s1 σ H1 Q I1 q1
 |false=>exact⟨.bl false,H1,I1,rfl,q1⟩
theorem w0i(ha:PE X a ta)(hb:PE X (.BoolOp .Or (b::rest) pos) tb):PE X (.BoolOp .Or (a::b::rest) pos) (tOrV ta tb):=by
 intro pins s σ H Q I h
 refine BoolOp_or (thn (ha pins s σ H _ I h) fun v s1 hh1=>?_)
 obtain⟨x,H1,I1,r1,q1⟩:=hh1
 obtain⟨c,rfl,q1⟩:=q1
 cases r1
 refine wpAny_truthy_bool ?_
 cases c with
 |false=>exact hb pins s1 σ H1 Q I1 q1
 |true=>exact⟨.bl true,H1,I1,rfl,q1⟩
theorem x5t(ha:PE X a ta):PE X (.UnaryOp .Not a pos) (x9n ta):=by
 intro pins s σ H Q I h
 refine UnaryOp_ (thn (ha pins s σ H _ I h) fun v s1 hh1=>?_)
 obtain⟨x,H1,I1,r1,q1⟩:=hh1
 obtain⟨c,rfl,q1⟩:=q1
 cases r1
 exact not_of (wpAny_truthy_bool ⟨.bl (!c),H1,I1,rfl,q1⟩)
def tIf(t:TT)(ta tb:TE):TE:=fun σ H Q=>t σ H fun c H1=>if c=true then ta σ H1 Q else tb σ H1 Q
theorem y6j{c:Expr}(hc:PT X c tA)(ha:PE X a ta)(hb:PE X b tb):PE X (.IfExp c a b pos) (tIf tA ta tb):=by
 intro pins s σ H Q I h
 refine wpAny_IfExp (thn (hc pins s σ H _ I h) fun d s1 hh1=>?_)
 obtain⟨H1,I1,q1⟩:=hh1
 cases d with
 |true=>exact ha pins s1 σ H1 Q I1 q1
 |false=>exact hb pins s1 σ H1 Q I1 q1
end
def SqL(K:Frag)(H:Hp)(a:Addr)(xs:List V):Prop:=
 Rd H a (.lst xs)\/
  ∃(o:Obj)(its:Array Value)(n:Nat),K.lookup a=some o/\o.cls=.type "list" /\o.dict=none/\o.data=.seq its n/\its.size<=sizeLine/\Vals xs its.toList
def SqT(K:Frag)(H:Hp)(a:Addr)(xs:List V):Prop:=
 Rd H a (.tup xs)\/
  ∃(o:Obj)(its:Array Value)(n:Nat),K.lookup a=some o/\o.cls=.type "tuple" /\o.data=.seq its n/\its.size<=sizeLine/\Vals xs its.toList
def absV:Value->Option V
 |.none=>some .non
 |.bool b=>some (.bl b)
 |.int i _=>some (.int i)
 |.str x _=>some (.str x)
 |.bytes b _=>some (.byt b)
 |.float b _=>some (.flt b)
 |.ref a=>some (.ref a)
 |.type n=>some (.ty n)
 |_=>none
theorem RelV.abs{x:V}{u:Value}(r:RelV x u):absV u=some x:=by
 cases x with
 |non=>cases r;rfl
 |bl _=>cases r;rfl
 |int _=>obtain⟨t,rfl⟩:=r;rfl
 |str _=>obtain⟨t,rfl⟩:=r;rfl
 |byt _=>obtain⟨t,rfl⟩:=r;rfl
 |flt _=>obtain⟨t,rfl⟩:=r;rfl
 |ref _=>cases r;rfl
 |ty _=>cases r;rfl
theorem RelV.inj{x y:V}{u:Value}(r:RelV x u)(q:RelV y u):x=y:=Option.some.inj (r.abs.symm.trans q.abs)
theorem Vals.inj:∀{xs ys:List V}{us:List Value},Vals xs us->Vals ys us->xs=ys
 |_,_,_,.nil,.nil=>rfl
 |_,_,_,.cons r t,.cons r' t'=>by rw[r.inj r',Vals.inj t t']
section
variable{X:Cx}{pins:List (Addr×Obj)}{σ:St}{H:Hp}{s:Shared}{a:Addr}{xs ys:List V}
theorem SqL.of{K:Frag}(h:H a=some (.lst xs)):SqL K H a xs:=.inl (.inl h)
theorem SqT.of{K:Frag}(h:H a=some (.tup xs)):SqT K H a xs:=.inl (.inl h)
theorem Inv.list(I:Inv X pins σ H s)(h:SqL X.K H a xs):∃its:List Value,Vals xs its/\PlainL s.heap a its.toArray/\xs.length<=sizeLine:=by
 rcases h with h|⟨o,its,n,hk,hc,hd,hs,hz,r⟩
 ·obtain⟨z,its,n,r,e⟩:=h.ok I.hok
  exact⟨its,r,⟨_,n,e,rfl,rfl,rfl⟩,z⟩
 ·refine⟨its.toList,r,⟨o,n,I.kIn a o hk,hc,hd,by simpa using hs⟩,?_⟩
  have e:=r.length
  simp only[Array.length_toList]at e
  omega
theorem Inv.tuple(I:Inv X pins σ H s)(h:SqT X.K H a xs):∃its:List Value,Vals xs its/\IsTup s.heap a its.toArray/\xs.length<=sizeLine:=by
 rcases h with h|⟨o,its,n,hk,hc,hs,hz,r⟩
 ·obtain⟨z,its,r,p⟩:=h.ok I.hok
  exact⟨its,r,p,z⟩
 ·refine⟨its.toList,r,⟨o,I.kIn a o hk,hc,n,by simpa using hs⟩,?_⟩
  have e:=r.length
  simp only[Array.length_toList]at e
  omega
theorem Inv.list_inj(I:Inv X pins σ H s)(h:SqL X.K H a xs)(h':SqL X.K H a ys):xs=ys:=by
 obtain⟨its,r,⟨o,n,e,_,_,d⟩,_⟩:=I.list h
 obtain⟨its',r',⟨o',n',e',_,_,d'⟩,_⟩:=I.list h'
 rw[e]at e';cases e'
 rw[d]at d'
 injection d' with d1 _
 have:its=its':=by simpa using congrArg Array.toList d1
 subst this
 exact r.inj r'
theorem Inv.tuple_inj(I:Inv X pins σ H s)(h:SqT X.K H a xs)(h':SqT X.K H a ys):xs=ys:=by
 obtain⟨its,r,⟨o,e,_,n,d⟩,_⟩:=I.tuple h
 obtain⟨its',r',⟨o',e',_,n',d'⟩,_⟩:=I.tuple h'
 rw[e]at e';cases e'
 rw[d]at d'
 injection d' with d1 _
 have:its=its':=by simpa using congrArg Array.toList d1
 subst this
 exact r.inj r'
end
section
variable{X:Cx}{pins:List (Addr×Obj)}{σ:St}{H:Hp}{s:Shared}{E:Value->Shared->Prop}
end
section
variable{X:Cx}{st:Stmt}{rest:List Stmt}{t u:TS}{e:Expr}{te:TE}{pos:Pos}
def x9o:TS:=fun D σ H=>D.nx σ H
def tSeq(t u:TS):TS:=fun D σ H=>t {D with nx:=u D} σ H
theorem x1c:PSs X [] x9o:=fun _ _ σ H _ I h=>wpAny_execs_nil ⟨σ,H,I,h⟩
theorem y5y(h1:PS X st t)(h2:PSs X rest u):PSs X (st::rest) (tSeq t u):=by
 intro pins s σ H D I h
 refine wpAny_execs_cons (thn (h1 pins s σ H {D with nx:=u D} I h) fun f s1 q=>?_)
 cases f with
 |next=>
  obtain⟨σ',H',I',q⟩:=q
  exact h2 pins s1 σ' H' D I' q
 |ret v=>exact q
 |brk=>exact q
 |cont=>exact q
theorem x1b(h1:PS X st t):PSs X [st] t:=by
 intro pins s σ H D I h
 refine wpAny_execs_cons (thn (h1 pins s σ H D I h) fun f s1 q=>?_)
 cases f with
 |next=>exact wpAny_execs_nil q
 |ret v=>exact q
 |brk=>exact q
 |cont=>exact q
def x9s:TS:=fun D σ H=>D.ct σ H
theorem z5u:PS X (.Continue pos) x9s:=fun _ _ σ H _ I h=>wpAny_Continue ⟨σ,H,I,h⟩
theorem Inv.quiet{pins:List (Addr×Obj)}{σ:St}{H:Hp}{s:Shared}(I:Inv X pins σ H s):interactive X.env=false:=by simp[interactive,I.ok.kind]
def x9q(te:TE):TS:=fun D σ H=>te σ H fun _ H1=>D.nx σ H1
theorem x1e(he:PE X e te)(hs:swapsWith e none pos.line X.env=pure false:=by rfl):PS X (.Expr e pos) (x9q te):=by
 intro pins s σ H D I h
 exact wpAny_Expr_any (thn (he pins s σ H _ I h) fun v s1 hh1=>by obtain⟨x,H1,I1,r1,q1⟩:=hh1;exact(⟨σ,H1,I1,q1⟩)) I.quiet hs
def tRet(te:TE):TS:=fun D σ H=>te σ H D.rt
theorem x5h(he:PE X e te):PS X (.Return (some e) pos) (tRet te):=by
 intro pins s σ H D I h
 exact wpAny_Return_some (thn (he pins s σ H _ I h) fun v s1 hh1=>by obtain⟨x,H1,I1,r1,q1⟩:=hh1;exact(⟨x,σ,H1,I1,r1,q1⟩))
def tIfS(c:TT)(t u:TS):TS:=fun D σ H=>c σ H fun b H1=>if b=true then t D σ H1 else u D σ H1
theorem w0g{c:Expr}{a b:List Stmt}{tc:TT}(hc:PT X c tc)(ha:PSs X a t)(hb:PSs X b u):PS X (.If c a b pos) (tIfS tc t u):=by
 intro pins s σ H D I h
 refine wpAny_If (thn (hc pins s σ H _ I h) fun d s1 hh1=>?_)
 obtain⟨H1,I1,q1⟩:=hh1
 cases d with
 |true=>exact ha pins s1 σ H1 D I1 q1
 |false=>exact hb pins s1 σ H1 D I1 q1
def x4r:TS:=fun _ _ _=>False
theorem y6b:PS X st x4r:=fun _ _ _ _ _ _ h=>h.elim
end
abbrev TG:=V->St->Hp->(St->Hp->Prop)->Prop
abbrev TGs:=List V->St->Hp->(St->Hp->Prop)->Prop
def PG(X:Cx)(target:Expr)(t:TG):Prop:=
 ∀(pins:List (Addr×Obj))(s:Shared)(σ:St)(H:Hp)(v:V)(u:Value)(Q:St->Hp->Prop),Inv X pins σ H s->RelV v u->t v σ H Q->
  wpAny (model X.prog X.w) X.A (assign target X.env u) (fun _ s'=>∃σ' H',Inv X pins σ' H' s'/\Q σ' H') X.xe s
def PGs(X:Cx)(ts:List Expr)(t:TGs):Prop:=
 ∀(pins:List (Addr×Obj))(s:Shared)(σ:St)(H:Hp)(vs:List V)(us:List Value)(Q:St->Hp->Prop),Inv X pins σ H s->Vals vs us->t vs σ H Q->
  wpAny (model X.prog X.w) X.A (assignInOrder ((assignEach ts X.env).map (·.2)) us) (fun _ s'=>∃σ' H',Inv X pins σ' H' s'/\Q σ' H') X.xe s
abbrev TSet:=V->V->V->Hp->(Hp->Prop)->Prop
def PSet(X:Cx)(t:TSet):Prop:=
 ∀(pins:List (Addr×Obj))(s:Shared)(σ:St)(H:Hp)(o i v:V)(ov iv u:Value)(Q:Hp->Prop),Inv X pins σ H s->RelV o ov->RelV i iv->RelV v u->t o i v H Q->
  wpAny (model X.prog X.w) X.A (setItem ov iv u) (fun _ s'=>∃H',Inv X pins σ H' s'/\Q H') X.xe s
abbrev TIp:=V->V->Hp->VK->Prop
def PIp(X:Cx)(op:Operator)(t:TIp):Prop:=
 ∀(pins:List (Addr×Obj))(s:Shared)(σ:St)(H:Hp)(x y:V)(v u:Value)(Q:VK),Inv X pins σ H s->RelV x v->RelV y u->t x y H Q->
  wpAny (model X.prog X.w) X.A (inplaceOp op v u) (EP X pins σ Q) X.xe s
section
variable{X:Cx}{pos:Pos}
def x7q(i:Nat):TG:=fun v σ H Q=>Q (σ.set i (some v)) H
theorem x1k{i:Nat}{x:Str}(hN:X.N.Nodup)(hi:X.N[i]?=some x)(hx:Loc X.env.scope x)(hf:X.fn x=true\/X.env.scope.names.lookup x=some .local:=by first|exact .inl rfl|exact .inr rfl|assumption):PG X (.Name x pos) (x7q i):=by
 intro pins s σ H v u Q I r h
 exact wpAny_assign_Name (q9h I hN hi hx r (fun s' I'=>⟨_,H,I',h⟩) hf)
def gNil:TGs:=fun vs σ H Q=>vs=[]/\Q σ H
def w1a(t:TG)(u:TGs):TGs:=fun vs σ H Q=>∃v r,vs=v::r/\t v σ H fun σ' H'=>u r σ' H' Q
theorem x1j:PGs X [] gNil:=by
 intro pins s σ H vs us Q I r h
 obtain⟨e,h⟩:=h
 subst e
 cases r
 exact assignInOrder_nil ⟨σ,H,I,h⟩
theorem y6g{e:Expr}{es:List Expr}{t:TG}{u:TGs}(h1:PG X e t)(h2:PGs X es u)
  (hs:(assignEach (e::es) X.env).map (·.2)=assign e X.env::(assignEach es X.env).map (·.2):=by rfl):PGs X (e::es) (w1a t u):=by
 intro pins s σ H vs us Q I r h
 obtain⟨v,vr,e1,h⟩:=h
 subst e1
 cases r with
 |cons r rr=>
  rw[hs]
  refine assignInOrder_cons (thn (h1 pins s σ H _ _ _ I r h) fun _ s1 hh1=>?_)
  obtain⟨σ1,H1,I1,q1⟩:=hh1
  exact h2 pins s1 σ1 H1 _ _ Q I1 rr q1
def gTup(K:Frag)(n:Nat)(t:TGs):TG:=fun v σ H Q=>∃a xs,v=.ref a/\SqT K H a xs/\xs.length=n/\t xs σ H Q
theorem x5o{es:List Expr}{k:Nat}{t:TGs}{n:Nat}(hc:X.calm=true)(h:PGs X es t)
  (hn:(assignEach es X.env).length=n:=by rfl) (hst:(assignEach es X.env).findIdx? (·.1)=none:=by rfl):PG X (.Tuple es k pos) (gTup X.K n t):=by
 intro pins s σ H v u Q I r hw
 obtain⟨a,xs,e1,hq,hl,hw⟩:=hw
 subst e1
 cases r
 obtain⟨its,rv,ht,hz⟩:=I.tuple hq
 refine assign_Tuple_tuple (I.ok.hd hc) ht (by simp[hn,<-hl,rv.length]) hst fun h' hx=>?_
 have I1:Inv X pins σ H {s with heap:=h' }:=I.kept (t':=s.toks) fun b o e=>hx b o (Nat.ne_of_lt (Heap.lt_size e)) e
 exact h pins _ σ H xs _ Q I1 (by simpa using rv) hw
def gSub(to ti:TE)(t:TSet):TG:=fun v σ H Q=>to σ H fun o H1=>ti σ H1 fun i H2=>t o i v H2 fun H3=>Q σ H3
theorem x5p{o i:Expr}{to ti:TE}{t:TSet}(ho:PE X o to)(hi:PE X i ti)(hs:PSet X t)
  (ha:∀v,assign (.Subscript o i pos) X.env v=(do
   let ov <-holding [v] (eval o X.env)
   let iv <-holding [v,ov] (eval i X.env)
   standAt pos
   holding [v,ov,iv] (setItem ov iv v)
   release [v,ov,iv] []):=by intro _;rfl):PG X (.Subscript o i pos) (gSub to ti t):=by
 intro pins s σ H v u Q I r h
 rw[ha]
 refine wpAny_bind (wpAny_holding (thn (ho pins s σ H _ I h) fun ov s1 hh1=>?_))
 obtain⟨x,H1,I1,r1,q1⟩:=hh1
 refine wpAny_bind (wpAny_holding (thn (hi pins s1 σ H1 _ I1 q1) fun iv s2 hh2=>?_))
 obtain⟨y,H2,I2,r2,q2⟩:=hh2
 refine wpAny_bind (wpAny_standAt (wpAny_bind (wpAny_holding (thn (hs pins s2 σ H2 x y v ov iv u _ I2 r1 r2 r q2) fun _ s3 hh3=>?_))))
 obtain⟨H3,I3,q3⟩:=hh3
 exact wpAny_release ⟨σ,H3,I3,q3⟩
def tAsg(te:TE)(g:TG):TS:=fun D σ H=>te σ H fun x H1=>g x σ H1 D.nx
theorem x5k{tg e:Expr}{te:TE}{g:TG}(he:PE X e te)(hg:PG X tg g)(hs:swapsWithSole [tg] e pos.line X.env=pure false:=by rfl)(hw:swappedStores [tg] e X.env=pure none:=by rfl)
  (h1:(assignEach [tg] X.env).map (·.2)=[assign tg X.env]:=by rfl):PS X (.Assign [tg] e pos) (tAsg te g):=by
 intro pins s σ H D I h
 refine wpAny_Assign_stores (thn (he pins s σ H _ I h) fun v s1 ⟨x,H1,I1,r1,q1⟩=>?_) hs hw
 rw[h1]
 exact thn (hg pins s1 σ H1 x v _ I1 r1 q1) fun _ s2 q=>q
theorem x5g{i:Nat}{x:Str}{e:Expr}{te:TE}{pos':Pos}(hN:X.N.Nodup)(hi:X.N[i]?=some x)(hx:Loc X.env.scope x)(he:PE X e te)(hs:swapsWith e (some (.Name x pos')) pos.line X.env=pure false:=by rfl)(hf:X.fn x=true\/X.env.scope.names.lookup x=some .local:=by first|exact .inl rfl|exact .inr rfl|assumption) :
  PS X (.Assign [.Name x pos'] e pos) (tAsg te (x7q i)):=by
 intro pins s σ H D I h
 refine wpAny_Assign_Name (thn (he pins s σ H _ I h) fun v s1 ⟨y,H1,I1,r1,q1⟩=>?_) hs
 exact q9h I1 hN hi hx r1 (fun s2 I2=>⟨_,H1,I2,q1⟩) hf
def tAug(i:Nat)(te:TE)(ti:TIp):TS:=fun D σ H=>∃x,σ[i]?=some (some x)/\te σ H fun y H1=>ti x y H1 fun z H2=>D.nx (σ.set i (some z)) H2
theorem x5j{i:Nat}{x:Str}{e:Expr}{te:TE}{op:Operator}{ti:TIp}{pos':Pos}(hN:X.N.Nodup)(hi:X.N[i]?=some x)(hx:Loc X.env.scope x)(he:PE X e te)(ho:PIp X op ti)(hf:X.fn x=true\/X.env.scope.names.lookup x=some .local:=by first|exact .inl rfl|exact .inr rfl|assumption) :
  PS X (.AugAssign (.Name x pos') op e pos) (tAug i te ti):=by
 intro pins s σ H D I h
 obtain⟨v,e1,h⟩:=h
 obtain⟨m,hn,hl⟩:=I.loc
 have vis:Vis X.env.scope x:=by rcases hx with k|k;exact .inl k;exact .inr (.inl k)
 obtain⟨u,r,l⟩:=hl i x v hi e1 vis
 refine wpAny_AugAssign_Name ?_
 have go:wpAny (model X.prog X.w) X.A (eval e X.env) (fun w s₂=>wpAny (model X.prog X.w) X.A (inplaceOp op u w) (fun r s₃=>wpAny (model X.prog X.w) X.A (storeName X.env x r) (fun _=>SP X pins D .next) X.xe s₃) X.xe s₂) X.xe s:=by
  refine thn (he pins s σ H _ I h) fun w s1 hh1=>?_
  obtain⟨y,H1,I1,r1,q1⟩:=hh1
  refine thn (ho pins s1 σ H1 v y u w _ I1 r r1 q1) fun z s2 hh2=>?_
  obtain⟨zv,H2,I2,r2,q2⟩:=hh2
  exact q9h I2 hN hi hx r2 (fun s3 I3=>⟨_,H2,I3,q2⟩) hf
 rcases l with⟨hk,hm⟩|⟨hk,c,hc,hcell⟩
 ·exact wpAny_loadName_local I.ok.kind hk hn hm go
 ·rcases hk with hk|hk
  ·exact wpAny_loadName_cell I.ok.kind hk hc hcell go
  ·rcases hx with k|k
   ·have:X.env.scope.names.lookup x=some .free:=hk
    rw[k]at this;cases this
   ·have:X.env.scope.names.lookup x=some .free:=hk
    rw[k]at this;cases this
def ipI(f:Int->Int->Int):TIp:=fun x y H Q=>∃i j,x=.int i/\y=.int j/\Q (.int (f i j)) H
theorem x7m:PIp X .Add (ipI fun i j=>i+j):=by
 intro pins s σ H x y v u Q I r1 r2 h
 obtain⟨i,j,e1,e2,q⟩:=h
 subst e1;subst e2
 obtain⟨t,rfl⟩:=r1
 obtain⟨t',rfl⟩:=r2
 exact iadd_int ⟨.int _,H,I.tok _,⟨_,rfl⟩,q⟩
end
section
variable{X:Cx}{pos:Pos}
def x4p(c:TT)(tb:TS):TS:=fun D σ H=>∃W:Nat->St->Hp->Prop,(∃m,W m σ H)/\∀m σ H,W m σ H->
 c σ H fun b H1=>if b=true then ∃N:St->Hp->Prop,(∀σ' H',N σ' H'->∃m',m'<m/\W m' σ' H')/\tb {D with nx:=N,ct:=N,bk:=D.nx} σ H1 else D.nx σ H1
theorem y5z{c:Expr}{body:List Stmt}{tc:TT}{tb:TS}(hp:PassesOwn (model X.prog X.w) X.A X.env X.xe)(hc:PT X c tc)(hb:PSs X body tb):PS X (.While c body [] pos) (x4p tc tb):=by
 intro pins s σ H D I h
 obtain⟨W,⟨m0,w0⟩,turn⟩:=h
 refine wpAny_While (codeAny_whileLoop (fun n s'=>∃σ' H',Inv X pins σ' H' s'/\W n σ' H') ?_ m0 ⟨σ,H,I,w0⟩)
 rintro n s1 ⟨σ1,H1,I1,w1⟩
 refine wpAny_passesOwn hp (thn (hc pins s1 σ1 H1 _ I1 (turn n σ1 H1 w1)) fun b s2 hh1=>?_)
 obtain⟨H2,I2,q2⟩:=hh1
 cases b with
 |true=>
  obtain⟨N,hN,q2⟩:=q2
  rw[if_pos rfl]
  refine wpAny_passesOwn hp (thn (hb pins s2 σ1 H2 _ I2 q2) fun f s3 q3=>?_)
  cases f with
  |next=>
   obtain⟨σ3,H3,I3,n3⟩:=q3
   obtain⟨m',hm,w3⟩:=hN σ3 H3 n3
   exact⟨m',hm,σ3,H3,I3,w3⟩
  |cont=>
   obtain⟨σ3,H3,I3,n3⟩:=q3
   obtain⟨m',hm,w3⟩:=hN σ3 H3 n3
   exact⟨m',hm,σ3,H3,I3,w3⟩
  |brk=>exact q3
  |ret v=>exact q3
 |false=>
  rw[if_neg Bool.false_ne_true]
  exact wpAny_execs_nil ⟨σ1,H2,I2,q2⟩
end
structure It where
 go:Nat->Hp->Prop
 yld:Nat->Hp->V->Hp->Prop
 stop:Nat->Hp->Prop
def FpOk(X:Cx)(pins:List (Addr×Obj))(H:Hp)(b:Addr):Prop:=
 H b=none/\b≠X.env.locals/\b∉X.fs/\(b∈X.ex\/X.s₀.heap.objs.size<=b)/\(∀x c,X.env.cells.lookup x=some c->c≠b)/\∀p∈X.pn++pins,p.1≠b
theorem Inv.fpOk{X:Cx}{pins:List (Addr×Obj)}{σ:St}{H H':Hp}{s:Shared}{b:Addr}(I:Inv X pins σ H s)(hb:s.heap.objs.size<=b)(hn:H' b=none):FpOk X pins H' b:=by
 refine⟨hn,Nat.ne_of_gt (Nat.lt_of_lt_of_le I.lt hb),I.nofs hb,.inr (Nat.le_trans I.sz hb),fun x c e z=>?_,fun p hp z=>?_⟩
 ·obtain⟨v,q⟩:=I.cell x c e
  exact absurd (Nat.lt_of_lt_of_le q.lt (by rw[z];exact hb)) (Nat.lt_irrefl _)
 ·exact absurd (Nat.lt_of_lt_of_le (Heap.lt_size (I.pin p hp).1) (by rw[z];exact hb)) (Nat.lt_irrefl _)
structure Turn(P:Program)(w:World)(K:Frag)(tg:Expr)(J:It)(fp:List Addr)(it:Addr)(tn:Nat->Heap->Prop):Prop where
 mem:it∈fp
 obj:∀i h,tn i h->∀b∈fp,∃o,h.get? b=some o/\∀v,o.data≠.cell v
 keep:∀i h h',tn i h->(∀b∈fp,∀o,h.get? b=some o->h'.get? b=some o)->tn i h'
 item:∀(X:Cx),X.prog=P->X.w=w->X.K=K->X.calm=true->∀(i:Nat)(pins:List (Addr×Obj))(s:Shared)(σ:St)(H:Hp)(E:Value->Shared->Prop),Inv X pins σ H s->(∀b∈fp,FpOk X pins H b)->tn i s.heap->J.go i H->
  wpAny (model P w) X.A (pyNext (.ref it)) (fun r s1=>∃u,r=some u/\
   wpAny (model P w) X.A (letOwnedTupleGo tg (.ref it) u) (fun _ s2=>∃x H',Inv X pins σ H' s2/\RelV x u/\J.yld i H x H'/\tn (i+1) s2.heap/\∀b∈fp,H' b=none) E s1) E s
 done:∀(X:Cx),X.prog=P->X.w=w->X.K=K->X.calm=true->∀(i:Nat)(pins:List (Addr×Obj))(s:Shared)(σ:St)(H:Hp)(E:Value->Shared->Prop),Inv X pins σ H s->(∀b∈fp,FpOk X pins H b)->tn i s.heap->J.stop i H->
  wpAny (model P w) X.A (pyNext (.ref it)) (fun r s1=>r=none/\Inv X pins σ H s1) E s
 self:∀(A:Around)(i:Nat)(s:Shared)(Q:Value->Shared->Prop)(E:Value->Shared->Prop),tn i s.heap->Q (.ref it) s->wpAny (model P w) A (pyIter (.ref it)) Q E s
abbrev TI:=St->Hp->(It->Hp->Prop)->Prop
def PIE(X:Cx)(pins:List (Addr×Obj))(σ:St)(tg:Expr)(R:It->Hp->Prop)(itv:Value)(s2:Shared):Prop:=
 ∃(it:Addr)(fp:List Addr)(tn:Nat->Heap->Prop)(J:It)(H':Hp),itv=.ref it/\Inv X pins σ H' s2/\Turn X.prog X.w X.K tg J fp it tn/\tn 0 s2.heap/\(∀b∈fp,FpOk X pins H' b)/\R J H'
def PI(X:Cx)(tg iter:Expr)(wi:TI):Prop:=
 ∀(pins:List (Addr×Obj))(s:Shared)(σ:St)(H:Hp)(R:It->Hp->Prop),Inv X pins σ H s->wi σ H R->
  wpAny (model X.prog X.w) X.A (eval iter X.env) (fun v s1=>wpAny (model X.prog X.w) X.A (pyIter v) (PIE X pins σ tg R) X.xe s1) X.xe s
theorem y3a {M : Model} {A : Around} {E : Value -> Shared -> Prop} {s : Shared} {tg : Expr} {it : Addr} {u : Value} {o : Obj} {n : String} {vs : Array Value} {Q : Unit -> Shared -> Prop} (ho : s.heap.get? it = some o) (hc : o.cls = .type n) (hd : o.data = .fields vs)
    (hn : ["enumerate", "zip", "dict_itemiterator", "dict_reverseitemiterator", "odict_iterator", "itertools.zip_longest", "itertools.pairwise"].contains n = false) (hQ : Q () s) : wpAny M A (letOwnedTupleGo tg (.ref it) u) Q E s := by
  unfold letOwnedTupleGo
  cases tg <;> first
    | exact wpAny_pure hQ
    | (cases u <;> first
        | exact wpAny_pure hQ
        | (refine wpAny_bind (wpAny_load ho ?_)
           rw [hc, hd]
           show wpAny M A (if (["enumerate", "zip", "dict_itemiterator", "dict_reverseitemiterator", "odict_iterator", "itertools.zip_longest", "itertools.pairwise"].contains n && vs[0]? == some (rawInt _)) = true then _ else _) Q E s
           rw [if_neg (by intro h; rw [hn, Bool.false_and] at h; cases h)]
           exact wpAny_pure hQ))
def Itl(K:Frag)(a:Addr):It:=
 ⟨fun i H=>∃xs x,SqL K H a xs/\xs[i]?=some x,fun i H x H'=>H'=H/\∀xs,SqL K H a xs->xs[i]?=some x,fun i H=>∃xs,SqL K H a xs/\xs.length<=i⟩
def Itt(K:Frag)(a:Addr):It:=
 ⟨fun i H=>∃xs x,SqT K H a xs/\xs[i]?=some x,fun i H x H'=>H'=H/\∀xs,SqT K H a xs->xs[i]?=some x,fun i H=>∃xs,SqT K H a xs/\xs.length<=i⟩
def Itr(lo:Int)(n:Nat):It:=⟨fun i _=>i<n,fun i H x H'=>H'=H/\x=.int (lo+i),fun i _=>n<=i⟩
theorem y0a{P:Program}{w:World}{K:Frag}{tg:Expr}(a it:Addr):Turn P w K tg (Itl K a) [it] it (fun i h=>h.IsListIter it a i) where
 mem:=by simp
 obj:=fun i h st b hb=>by
  have e:b=it:=by simpa using hb
  subst e
  obtain⟨o,e,c,d⟩:=st
  exact⟨o,e,fun v z=>by rw[d]at z;cases z⟩
 keep:=fun i h h' st k=>st.at fun o e=>k it (by simp) o e
 item:=by
  intro X hP hw hK hc i pins s σ H E I hf st hg
  subst hP hw hK
  obtain⟨xs,x,hq,hx⟩:=hg
  obtain⟨its,rv,p,hz⟩:=I.list hq
  obtain⟨u,hu,ru⟩:=rv.get hx
  obtain⟨f0,f1,f2,f3,f4,f5⟩:=hf it (by simp)
  refine wpAny_pyNext_list_item st p.isList (x:=u) (by simpa using hu) fun h' st' sb=>?_
  have I1:Inv X pins σ H {s with heap:=h' }:=I.turned (t':=s.toks) (fun b o hb e=>(sb.2 b hb).trans e) f0 f1 f3 f4 f5
  obtain⟨o,e,c,d⟩:=id st'
  exact⟨u,rfl,y3a (s:={s with heap:=h' }) e c d (by decide) ⟨x,H,I1,ru,⟨rfl,fun ys hy=>by rw[I.list_inj hy hq];exact hx⟩,st',fun b hb=>(hf b hb).1⟩⟩
 done:=by
  intro X hP hw hK hc i pins s σ H E I hf st hg
  subst hP hw hK
  obtain⟨xs,hq,hx⟩:=hg
  obtain⟨its,rv,p,hz⟩:=I.list hq
  obtain⟨f0,f1,f2,f3,f4,f5⟩:=hf it (by simp)
  have hl:=rv.length
  exact wpAny_pyNext_list_end (I.ok.hd hc) st p.isList (by simp;omega) fun h' eb=>⟨rfl,I.turned (t':=s.toks) (fun b o hb e=>eb b o hb e) f0 f1 f3 f4 f5⟩
 self:=fun _ _ _ _ _ st h=>wpAny_pyIter_listiter st h
theorem z8o{P:Program}{w:World}{K:Frag}{tg:Expr}(a it:Addr):Turn P w K tg (Itt K a) [it] it (fun i h=>h.IsTupleIter it a i) where
 mem:=by simp
 obj:=fun i h st b hb=>by
  have e:b=it:=by simpa using hb
  subst e
  obtain⟨o,e,c,d⟩:=st
  exact⟨o,e,fun v z=>by rw[d]at z;cases z⟩
 keep:=fun i h h' st k=>st.at fun o e=>k it (by simp) o e
 item:=by
  intro X hP hw hK hc i pins s σ H E I hf st hg
  subst hP hw hK
  obtain⟨xs,x,hq,hx⟩:=hg
  obtain⟨its,rv,p,hz⟩:=I.tuple hq
  obtain⟨u,hu,ru⟩:=rv.get hx
  obtain⟨f0,f1,f2,f3,f4,f5⟩:=hf it (by simp)
  refine wpAny_pyNext_tuple_item st (show s.heap.IsTuple a its.toArray from p) (x:=u) (by simpa using hu) fun h' st' sb=>?_
  have I1:Inv X pins σ H {s with heap:=h' }:=I.turned (t':=s.toks) (fun b o hb e=>(sb.2 b hb).trans e) f0 f1 f3 f4 f5
  obtain⟨o,e,c,d⟩:=id st'
  exact⟨u,rfl,y3a (s:={s with heap:=h' }) e c d (by decide) ⟨x,H,I1,ru,⟨rfl,fun ys hy=>by rw[I.tuple_inj hy hq];exact hx⟩,st',fun b hb=>(hf b hb).1⟩⟩
 done:=by
  intro X hP hw hK hc i pins s σ H E I hf st hg
  subst hP hw hK
  obtain⟨xs,hq,hx⟩:=hg
  obtain⟨its,rv,p,hz⟩:=I.tuple hq
  obtain⟨f0,f1,f2,f3,f4,f5⟩:=hf it (by simp)
  have hl:=rv.length
  exact wpAny_pyNext_tuple_end (I.ok.hd hc) st (show s.heap.IsTuple a its.toArray from p) (by simp;omega) fun h' eb=>⟨rfl,I.turned (t':=s.toks) (fun b o hb e=>eb b o hb e) f0 f1 f3 f4 f5⟩
 self:=fun _ _ _ _ _ st h=>wpAny_pyIter_tupleiter st h
theorem z8p{P:Program}{w:World}{K:Frag}{tg:Expr}(it:Addr)(lo:Int)(n:Nat):Turn P w K tg (Itr lo n) [it] it (fun i h=>IsRangeIter h it (lo+(i:Nat)*1) ((n:Int)-(i:Nat)) 1) where
 mem:=by simp
 obj:=fun i h st b hb=>by
  have e:b=it:=by simpa using hb
  subst e
  exact⟨_,st,fun v z=>by
   have z':Data.fields _=Data.cell v:=z
   cases z'⟩
 keep:=fun i h h' st k=>k it (by simp) _ st
 item:=by
  intro X hP hw hK hc i pins s σ H E I hf st hg
  subst hP hw hK
  obtain⟨f0,f1,f2,f3,f4,f5⟩:=hf it (by simp)
  have W:=Walks.range (prog:=X.prog) (w:=X.w) (I.ok.hd hc) it lo 1 n
  refine W.item i s _ _ hg st fun v h' tk hv st' kk=>?_
  obtain⟨t,rfl⟩:=hv
  have I1:Inv X pins σ H {s with heap:=h',toks:=tk}:=I.turned (fun b o hb e=>kk b o (by simpa using hb) e) f0 f1 f3 f4 f5
  refine⟨_,rfl,y3a (s:={s with heap:=h',toks:=tk}) (n:= "range_iterator") st' rfl rfl (by decide) ⟨.int (lo+i),H,I1,⟨t,?_⟩,⟨rfl,rfl⟩,st',fun b hb=>(hf b hb).1⟩⟩
  rw[Int.mul_one]
 done:=by
  intro X hP hw hK hc i pins s σ H E I hf st hg
  subst hP hw hK
  obtain⟨f0,f1,f2,f3,f4,f5⟩:=hf it (by simp)
  exact wpAny_pyNext_range_end (I.ok.hd hc) st (by have:n<=i:=hg;omega) fun h' eb=>⟨rfl,I.turned (t':=s.toks) (fun b o hb e=>eb b o hb e) f0 f1 f3 f4 f5⟩
 self:=fun _ _ _ _ _ st h=>wpAny_pyIter_rangeiter st h
section
variable{X:Cx}{tg:Expr}
theorem y5u{pins:List (Addr×Obj)}{σ:St}{H:Hp}{s:Shared}{R:It->Hp->Prop}{E:Value->Shared->Prop}{lo hi:Int}{t u v:Tok}{tk:Nat}(I:Inv X pins σ H s)(h1:-(2 ^ 62)<=lo)(h2:lo<2 ^ 62)(h3:-(2 ^ 62)<=hi)(h4:hi<2 ^ 62)
  (q:R (Itr lo (hi-lo).toNat) H):wpAny (model X.prog X.w) X.A (pyIter (.ref s.heap.objs.size)) (PIE X pins σ tg R) E {s with heap:=s.heap.push {cls:=.type "range",data:=.fields #[.int lo t,.int hi u,.int 1 v]},toks:=tk}:=by
 refine wpAny_pyIter_range (IsRange.new ..) (small_one h1 h2 h3 h4) ?_
 have I1:Inv X pins σ H {s with heap:=s.heap.push {cls:=.type "range",data:=.fields #[.int lo t,.int hi u,.int 1 v]},toks:=tk}:=I.kept fun b o e=>Heap.get?_push_of_some _ e
 refine⟨(s.heap.push {cls:=.type "range",data:=.fields #[.int lo t,.int hi u,.int 1 v]}).objs.size,[(s.heap.push {cls:=.type "range",data:=.fields #[.int lo t,.int hi u,.int 1 v]}).objs.size],_,_,H,rfl,
  I1.kept (t':=tk) fun b o e=>Heap.get?_push_of_some _ e,z8p _ lo (hi-lo).toNat,?_,fun b hb=>?_,q⟩
 ·have e1:lo+((0:Nat):Int)*1=lo:=by simp
  have e2:(((hi-lo).toNat:Nat):Int)-((0:Nat):Int)=Builtin.Range.rangeSize lo hi 1:=by rw[rangeSize_one];split<;>omega
  show IsRangeIter _ _ (lo+((0:Nat):Int)*1) ((((hi-lo).toNat:Nat):Int)-((0:Nat):Int)) 1
  rw[e1,e2]
  exact Heap.get?_push_size _ rfl
 ·have e:b=(s.heap.push {cls:=.type "range",data:=.fields #[.int lo t,.int hi u,.int 1 v]}).objs.size:=by simpa using hb
  subst e
  exact I1.fpOk (Nat.le_refl _) (I1.hok.fresh (Nat.le_refl _))
def w0z(ta:TA):TI:=fun σ H R=>ta σ H fun vs H1=>∃j:Int,vs=[.int j]/\-(2 ^ 62)<=j/\j<2 ^ 62/\R (Itr 0 j.toNat) H1
theorem y1j{a:Expr}{ta:TA}{p pos:Pos}(hg:Gl X "range")(hm:X.mg "range" = none)(ha:PA X [a] ta)(hs:starEach [a] X.env=[(false,eval a X.env)]:=by rfl):PI X tg (.Call (.Name "range" p) [a] [] pos) (w0z ta):=by
 intro pins s σ H R I h
 refine Call_ (z1j I hg hm boot_range (PyProof.Rows.callWith_type1 (thn (ha pos pins s σ H _ I h) fun us s1 ⟨vs,H1,I1,r1,q1⟩=>?_) hs rfl))
 obtain⟨j,e,q1,q2,q⟩:=q1
 subst e
 cases r1 with
 |cons r rr=>
  cases rr
  obtain⟨t,rfl⟩:=r
  exact call_range_1 (y5u I1 (by omega) (by omega) q1 q2 (by simpa using q))
def tFor(wi:TI)(g:TG)(tb:TS):TS:=fun D σ H=>wi σ H fun J H1=>∃W:Nat->Nat->St->Hp->Prop,(∃m,W 0 m σ H1)/\∀i m σ H,W i m σ H->
 (J.stop i H/\D.nx σ H)\/(J.go i H/\∃N:St->Hp->Prop,(∀σ' H',N σ' H'->∃m',m'<m/\W (i+1) m' σ' H')/\∀x H',J.yld i H x H'->g x σ H' fun σ2 H2=>tb {D with nx:=N,ct:=N,bk:=D.nx} σ2 H2)
def z1e(fp:List Addr)(h:Heap):List (Addr×Obj):=fp.filterMap fun b=>(h.get? b).map fun o=>(b,o)
theorem q5b{fp:List Addr}{h:Heap}{b:Addr}{o:Obj}(hb:b∈fp)(e:h.get? b=some o):(b,o)∈z1e fp h:=List.mem_filterMap.mpr ⟨b,hb,by rw[e];rfl⟩
theorem z3u{fp:List Addr}{h:Heap}{p:Addr×Obj}(hp:p∈z1e fp h):p.1∈fp/\h.get? p.1=some p.2:=by
 obtain⟨b,hb,e⟩:=List.mem_filterMap.mp hp
 cases q:h.get? b with
 |none=>rw[q]at e;cases e
 |some o=>
  rw[q]at e
  have e':(b,o)=p:=Option.some.inj e
  subst e'
  exact⟨hb,q⟩
theorem Inv.pinned{pins:List (Addr×Obj)}{σ:St}{H:Hp}{s:Shared}{fp:List Addr}(I:Inv X pins σ H s)(hf:∀b∈fp,FpOk X pins H b)(ho:∀b∈fp,∃o,s.heap.get? b=some o/\∀v,o.data≠.cell v):Inv X (pins++z1e fp s.heap) σ H s:=
 I.pins_of fun p hp=>(List.mem_append.mp hp).elim (fun z=>I.pin p (List.mem_append_right _ z)) fun z=>by
  obtain⟨hb,e⟩:=z3u z
  obtain⟨f0,f1,f2,_⟩:=hf p.1 hb
  obtain⟨o,e',d⟩:=ho p.1 hb
  rw[e]at e';cases e'
  exact⟨e,f0,f1,f2,d⟩
theorem Inv.unpinned{pins pl:List (Addr×Obj)}{σ:St}{H:Hp}{s:Shared}(I:Inv X (pins++pl) σ H s):Inv X pins σ H s:=I.pins_of fun p hp=>I.pin p (List.mem_append_right _ (List.mem_append_left _ hp))
theorem x5i{iter:Expr}{body:List Stmt}{wi:TI}{g:TG}{tb:TS}{pos:Pos}(hp:PassesOwn (model X.prog X.w) X.A X.env X.xe)(hc:X.calm=true)(hi:PI X tg iter wi)(hg:PG X tg g)(hb:PSs X body tb)
  (hs:∀x,foldedSetIterable iter X.env x=pure x:=by intro _;rfl):PS X (.For tg iter body [] pos) (tFor wi g tb):=by
 intro pins s σ H D I h
 refine wpAny_For (thn (hi pins s σ H _ I h) fun v s1 h1=>thn h1 fun itv s2 h2=>?_) hs
 obtain⟨it,fp,tn,J,H2,e,I2,T,st2,f2,W,⟨m0,w0⟩,turn⟩:=h2
 subst e
 have stat:∀{H':Hp},(∀b∈fp,H' b=none)->∀b∈fp,FpOk X pins H' b:=fun hn b hb=>⟨hn b hb,(f2 b hb).2⟩
 refine codeAny_forLoop_any (fun n s'=>∃i σ' H',Inv X pins σ' H' s'/\tn i s'.heap/\(∀b∈fp,H' b=none)/\W i n σ' H') ?_ m0 ⟨0,σ,H2,I2,st2,fun b hb=>(f2 b hb).1,w0⟩
 rintro n s3 ⟨i,σ3,H3,I3,st3,fr3,w3⟩
 rcases turn i n σ3 H3 w3 with⟨stop,qn⟩|⟨go,N,hN,step⟩
 ·refine wpAny_passesOwn hp (thn (T.done X rfl rfl rfl hc i pins s3 σ3 H3 X.xe I3 (stat fr3) st3 stop) fun r s4 hh1=>?_)
  obtain⟨hr,I4⟩:=hh1
  subst hr
  exact wpAny_execs_nil ⟨σ3,H3,I4,qn⟩
 ·refine wpAny_passesOwn hp (thn (T.item X rfl rfl rfl hc i pins s3 σ3 H3 X.xe I3 (stat fr3) st3 go) fun r s4 hh2=>?_)
  obtain⟨u,hr,h4⟩:=hh2
  subst hr
  refine wpAny_passesOwn hp (thn h4 fun _ s5 hh3=>?_)
  obtain⟨x,H5,I5,r5,y5,st5,fr5⟩:=hh3
  have I5':=I5.pinned (stat fr5) (T.obj _ _ st5)
  refine wpAny_passesOwn hp (thn (hg _ s5 σ3 H5 x u _ I5' r5 (step x H5 y5)) fun _ s6 hh4=>?_)
  obtain⟨σ6,H6,I6,q6⟩:=hh4
  refine wpAny_passesOwn hp (thn (hb _ s6 σ6 H6 _ I6 q6) fun f s7 q7=>?_)
  have again:∀{σ7:St}{H7:Hp},Inv X (pins++z1e fp s5.heap) σ7 H7 s7->N σ7 H7->∃m,m<n/\∃i σ' H',Inv X pins σ' H' s7/\tn i s7.heap/\(∀b∈fp,H' b=none)/\W i m σ' H':=fun {σ7 H7} I7 n7=>by
   obtain⟨m',hm,w7⟩:=hN σ7 H7 n7
   refine⟨m',hm,i+1,σ7,H7,I7.unpinned,T.keep _ _ _ st5 fun b hb o e=>(I7.pin (b,o) (List.mem_append_right _ (List.mem_append_right _ (q5b hb e)))).1,fun b hb=>?_,w7⟩
   obtain⟨o,e,d⟩:=T.obj _ _ st5 b hb
   exact(I7.pin (b,o) (List.mem_append_right _ (List.mem_append_right _ (q5b hb e)))).2.1
  cases f with
  |next=>obtain⟨σ7,H7,I7,n7⟩:=q7;exact again I7 n7
  |cont=>obtain⟨σ7,H7,I7,n7⟩:=q7;exact again I7 n7
  |brk=>obtain⟨σ7,H7,I7,q7⟩:=q7;exact⟨σ7,H7,I7.unpinned,q7⟩
  |ret v=>obtain⟨x7,σ7,H7,I7,r7,q7⟩:=q7;exact⟨x7,σ7,H7,I7.unpinned,r7,q7⟩
end
abbrev R2:=V->V->Hp->VK->Prop
def OpR(X:Cx)(f:Value->Value->Sem Value)(r:R2):Prop:=
 ∀(pins:List (Addr×Obj))(s:Shared)(σ:St)(H:Hp)(x y:V)(v u:Value)(Q:VK),Inv X pins σ H s->RelV x v->RelV y u->r x y H Q->
  wpAny (model X.prog X.w) X.A (f v u) (EP X pins σ Q) X.xe s
def UnR(X:Cx)(f:Value->Sem Value)(r:V->Hp->VK->Prop):Prop:=
 ∀(pins:List (Addr×Obj))(s:Shared)(σ:St)(H:Hp)(x:V)(v:Value)(Q:VK),Inv X pins σ H s->RelV x v->r x H Q->
  wpAny (model X.prog X.w) X.A (f v) (EP X pins σ Q) X.xe s
def q6g(X:Cx)(f:Value)(r:List V->Hp->VK->Prop):Prop:=
 ∀(pins:List (Addr×Obj))(s:Shared)(σ:St)(H:Hp)(xs:List V)(us:List Value)(Q:VK),Inv X pins σ H s->Vals xs us->r xs H Q->
  wpAny (model X.prog X.w) X.A (call f us) (EP X pins σ Q) X.xe s
def TruR(X:Cx)(r:V->Hp->(Bool->Hp->Prop)->Prop):Prop:=
 ∀(pins:List (Addr×Obj))(s:Shared)(σ:St)(H:Hp)(x:V)(v:Value)(Q:Bool->Hp->Prop),Inv X pins σ H s->RelV x v->r x H Q->
  wpAny (model X.prog X.w) X.A (truthy v) (TP X pins σ Q) X.xe s
def tOp(r:R2)(ta tb:TE):TE:=fun σ H Q=>ta σ H fun x H1=>tb σ H1 fun y H2=>r x y H2 Q
def tUn(r:V->Hp->VK->Prop)(ta:TE):TE:=fun σ H Q=>ta σ H fun x H1=>r x H1 Q
def rI(C:Int->Int->Prop)(g:Int->Int->V):R2:=fun x y H Q=>∃i j,x=.int i/\y=.int j/\C i j/\Q (g i j) H
def rI0(g:Int->Int->V):R2:=fun x y H Q=>∃i j,x=.int i/\y=.int j/\Q (g i j) H
def rU(g:Int->V):V->Hp->VK->Prop:=fun x H Q=>∃i,x=.int i/\Q (g i) H
section
variable{X:Cx}{a b c:Expr}{ta tb tc:TE}{pos:Pos}
theorem binT(ha:PE X a ta)(hb:PE X b tb){pins:List (Addr×Obj)}{s:Shared}{σ:St}{H:Hp}{R:V->V->Hp->Prop}(I:Inv X pins σ H s)
  (h:ta σ H fun x H1=>tb σ H1 fun y H2=>R x y H2) {Q:Value->Shared->Prop} {f:Value->Value->Sem Value}
  (hf:∀v u s2 x y H2,Inv X pins σ H2 s2->RelV x v->RelV y u->R x y H2->wpAny (model X.prog X.w) X.A (f v u) Q X.xe s2) :
  wpAny (model X.prog X.w) X.A (eval a X.env) (fun v s₁=>wpAny (model X.prog X.w) X.A (eval b X.env) (fun u s₂=>wpAny (model X.prog X.w) X.A (f v u) Q X.xe s₂) X.xe s₁) X.xe s:=by
 refine thn (ha pins s σ H _ I h) fun v s1 hh1=>?_
 obtain⟨x,H1,I1,r1,q1⟩:=hh1
 refine thn (hb pins s1 σ H1 _ I1 q1) fun u s2 hh2=>?_
 obtain⟨y,H2,I2,r2,q2⟩:=hh2
 exact hf v u s2 x y H2 I2 r1 r2 q2
theorem w0j{op:Operator}{r:R2}(ho:OpR X (binaryOp op) r)(ha:PE X a ta)(hb:PE X b tb):PE X (.BinOp a op b pos) (tOp r ta tb):=by
 intro pins s σ H Q I h
 exact wpAny_BinOp (binT ha hb I h fun v u s2 x y H2 I2 rx ry q=>ho pins s2 σ H2 x y v u Q I2 rx ry q)
theorem w0h{op:UnaryOp}{r:V->Hp->VK->Prop}(ho:UnR X (unaryOp op) r)(ha:PE X a ta):PE X (.UnaryOp op a pos) (tUn r ta):=by
 intro pins s σ H Q I h
 exact UnaryOp_ (thn (ha pins s σ H _ I h) fun v s1 hh1=>by obtain⟨x,H1,I1,r1,q1⟩:=hh1;exact(ho pins s1 σ H1 x v Q I1 r1 q1))
theorem opI{f:Value->Value->Sem Value}{C:Int->Int->Prop}{g:Int->Int->Int}
  (rule:∀(i j:Int)(t u:Tok)(s:Shared)(Q:Value->Shared->Prop)(E:Value->Shared->Prop),C i j->Q (.int (g i j) s.toks) {s with toks:=s.toks+1}->wpAny (model X.prog X.w) X.A (f (.int i t) (.int j u)) Q E s) :
  OpR X f (rI C fun i j=>.int (g i j)):=by
 intro pins s σ H x y v u Q I rx ry h
 obtain⟨i,j,rfl,rfl,hc,q⟩:=h
 obtain⟨t,rfl⟩:=rx
 obtain⟨t',rfl⟩:=ry
 exact rule i j t t' s _ _ hc ⟨.int (g i j),H,I.tok _,⟨_,rfl⟩,q⟩
theorem opI0{f:Value->Value->Sem Value}{g:Int->Int->Int}
  (rule:∀(i j:Int)(t u:Tok)(s:Shared)(Q:Value->Shared->Prop)(E:Value->Shared->Prop),Q (.int (g i j) s.toks) {s with toks:=s.toks+1}->wpAny (model X.prog X.w) X.A (f (.int i t) (.int j u)) Q E s) :
  OpR X f (rI0 fun i j=>.int (g i j)):=by
 intro pins s σ H x y v u Q I rx ry h
 obtain⟨i,j,rfl,rfl,q⟩:=h
 obtain⟨t,rfl⟩:=rx
 obtain⟨t',rfl⟩:=ry
 exact rule i j t t' s _ _ ⟨.int (g i j),H,I.tok _,⟨_,rfl⟩,q⟩
theorem opB0{f:Value->Value->Sem Value}{g:Int->Int->Bool}
  (rule:∀(i j:Int)(t u:Tok)(s:Shared)(Q:Value->Shared->Prop)(E:Value->Shared->Prop),Q (.bool (g i j)) s->wpAny (model X.prog X.w) X.A (f (.int i t) (.int j u)) Q E s) :
  OpR X f (rI0 fun i j=>.bl (g i j)):=by
 intro pins s σ H x y v u Q I rx ry h
 obtain⟨i,j,rfl,rfl,q⟩:=h
 obtain⟨t,rfl⟩:=rx
 obtain⟨t',rfl⟩:=ry
 exact rule i j t t' s _ _ ⟨.bl (g i j),H,I,rfl,q⟩
def CPow(i j:Int):Prop:=0<=j/\j<=1000000/\i.natAbs<2 ^ 64
def CMul(i j:Int):Prop:=(-(2 ^ 64)<i/\i<2 ^ 64)\/(-(2 ^ 64)<j/\j<2 ^ 64)
theorem CMul.ok{i j:Int}(h:CMul i j):IntMulOk i j:=by
 rcases h with⟨h1,h2⟩|⟨h1,h2⟩
 ·exact .of_left (intBits_le_64 h1 h2)
 ·exact .of_right (intBits_le_64 h1 h2)
theorem x6k:OpR X (binaryOp .Add) (rI0 fun i j=>.int (i+j)):=opI0 fun _ _ _ _ _ _ _ q=>add_int q
theorem x6d:OpR X (binaryOp .Sub) (rI0 fun i j=>.int (i-j)):=opI0 fun _ _ _ _ _ _ _ q=>sub_int q
theorem x6g:OpR X (binaryOp .Mult) (rI CMul fun i j=>.int (i*j)):=opI fun _ _ _ _ _ _ _ hc q=>mul_int q hc.ok
theorem x6h:OpR X (binaryOp .Mod) (rI (fun _ j=>0<j) fun i j=>.int (i % j)):=opI fun i j _ _ _ _ _ hc q=>by
 have h1:(0:Int)<j:=hc
 exact mod_int' (by omega) (by rw[Int.fmod_eq_emod_of_nonneg i (by omega)];exact q)
theorem x6f:OpR X (binaryOp .Pow) (rI CPow fun i j=>.int (i ^ j.toNat)):=opI fun _ _ _ _ _ _ _ hc q=>pow_int_small hc.1 hc.2.1 hc.2.2 q
theorem unI{f:Value->Sem Value}{g:Int->Int}
  (rule:∀(i:Int)(t:Tok)(s:Shared)(Q:Value->Shared->Prop)(E:Value->Shared->Prop),Q (.int (g i) s.toks) {s with toks:=s.toks+1}->wpAny (model X.prog X.w) X.A (f (.int i t)) Q E s) :
  UnR X f (rU fun i=>.int (g i)):=by
 intro pins s σ H x v Q I rx h
 obtain⟨i,rfl,q⟩:=h
 obtain⟨t,rfl⟩:=rx
 exact rule i t s _ _ ⟨.int (g i),H,I.tok _,⟨_,rfl⟩,q⟩
theorem x4i:UnR X (unaryOp .USub) (rU fun i=>.int (-i)):=unI fun _ _ _ _ _ q=>neg_int q
end
section
variable{X:Cx}{a b c:Expr}{ta tb tc:TE}{pos:Pos}
theorem y3i{pins:List (Addr×Obj)}{σ:St}{H:Hp}{s:Shared}{Q:VK}{k k':Bool}(I:Inv X pins σ H s)(q:Q (.bl k) H)(e:k=k'):EP X pins σ Q (.bool k') s:=by
 subst e
 exact⟨.bl k,H,I,rfl,q⟩
theorem w0o:OpR X (compareOp .Lt) (rI0 fun i j=>.bl (decide (i<j))):=opB0 fun _ _ _ _ _ _ _ q=>lt_int q
theorem w0p:OpR X (compareOp .Gt) (rI0 fun i j=>.bl (decide (j<i))):=opB0 fun _ _ _ _ _ _ _ q=>gt_int q
theorem w0q:OpR X (compareOp .GtE) (rI0 fun i j=>.bl (decide (j<=i))):=opB0 fun _ _ _ _ _ _ _ q=>ge_int q
theorem y1t:OpR X (compareOp .In) (fun x y H Q=>∃i j,x=.str i/\y=.str j/\Q (.bl (!(Builtin.Str.occurrences j i 0 j.length 1).isEmpty)) H):=by
 intro pins s σ H x y v u Q I rx ry h
 obtain⟨i,j,rfl,rfl,q⟩:=h
 obtain⟨t,rfl⟩:=rx
 obtain⟨t',rfl⟩:=ry
 exact in_str (y3i I q rfl)
theorem x6i : OpR X (compareOp .Is) (fun x y H Q => y = .non /\ Q (.bl (decide (x = .non))) H) := by
 intro pins s σ H x y v u Q I rx ry h
 obtain ⟨rfl, q⟩ := h
 cases ry
 refine is_none_gen (y3i I q ?_)
 cases x <;> first
  | (cases rx; rfl)
  | (obtain ⟨t, rfl⟩ := rx; rfl)
theorem x1p : OpR X (compareOp .IsNot) (fun x y H Q => y = .non /\ Q (.bl (!decide (x = .non))) H) := by
 intro pins s σ H x y v u Q I rx ry h
 obtain ⟨rfl, q⟩ := h
 cases ry
 refine isnot_none_gen (y3i I q ?_)
 cases x <;> first
  | (cases rx; rfl)
  | (obtain ⟨t, rfl⟩ := rx; rfl)
theorem q0s(b:Expr){op:CmpOp}(h:op≠.In:=by decide)(h2:op≠.NotIn:=by decide):behindInMarks op b=false:=by
 have e1:(op==CmpOp.In)=false:=by cases op<;>first|rfl|exact absurd rfl h
 have e2:(op==CmpOp.NotIn)=false:=by cases op<;>first|rfl|exact absurd rfl h2
 cases b<;>simp[behindInMarks,e1,e2]
theorem x1m{op:CmpOp}{r:R2}(ho:OpR X (compareOp op) r)(ha:PE X a ta)(hb:PE X b tb)(hm:behindInMarks op b=false):PE X (.Compare a [op] [b] pos) (tOp r ta tb):=by
 intro pins s σ H Q I h
 exact wpAny_Compare1 (binT ha hb I h fun v u s2 x y H2 I2 rx ry q=>ho pins s2 σ H2 x y v u Q I2 rx ry q) hm
def x4q(t:TE):TT:=fun σ H Q=>t σ H fun x H'=>∃k,x=.bl k/\Q k H'
theorem x0z{op:CmpOp}{r:R2}(ho:OpR X (compareOp op) r)(ha:PE X a ta)(hb:PE X b tb)(hm:behindInMarks op b=false):PT X (.Compare a [op] [b] pos) (x4q (tOp r ta tb)):=by
 intro pins s σ H Q I h
 refine wpAny_isTrue_Compare1 (thn (ha pins s σ H _ I h) fun v s1 ⟨x,H1,I1,r1,q1⟩=>thn (hb pins s1 σ H1 _ I1 q1) fun u s2 ⟨y,H2,I2,r2,q2⟩=>
  thn (ho pins s2 σ H2 x y v u _ I2 r1 r2 q2) fun c s3 ⟨z,H3,I3,r3,k,e,q3⟩=>?_) hm
 subst e
 cases r3
 exact wpAny_truthy_bool ⟨H3,I3,q3⟩
def TruV(K:Frag)(x:V)(H:Hp)(k:Bool):Prop:=
 match x with
 |.non=>k=false
 |.bl b=>k=b
 |.int i=>k=(i != 0)
 |.str y=>y.length<=sizeLine/\k=((y.length:Int) != 0)
 |.byt y=>y.size<=sizeLine/\k=((y.size:Int) != 0)
 |.ref p=>(∃xs,SqL K H p xs/\k=!xs.isEmpty)\/(∃xs,SqT K H p xs/\k=!xs.isEmpty)\/∃kvs,H p=some (.dK kvs)/\k=!kvs.isEmpty
 |_=>False
theorem z9k{κ:Type}{kvs:List (κ×V)}{vs:List (κ×Value)}(r:KV kvs vs):(!vs.isEmpty)=!kvs.isEmpty:=by
 cases r<;>rfl
theorem z1m{xs:List V}{its:List Value}(r:Vals xs its):(!its.toArray.isEmpty)=!xs.isEmpty:=by
 cases r<;>simp
theorem z0e:(sizeLine:Nat)<2 ^ 63:=by rw[sizeLine_eq];decide
theorem x4k:TruR X (fun x H Q=>∃k,TruV X.K x H k/\Q k H):=by
 intro pins s σ H x v Q I rx h
 obtain⟨k,e,q⟩:=h
 have hl:=z0e
 have hs:sizeLine=16777216:=sizeLine_eq
 cases x with
 |non=>
  cases rx
  have e':k=false:=e
  subst e'
  exact truthy_none ⟨H,I,q⟩
 |bl b=>
  cases rx
  have e':k=b:=e
  subst e'
  exact wpAny_truthy_bool ⟨H,I,q⟩
 |int i=>
  obtain⟨t,rfl⟩:=rx
  have e':k=(i != 0):=e
  subst e'
  exact PySem.P.truthy_int ⟨H,I,q⟩
 |str y=>
  obtain⟨t,rfl⟩:=rx
  obtain⟨hy,e'⟩:y.length<=sizeLine/\k=((y.length:Int) != 0):=e
  subst e'
  exact PySem.P.truthy_str (by omega) ⟨H,I.tok _,q⟩
 |byt y=>
  obtain⟨t,rfl⟩:=rx
  obtain⟨hy,e'⟩:y.size<=sizeLine/\k=((y.size:Int) != 0):=e
  subst e'
  exact PySem.W.truthy_bytes (by omega) ⟨H,I.tok _,q⟩
 |ref p=>
  cases rx
  have e':(∃xs,SqL X.K H p xs/\k=!xs.isEmpty)\/(∃xs,SqT X.K H p xs/\k=!xs.isEmpty)\/∃kvs,H p=some (.dK kvs)/\k=!kvs.isEmpty:=e
  rcases e' with⟨xs,hx,e'⟩|⟨xs,hx,e'⟩|⟨kvs,hx,e'⟩
  ·subst e'
   obtain⟨its,r,pl,hz⟩:=I.list hx
   have hlen:=r.length
   exact wpAny_truthy_list pl.isList (by simp only[List.size_toArray];omega) ⟨H,I.tok _,by rw[z1m r];exact q⟩
  ·subst e'
   obtain⟨its,r,pl,hz⟩:=I.tuple hx
   have hlen:=r.length
   exact truthy_tuple pl (by simp only[List.size_toArray];omega) ⟨H,I.tok _,by rw[z1m r];exact q⟩
  ·subst e'
   obtain⟨hz,hS,vs,r,m⟩:kvs.length<=sizeLine/\(p==sysModules)=false/\∃vs,KV kvs vs/\s.heap.DictOf (q2d X.prog X.w) p vs:=I.hok p _ hx
   have hlen:kvs.length=vs.length:=Paired.length r
   exact wpAny_truthy_dict hS m (by omega) ⟨H,I.tok _,by rw[z9k r];exact q⟩
 |_=>exact(show False from e).elim
theorem y5v(ha:PE X a ta)(he:∀whole,isTrue a X.env whole=(do let v <-whole;standAt a.pos;holding [v] (truthy v))) :
  PT X a (fun σ H Q=>ta σ H fun x H'=>∃k,TruV X.K x H' k/\Q k H'):=by
 intro pins s σ H Q I h
 exact isTrue_plain (thn (ha pins s σ H _ I h) fun v s1 hh1=>by obtain⟨x,H1,I1,r1,q1⟩:=hh1;exact(x4k pins s1 σ H1 x v Q I1 r1 q1)) (he _)
theorem z8w:OpR X (binaryOp .Add) (fun x y H Q=>∃i j,x=.str i/\y=.str j/\i.length+j.length<=sizeLine/\Q (.str (i++j)) H):=by
 intro pins s σ H x y v u Q I rx ry h
 obtain⟨i,j,rfl,rfl,hz,q⟩:=h
 obtain⟨t,rfl⟩:=rx
 obtain⟨t',rfl⟩:=ry
 exact add_str (fun t' tk=>⟨.str (i++j),H,I.tok _,⟨_,rfl⟩,q⟩) hz
theorem z6s:OpR X (inplaceOp .Add) (fun x y H Q=>∃i j,x=.str i/\y=.str j/\i.length+j.length<=sizeLine/\Q (.str (i++j)) H):=by
 intro pins s σ H x y v u Q I rx ry h
 obtain⟨i,j,rfl,rfl,hz,q⟩:=h
 obtain⟨t,rfl⟩:=rx
 obtain⟨t',rfl⟩:=ry
 exact iadd_str (fun t' tk=>⟨.str (i++j),H,I.tok _,⟨_,rfl⟩,q⟩) hz
theorem z5m{x:V}{us:List Value}(r:Vals [x] us):∃u,us=[u]/\RelV x u:=by
 cases r with
 |cons r1 r2=>cases r2;exact⟨_,rfl,r1⟩
theorem z5l{x y:V}{us:List Value}(r:Vals [x,y] us):∃u w',us=[u,w']/\RelV x u/\RelV y w':=by
 cases r with
 |cons r1 r2=>
  cases r2 with
  |cons r3 r4=>cases r4;exact⟨_,_,rfl,r1,r3⟩
theorem y4f(hc:X.calm=true):q6g X (.builtin "max") (fun xs H Q=>∃i j,xs=[.int i,.int j]/\Q (.int (if j > i then j else i)) H):=by
 intro pins s σ H xs us Q I r h
 obtain⟨i,j,rfl,q⟩:=h
 obtain⟨u,w',rfl,⟨t,rfl⟩,⟨t',rfl⟩⟩:=z5l r
 refine max_two_ints (I.ok.hd hc) fun h' tk k=>⟨_,H,I.kept k,?_,q⟩
 by_cases hj:j > i
 ·rw[if_pos hj,if_pos hj];exact⟨_,rfl⟩
 ·rw[if_neg hj,if_neg hj];exact⟨_,rfl⟩
theorem z5d:q6g X (.type "str") (fun xs H Q=>∃i,xs=[.int i]/\i.natAbs.log2<1920/\Q (.str (toString i)) H):=by
 intro pins s σ H xs us Q I r h
 obtain⟨i,rfl,hz,q⟩:=h
 obtain⟨u,rfl,t,rfl⟩:=z5m r
 exact PySem.P.str_of_int hz ⟨.str _,H,I.tok _,⟨_,rfl⟩,q⟩
end
structure ObjM(h:Heap)(x dx C:Addr)(mA:Str->Option Value):Prop where
 obj:h.get? x=some (PySem.W.instObj C dx)
 ns:h.Ns1 dx mA
 ne:dx≠x
theorem y2f{h:Heap}{dx:Addr}{mA:Str->Option Value}(n:h.Ns1 dx mA):∃od,h.get? dx=some od/\∀name,PySem.W.lookIn name od=some (mA name):=by
 obtain⟨o,es,ep,ho,hd,hk,_,hm⟩:=n
 refine⟨o,ho,fun name=>?_⟩
 have e:=hm name
 unfold nsFind findBy at e
 rw[<-Array.find?_toList]at e
 unfold PySem.W.lookIn
 rw[hd]
 dsimp only
 split
 ·rename_i y q
  rw[q]at e
  exact congrArg some e
 ·rename_i q
  rw[q]at e
  have a:es.toList.any (·.refKey)=false:=by
   rw[List.any_eq_false]
   intro y hy
   obtain⟨z,t,hkey⟩:=hk y (Array.mem_toList_iff.mp hy)
   simp[DictEntry.refKey,hkey]
  have a':¬es.toList.any (·.refKey)=true:=by rw[a];exact Bool.false_ne_true
  rw[if_neg a']
  exact congrArg some e
theorem ObjM.look{h:Heap}{x dx C:Addr}{mA:Str->Option Value}(I:ObjM h x dx C mA):∃od,PySem.W.InstAt h x (PySem.W.instObj C dx) C (some od)/\∀name,PySem.W.lookIn name od=some (mA name):=
 let ⟨od,ho,hl⟩:=y2f I.ns
 ⟨od,⟨I.obj,rfl,rfl,ho⟩,hl⟩
section
variable{prog:Program}{w:World}{A:Around}{E:Value->Shared->Prop}{s:Shared}{K:Frag}{x dx C f:Addr}{mA:Str->Option Value}{name:Str}{v:Value}
end
theorem RelO.some_of{v:V}{o:Option Value}(r:RelO (some v) o):∃u,o=some u/\RelV v u:=by
 cases o with
 |none=>exact(show False from r).elim
 |some u=>exact⟨u,rfl,r⟩
section
variable{P:Program}{w:World}{H H':Hp}{h h':Heap}{a C dx:Addr}{fs fs':List (Str×V)}
theorem x2v(hok:HOk P w H h)(e:H a=some (.ins C dx fs)):∃mA,ObjM h a dx C mA/\(∀f,RelO (fs.lookup f) (mA f))/\PySem.Within mA (fs.map (·.1))/\fs.length<=1000/\H dx=some (.own a):=by
 obtain⟨d,z,ne,ob,mA,n,r,q⟩:=(show q3m P w H h a (.ins C dx fs)from hok a _ e)
 exact⟨mA,⟨ob,n,ne⟩,r,q,z,d⟩
end
structure Cls(K:Frag)(C:Addr):Prop where
 pg:PySem.W.plainGet K C Str.empty=true
 hd:PySem.W.hasDictIn K C=true
 po:PySem.W.plainOver K C=true
 sa:PySem.W.findIn K (.ref C) "__setattr__" = some (some (.builtin "object.__setattr__"))
theorem Cls.get{K:Frag}{C:Addr}(c:Cls K C)(f:Str):PySem.W.plainGet K C f=true:=c.pg
structure Con(K:Frag)(C:Addr)(f:Str)(v:V)(u:Value):Prop where
 at_:PySem.W.findIn K (.ref C) f=some (some u)
 rel:RelV v u
 get:PySem.W.specialIn K u "__get__" = some none
 cp:PySem.W.copiedNames.contains f=false
structure Meth(K:Frag)(C:Addr)(m:Str)(f:Addr):Prop where
 at_:PySem.W.findIn K (.ref C) m=some (some (.ref f))
 fn:PySem.W.isFn K (.ref f)=true
 kp:PySem.W.keepIn K (.ref f)=true
section
variable{X:Cx}{pins:List (Addr×Obj)}{σ:St}{H:Hp}{s:Shared}{a C dx:Addr}{fs:List (Str×V)}{f:Str}{v:V}{A:Around}{E:Value->Shared->Prop}
end
section
variable{X:Cx}{o e value:Expr}{f:Str}{pos pos' tpos:Pos}{ta tv:TE}
end
section
variable{X:Cx}{pins:List (Addr×Obj)}{σ:St}{H:Hp}{s:Shared}{A:Around}{E:Value->Shared->Prop}{Q:Value->Shared->Prop}{c:Value}{b:Bool}
inductive TyOf(K:Frag)(H:Hp):V->Value->Prop where
 |non:TyOf K H .non (.type "NoneType")
 |bl (x:Bool):TyOf K H (.bl x) (.type "bool")
 |int (i:Int):TyOf K H (.int i) (.type "int")
 |str (x:Str):TyOf K H (.str x) (.type "str")
 |flt (x:UInt64):TyOf K H (.flt x) (.type "float")
 |lst {a:Addr} {xs:List V} (e:H a=some (.lst xs)):TyOf K H (.ref a) (.type "list")
 |frz {a:Addr} {o:Obj} {xs:List V} (e:H a=some (.frz o (.lst xs))):TyOf K H (.ref a) (.type "list")
 |tup {a:Addr} {xs:List V} (e:H a=some (.tup xs)):TyOf K H (.ref a) (.type "tuple")
 |dK {a:Addr} {kvs:List (Key×V)} (e:H a=some (.dK kvs)):TyOf K H (.ref a) (.type "dict")
 |dT {a:Addr} {kvs:List (List Key×V)} (e:H a=some (.dT kvs)):TyOf K H (.ref a) (.type "dict")
 |ins {a C dx:Addr} {fs:List (Str×V)} (e:H a=some (.ins C dx fs)) (cl:Cls K C) (ha:PySem.W.findIn K (.ref C) "__class__" = some (some (.builtin "object.__class__")))
   (hn:PySem.W.specialIn K (.builtin "object.__class__") "__get__" = some (some (.builtin "getset_descriptor.__get__"))) (htk:PySem.W.takesIn K (.builtin "object.__class__")=some true)
   (hm:PySem.W.mroIn K C (.type "object")=some true):TyOf K H (.ref a) (.ref C)
theorem z4o{x:V}{u t:Value}(I:Inv X pins σ H s)(rx:RelV x u)(ty:TyOf X.K H x t)(e:PySem.W.kitOne X.K t c=some b)(h:∀tk,Q (.bool b) {s with toks:=tk}) :
  wpAny (model X.prog X.w) A (call (.builtin "isinstance") [u,c]) Q E s:=by
 cases ty with
 |non=>cases(show u=Value.none from rx);exact PySem.W.kia_one PySem.W.kitx_none I.kIn True.intro e (fun z=>nomatch z) h
 |bl y=>cases(show u=Value.bool y from rx);exact PySem.W.kia_one PySem.W.kitx_bool I.kIn True.intro e (fun z=>nomatch z) h
 |int i=>obtain⟨t,q⟩:=(show ∃t,u=Value.int i t from rx);cases q;exact PySem.W.kia_one PySem.W.kitx_int I.kIn True.intro e (fun z=>nomatch z) h
 |str y=>obtain⟨t,q⟩:=(show ∃t,u=Value.str y t from rx);cases q;exact PySem.W.kia_one PySem.W.kitx_str I.kIn True.intro e (fun z=>nomatch z) h
 |flt y=>obtain⟨t,q⟩:=(show ∃t,u=Value.float y t from rx);cases q;exact PySem.W.kia_one PySem.W.kitx_float I.kIn True.intro e (fun z=>nomatch z) h
 |@lst a xs ea=>
  cases(show u=Value.ref a from rx)
  obtain⟨_,_,n,_,h1⟩:=(show q3m X.prog X.w H s.heap a (.lst xs)from I.hok a _ ea)
  exact PySem.W.kia_one PySem.W.kitx_list I.kIn ⟨_,h1,rfl⟩ e (fun z=>nomatch z) h
 |@frz a ob xs ea=>
  cases(show u=Value.ref a from rx)
  obtain⟨_,_,_,n,_,h1⟩:=(show q3m X.prog X.w H s.heap a (.frz ob (.lst xs))from I.hok a _ ea)
  exact PySem.W.kia_one PySem.W.kitx_list I.kIn ⟨_,h1,rfl⟩ e (fun z=>nomatch z) h
 |@tup a xs ea=>
  cases(show u=Value.ref a from rx)
  obtain⟨_,_,_,p⟩:=(show q3m X.prog X.w H s.heap a (.tup xs)from I.hok a _ ea)
  obtain⟨o,h1,h2,_⟩:=p
  exact PySem.W.kia_one PySem.W.kitx_tuple I.kIn ⟨o,h1,h2⟩ e (fun z=>nomatch z) h
 |@dK a kvs ea=>
  cases(show u=Value.ref a from rx)
  obtain⟨_,_,vs,_,p⟩:=(show q3m X.prog X.w H s.heap a (.dK kvs)from I.hok a _ ea)
  obtain⟨o,es,ep,h1,h2,_⟩:=p
  exact PySem.W.kia_one PySem.W.kitx_dict I.kIn ⟨o,h1,h2.1⟩ e (fun z=>nomatch z) h
 |@dT a kvs ea=>
  cases(show u=Value.ref a from rx)
  obtain⟨_,_,xs,_,o,es,ep,h1,h2,_⟩:=(show q3m X.prog X.w H s.heap a (.dT kvs)from I.hok a _ ea)
  exact PySem.W.kia_one PySem.W.kitx_dict I.kIn ⟨o,h1,h2.1⟩ e (fun z=>nomatch z) h
 |@ins a C dx fs ea cl ha hn htk hm=>
  cases(show u=Value.ref a from rx)
  obtain⟨mA,O,_⟩:=x2v I.hok ea
  obtain⟨od,J,_⟩:=O.look
  exact PySem.W.kia_one (PySem.W.kitx_own (cl.get _) cl.hd ha hn htk hm) I.kIn J e (fun z=>nomatch z) h
end
structure Room(k:Nat)(A:Around):Prop where
 hd:A.handled=none
 dp:A.depth+3*k+5<recursionLimit
 un:A.units+16*k+200<cLine
theorem Room.mono{j k:Nat}{A:Around}(r:Room k A)(h:j<=k):Room j A:=⟨r.hd,by have:=r.dp;omega,by have:=r.un;omega⟩
theorem Room.deeper{k:Nat}{A:Around}(r:Room (k+1) A)(env:Env):Room k (A.deeper env):=
 ⟨r.hd,by have:=r.dp;show A.depth+1+3*k+5<_;omega,by have:=r.un;show A.units+3+16*k+200<_;omega⟩
structure RoomW(k:Nat)(A:Around):Prop extends Room k A where
 wd:A.units+16*k+210<cLine
theorem Room.deeperW{k:Nat}{A:Around}(r:Room (k+1) A)(env:Env):RoomW k (A.deeper env):=⟨r.deeper env,by have:=r.un;show A.units+3+16*k+210<_;omega⟩
theorem Room.depth{k:Nat}{A:Around}(r:Room k A):A.depth<recursionLimit:=by have:=r.dp;omega
def tNil:TA:=fun _ H Q=>Q [] H
def x9t(ta:TE)(tr:TA):TA:=fun σ H Q=>ta σ H fun x H1=>tr σ H1 fun xs H2=>Q (x::xs) H2
section
variable{X:Cx}{e:Expr}{es:List Expr}{te:TE}{t:TA}{pos:Pos}
theorem y1p:PA X [] tNil:=fun _ _ _ _ H Q I h=>Calls.spliced_nil ⟨[],H,I,.nil,h⟩
theorem q9x(ha:PE X e te)(hr:PA X es t)(hs:starEach (e::es) X.env=(false,eval e X.env)::starEach es X.env:=by rfl):PA X (e::es) (x9t te t):=by
 intro pos pins s σ H Q I h
 rw[hs]
 show wpAny _ _ (spliced ((false,eval e X.env)::backTo pos (starEach es X.env))) _ _ s
 refine Calls.spliced_cons (thn (ha pins s σ H _ I h) fun u s1 hh1=>?_)
 obtain⟨x,H1,I1,r1,q1⟩:=hh1
 exact thn (hr pos pins s1 σ H1 _ I1 q1) fun us s2 hh2=>by obtain⟨xs,H2,I2,r2,q2⟩:=hh2;exact(⟨x::xs,H2,I2,.cons r1 r2,q2⟩)
def tTup(t:TA):TE:=fun σ H Q=>t σ H fun xs H1=>xs.length<=sizeLine/\∀p,H1 p=none->Q (.ref p) (upd H1 p (.tup xs))
def tLst(t:TA):TE:=fun σ H Q=>t σ H fun xs H1=>xs.length<=sizeLine/\∀p,H1 p=none->Q (.ref p) (upd H1 p (.lst xs))
theorem y9c {x1} (h:PA X es t):PE X (.Tuple es x1 pos) (tTup t):=by
 intro pins s σ H Q I hq
 refine wpAny_Tuple_spliced (thn (h pos pins s σ H _ I hq) fun us s1 ⟨xs,H1,I1,r,z,q⟩=>⟨by rw[<-r.length];exact z,?_⟩)
 have hf:H1 s1.heap.objs.size=none:=I1.hok.fresh (Nat.le_refl _)
 refine⟨.ref s1.heap.objs.size,upd H1 s1.heap.objs.size (.tup xs),I1.laid (t':=s1.toks) (fun b u e=>Heap.get?_push_of_some _ e) (Nat.le_refl _) ?_,rfl,q _ hf⟩
 exact⟨z,us,r,⟨_,Heap.get?_push_size _ rfl,rfl,_,rfl⟩⟩
theorem x5v(h:PA X es t):PE X (.List es pos) (tLst t):=by
 intro pins s σ H Q I hq
 refine wpAny_List_spliced (thn (h pos pins s σ H _ I hq) fun us s1 ⟨xs,H1,I1,r,z,q⟩=>⟨by rw[<-r.length];exact z,?_⟩)
 have hf:H1 s1.heap.objs.size=none:=I1.hok.fresh (Nat.le_refl _)
 refine⟨.ref s1.heap.objs.size,upd H1 s1.heap.objs.size (.lst xs),I1.laid (t':=s1.toks) (fun b u e=>Heap.get?_push_of_some _ e) (Nat.le_refl _) ?_,rfl,q _ hf⟩
 exact⟨z,us,0,r,Heap.get?_push_size _ rfl⟩
end
abbrev Sp:=List V->Hp->VK->XK->Prop
abbrev CXT:=List Env->Hp->Shared->XK->Value->Shared->Prop
structure Env0(P:Program)(w:World)(K:Frag)(mg:Str->Option Value)(base:Heap)(A:Around)(outer:List Env)(s:Shared)(H:Hp):Prop where
 frames:A.frames=some outer
 mod:Mod K mg base
 bs:∀b o,base.get? b=some o->s.heap.get? b=some o/\H b=none
 bsz:base.objs.size<=s.heap.objs.size
 funs:s.heap.FunFrames base outer
 frf:∀b∈frs outer,H b=none
 hok:HOk P w H s.heap
 bare:AllBare s.gens
def CE(outer:List Env)(P:Program)(w:World)(H:Hp)(s:Shared)(Q:VK)(u:Value)(s':Shared):Prop:=
 ∃v H',s'.os=s.os/\AllBare s'.gens/\Un (frs outer) [] H H' s.heap s'.heap/\HOk P w H' s'.heap/\RelV v u/\Q v H'
def CR(CX:CXT)(outer:List Env)(P:Program)(w:World)(H:Hp)(s:Shared)(Q:VK)(E:XK)(r:Result)(s':Shared):Prop:=
 match r with
 |.ok (.ret u)=>CE outer P w H s Q u s'
 |.ok _=>False
 |.error e=>CX outer H s E e s'
structure FnOk(P:Program)(w:World)(K:Frag)(mg:Str->Option Value)(base:Heap)(CX:CXT)(k:Nat)(f:Addr)(fd:FuncData)(ps:List Str)(sp:Sp):Prop where
 len:∀vs H Q E,sp vs H Q E->vs.length=ps.length
 run:∀(A:Around)(outer:List Env)(s:Shared)(H:Hp)(args:Args)(us:List Value)(vs:List V)(Q:VK)(E:XK),Room k A->Env0 P w K mg base A outer s H->BindsTo s fd args (ps.zip us)->Vals vs us->sp vs H Q E->
  codeAny (model P w) A (.call (.ref f) args) (CR CX outer P w H s Q E) s
theorem FnOk.mono{P:Program}{w:World}{K:Frag}{mg:Str->Option Value}{base:Heap}{CX:CXT}{j k:Nat}{f:Addr}{fd:FuncData}{ps:List Str}{sp:Sp}(F:FnOk P w K mg base CX j f fd ps sp)(h:j<=k) :
  FnOk P w K mg base CX k f fd ps sp:=⟨F.len,fun A outer s H args us vs Q E hr=>F.run A outer s H args us vs Q E (hr.mono h)⟩
section
variable{X:Cx}{pins:List (Addr×Obj)}{σ:St}{H:Hp}{s s':Shared}
theorem Inv.env0(I:Inv X pins σ H s):Env0 X.prog X.w X.K X.mg X.base X.A X.stack s H:=
 ⟨I.ok.frames,I.ok.mod,I.bs,Nat.le_trans I.ok.bsz I.sz,I.stack,I.stkFree,I.hok,I.bare⟩
theorem Inv.after{Q:VK}{u:Value}(I:Inv X pins σ H s)(h:CE X.stack X.prog X.w H s Q u s'):EP X pins σ Q u s':=by
 obtain⟨v,H',os,bare,un,hok,r,q⟩:=h
 obtain⟨hh,g,d,t,os'⟩:=s'
 obtain rfl:os'=s.os:=os
 exact⟨v,H',I.call (h':=hh) (g':=g) (d':=d) (t':=t) (ch:=[]) un hok bare (fun b z=>absurd z (by simp)),r,q⟩
end
def x9u(sp:Sp)(dvs:List V)(E:XK)(t:TA):TE:=fun σ H Q=>t σ H fun vs H1=>sp (vs++dvs) H1 Q E
def z3e(K:Frag)(fd:FuncData)(ps:List Str)(ds:List Value):Prop:=
 ∀(s:Shared)(us:List Value),K.In s.heap->(us++ds).length=ps.length->BindsTo s fd ⟨us,[]⟩ (ps.zip (us++ds))
theorem z3e.all{K:Frag}{fd:FuncData}{ps:List Str}(h:∀us:List Value,us.length=ps.length->bindArgs fd ⟨us,[]⟩=pure (ps.zip us)):z3e K fd ps []:=fun s us _ hl=>by
 rw[List.append_nil]at hl ⊢
 exact .of_eq (h us hl)
def q5y(CX:CXT)(X:Cx)(E:XK):Prop:=∀(pins:List (Addr×Obj))(σ:St)(H:Hp)(s:Shared)(e:Value)(s':Shared),Inv X pins σ H s->CX X.stack H s E e s'->X.xe e s'
section
variable{X:Cx}{CX:CXT}{k:Nat}{f C:Addr}{fd:FuncData}{ps:List Str}{sp:Sp}{dvs:List V}{ds:List Value}{E:XK}{x m:Str}{p pos apos:Pos}{e o:Expr}{es:List Expr}{ta:TE}{t:TA}
theorem x4x{pins:List (Addr×Obj)}{σ:St}{H:Hp}{s:Shared}{Q:VK}{us:List Value}{vs:List V}(F:FnOk X.prog X.w X.K X.mg X.base CX k f fd ps sp)(hr:Room k X.A)(hb:z3e X.K fd ps ds)(hd:Vals dvs ds)(hx:q5y CX X E)
  (I:Inv X pins σ H s) (r:Vals vs us) (h:sp (vs++dvs) H Q E):wpAny (model X.prog X.w) X.A (call (.ref f) us) (EP X pins σ Q) X.xe s:=by
 have r2:Vals (vs++dvs) (us++ds):=r.append hd
 have hl:(us++ds).length=ps.length:=by rw[<-r2.length];exact F.len _ _ _ _ h
 refine wpAny_call (codeAny_mono (F.run X.A X.stack s H ⟨us,[]⟩ (us++ds) (vs++dvs) Q E hr I.env0 (hb s us I.kIn hl) r2 h) fun r s' hq=>?_)
 cases r with
 |error e=>exact hx pins σ H s e s' I hq
 |ok fl=>
  cases fl with
  |ret u=>exact I.after hq
  |next=>exact False.elim hq
  |brk=>exact False.elim hq
  |cont=>exact False.elim hq
theorem x1n(F:FnOk X.prog X.w X.K X.mg X.base CX k f fd ps sp)(hr:Room k X.A)(hg:Gl X x)(hm:X.mg x=some (.ref f))(hk:PySem.W.keepIn X.K (.ref f)=true)(hb:z3e X.K fd ps ds)(hd:Vals dvs ds)(hx:q5y CX X E)
  (ha:PA X (e::es) t) (hdb:(x==("__debug__" : Str))=false:=by decide) (he:starEach (e::es) X.env=(false,eval e X.env)::starEach es X.env:=by rfl) (hpl:(backTo pos (starEach es X.env)).any (·.1)=false:=by rfl) :
  PE X (.Call (.Name x p) (e::es) [] pos) (x9u sp dvs E t):=by
 intro pins s σ H Q I h
 refine wpAny_Call_Name_kw (q8j I hg hm ?_ hdb)
 refine PySem.W.callWith_K (h₀:=X.base) I.ok.mod.kin hk (thn (ha pos pins s σ H _ I h) fun us s1 ⟨vs,H1,I1,r,q⟩=>⟨I1.kIn,?_⟩) he hpl
 exact x4x F hr hb hd hx I1 r q
structure Mk(K:Frag)(C f:Addr):Prop where
 makes:PySem.W.makesIn K C=true
 init:PySem.W.findIn K (.ref C) "__init__" = some (some (.ref f))
 fn:PySem.W.isFn K (.ref f)=true
 kp:PySem.W.keepIn K (.ref C)=true
end
section
variable{X:Cx}{CX:CXT}{k:Nat}{f C:Addr}{fd:FuncData}{ps ks:List Str}{sp:Sp}{E:XK}{x m:Str}{p pos apos kpos:Pos}{e o:Expr}{es:List Expr}{kws:List Keyword}{te ta:TE}{t tk:TA}{nm:Option Str}
structure KBinds(K:Frag)(fd:FuncData)(ps ks:List Str)(g:List Value->List Value->List Value)(gV:List V->List V->List V):Prop where
 to:∀(s:Shared)(us ws:List Value),K.In s.heap->(g us ws).length=ps.length->BindsTo s fd ⟨us,ks.zip ws⟩ (ps.zip (g us ws))
 rel:∀{vs:List V}{us:List Value}{zs:List V}{ws:List Value},Vals vs us->Vals zs ws->Vals (gV vs zs) (g us ws)
variable{g:List Value->List Value->List Value}{gV:List V->List V->List V}
end
structure FnScope(N P:List Str)(sc:Scope):Prop where
 kind:sc.kind=.function
 co:sc.isCoroutine=false
 gen:sc.isGenerator=false
 nd:N.Nodup
 pre:N.take P.length=P
 par:∀x∈P,sc.names.lookup x=some .local\/sc.names.lookup x=some .cell
 nofree:∀y∈sc.names,y.2≠.free
theorem z5f {kindOf : Str -> Option NameKind} {x : Str} : ∀ {binds : List (Str × Value)} {m : Str -> Option Value}, (∀ v, (x, v) ∉ binds) -> bindL kindOf binds m x = m x
 | [], _, _ => rfl
 | (n, v) :: r, m, h => by
  unfold bindL
  rw [z5f fun w hw => h w (List.mem_cons_of_mem _ hw)]
  split
  ·have : x ≠ n := by rintro rfl; exact h v List.mem_cons_self
   simp [this]
  ·rfl
theorem z5h {kindOf : Str -> Option NameKind} {x : Str} : ∀ {binds : List (Str × Value)} {m : Str -> Option Value}, (∀ v, (x, v) ∉ binds) -> bindC kindOf binds m x = m x
 | [], _, _ => rfl
 | (n, v) :: r, m, h => by
  unfold bindC
  rw [z5h fun w hw => h w (List.mem_cons_of_mem _ hw)]
  split
  ·rfl
  ·have : x ≠ n := by rintro rfl; exact h v List.mem_cons_self
   simp [this]
theorem z5g{kindOf:Str->Option NameKind}{x:Str}{v:Value}:∀{P:List Str}{vs:List Value}{i:Nat}{m:Str->Option Value},P.Nodup->P[i]?=some x->vs[i]?=some v->kindOf x=some .local->
  bindL kindOf (P.zip vs) m x=some v
 |[],_,_,_,_,h,_,_=>by simp at h
 |_::_,[],_,_,_,_,h,_=>by simp at h
 |p::P,w::vs,0,m,nd,h1,h2,hk=>by
  simp at h1 h2;subst h1;subst h2
  show bindL kindOf ((p,w)::P.zip vs) m p=_
  unfold bindL
  rw[z5f fun v hv=>(List.nodup_cons.mp nd).1 (List.of_mem_zip hv).1,if_pos hk]
  simp
 |p::P,w::vs,i+1,m,nd,h1,h2,hk=>by
  show bindL kindOf ((p,w)::P.zip vs) m x=_
  unfold bindL
  exact z5g (i:=i) (List.nodup_cons.mp nd).2 (by simpa using h1) (by simpa using h2) hk
theorem z5i{kindOf:Str->Option NameKind}{x:Str}{v:Value}:∀{P:List Str}{vs:List Value}{i:Nat}{m:Str->Option Value},P.Nodup->P[i]?=some x->vs[i]?=some v->kindOf x≠some .local->
  bindC kindOf (P.zip vs) m x=some v
 |[],_,_,_,_,h,_,_=>by simp at h
 |_::_,[],_,_,_,_,h,_=>by simp at h
 |p::P,w::vs,0,m,nd,h1,h2,hk=>by
  simp at h1 h2;subst h1;subst h2
  show bindC kindOf ((p,w)::P.zip vs) m p=_
  unfold bindC
  rw[z5h fun v hv=>(List.nodup_cons.mp nd).1 (List.of_mem_zip hv).1,if_neg hk]
  simp
 |p::P,w::vs,i+1,m,nd,h1,h2,hk=>by
  show bindC kindOf ((p,w)::P.zip vs) m x=_
  unfold bindC
  exact z5i (i:=i) (List.nodup_cons.mp nd).2 (by simpa using h1) (by simpa using h2) hk
def q9r(N:List Str)(vs:List V):St:=vs.map some++List.replicate (N.length-vs.length) none
def cxOf(CX:CXT)(P:Program)(w:World)(K:Frag)(mg:Str->Option Value)(base:Heap)(N:List Str)(qual:Str)(scope:Scope)(f:Addr)(cd:Value)(A:Around)(outer:List Env)(s:Shared)(H:Hp)(E:XK):Cx where
 prog:=P
 w:=w
 K:=K
 mg:=mg
 base:=base
 A:=A.deeper (envOfC qual scope s.heap.objs.size f cd)
 N:=N
 s₀:=s
 H₀:=H
 env:=envOfC qual scope s.heap.objs.size f cd
 outer:=outer
 stack:=envOfC qual scope s.heap.objs.size f cd::outer
 ex:=[]
 calm:=true
 fn:=fun _=>true
 pn:=[]
 xe:=fun e s'=>wpAny (model P w) (A.deeper (envOfC qual scope s.heap.objs.size f cd)) (leaving (envOfC qual scope s.heap.objs.size f cd) e) (fun _ s''=>CX outer H s E e s'') (fun e' s''=>CX outer H s E e' s'') s'
theorem z8c{sc:Scope}{n:Nat}{x:Str}(h:sc.names.lookup x=some .cell):∃c,(cellsFrom n sc.names []).lookup x=some c:=by
 have q:=PySem.W.cellsFrom_some sc.names n [] (.inl h)
 exact Option.isSome_iff_exists.mp q
theorem y2x{CX:CXT}{P:Program}{w:World}{K:Frag}{mg:Str->Option Value}{base:Heap}{N ps:List Str}{qual:Str}{scope:Scope}{f:Addr}{cd:Value}{A:Around}{outer:List Env}{s s1:Shared}{H:Hp}{E:XK}{us:List Value}{vs:List V}
  (S:FnScope N ps scope) (hd:A.handled=none) (e0:Env0 P w K mg base A outer s H) (hl:vs.length=ps.length) (r:Vals vs us)
  (x:InCallC s s.heap.objs.size (bindL (envOfC qual scope s.heap.objs.size f cd).kindOf (ps.zip us) fun _=>none) (cellsFrom (s.heap.objs.size+1) scope.names []) (bindC (envOfC qual scope s.heap.objs.size f cd).kindOf (ps.zip us) fun _=>none) s1) :
  Inv (cxOf CX P w K mg base N qual scope f cd A outer s H E) [] (q9r N vs) H s1:=by
 have hpl:ps.length<=N.length:=by have:=congrArg List.length S.pre;rw[List.length_take]at this;omega
 obtain⟨h1,tk,rfl,hk⟩:=x.done
 have noA:∀b:Addr,b∉(cxOf CX P w K mg base N qual scope f cd A outer s H E).ex:=fun b z=>absurd (show b∈([]:List Addr)from z) (by simp)
 refine⟨⟨e0.mod,S.kind,rfl,rfl,Nat.le_refl _,fun y z c h1 h2=>?_,fun y hy=>?_,fun y c _ h=>?_,fun _=>hd,Around.frames_deeper e0.frames,.inr ⟨rfl,rfl⟩,fun b z=>absurd z (noA b),e0.bs,e0.bsz,fun b _ _=>noA b,fun b z=>absurd z (noA b),e0.funs,e0.frf⟩,
  rfl,e0.bare,Un.kept hk,⟨_,x.toInCall.ns,fun i y v h1 h2 h3=>?_⟩,fun y c h=>⟨_,x.cell y c h⟩,e0.hok.fresh (Nat.le_refl _),fun y c h=>?_,fun p hp=>absurd (show p∈([]:List (Addr×Obj))from hp) (by simp),e0.hok.kept hk,?_⟩
 ·exact name_of_addr x.apart (PySem.mem_of_lookup h1) (PySem.mem_of_lookup h2)
 ·have hy:scope.names.lookup y=some .cell\/scope.names.lookup y=some .free:=hy
  rcases hy with hy|hy
  ·exact z8c hy
  ·exact absurd rfl (S.nofree _ (PySem.mem_of_lookup hy))
 ·exact Nat.le_of_lt (x.above y c (PySem.mem_of_lookup h))
 ·have hi:i<vs.length:=by
   unfold q9r at h2
   by_cases hi:i<vs.length
   ·exact hi
   ·rw[List.getElem?_append_right (by simpa using hi)]at h2
    rw[List.getElem?_replicate]at h2
    split at h2<;>cases h2
  have ha:vs[i]?=some v:=by
   unfold q9r at h2
   rw[List.getElem?_append_left (by simpa using hi),List.getElem?_map]at h2
   cases e:vs[i]? with
   |none=>rw[e]at h2;cases h2
   |some a=>rw[e]at h2;cases h2;rfl
  obtain⟨u,hu,rv⟩:=r.get ha
  have hp:ps[i]?=some y:=by
   rw[<-S.pre,List.getElem?_take_of_lt (by omega)];exact h1
  have ndP:ps.Nodup:=by rw[<-S.pre];exact S.nd.sublist (List.take_sublist _ _)
  refine⟨u,rv,?_⟩
  rcases S.par y (List.mem_of_getElem? hp)with k|k
  ·exact .inl ⟨k,z5g ndP hp hu k⟩
  ·obtain⟨c,e⟩:=z8c (n:=s.heap.objs.size+1) k
   refine .inr ⟨.inl k,c,e,?_⟩
   have q:=x.cell y c e
   rw[z5i ndP hp hu (by show scope.names.lookup y≠_;rw[k];decide)]at q
   exact q
 ·exact e0.hok.fresh (Nat.le_of_lt (x.above y c (PySem.mem_of_lookup h)))
 ·unfold q9r
  show _=N.length
  rw[List.length_append,List.length_map,List.length_replicate]
  omega
theorem w1b{CX:CXT}{P:Program}{w:World}{K:Frag}{mg:Str->Option Value}{base:Heap}{k:Nat}{f:Addr}{name qual:Str}{params:Arguments}{body:List Stmt}{scope:Scope}{dV kV doc pm cdv ct oc:Value}{an od:Option Addr}
  {osl:Array (Option Value)} {N ps:List Str} {sp:Sp} (lk:K.lookup f=some ⟨oc,od,.func (PySem.W.fnOf name qual params body scope dV kV doc pm an cdv ct),osl⟩) (hcd:PySem.W.codeIn K cdv qual=true) (S:FnScope N ps scope)
  (len:∀vs H Q E,sp vs H Q E->vs.length=ps.length)
  (hbody:∀(A:Around)(outer:List Env)(s:Shared)(H:Hp)(vs:List V)(Q:VK)(E:XK),RoomW k (A.deeper (envOfC qual scope s.heap.objs.size f cdv))->sp vs H Q E->
   ∃t,PSs (cxOf CX P w K mg base N qual scope f cdv A outer s H E) body t/\t {nx:=fun _ H'=>Q .non H',rt:=Q} (q9r N vs) H) :
  FnOk P w K mg base CX (k+1) f (PySem.W.fnOf name qual params body scope dV kV doc pm an cdv ct) ps sp:=by
 refine⟨len,fun A outer s H args us vs Q E hr e0 hb r hsp=>?_⟩
 have hl:=len _ _ _ _ hsp
 have KX:K.In s.heap:=e0.mod.kin.keeps fun b o e=>(e0.bs b o e).1
 have lim:s.heap.NoLimit:=e0.mod.nolimit.keeps fun b o e=>(e0.bs b o e).1
 have hkind:∀y∈ps.zip us,scope.names.lookup y.1=some .local\/(scope.names.lookup y.1=some .cell/\((cellsFrom (s.heap.objs.size+1) scope.names []).lookup y.1).isSome=true):=fun hh1 hy=>by
  obtain⟨n,v⟩:=hh1
  rcases S.par n (List.of_mem_zip hy).1 with q|q
  ·exact .inl q
  ·exact .inr ⟨q,PySem.W.cellsFrom_some _ _ _ (.inl q)⟩
 refine codeAny_call_function hr.depth (KX _ _ lk) rfl S.co S.gen rfl (PySem.W.codeRec_of KX hcd) (hb _ _ _ _ ?_)
 refine wpAny_newFunctionEnv_cells S.kind hkind fun env he s1 x=>?_
 subst he
 refine⟨lim.keeps x.toInCall.keep,codeAny_func ?_⟩
 obtain⟨t,ht,hq⟩:=hbody A outer s H vs Q E (hr.deeperW _) hsp
 have I:Inv (cxOf CX P w K mg base N qual scope f cdv A outer s H E) [] (q9r N vs) H s1:=y2x S hr.hd e0 hl r x
 refine wpAny_mono (ht [] s1 (q9r N vs) H _ I hq) (fun fl s' hs=>?_) fun e s' hs=>hs
 have fin:∀{σ':St}{H':Hp}{v:V}{u:Value},Inv (cxOf CX P w K mg base N qual scope f cdv A outer s H E) [] σ' H' s'->RelV v u->Q v H'->CE outer P w H s Q u s':=
  fun {σ' H' v u} J rv q=>⟨v,H',J.os,J.bare,J.base,J.hok,rv,q⟩
 cases fl with
 |ret u=>
  obtain⟨v,σ',H',J,rv,q⟩:=hs
  exact fin J rv q
 |next=>
  obtain⟨σ',H',J,q⟩:=hs
  exact fin (v:=V.non) (u:=Value.none) J rfl q
 |brk=>
  obtain⟨_,_,_,q⟩:=hs
  exact False.elim q
 |cont=>
  obtain⟨_,_,_,q⟩:=hs
  exact False.elim q
section
variable{X:Cx}{x:Str}{p pos:Pos}{e:Expr}{es:List Expr}{t:TA}{id T:String}{r:List V->Hp->VK->Prop}
def tCB(r:List V->Hp->VK->Prop)(t:TA):TE:=fun σ H Q=>t σ H fun vs H1=>r vs H1 Q
theorem z2b(hc:q6g X (.builtin id) r)(hg:Gl X x)(hm:X.mg x=none)(hv:bootBuiltins x=some (.builtin id))(ha:PA X (e::es) t)(hn:x≠ "__name__" :=by decide)(hdb:(x==("__debug__" : Str))=false:=by decide)
  (he:starEach (e::es) X.env=(false,eval e X.env)::starEach es X.env:=by rfl) (hpl:(backTo pos (starEach es X.env)).any (·.1)=false:=by rfl):PE X (.Call (.Name x p) (e::es) [] pos) (tCB r t):=by
 intro pins s σ H Q I h
 refine wpAny_Call_Name_kw (z1j I hg hm hv ?_ hn hdb)
 exact PyProof.Rows.callWith_builtin1 (thn (ha pos pins s σ H _ I h) fun us s1 hh1=>by obtain⟨vs,H1,I1,r1,q1⟩:=hh1;exact(hc pins s1 σ H1 vs us Q I1 r1 q1)) he hpl
theorem y1l(hc:q6g X (.type T) r)(hg:Gl X x)(hm:X.mg x=none)(hv:bootBuiltins x=some (.type T))(ha:PA X (e::es) t)(hn:x≠ "__name__" :=by decide)(hdb:(x==("__debug__" : Str))=false:=by decide)
  (he:starEach (e::es) X.env=(false,eval e X.env)::starEach es X.env:=by rfl) (hpl:(backTo pos (starEach es X.env)).any (·.1)=false:=by rfl):PE X (.Call (.Name x p) (e::es) [] pos) (tCB r t):=by
 intro pins s σ H Q I h
 refine wpAny_Call_Name_kw (z1j I hg hm hv ?_ hn hdb)
 exact PyProof.Rows.callWith_type1 (thn (ha pos pins s σ H _ I h) fun us s1 hh1=>by obtain⟨vs,H1,I1,r1,q1⟩:=hh1;exact(hc pins s1 σ H1 vs us Q I1 r1 q1)) he hpl
end
end L2
namespace HT
open PySem PyProof.Rows
section
open PySem.SeqAt
open PySem.AutoSeq1 (wpAny_loadPart')
open PySem.MeetsSeq PySem.MeetsSeq2 PySem.MeetsSeq3
end
section
variable{prog:Program}{w:World}{A:Around}{E:Value->Shared->Prop}{s:Shared}
theorem cat_tup{t b:Addr}{vs ws:List Value}{Q:Value->Shared->Prop}(ht:IsTup s.heap t vs.toArray)(hb:IsTup s.heap b ws.toArray)(hv:vs≠[])
  (h1:ws=[]->Q (.ref t) s) (h2:ws≠[]->Q (.ref s.heap.objs.size) {s with heap:=s.heap.push {cls:=.type "tuple",data:=.seq (vs++ws).toArray}})
  (hsz:vs.length+ws.length<=sizeLine):wpAny (model prog w) A (binaryOp .Add (.ref t) (.ref b)) Q E s:=by
 obtain⟨⟨cls,dd,data,sl⟩,ho,hc,n,hd⟩:=id ht
 obtain⟨⟨cls2,dd2,data2,sl2⟩,ho2,hc2,n2,hd2⟩:=id hb
 simp only at hc hd hc2 hd2
 subst hc hd hc2 hd2
 have e:vs.toArray++ws.toArray=(vs++ws).toArray:=by simp
 by_cases hw:ws=[]
 ·exact concat_meets ⟨_,ho,rfl⟩ ⟨_,ho2,rfl⟩ noFill_tuple_add seq_tuple_add PySem.F.slot_tuple_add PySem.F.entry_tuple_add (PySem.F.args_tuple_add_2 _ _)
   (tuple_addW1 t b vs.toArray ws.toArray n n2 dd dd2 sl sl2 (by simpa using hv) (by simp[hw])) ⟨ho,ho2,h1 hw⟩
 ·refine concat_meets ⟨_,ho,rfl⟩ ⟨_,ho2,rfl⟩ noFill_tuple_add seq_tuple_add PySem.F.slot_tuple_add PySem.F.entry_tuple_add (PySem.F.args_tuple_add_2 _ _)
   (tuple_addW2 t b vs.toArray ws.toArray n n2 dd dd2 sl sl2 (by simpa using hv) (by simpa using hw) (by rw[List.size_toArray,List.size_toArray];exact hsz)) ⟨ho,ho2,?_⟩
  rw[e]
  exact h2 hw
def sIx(n d:Nat):Option Int->Nat
 |none=>d
 |some v=>if v<0 then(v+(n:Int)).toNat else min v.toNat n
theorem sIx_none(n d:Nat):sIx n d none=d:=rfl
theorem sIx_nat(n d k:Nat):sIx n d (some (k:Int))=min k n:=by
 show(if(k:Int)<0 then((k:Int)+(n:Int)).toNat else min (k:Int).toNat n)=min k n
 rw[if_neg (by omega),Int.toNat_natCast]
theorem sIx_le(n d:Nat)(hd:d<=n)(o:Option Int):sIx n d o<=n:=by
 cases o with
 |none=>exact hd
 |some v=>
  show(if v<0 then(v+(n:Int)).toNat else min v.toNat n)<=n
  by_cases hv:v<0
  ·rw[if_pos hv];omega
  ·rw[if_neg hv];exact Nat.min_le_right _ _
theorem y4d(v:Int)(n d:Nat):(if v<0 then max (v+(n:Int)) 0 else min v (n:Int))=((sIx n d (some v):Nat):Int):=by
 show(if v<0 then max (v+(n:Int)) 0 else min v (n:Int))=(((if v<0 then(v+(n:Int)).toNat else min v.toNat n):Nat):Int)
 by_cases hv:v<0
 ·simp only[if_pos hv];omega
 ·simp only[if_neg hv];omega
theorem z9r(lo hi:Option Int)(n:Nat):Builtin.Slice.sliceAdjust lo hi 1 (n:Int)=(((sIx n 0 lo:Nat):Int),((sIx n n hi:Nat):Int)):=by
 have h1:¬((1:Int)<0):=by omega
 unfold Builtin.Slice.sliceAdjust
 simp only[h1,if_false]
 refine Prod.ext ?_ ?_
 ·cases lo with
  |none=>rfl
  |some v=>exact y4d v n 0
 ·cases hi with
  |none=>rfl
  |some v=>exact y4d v n n
theorem z8u(i j:Nat):Builtin.Slice.slicePlaces (i:Int) (j:Int) 1=j-i:=by
 unfold Builtin.Slice.slicePlaces
 have h1:(1:Int) > 0:=by omega
 simp only[h1,if_true,Int.ediv_one]
 split<;>omega
theorem z1c{v:Value}{o:Option Int}{Q:Option Int->Shared->Prop}(p:IsPart v o)(h:Q o s):wpAny (model prog w) A (Builtin.Slice.slicePartIndex v) Q E s:=by
 cases p with
 |none=>exact slicePart_none h
 |int i t=>exact slicePart_int h
theorem q8w{sl:Addr}{vl vu:Value}{lo hi:Option Int}{n:Nat}{Q:Int×Int×Nat->Shared->Prop}(hs:s.heap.IsSliceOf sl vl vu .none)(pl:IsPart vl lo)(pu:IsPart vu hi)
  (h:Q (((sIx n 0 lo:Nat):Int),1,sIx n n hi-sIx n 0 lo) s):wpAny (model prog w) A (Builtin.Slice.sliceApplied (.ref sl) (pure (n:Int))) Q E s:=by
 obtain⟨os,hos,hcs,hds⟩:=id hs
 unfold Builtin.Slice.sliceApplied Builtin.Slice.sliceFields
 refine wpAny_bind (wpAny_bind (wpAny_field hos hds (x:=vl) rfl (wpAny_bind (wpAny_field hos hds (x:=vu) rfl (wpAny_bind (wpAny_field hos hds (x:=.none) rfl (wpAny_pure ?_)))))))
 refine wpAny_bind (slicePart_none ?_)
 show wpAny _ _ (if((1:Int)==0)=true then _ else _) _ _ s
 rw[if_neg (by decide)]
 refine wpAny_bind (z1c pl (wpAny_bind (z1c pu (wpAny_bind (wpAny_pure ?_)))))
 show wpAny _ _ (match Builtin.Slice.sliceAdjust lo hi 1 (n:Int)with|(lo,hi)=>pure (lo,(1:Int),Builtin.Slice.slicePlaces lo hi 1)) _ _ s
 rw[z9r lo hi n]
 show wpAny _ _ (pure (((sIx n 0 lo:Nat):Int),(1:Int),Builtin.Slice.slicePlaces ((sIx n 0 lo:Nat):Int) ((sIx n n hi:Nat):Int) 1)) _ _ s
 rw[z8u]
 exact wpAny_pure h
theorem y6f(xs:Array Value)(i k:Nat):((List.range k).filterMap fun(m:Nat)=>xs[((i:Int)+(m:Int)*1).toNat]?).toArray=((xs.toList.drop i).take k).toArray:=by
 have e:(fun(m:Nat)=>xs[((i:Int)+(m:Int)*1).toNat]?)=fun m=>xs[i+m]?:=by
  funext m
  have:((i:Int)+(m:Int)*1).toNat=i+m:=by omega
  rw[this]
 rw[e]
 have:=pick_run xs i k
 rw[List.filterMap_map]at this
 have e2:((fun x=>xs[x]?)∘fun x=>i+x)=fun m=>xs[i+m]?:=rfl
 rw[e2]at this
 rw[this]
theorem getItem_tuple_cut{t sl:Addr}{items:Array Value}{vl vu:Value}{lo hi:Option Int}{Q:Value->Shared->Prop}(ht:IsTup s.heap t items)(hs:s.heap.IsSliceOf sl vl vu .none)(pl:IsPart vl lo)(pu:IsPart vu hi)
  (hw:¬(sIx items.size 0 lo=0/\sIx items.size items.size hi=items.size))
  (h:Q (.ref s.heap.objs.size) {s with heap:=s.heap.push {cls:=.type "tuple",data:=.seq ((items.toList.drop (sIx items.size 0 lo)).take (sIx items.size items.size hi-sIx items.size 0 lo)).toArray}})
  (hsz:items.size<=sizeLine):wpAny (model prog w) A (getItem (.ref t) (.ref sl)) Q E s:=by
 have htake:sizeOk (.seq ((items.toList.drop (sIx items.size 0 lo)).take (sIx items.size items.size hi-sIx items.size 0 lo)).toArray):=by
  show((items.toList.drop (sIx items.size 0 lo)).take (sIx items.size items.size hi-sIx items.size 0 lo)).toArray.size<=sizeLine
  rw[List.size_toArray,List.length_take,List.length_drop,Array.length_toList]
  omega
 have hj:sIx items.size items.size hi<=items.size:=sIx_le _ _ (Nat.le_refl _) hi
 obtain⟨os,hos,hcs,hds⟩:=id hs
 have hTs:s.TypeIs (.ref sl) "slice" :=⟨os,hos,hcs⟩
 unfold getItem
 try with_reducible refine wpAny_holding ?_
 first|refine wpAny_bind (wpAny_pure ?_)|skip
 refine wpAny_bind (wpAny_sequenceKey ht.typeIs (by decide) ?_)
 refine wpAny_bind (wpAny_callSpecial?_slot (name:=Str.ofString "__getitem__") ht.typeIs PyProof.Rows.slot_tuple_getitem
  (wpAny_call_entry PyProof.Rows.slot_tuple_getitem ht.typeIs entry_tuple_getitem ?_ (args_tuple_getitem _ _)))
 show wpAny _ _ (Builtin.Tuple.tupleItemsOf (.ref t) >>= _) _ _ s
 refine wpAny_bind (tupleItemsOf_ ht ?_)
 refine wpAny_bind (wpAny_typeOf hTs ?_)
 rw[if_pos (by decide)]
 refine wpAny_bind (q8w hs pl pu ?_)
 have hno:¬((((sIx items.size 0 lo:Nat):Int)==0&&(1:Int)==1&&(sIx items.size items.size hi-sIx items.size 0 lo)==items.size)=true):=by
  intro q
  rw[Bool.and_eq_true,Bool.and_eq_true]at q
  have q1:((sIx items.size 0 lo:Nat):Int)=0:=eq_of_beq q.1.1
  have q2:sIx items.size items.size hi-sIx items.size 0 lo=items.size:=eq_of_beq q.2
  exact hw ⟨by omega,by omega⟩
 show wpAny _ _ (if(((sIx items.size 0 lo:Nat):Int)==0&&(1:Int)==1&&(sIx items.size items.size hi-sIx items.size 0 lo)==items.size)=true then _ else _) _ _ s
 rw[if_neg hno,y6f]
 first
  |exact wpAny_bind (m:=Builtin.Tuple.tupleExact _) (wpAny_newObj_type (wpAny_pure ⟨_,rfl,wpAny_pure h⟩) htake)
  |exact wpAny_bind (m:=Builtin.Tuple.tupleExact _) (wpAny_newObj_type (wpAny_bind (wpAny_pure (wpAny_pure ⟨_,rfl,wpAny_pure h⟩))) htake)
  |exact wpAny_bind (wpAny_bind (m:=Builtin.Tuple.tupleExact _) (wpAny_newObj_type (wpAny_pure (wpAny_pure ⟨_,rfl,wpAny_pure h⟩)) htake))
  |exact wpAny_bind (wpAny_bind (m:=Builtin.Tuple.tupleExact _) (wpAny_newObj_type (wpAny_pure ⟨_,rfl,wpAny_pure h⟩) htake))
end
end HT
namespace L2
open PySem PySem.Spec PyProof.Rows
abbrev TO:=St->Hp->(Option Int->Hp->Prop)->Prop
def PO(X:Cx)(e:Option Expr)(t:TO):Prop:=
 ∀(pins:List (Addr×Obj))(s:Shared)(σ:St)(H:Hp)(Q:Option Int->Hp->Prop),Inv X pins σ H s->t σ H Q->
  wpAny (model X.prog X.w) X.A (evalPart e X.env) (fun u s'=>∃o H',Inv X pins σ H' s'/\IsPart u o/\Q o H') X.xe s
def x0i:TO:=fun _ H Q=>Q none H
def x9m(t:TE):TO:=fun σ H Q=>t σ H fun x H1=>∃i,x=.int i/\Q (some i) H1
theorem z9m{ns:List Int}:∀{us:List Value},Vals (ns.map V.int) us->IntsAre us ns:=by
 induction ns with
 |nil=>intro us r;rw[List.map_nil]at r;cases r;exact .nil
 |cons n ns ih=>
  intro us r
  rw[List.map_cons]at r
  cases r with
  |cons r1 r2=>
   obtain⟨t,e⟩:=r1
   subst e
   exact .cons n t (ih r2)
section
variable{X:Cx}{e:Expr}{te:TE}{lo hi:Option Expr}{tl th:TO}{pos p2:Pos}
theorem x1h:PO X none x0i:=by
 intro pins s σ H Q I h
 rw[evalPart_none]
 exact wpAny_pure ⟨none,H,I,.none,h⟩
theorem x1g(h:PE X e te):PO X (some e) (x9m te):=by
 intro pins s σ H Q I hw
 rw[evalPart_some]
 refine thn (h pins s σ H _ I hw) fun u s1 hh1=>?_
 obtain⟨x,H1,I1,r1,q1⟩:=hh1
 obtain⟨i,rfl,q⟩:=q1
 obtain⟨t,rfl⟩:=r1
 exact⟨some i,H1,I1,.int i t,q⟩
def SlR(X:Cx)(r:V->Option Int->Option Int->Hp->VK->Prop):Prop:=
 ∀(pins:List (Addr×Obj))(s:Shared)(σ:St)(H:Hp)(x:V)(v vl vu:Value)(lo hi:Option Int)(sl:Addr)(Q:VK),Inv X pins σ H s->RelV x v->s.heap.IsSliceOf sl vl vu .none->IsPart vl lo->IsPart vu hi->r x lo hi H Q->
  ∃T id,typeLookup (.type T) "__getitem__" = pure (some (.builtin id))/\s.TypeIs v T/\wpAny (model X.prog X.w) X.A (getItem v (.ref sl)) (EP X pins σ Q) X.xe s
def tSl(r:V->Option Int->Option Int->Hp->VK->Prop)(te:TE)(tl th:TO):TE:=fun σ H Q=>te σ H fun x H1=>tl σ H1 fun l H2=>th σ H2 fun u H3=>r x l u H3 Q
theorem y6i{r:V->Option Int->Option Int->Hp->VK->Prop}(hr:SlR X r)(he:PE X e te)(hl:PO X lo tl)(hu:PO X hi th):PE X (.Subscript e (.Slice lo hi none p2) pos) (tSl r te tl th):=by
 intro pins s σ H Q I h
 refine Subscript_ (thn (he pins s σ H _ I h) fun v s1 hh1=>?_)
 obtain⟨x,H1,I1,r1,q1⟩:=hh1
 refine wpAny_Slice (thn (hl pins s1 σ H1 _ I1 q1) fun vl s2 ⟨l,H2,I2,pl,q2⟩=>thn (hu pins s2 σ H2 _ I2 q2) fun vu s3 hh2=>?_)
 obtain⟨u,H3,I3,pu,q3⟩:=hh2
 rw[evalPart_none]
 refine wpAny_pure ?_
 have I4:Inv X pins σ H3 {s3 with heap:=s3.heap.push {cls:=.type "slice",data:=.fields #[vl,vu,.none]}}:=I3.kept (t':=s3.toks) fun b ob q=>Heap.get?_push_of_some _ q
 obtain⟨T,id,hT,ht,hg⟩:=hr pins {s3 with heap:=s3.heap.push {cls:=.type "slice",data:=.fields #[vl,vu,.none]}} σ H3 x v vl vu l u s3.heap.objs.size Q I4 r1 (Heap.IsSliceOf.new ..) pl pu q3
 show wpAny (model X.prog X.w) X.A (subscriptTail e (.Slice lo hi none p2) v (.ref s3.heap.objs.size)) (EP X pins σ Q) X.xe {s3 with heap:=s3.heap.push {cls:=.type "slice",data:=.fields #[vl,vu,.none]}}
 exact tail_any (ops:=[.ref s3.heap.objs.size,v]) ht hT hg (by with_unfolding_all rfl)
def cutV(xs:List V)(lo hi:Option Int):List V:=(xs.drop (HT.sIx xs.length 0 lo)).take (HT.sIx xs.length xs.length hi-HT.sIx xs.length 0 lo)
theorem z0m(xs:List V)(lo hi:Option Int):(cutV xs lo hi).length<=xs.length:=by
 unfold cutV
 rw[List.length_take,List.length_drop]
 omega
def rSlT(K:Frag):V->Option Int->Option Int->Hp->VK->Prop:=fun x lo hi H Q=>∃a xs,x=.ref a/\SqT K H a xs/\
 ¬(HT.sIx xs.length 0 lo=0/\HT.sIx xs.length xs.length hi=xs.length)/\∀p,H p=none->Q (.ref p) (upd H p (.tup (cutV xs lo hi)))
theorem x4t:SlR X (rSlT X.K):=by
 intro pins s σ H x v vl vu lo hi sl Q I rx hs pl pu h
 obtain⟨a,xs,rfl,hx,hw,q⟩:=h
 cases rx
 obtain⟨its,r,ht,hz⟩:=I.tuple hx
 have hlen:its.toArray.size=xs.length:=by rw[List.size_toArray];exact r.length.symm
 refine⟨"tuple",_,PyProof.Rows.slot_tuple_getitem.lookup,ht.typeIs,?_⟩
 refine HT.getItem_tuple_cut ht hs pl pu (by rw[hlen];exact hw) ?_ (by rw[hlen];exact hz)
 rw[hlen]
 refine⟨.ref s.heap.objs.size,_,I.laid (t':=s.toks) (o:=.tup (cutV xs lo hi)) (fun b ob q=>Heap.get?_push_of_some _ q) (Nat.le_refl _) ?_,rfl,q _ (I.hok.fresh (Nat.le_refl _))⟩
 exact⟨Nat.le_trans (z0m xs lo hi) hz,_,(r.drop (HT.sIx xs.length 0 lo)).take (HT.sIx xs.length xs.length hi-HT.sIx xs.length 0 lo),IsTup.new _ _⟩
def x5b(K:Frag):R2:=fun x y H Q=>∃a b xs ys,x=.ref a/\y=.ref b/\SqT K H a xs/\SqT K H b ys/\xs≠[]/\xs.length+ys.length<=sizeLine/\
 (ys=[]->Q (.ref a) H)/\(ys≠[]->∀p,H p=none->Q (.ref p) (upd H p (.tup (xs++ys))))
theorem Vals.nil_iff{xs:List V}{us:List Value}(r:Vals xs us):us=[]↔xs=[]:=by
 cases r with
 |nil=>simp
 |cons _ _=>simp
theorem x1q:OpR X (binaryOp .Add) (x5b X.K):=by
 intro pins s σ H x y v u Q I rx ry h
 obtain⟨a,b,xs,ys,rfl,rfl,ha,hb,hx,hz,q1,q2⟩:=h
 cases rx
 cases ry
 obtain⟨its,r1,p1,_⟩:=I.tuple ha
 obtain⟨its2,r2,p2,_⟩:=I.tuple hb
 refine HT.cat_tup p1 p2 (fun z=>hx (r1.nil_iff.mp z)) (fun z=>⟨.ref a,H,I,rfl,q1 (r2.nil_iff.mp z)⟩) (fun z=>?_) (by rw[<-r1.length,<-r2.length];exact hz)
 refine⟨.ref s.heap.objs.size,_,I.laid (t':=s.toks) (o:=.tup (xs++ys)) (fun b ob q=>Heap.get?_push_of_some _ q) (Nat.le_refl _) ?_,rfl,q2 (fun w=>z (r2.nil_iff.mpr w)) _ (I.hok.fresh (Nat.le_refl _))⟩
 exact⟨by rw[List.length_append];exact hz,_,r1.append r2,IsTup.new _ _⟩
end
def ixN(n:Nat)(i:Int):Option Nat:=if 0<=i then(if i<n then some i.toNat else none)else if -(n:Int)<=i then some (i+n).toNat else none
def atI{α:Type}(xs:List α)(i:Int):Option α:=(ixN xs.length i).bind fun j=>xs[j]?
theorem z6e{n:Nat}{i:Int}{j:Nat}(h:ixN n i=some j):seqIndex? i n=some j/\j<n/\-(n:Int)<=i/\i<n:=by
 unfold ixN at h
 by_cases h0:0<=i
 ·rw[if_pos h0]at h
  by_cases h1:i<n
  ·rw[if_pos h1]at h
   have e:i.toNat=j:=Option.some.inj h
   exact⟨by rw[seqIndex_of h0 h1,e],by omega,by omega,h1⟩
  ·rw[if_neg h1]at h;cases h
 ·rw[if_neg h0]at h
  by_cases h1:-(n:Int)<=i
  ·rw[if_pos h1]at h
   have e:(i+n).toNat=j:=Option.some.inj h
   exact⟨by rw[seqIndex_neg (by omega) h1,e],by omega,h1,by omega⟩
  ·rw[if_neg h1]at h;cases h
theorem z6y{α:Type}{xs:List α}{i:Int}{v:α}(h:atI xs i=some v):∃j,seqIndex? i xs.length=some j/\xs[j]?=some v/\j<xs.length/\-(xs.length:Int)<=i/\i<xs.length:=by
 unfold atI at h
 cases e:ixN xs.length i with
 |none=>rw[e]at h;cases h
 |some j=>
  rw[e]at h
  obtain⟨h1,h2,h3,h4⟩:=z6e e
  exact⟨j,h1,h,h2,h3,h4⟩
theorem x3l{α:Type}{xs:List α}{j:Nat}{v:α}(h:xs[j]?=some v):atI xs (j:Int)=some v:=by
 have hj:j<xs.length:=(List.getElem?_eq_some_iff.mp h).1
 have e:ixN xs.length (j:Int)=some j:=by
  unfold ixN
  rw[if_pos (by omega),if_pos (by omega)];simp
 unfold atI;rw[e];exact h
def y4n(b:Expr):Prop:=∀o i,subscripted b false o i=operate [o,i] (getItem o i)
def IxR(X:Cx)(r:R2):Prop:=
 ∀(value slice:Expr)(pins:List (Addr×Obj))(s:Shared)(σ:St)(H:Hp)(x y:V)(v u:Value)(Q:VK),Inv X pins σ H s->RelV x v->RelV y u->r x y H Q->
  subscripted slice false v u=operate [v,u] (getItem v u)->wpAny (model X.prog X.w) X.A (subscriptTail value slice v u) (EP X pins σ Q) X.xe s
def MtR(X:Cx)(id:String)(r:V->List V->Hp->VK->Prop):Prop:=
 ∀(pins:List (Addr×Obj))(s:Shared)(σ:St)(H:Hp)(x:V)(xs:List V)(v:Value)(us:List Value)(Q:VK),Inv X pins σ H s->RelV x v->Vals xs us->r x xs H Q->
  wpAny (model X.prog X.w) X.A (call (.builtin id) (v::us)) (EP X pins σ Q) X.xe s
section
variable{X:Cx}{a b:Expr}{ta tb:TE}{pos:Pos}
theorem w0k{r:R2}(hr:IxR X r)(ha:PE X a ta)(hb:PE X b tb)(hs:y4n b):PE X (.Subscript a b pos) (tOp r ta tb):=by
 intro pins s σ H Q I h
 exact Subscript_ (binT ha hb I h fun v u s2 x y H2 I2 rx ry q=>hr a b pins s2 σ H2 x y v u Q I2 rx ry q (hs _ _))
def rIxL(K:Frag):R2:=fun x y H Q=>∃p xs i v,x=.ref p/\y=.int i/\SqL K H p xs/\atI xs i=some v/\Q v H
def rIxT(K:Frag):R2:=fun x y H Q=>∃p xs i v,x=.ref p/\y=.int i/\SqT K H p xs/\atI xs i=some v/\Q v H
def rIxS:R2:=fun x y H Q=>∃z i c,x=.str z/\y=.int i/\z.length<=sizeLine/\atI z.cps.toList i=some c/\Q (.str ⟨#[c]⟩) H
theorem y2v:IxR X (rIxL X.K):=by
 intro value slice pins s σ H x y v u Q I rx ry h hs
 obtain⟨p,xs,i,z,rfl,rfl,hq,he,q⟩:=h
 cases rx
 obtain⟨t,rfl⟩:=ry
 obtain⟨its,r,pl,hz⟩:=I.list hq
 obtain⟨j,h1,h2,h3,h4,h5⟩:=z6y he
 obtain⟨w,ew,rw'⟩:=r.get h2
 have hl:=r.length
 have hn:=z0e
 have fin:EP X pins σ Q w s:=⟨z,H,I,rw',q⟩
 by_cases h0:0<=i
 ·have hj:i.toNat=j:=by
   rw[seqIndex_of h0 h5]at h1
   exact Option.some.inj h1
  exact item_listR pl.isList h0 (by omega) (by rw[hj];simpa using ew) fin hs
 ·have hj:(i+(its.toArray.size:Int)).toNat=j:=by
   rw[seqIndex_neg (by omega) h4]at h1
   rw[List.size_toArray,<-hl]
   exact Option.some.inj h1
  exact subscriptTail_builtinR (x:=w) pl.isList.typeIs slot_list_getitem.lookup
   (wpAny_getItem_list_neg (Q:=fun r s'=>r=w/\EP X pins σ Q r s') pl.isList (by omega) (by rw[List.size_toArray]<;>omega) (by omega) (by rw[hj];simpa using ew) ⟨rfl,fin⟩) hs
theorem x7i:IxR X (rIxT X.K):=by
 intro value slice pins s σ H x y v u Q I rx ry h hs
 obtain⟨p,xs,i,z,rfl,rfl,hq,he,q⟩:=h
 cases rx
 obtain⟨t,rfl⟩:=ry
 obtain⟨its,r,pl,hz⟩:=I.tuple hq
 obtain⟨j,h1,h2,h3,h4,h5⟩:=z6y he
 obtain⟨w,ew,rw'⟩:=r.get h2
 have hl:=r.length
 have hn:=z0e
 have fin:EP X pins σ Q w s:=⟨z,H,I,rw',q⟩
 exact subscriptTail_builtinR (x:=w) pl.typeIs slot_tuple_getitem.lookup
  (getItem_tuple (j:=j) (Q:=fun r s'=>r=w/\EP X pins σ Q r s') pl (by omega) (by omega) (by rw[List.size_toArray,<-hl];exact h1) (by simpa using ew) ⟨rfl,fin⟩) hs
theorem x7j:IxR X rIxS:=by
 intro value slice pins s σ H x y v u Q I rx ry h hs
 obtain⟨z,i,c,rfl,rfl,hz,he,q⟩:=h
 obtain⟨t,rfl⟩:=rx
 obtain⟨t',rfl⟩:=ry
 obtain⟨j,h1,h2,h3,h4,h5⟩:=z6y he
 have hl:z.cps.toList.length=z.length:=by simp[Str.length]
 rw[hl]at h1 h4 h5
 have hn:=z0e
 exact tail_any (typeIs_str s z t) slot_str_getitem.lookup (getItem_str (c:=c) (by
  have e1:decide (i < -(2 ^ 63:Int))=false:=decide_eq_false (by omega)
  have e2:decide (i>=2 ^ 63)=false:=decide_eq_false (by omega)
  rw [e1,e2,Bool.or_false]) (by rw [h1];simpa using h2) ⟨.str ⟨#[c]⟩,H,I.tok _,⟨_,rfl⟩,q⟩) hs
theorem z8y(its:List Value)(n j:Nat)(u:Value):Obj.mapSeq (·.setIfInBounds j u) {cls:=.type "list",data:=.seq its.toArray n}={cls:=.type "list",data:=.seq (its.set j u).toArray n}:=by
 simp[Obj.mapSeq]
theorem Inv.lst{pins:List (Addr×Obj)}{σ:St}{H:Hp}{s:Shared}{p:Addr}{xs:List V}(I:Inv X pins σ H s)(h:H p=some (.lst xs)) :
  ∃(its:List Value)(n:Nat),Vals xs its/\s.heap.get? p=some {cls:=.type "list",data:=.seq its.toArray n}/\xs.length<=sizeLine:=by
 obtain⟨z,its,n,r,e⟩:=I.hok p _ h
 exact⟨its,n,r,e,z⟩
theorem Inv.lstUpd{pins:List (Addr×Obj)}{σ:St}{H:Hp}{s:Shared}{p:Addr}{xs ys:List V}{its its':List Value}{n n':Nat}{f:Obj->Obj}(I:Inv X pins σ H s)(h:H p=some (.lst xs))
  (ho:s.heap.get? p=some {cls:=.type "list",data:=.seq its.toArray n}) (hf:f {cls:=.type "list",data:=.seq its.toArray n}={cls:=.type "list",data:=.seq its'.toArray n' }) (r:Vals ys its') (hz:ys.length<=sizeLine) (t:Nat) :
  Inv X pins σ (upd H p (.lst ys)) {s with heap:=s.heap.update p f,toks:=t}:=by
 have e:(s.heap.update p f).get? p=some {cls:=.type "list",data:=.seq its'.toArray n' }:=by
  rw[Heap.get?_update_self f ho (by rw[hf]<;>rfl),hf]
 refine I.write (x:=p) (e:=p) (by rw[h];trivial) (.inl rfl) (fun b u hb q=>(Heap.get?_update_other _ _ (Ne.symm hb)).trans q) ⟨_,e⟩ ?_
 exact⟨hz,its',n',r,e⟩
def w0e:V->V->V->Hp->(Hp->Prop)->Prop:=fun o i v H Q=>∃p xs k j,o=.ref p/\i=.int k/\H p=some (.lst xs)/\ixN xs.length k=some j/\Q (upd H p (.lst (xs.set j v)))
theorem y5r:PSet X w0e:=by
 intro pins s σ H o i v ov iv u Q I ro ri rv h
 obtain⟨p,xs,k,j,rfl,rfl,hp,hj,q⟩:=h
 cases ro
 obtain⟨t,rfl⟩:=ri
 obtain⟨its,n,r,ho,hz⟩:=I.lst hp
 obtain⟨h1,h2,h3,h4⟩:=z6e hj
 have hl:=r.length
 have hn:=z0e
 have I':Inv X pins σ (upd H p (.lst (xs.set j v))) {s with heap:=s.heap.update p (Obj.mapSeq (·.setIfInBounds j u))}:=
  I.lstUpd hp ho (z8y its n j u) (r.set rv j) (by rw[List.length_set];exact hz) s.toks
 by_cases h0:0<=k
 ·have hk:k.toNat=j:=by
   rw[seqIndex_of h0 h4]at h1
   exact Option.some.inj h1
  exact PySem.W.ki_setAt ho h0 (by omega) (by rw[List.size_toArray,<-hl];exact h4) (by rw[hk];exact⟨_,I',q⟩)
 ·have hk:(k+(its.toArray.size:Int)).toNat=j:=by
   rw[seqIndex_neg (by omega) h3]at h1
   rw[List.size_toArray,<-hl]
   exact Option.some.inj h1
  exact PySem.W.ki_setBack ho (by omega) (by rw[List.size_toArray,<-hl];exact h3) (by omega) (by rw[hk];exact⟨_,I',q⟩)
theorem q8t(lo hi:Option Int)(n:Nat):(sliceBounds lo hi none n).1=((HT.sIx n 0 lo:Nat):Int)/\(sliceBounds lo hi none n).2.1=((HT.sIx n n hi:Nat):Int)/\(sliceBounds lo hi none n).2.2=1:=by
 refine⟨?_,?_,rfl⟩
 ·cases lo with
  |none=>simp[sliceBounds,HT.sIx]
  |some i=>
   simp only[sliceBounds,HT.sIx,Option.getD_none,show(1:Int) > 0 by decide,if_true]
   by_cases h:i<0
   ·simp only[h,if_true]<;>omega
   ·simp only[h,if_false]<;>omega
 ·cases hi with
  |none=>simp[sliceBounds,HT.sIx]
  |some i=>
   simp only[sliceBounds,HT.sIx,Option.getD_none,show(1:Int) > 0 by decide,if_true]
   by_cases h:i<0
   ·simp only[h,if_true]<;>omega
   ·simp only[h,if_false]<;>omega
theorem z1x(its:List Value)(lo hi:Option Int):slicePick its.toArray lo hi none=((its.drop (HT.sIx its.length 0 lo)).take (HT.sIx its.length its.length hi-HT.sIx its.length 0 lo)).toArray:=by
 obtain⟨h1,h2,h3⟩:=q8t lo hi its.toArray.size
 unfold slicePick
 rw[h1,h2,h3]
 simp only[sliceRange_one,pick_run,List.size_toArray]<;>rfl
def rSlL(K:Frag):V->Option Int->Option Int->Hp->VK->Prop:=fun x lo hi H Q=>∃a xs,x=.ref a/\SqL K H a xs/\∀p,H p=none->Q (.ref p) (upd H p (.lst (cutV xs lo hi)))
theorem y0k:SlR X (rSlL X.K):=by
 intro pins s σ H x v vl vu lo hi sl Q I rx hs pl pu h
 obtain⟨a,xs,rfl,hx,q⟩:=h
 cases rx
 obtain⟨its,r,ht,hz⟩:=I.list hx
 have hlen:=r.length
 refine⟨"list",_,slot_list_getitem.lookup,ht.isList.typeIs,?_⟩
 refine wpAny_getItem_list_slice ht.isList hs pl pu .none (by simp) ?_ (by rw[List.size_toArray]<;>omega)
 rw[z1x,<-hlen]
 refine⟨.ref s.heap.objs.size,_,I.laid (t':=s.toks) (o:=.lst (cutV xs lo hi)) (fun b ob q=>Heap.get?_push_of_some _ q) (Nat.le_refl _) ?_,rfl,q _ (I.hok.fresh (Nat.le_refl _))⟩
 exact⟨Nat.le_trans (z0m xs lo hi) hz,_,0,(r.drop (HT.sIx xs.length 0 lo)).take (HT.sIx xs.length xs.length hi-HT.sIx xs.length 0 lo),Heap.get?_push_size _ rfl⟩
theorem z3s:OpR X (compareOp .NotIn) (fun x y H Q=>∃i j,x=.str i/\y=.str j/\Q (.bl (!(!(Builtin.Str.occurrences j i 0 j.length 1).isEmpty))) H):=by
 intro pins s σ H x y v u Q I rx ry h
 obtain⟨i,j,rfl,rfl,q⟩:=h
 obtain⟨t,rfl⟩:=rx
 obtain⟨t',rfl⟩:=ry
 exact notIn_str ⟨.bl _,H,I,rfl,q⟩
theorem q6u:q6g X (.builtin "len") (fun xs H Q=>∃p ys,xs=[.ref p]/\(SqL X.K H p ys\/SqT X.K H p ys)/\Q (.int ys.length) H):=by
 intro pins s σ H xs us Q I r h
 obtain⟨p,ys,rfl,hq,q⟩:=h
 obtain⟨u,rfl,rx⟩:=z5m r
 cases rx
 have hn:=z0e
 rcases hq with hq|hq
 ·obtain⟨its,r',pl,hz⟩:=I.list hq
  have hlen:=r'.length
  exact Calls.call_len_list pl.isList (by simp only[List.size_toArray]<;>omega) ⟨.int ys.length,H,I.tok _,⟨s.toks+1,by rw[List.size_toArray,hlen]⟩,q⟩
 ·obtain⟨its,r',pl,hz⟩:=I.tuple hq
  have hlen:=r'.length
  exact len_tuple pl (by simp only[List.size_toArray]<;>omega) ⟨.int ys.length,H,I.tok _,⟨s.toks+1,by rw[List.size_toArray,hlen]⟩,q⟩
theorem z5e:q6g X (.builtin "len") (fun xs H Q=>∃z,xs=[.str z]/\z.length<=sizeLine/\Q (.int z.length) H):=by
 intro pins s σ H xs us Q I r h
 obtain⟨z,rfl,hz,q⟩:=h
 obtain⟨u,rfl,t,rfl⟩:=z5m r
 have hn:=z0e
 exact len_str (by omega) ⟨.int z.length,H,I.tok _,⟨_,rfl⟩,q⟩
def tyV(K:Frag)(T:String)(x:V)(H:Hp):Prop:=match x with
 |.str _=>T = "str"
 |.int _=>T = "int"
 |.ref p=>(T = "list" /\∃xs,SqL K H p xs)\/(T = "tuple" /\∃o,K.lookup p=some o/\o.cls=.type "tuple" /\o.dict=none)\/
   (T = "dict" /\((∃kvs,H p=some (.dK kvs))\/∃kvs,H p=some (.dT kvs)))\/(T = "set" /\∃S n,H p=some (.set S n))
 |_=>False
theorem y9a{pins:List (Addr×Obj)}{σ:St}{H:Hp}{s:Shared}{T:String}{x:V}{v:Value}(I:Inv X pins σ H s)(r:RelV x v)(ty:tyV X.K T x H) :
  s.TypeIs v T/\∀a,v=.ref a->∃ob,s.heap.get? a=some ob/\ob.dict=none:=by
 cases x with
 |str z=>
  obtain⟨t,rfl⟩:=r
  cases(show T = "str" from ty)
  exact⟨typeIs_str s z t,fun _ e=>nomatch e⟩
 |int i=>
  obtain⟨t,rfl⟩:=r
  cases(show T = "int" from ty)
  exact⟨typeIs_int s i t,fun _ e=>nomatch e⟩
 |ref p=>
  cases r
  rcases ty with⟨rfl,xs,hq⟩|⟨rfl,o,hk,hc,hd⟩|⟨rfl,hk⟩|⟨rfl,S,n,hk⟩
  ·obtain⟨its,_,pl,_⟩:=I.list hq
   refine⟨pl.isList.typeIs,fun a e=>?_⟩
   cases e
   obtain⟨o,n,e,c,hd,_⟩:=pl
   exact⟨o,e,hd⟩
  ·refine⟨⟨o,I.kIn p o hk,hc⟩,fun a e=>?_⟩
   cases e
   exact⟨o,I.kIn _ o hk,hd⟩
  ·have z:∃o,s.heap.get? p=some o/\o.ExactDict:=by
    rcases hk with⟨kvs,hk⟩|⟨kvs,hk⟩
    ·obtain⟨_,_,_,_,o,_,_,e,ex,_⟩:=I.hok p _ hk
     exact⟨o,e,ex⟩
    ·obtain⟨_,_,_,_,o,_,_,e,ex,_⟩:=I.hok p _ hk
     exact⟨o,e,ex⟩
   obtain⟨o,e,ex⟩:=z
   refine⟨⟨o,e,ex.1⟩,fun a e2=>?_⟩
   cases e2
   exact⟨o,e,ex.2.1⟩
  ·obtain⟨o,_,_,_,e,ex,_⟩:=I.hok p _ hk
   refine⟨⟨o,e,ex.1⟩,fun a e2=>?_⟩
   cases e2
   exact⟨o,e,ex.2.1⟩
 |_=>exact False.elim ty
def tBM0(K:Frag)(T:String)(r:V->List V->Hp->VK->Prop)(to:TE):TE:=fun σ H Q=>to σ H fun x H1=>tyV K T x H1/\r x [] H1 Q
def tBM(K:Frag)(T:String)(r:V->List V->Hp->VK->Prop)(to:TE)(t:TA):TE:=fun σ H Q=>to σ H fun x H1=>tyV K T x H1/\t σ H1 fun xs H2=>r x xs H2 Q
variable{o e:Expr}{es:List Expr}{to:TE}{t:TA}{name:Str}{apos cpos:Pos}{T id:String}{r:V->List V->Hp->VK->Prop}
theorem x5y(pa:PlainAttrs T)(slot:Slot T name id)(hty:typeOf (.builtin id)=pure (.type "method_descriptor"))(hm:MtR X id r)(ho:PE X o to)
  (hbase:attributeBase o name X.env (eval o X.env)=eval o X.env:=by rfl) (hline:(apos.endLine==cpos.line)=true:=by rfl):PE X (.Call (.Attribute o name apos) [] [] cpos) (tBM0 X.K T r to):=by
 intro pins s σ H Q I h
 refine wpAny_Call_method0_late hbase hline (thn (ho pins s σ H _ I h) fun v s1 hh1=>?_)
 obtain⟨x,H1,I1,r1,ty,q1⟩:=hh1
 obtain⟨h1,h2⟩:=y9a I1 r1 ty
 exact⟨T,id,pa,slot,hty,h1,h2,Calls.callWith_builtin rfl (PySem.evalArgs_none (hm pins s1 σ H1 x [] v [] Q I1 r1 .nil q1))⟩
theorem w0l(pa:PlainAttrs T)(slot:Slot T name id)(hty:typeOf (.builtin id)=pure (.type "method_descriptor"))(hm:MtR X id r)(ho:PE X o to)(ha:PA X (e::es) t)
  (hbase:attributeBase o name X.env (eval o X.env)=eval o X.env:=by rfl)
  (hfew:((backTo cpos (starEach (e::es) X.env)).all (fun x=>!x.1)&&(backToKw cpos (keywordEach [] X.env)).all (fun x=>x.1.isSome)
   && decide ((e::es).length+([]:List Keyword).length+(if ([]:List Keyword).isEmpty then 0 else 1)<30))=true:=by rfl)
  (hline:(apos.endLine==cpos.line)=true:=by rfl) (hs:starEach (e::es) X.env=(false,eval e X.env)::starEach es X.env:=by rfl) (hplain:(backTo cpos (starEach es X.env)).any (·.1)=false:=by rfl) :
  PE X (.Call (.Attribute o name apos) (e::es) [] cpos) (tBM X.K T r to t):=by
 intro pins s σ H Q I h
 refine wpAny_Call_method_late hbase hfew hline rfl (thn (ho pins s σ H _ I h) fun v s1 hh1=>?_)
 obtain⟨x,H1,I1,r1,ty,q1⟩:=hh1
 obtain⟨h1,h2⟩:=y9a I1 r1 ty
 refine⟨T,id,pa,slot,hty,h1,h2,?_⟩
 have hA:=ha cpos pins s1 σ H1 _ I1 q1
 rw[hs]at hA ⊢
 refine Calls.callWith_builtin (by show(false||(backTo cpos (starEach es X.env)).any (·.1))=false;rw[hplain]<;>rfl) (Calls.evalArgs_plain ?_)
 exact thn hA fun us s2 hh2=>by obtain⟨vs,H2,I2,r2,q2⟩:=hh2;exact(hm pins s2 σ H2 x vs v us Q I2 r1 r2 q2)
/- xs.append(e),list.index on a module's tuple .. are MtR facts of 06m -/
end
def MtM(X:Cx)(id:String)(r:V->List V->Hp->VK->Prop):Prop:=
 ∀(pins:List (Addr×Obj))(s:Shared)(σ:St)(H:Hp)(x:V)(xs:List V)(v:Value)(us:List Value)(Q:VK),Inv X pins σ H s->RelV x v->Vals xs us->r x xs H Q->
  wpAny (model X.prog X.w) X.A (call (.builtin id) (v::us)) (EP X pins σ Q) X.xe s
theorem Vals.one:∀{x:V}{us:List Value},Vals [x] us->∃u,us=[u]/\RelV x u
 |_,_,.cons r .nil=>⟨_,rfl,r⟩
theorem Vals.zero:∀{us:List Value},Vals [] us->us=[]
 |_,.nil=>rfl
theorem Vals.dropLast{xs:List V}{us:List Value}(h:Vals xs us):Vals xs.dropLast us.dropLast:=by
 induction h with
 |nil=>exact .nil
 |cons r t ih=>
  cases t with
  |nil=>exact .nil
  |cons q t'=>exact .cons r ih
theorem Vals.eraseIdx:∀{xs:List V}{us:List Value}(i:Nat),Vals xs us->Vals (xs.eraseIdx i) (us.eraseIdx i)
 |_,_,_,.nil=>.nil
 |_,_,0,.cons _ t=>t
 |_,_,i+1,.cons r t=>.cons r (Vals.eraseIdx i t)
theorem Vals.reverse{xs:List V}{us:List Value}(h:Vals xs us):Vals xs.reverse us.reverse:=by
 induction h with
 |nil=>exact .nil
 |cons r t ih=>rw[List.reverse_cons,List.reverse_cons];exact Vals.append ih (.cons r .nil)
theorem Vals.rep{xs:List V}{us:List Value}(h:Vals xs us):∀k:Nat,Vals (List.replicate k xs).flatten (List.replicate k us).flatten
 |0=>.nil
 |k+1=>by
  rw[List.replicate_succ,List.replicate_succ,List.flatten_cons,List.flatten_cons]
  exact Vals.append h (Vals.rep h k)
theorem z9p{α:Type}(l:List α):l.eraseIdx (l.length-1)=l.dropLast:=by
 induction l with
 |nil=>rfl
 |cons a r ih=>
  cases r with
  |nil=>rfl
  |cons b r=>
   have e:(a::b::r).length-1=((b::r).length-1)+1:=by
    have h1:(a::b::r).length=r.length+2:=rfl
    have h2:(b::r).length=r.length+1:=rfl
    omega
   rw[e,List.eraseIdx_cons_succ,ih]
   all_goals rfl
theorem z3z{α:Type}:∀(l:List α)(i:Nat),(l.eraseIdx i).length<=l.length
 |[],_=>Nat.le_refl _
 |_::_,0=>Nat.le_succ _
 |_::r,i+1=>Nat.succ_le_succ (z3z r i)
theorem z4r(its:List Value):∀(k:Nat)(acc:List Value),
  List.foldl (fun x1 x2=>x1++x2) acc.toArray (List.replicate k its.toArray)=(acc++(List.replicate k its).flatten).toArray
 |0,acc=>by simp
 |k+1,acc=>by
  have e:acc.toArray++its.toArray=(acc++its).toArray:=by simp
  have e2:(acc++its)++(List.replicate k its).flatten=acc++(List.replicate (k+1) its).flatten:=by
   rw[List.replicate_succ,List.flatten_cons,List.append_assoc]
  rw[<-e2,<-z4r its k (acc++its),<-e,List.replicate_succ,List.foldl_cons]
section
variable{X:Cx}{pins:List (Addr×Obj)}{σ:St}{H:Hp}{s:Shared}{l b:Addr}{xs ys zs:List V}
theorem Inv.lset{its its':List Value}{n:Nat}{f:Array Value->Array Value}{t':Nat}(I:Inv X pins σ H s)(hH:H l=some (.lst xs))
  (e:s.heap.get? l=some {cls:=.type "list",data:=.seq its.toArray n}) (hf:f its.toArray=its'.toArray) (hv:Vals ys its') (hz:ys.length<=sizeLine) :
  Inv X pins σ (upd H l (.lst ys)) {s with heap:=s.heap.update l (Obj.mapSeq f),toks:=t' }:=by
 have q:=PySem.IsL.update e f
 rw[hf]at q
 refine I.write (x:=l) (e:=l) (by rw[hH];exact trivial) (.inl rfl) (fun b' u hb hu=>(Heap.get?_update_other s.heap (Obj.mapSeq f) (Ne.symm hb)).trans hu) ⟨_,q⟩ ?_
 exact⟨hz,its',_,hv,q⟩
theorem Inv.lnew{its:List Value}{t':Nat}(I:Inv X pins σ H s)(hv:Vals ys its)(hz:ys.length<=sizeLine) :
  Inv X pins σ (upd H s.heap.objs.size (.lst ys)) {s with heap:=s.heap.push {cls:=.type "list",data:=.seq its.toArray},toks:=t' }:=
 I.laid (fun _ _ q=>Heap.get?_push_of_some _ q) (Nat.le_refl _) ⟨hz,its,0,hv,Heap.get?_push_size _ rfl⟩
theorem Inv.fresh(I:Inv X pins σ H s):H s.heap.objs.size=none:=I.hok.fresh (Nat.le_refl _)
theorem Inv.lstM(I:Inv X pins σ H s)(hH:H l=some (.lst xs)):xs.length<=sizeLine/\∃(its:List Value)(n:Nat),Vals xs its/\xs.length=its.length/\s.heap.get? l=some {cls:=.type "list",data:=.seq its.toArray n}:=by
 obtain⟨z,its,n,r,e⟩:=I.hok l _ hH
 exact⟨z,its,n,r,r.length,e⟩
theorem z2j{n:Nat}(h:n<=sizeLine):Builtin.List.listTooLong n=false:=by
 unfold Builtin.List.listTooLong
 exact decide_eq_false (by omega)
end
section
variable{X:Cx}
def x0x:V->List V->Hp->VK->Prop:=fun x vs H Q=>∃l xs y,x=.ref l/\vs=[y]/\H l=some (.lst xs)/\xs.length<sizeLine/\Q .non (upd H l (.lst (xs++[y])))
theorem y2a:MtM X "list.append" x0x:=by
 intro pins s σ H x vs v us Q I rx rv h
 obtain⟨l,xs,y,rfl,rfl,hH,hz,q⟩:=h
 cases rx
 obtain⟨u,rfl,ru⟩:=rv.one
 obtain⟨z,its,n,r,hl,e⟩:=I.lstM hH
 refine call_meets F.slot_list_append ⟨_,e,rfl⟩ F.entry_list_append (F.args_list_append_2 _ _) (PySem.list_append l its.toArray n u (by rw[List.size_toArray];omega)) ⟨e,?_⟩
 refine⟨.non,_,I.lset (its':=its++[u]) hH e (by simp) (r.append (.cons ru .nil)) ?_,rfl,q⟩
 rw[List.length_append,List.length_singleton]
 omega
def x0w:V->List V->Hp->VK->Prop:=fun x vs H Q=>∃l b xs zs,x=.ref l/\vs=[.ref b]/\H l=some (.lst xs)/\H b=some (.lst zs)/\xs.length+zs.length<=sizeLine/\Q .non (upd H l (.lst (xs++zs)))
theorem y1z:MtM X "list.extend" x0w:=by
 intro pins s σ H x vs v us Q I rx rv h
 obtain⟨l,b,xs,zs,rfl,rfl,hH,hB,hz,q⟩:=h
 cases rx
 obtain⟨u,rfl,ru⟩:=rv.one
 cases ru
 obtain⟨z,its,n,r,hl,e⟩:=I.lstM hH
 obtain⟨z2,its2,n2,r2,hl2,e2⟩:=I.lstM hB
 have hsz:its.toArray.size+its2.toArray.size<=sizeLine:=by rw[List.size_toArray,List.size_toArray];omega
 have hlong:¬(!its.toArray.isEmpty&&Builtin.List.listTooLong (its.toArray.size+its2.toArray.size))=true:=by
  rw[z2j hsz,Bool.and_false]
  exact Bool.false_ne_true
 refine call_meets F.slot_list_extend ⟨_,e,rfl⟩ F.entry_list_extend (F.args_list_extend_2 _ _)
  (AutoSeq1.list_extend_list_list_0 l its.toArray n b its2.toArray n2 hlong (by rw[List.size_toArray];omega) (by omega)) ⟨e,e2,?_⟩
 refine⟨.non,_,I.lset (its':=its++its2) hH e (by simp) (r.append r2) ?_,rfl,q⟩
 rw[List.length_append]
 omega
def rPop:V->List V->Hp->VK->Prop:=fun x vs H Q=>∃l xs y,x=.ref l/\vs=[]/\H l=some (.lst xs)/\xs[xs.length-1]?=some y/\Q y (upd H l (.lst xs.dropLast))
theorem x6o:MtM X "list.pop" rPop:=by
 intro pins s σ H x vs v us Q I rx rv h
 obtain⟨l,xs,y,rfl,rfl,hH,hy,q⟩:=h
 cases rx
 have hus:=rv.zero
 subst hus
 obtain⟨z,its,n,r,hl,e⟩:=I.lstM hH
 obtain⟨u,hu,ru⟩:=r.get hy
 have hy':its.toArray[its.toArray.size-1]?=some u:=by
  show its.toArray[its.length-1]?=some u
  rw[<-Array.getElem?_toList,<-hl]
  exact hu
 refine call_meets F.slot_list_pop ⟨_,e,rfl⟩ F.entry_list_pop (F.args_list_pop_1 _) (MeetsSeq.list_pop_last l its.toArray n u hy' (by rw[List.size_toArray];omega)) ⟨e,?_⟩
 refine⟨y,_,I.lset (its':=its.dropLast) hH e ?_ r.dropLast ?_,ru,q⟩
 ·show its.toArray.eraseIdxIfInBounds (its.toArray.size-1)=its.dropLast.toArray
  rw[List.size_toArray,List.eraseIdxIfInBounds_toArray,z9p]
 ·rw[List.length_dropLast]
  omega
def x5a:V->List V->Hp->VK->Prop:=fun x vs H Q=>∃l xs i k y,x=.ref l/\vs=[.int i]/\H l=some (.lst xs)/\-(2 ^ 63)<=i/\i<2 ^ 63/\seqIndex? i xs.length=some k/\xs[k]?=some y/\Q y (upd H l (.lst (xs.eraseIdx k)))
theorem y6x:MtM X "list.pop" x5a:=by
 intro pins s σ H x vs v us Q I rx rv h
 obtain⟨l,xs,i,k,y,rfl,rfl,hH,h1,h2,hk,hy,q⟩:=h
 cases rx
 obtain⟨u,rfl,ru⟩:=rv.one
 obtain⟨t,rfl⟩:=ru
 obtain⟨z,its,n,r,hl,e⟩:=I.lstM hH
 obtain⟨w,hw,rw'⟩:=r.get hy
 refine call_meets F.slot_list_pop ⟨_,e,rfl⟩ F.entry_list_pop (F.args_list_pop_2 _ _)
  (MeetsSeq.list_pop_at l its.toArray n i t k w (fitsIndex_both h1 h2) (by rw[List.size_toArray,<-hl];exact hk) (by rw[<-Array.getElem?_toList];exact hw) (by rw[List.size_toArray];omega)) ⟨e,?_⟩
 refine⟨y,_,I.lset (its':=its.eraseIdx k) hH e ?_ (r.eraseIdx k) ?_,rw',q⟩
 ·show its.toArray.eraseIdxIfInBounds k=(its.eraseIdx k).toArray
  rw[List.eraseIdxIfInBounds_toArray]
 ·have:=z3z xs k
  omega
def rCat:R2:=fun x y H Q=>∃l b xs zs,x=.ref l/\y=.ref b/\H l=some (.lst xs)/\H b=some (.lst zs)/\xs.length+zs.length<=sizeLine/\∀p,H p=none->Q (.ref p) (upd H p (.lst (xs++zs)))
theorem x6j:OpR X (binaryOp .Add) rCat:=by
 intro pins s σ H x y v u Q I rx ry h
 obtain⟨l,b,xs,zs,rfl,rfl,hH,hB,hz,q⟩:=h
 cases rx
 cases ry
 obtain⟨z,its,n,r,hl,e⟩:=I.lstM hH
 obtain⟨z2,its2,n2,r2,hl2,e2⟩:=I.lstM hB
 refine PySem.P.add_list e e2 ?_ (by rw[List.size_toArray,List.size_toArray];omega)
 have ea:its.toArray++its2.toArray=(its++its2).toArray:=by simp
 rw[ea]
 exact⟨.ref _,_,I.lnew (t':=s.toks) (r.append r2) (by rw[List.length_append];omega),rfl,q _ I.fresh⟩
def rRep:R2:=fun x y H Q=>∃l k xs,x=.ref l/\y=.int k/\H l=some (.lst xs)/\-(2 ^ 63)<=k/\k<2 ^ 63/\xs.length*k.toNat<=sizeLine/\
 ∀p,H p=none->Q (.ref p) (upd H p (.lst (List.replicate k.toNat xs).flatten))
theorem x2c{α:Type}(xs:List α)(k:Nat):(List.replicate k xs).flatten.length=k*xs.length:=by
 induction k with
 |zero=>simp
 |succ k ih=>rw[List.replicate_succ,List.flatten_cons,List.length_append,ih,Nat.succ_mul,Nat.add_comm]
theorem x6e:OpR X (binaryOp .Mult) rRep:=by
 intro pins s σ H x y v u Q I rx ry h
 obtain⟨l,k,xs,rfl,rfl,hH,h1,h2,hz,q⟩:=h
 cases rx
 obtain⟨t,rfl⟩:=ry
 obtain⟨z,its,n,r,hl,e⟩:=I.lstM hH
 have hlen:its.toArray.size*k.toNat<=sizeLine:=by rw[List.size_toArray,<-hl];exact hz
 have hcap:¬its.toArray.size*k.toNat > (2 ^ 63-1) / 8:=by
  have:(sizeLine:Nat)<=(2 ^ 63-1) / 8:=by decide
  omega
 have hfit:¬(!Builtin.List.listFitsIndex k)=true:=by
  rw[fitsIndex_both h1 h2]
  exact Bool.false_ne_true
 have hlong:¬Builtin.List.listTooLong (its.toArray.size*k.toNat)=true:=by
  rw[z2j hlen]
  exact Bool.false_ne_true
 have hnew:List.foldl (fun x1 x2=>x1++x2) #[] (List.replicate (if its.toArray.isEmpty=true then 0 else k.toNat) its.toArray)=(List.replicate k.toNat its).flatten.toArray:=by
  have f0:∀m:Nat,List.foldl (fun x1 x2=>x1++x2) #[] (List.replicate m its.toArray)=(List.replicate m its).flatten.toArray:=fun m=>by
   have:=z4r its m []
   rw[List.nil_append]at this
   exact this
  rw[f0]
  cases its with
  |nil=>simp
  |cons a r'=>rw[if_neg (by simp)]
 refine wpAny_binaryOp_repeat_ref (T:= "list") (U:= "int") (by decide) ⟨_,e,rfl⟩ (fun s'=>typeIs_int s' k t) noFill_list_mul F.fills_int_mul F.slot_int_rmul repeat_list F.slot_int_index.lookup
  (call_meets F.slot_int_rmul (typeIs_int s k t) F.entry_int_rmul (F.args_int_rmul_2 _ _) (int___rmul___int_list k t l its.toArray n)
   ⟨e,rfl,⟨_,e,rfl⟩,call_meets F.slot_list_mul ⟨_,e,rfl⟩ F.entry_list_mul (F.args_list_mul_2 _ _) (AutoListH.list___mul___list_int_3 l its.toArray n k t hfit hcap hlong) ⟨e,?_⟩⟩)
 rw[hnew]
 exact⟨.ref _,_,I.lnew (t':=s.toks) (r.rep k.toNat) (by rw[x2c,Nat.mul_comm];exact hz),rfl,q _ I.fresh⟩
end
section
variable{prog:Program}{w:World}{A:Around}{E:Value->Shared->Prop}{s:Shared}
end
section
variable{X:Cx}
end
end L2
namespace Att
open PySem PySem.W PySem.Calls PyProof.Rows
theorem z0i{P:Params}{h:Heap}:∀(ns:List Int)(vs:List Value),WellAll P h vs (ns.map WData.int)->IntsAre vs ns:=by
 intro ns
 induction ns with
 |nil=>
  intro vs w
  rw[List.map_nil]at w
  cases w
  exact .nil
 |cons n ns ih=>
  intro vs w
  rw[List.map_cons]at w
  cases w with
  |cons a b=>
   cases a
   exact .cons _ _ (ih _ b)
theorem y0v {l : OpenLaw} {n : Nat} (hn : l.most = some n) {P : Params} {h : Heap} {args : List WData} {vals : List Value}
  (hpre : l.row.toRowW.claim.pre args = true) (hwl : WellAll P h vals args) :
  ∃ a vs ns, vals = [Value.ref a] /\ args = [WData.list (ns.map WData.int)] /\ h.get? a = some { cls := .type "list", data := .seq vs.toArray } /\ IntsAre vs ns /\ ns.length <= n := by
 have hsh : WShape.hasAll [] args [.list .int] = true := (pre_splitW hpre).1
 have hc : l.pre.holds [] { args := args } = true := (pre_splitW hpre).2
 obtain ⟨d, r, rfl, h1, h2⟩ := hasAllW_cons hsh
 obtain rfl := hasAllW_nil h2
 obtain ⟨xs, rfl, h3⟩ := hasW_list h1
 obtain ⟨ns, rfl⟩ := items_int h3
 have hlen : ns.length <= n := by
  unfold OpenLaw.pre at hc
  have h4 : (WTm.not (.lt (.lit (.int (n : Int))) (.len (.arg 0)))).holds [] { args := [.list (ns.map .int)] } = true := by
   have h4 := (holds_andW hc).1
   rw [hn] at h4
   exact h4
  have h5 := condW_of h4 (w_not (w_lt w_lit (w_len_list (w_arg rfl))))
  rw [List.length_map] at h5
  refine Nat.le_of_not_lt fun q => ?_
  have q' : (n : Int) < ((ns.length : Nat) : Int) := by omega
  first
   | (rw [decide_eq_true q'] at h5; exact absurd h5 (by decide))
   | (simp at h5; omega)
 cases hwl with
 | cons w1 w2 =>
  cases w2
  cases w1 with
  | list ho hall => exact ⟨_, _, ns, rfl, rfl, ho, z0i ns _ hall, hlen⟩
theorem y1f(l:OpenLaw)(args:List WData):l.row.toRowW.claim.post args (.bool true) args=true:=
 postW_of (r:=l.row.toRowW) (X:=(true==true))
  (show WShape.has [] (.bool true) .bool=true by first|rfl|decide|simp[WShape.has,WShape.arms,WShape.armsAll])
  (show(WTm.eq .res (.lit (.bool true))).value [] {args:=args,res:=some (.bool true),after:=args}=some (.bool (true==true))from w_eq_bool (w_res rfl) w_lit) rfl
theorem attach_call{l:OpenLaw}{n:Nat}{q:Program}{loose:List Str}{XP:(Str->Option Value)->Heap->Prop}{YP:World->Heap->Prop}{d:DefRec}
  (hn:l.most=some n) (hdf:d.params.defaults=[])
  (call:∀(w:World)(s₀ s₁:Shared)(mg mb:Str->Option Value)(fa:Addr)(o:Obj)(pm cd doc:Value)(a:Addr)(vs:List Value)(ns:List Int),
   Ground q loose [] XP w s₀ mg mb s₁.heap->YP w s₁.heap->
   s₁.heap.get? fa=some o->o.data=.func (docDef d.name d.params d.body d.scope pm cd doc)->s₁.heap.CodeRec cd d.name->mg d.name=some (.ref fa)->
   s₁.heap.get? a=some {cls:=.type "list",data:=.seq vs.toArray}->IntsAre vs ns->ns.length<=n->s₁.gens=#[]->
   codeAny (model l.prog w) callerA (.call (.ref fa) ⟨[.ref a],[]⟩) (fun r s'=>r=.ok (.ret (.bool true))/\OldK s₁.heap s'.heap/\s'.os=s₁.os/\AllBare s'.gens) s₁) :
  WalkO q loose XP YP l.row.toRowW d [] (fun f vs=>PySem.call f vs):=by
 intro w s₀ s₁ mg mb G Y fa o pm cd doc dV kV ho hd hcd hD hmg hg args vals as hpre hlay hrd hwl hlo
 obtain rfl:dV=.none:=Dflts.none hD hdf
 obtain rfl:kV=.none:=Dflts.noKw hD
 obtain⟨a,vs,ns,rfl,rfl,hobj,hints,hlen⟩:=y0v hn hpre hwl
 refine enter_call (codeAny_mono (call w s₀ s₁ mg mb fa o pm cd doc a vs ns G Y ho (fd_plain hd) hcd hmg hobj hints hlen hg) fun r s' hq=>?_)
 obtain⟨rfl,h2,h3,h4⟩:=hq
 exact⟨.inl ⟨.bool true,.bool true,[],rfl,fun _=>rfl,.bool true,y1f l _,fun _=>⟨List.Pairwise.nil,fun _ hm=>(nomatch hm)⟩⟩,h2,h3,h4⟩
section
variable{prog:Program}{w:World}{A:Around}{E:Value->Shared->Prop}{s:Shared}{K:Frag}
end
end Att
namespace L2
open PySem PySem.Spec PyProof.Rows
theorem q7q:∀{vs:List Value}{ns:List Int},IntsAre vs ns->Vals (ns.map V.int) vs
 |_,_,.nil=>.nil
 |_,_,.cons n t h=>.cons ⟨t,rfl⟩ (q7q h)
def Only(H:Hp):Prop:=∀b,H b=none\/∃o xs,H b=some (.frz o (.lst xs))
theorem y7c{P:Program}{w:World}{K:Frag}{mg mb:Str->Option Value}{CX:CXT}{k:Nat}{fa a:Addr}{fd:FuncData}{x:Str}{sp:Sp}{s₁:Shared}{vs:List Value}{ns:List Int}
  (KX:K.In s₁.heap) (hns:s₁.heap.Ns mainGlobals mg) (hb:s₁.heap.Ns builtinsNs mb) (hbb:∀x:Str,x≠ "__name__" ->mb x=bootBuiltins x) (hlim:s₁.heap.NoLimit) (hg:s₁.gens=#[])
  (ha:s₁.heap.get? a=some {cls:=.type "list",data:=.seq vs.toArray}) (hi:IntsAre vs ns) (hl:ns.length<=sizeLine) (hr:Room k callerA)
  (F:∀base:Heap,K.In base->base.Ns mainGlobals mg->FnOk P w K mg base CX k fa fd [x] sp) (hbind:∀(s:Shared)(u:Value),BindsTo s fd ⟨[u],[]⟩ [(x,u)])
  (hsp:∀H:Hp,Only H->SqL K H a (ns.map V.int)->sp [.ref a] H (fun v _=>v=.bl true) fun _ _ _=>False)
  (hCX:∀H e s',CX [] H s₁ (fun _ _ _=>False) e s'->False) :
  codeAny (model P w) callerA (.call (.ref fa) ⟨[.ref a],[]⟩) (fun r s'=>r=.ok (.ret (.bool true))/\OldK s₁.heap s'.heap/\s'.os=s₁.os/\AllBare s'.gens) s₁:=by
 have rv:=q7q hi
 have lenV:=hi.length
 have core:∀H:Hp,Only H->SqL K H a (ns.map V.int)->HOk P w H s₁.heap->(∀b,H b≠none->b=a)->(H a≠none->K.lookup a=none)->
   codeAny (model P w) callerA (.call (.ref fa) ⟨[.ref a],[]⟩) (fun r s'=>r=.ok (.ret (.bool true))/\OldK s₁.heap s'.heap/\s'.os=s₁.os/\AllBare s'.gens) s₁:=by
  intro H hO hS hok hA hK
  have base_of:∀{b:Addr}{o:Obj},s₁.heap.get? b=some o->H b=none->(hidT s₁.heap H).get? b=some o:=fun e n=>y7m e n
  have noA:∀{b:Addr}{o:Obj}{es:Array DictEntry}{ep:Nat},s₁.heap.get? b=some o->o.data=.dict es ep->H b=none:=fun {b o es ep} e d=>by
   cases q:H b with
   |none=>rfl
   |some u=>
    have e':b=a:=hA b (by rw[q];simp)
    subst e'
    rw[ha]at e;cases e
    have d':Data.seq vs.toArray _=Data.dict es ep:=d
    cases d'
  have nsK:∀{b:Addr}{m:Str->Option Value},s₁.heap.Ns b m->(hidT s₁.heap H).Ns b m:=fun {b m} ⟨o,es,ep,e,d,r⟩=>⟨o,es,ep,base_of e (noA e d),d,r⟩
  have hKb:K.In (hidT s₁.heap H):=fun b o e=>base_of (KX b o e) (by
   cases q:H b with
   |none=>rfl
   |some u=>
    have e':b=a:=hA b (by rw [q];simp)
    subst e'
    rw [hK (by rw [q];simp)]at e;cases e)
  have hM:Mod K mg (hidT s₁.heap H):=⟨hKb,nsK hns,⟨mb,nsK hb,hbb⟩,let ⟨mc,h1,h2⟩:=hlim;⟨mc,nsK h1,h2⟩⟩
  have e0:Env0 P w K mg (hidT s₁.heap H) callerA [] s₁ H:=⟨rfl,hM,fun b o e=>x1t e,Nat.le_of_eq (y2z _ _),trivial,fun b hb=>absurd (show b∈([]:List Addr)from hb) (by simp),hok,.of_eq hg⟩
  refine codeAny_mono ((F _ hKb (nsK hns)).run callerA [] s₁ H ⟨[.ref a],[]⟩ [.ref a] [.ref a] _ _ hr e0 (hbind s₁ (.ref a)) (.cons rfl .nil) (hsp H hO hS)) fun r s' h=>?_
  cases r with
  |error e=>exact(hCX H e s' h).elim
  |ok fl=>
   cases fl with
   |next=>exact False.elim h
   |brk=>exact False.elim h
   |cont=>exact False.elim h
   |ret u=>
    obtain⟨v,H',os,bare,un,hok',r',q⟩:=h
    have q':v=.bl true:=q
    subst q'
    obtain rfl:u=Value.bool true:=r'
    refine⟨rfl,OldK.of_keep fun b o e=>?_,os,bare⟩
    cases q:H b with
    |none=>exact un.keep b o e q (by intro z;exact absurd (show b∈([]:List Addr)from z) (by simp)) (by simp)
    |some u=>
     rcases hO b with z|⟨ob,xs,z⟩
     ·rw[q]at z;cases z
     ·have z2:=un.frzs b ob _ z
      obtain⟨e1,_⟩:=hok b _ z
      obtain⟨e2,_⟩:=hok' b _ z2
      rw[e]at e1;cases e1
      exact e2
 cases hk:K.lookup a with
 |some o=>
  have e:=KX a o hk
  rw[ha]at e
  cases e
  refine core (fun _=>none) (fun _=>.inl rfl) (.inr ⟨_,vs.toArray,_,hk,rfl,rfl,rfl,by rw[List.size_toArray,lenV];exact hl,by simpa using rv⟩) (fun b u z=>by have z':(none:Option HO)=some u:=z;cases z') (fun b z=>absurd rfl z) fun z=>absurd rfl z
 |none=>
  refine core (fun b=>if b=a then some (.frz {cls:=.type "list",data:=.seq vs.toArray} (.lst (ns.map V.int)))else none) (fun b=>?_) (.inl (.inr ⟨{cls:=.type "list",data:=.seq vs.toArray},if_pos rfl⟩)) (fun b u z=>?_) (fun b z=>?_) fun _=>hk
  ·by_cases hb:b=a
   ·exact .inr ⟨_,_,if_pos hb⟩
   ·exact .inl (if_neg hb)
  ·by_cases hb:b=a
   ·have z':=(if_pos hb).symm.trans z
    cases z'
    subst hb
    exact⟨ha,by rw[List.length_map];exact hl,vs,_,rv,ha⟩
   ·have z':=(if_neg hb).symm.trans z
    cases z'
  ·by_cases hb:b=a
   ·exact hb
   ·exact absurd (if_neg hb) z
theorem z9v{l:PySem.W.OpenLaw}{n k:Nat}{q:Program}{loose:List Str}{XP:(Str->Option Value)->Heap->Prop}{YP:World->Heap->Prop}{d:DefRec}{K:Params->Frag}{CX:World->CXT}{sp:World->Sp}{x:Str}
  (hn:l.most=some n) (hn2:n<=sizeLine) (hdf:d.params.defaults=[]) (hr:Room k callerA)
  (hY:∀(w:World)(h:Heap),YP w h->(K w.params).In h)
  (F:∀(w:World)(mg:Str->Option Value)(fa:Addr)(h:Heap),(K w.params).In h->h.Ns mainGlobals mg->mg d.name=some (.ref fa)->
   ∃fd:FuncData,(∀(s:Shared)(u:Value),BindsTo s fd ⟨[u],[]⟩ [(x,u)])/\
    ∀base:Heap,(K w.params).In base->base.Ns mainGlobals mg->FnOk l.prog w (K w.params) mg base (CX w) k fa fd [x] (sp w))
  (hsp:∀(w:World)(H:Hp)(a:Addr)(ns:List Int),ns.length<=n->Only H->SqL (K w.params) H a (ns.map V.int)->sp w [.ref a] H (fun v _=>v=.bl true) fun _ _ _=>False)
  (hCX:∀(w:World)(H:Hp)(s:Shared)(e:Value)(s':Shared),CX w [] H s (fun _ _ _=>False) e s'->False) :
  PySem.W.WalkO q loose XP YP l.row.toRowW d [] (fun f vs=>PySem.call f vs):=by
 refine Att.attach_call hn hdf fun w s₀ s₁ mg mb fa o pm cd doc a vs ns G Y ho hd hcd hmg hobj hints hlen hg=>?_
 have KX:=hY w _ Y
 obtain⟨fd,hb,hF⟩:=F w mg fa _ KX G.T.g hmg
 exact y7c KX G.T.g G.T.b G.T.builtins G.T.nolimit hg hobj hints (Nat.le_trans hlen hn2) hr hF hb (fun H hO hS=>hsp w H a ns hlen hO hS) fun H e s'=>hCX w H s₁ e s'
end L2
/- THE LAST THEOREM (shape;LID,My.* are yours):
   My.Adr: a structure of the addresses that your layer names (classes,functions);My.Txt K t: a structure (Prop) of the equations over K;
   My.txt_mk:{K} {implicit addresses ..} (e1:nsIn K mainGlobals "law" = some (some (.ref f))) (e2:K.lookup f=some ⟨oc,od,.func (fnOf "law" "law" params body scope dV kV doc pm an cdv ct),sl⟩) (e3:codeIn K cdv "law" = true) ..:∃t,My.Txt K t
set_option maxRecDepth 100000 in
set_option maxHeartbeats 0 in
theorem PySem.Challenge.cw_LID_holds : PySem.Challenge.rw_LID.Holds := by
 w_on;o_law;k_head;(case hw => w_witness2)
 k_fill
 refine L2.z9v (l := PySem.Challenge.rw_LID) (n := 63) (k := 40) (x := "script") (CX := fun w => ..) (sp := fun _ => My.sp_law) rfl (by decide) rfl ⟨rfl, by decide, by decide⟩ (fun w h Y => PySem.W.kIn_of Y) ?F ?S ?C
 case F =>
  intro w mg fa h KX G hmg
  have T : ∃ t, My.Txt (L2.KOf KX) t := by
   dsimp only[L2.KOf]                          -- K must stand as «<heap const> w.params» for k_is
   refine' My.txt_mk ?e1 ?e2 ?e3 ..
   (case e1 => PySem.W.k_is)                    -- in the order: a name -> its address -> its object -> its parts
   (case e2 => PySem.W.k_is)
   ..
  obtain⟨t, T⟩ := T
  have e0 := hmg.symm.trans (PySem.W.mg_of KX G T.law)
  cases e0                                       -- fa is the law's own address
  exact⟨_, fun s u => .of_eq rfl, fun base kb nb => My.law_fn T kb nb⟩     -- if «.of_eq rfl» comes too early: refine' ⟨_, ?b, fun base kb nb => My.law_fn T kb nb⟩;exact fun s u => .of_eq rfl
 case S => exact fun w H a ns hl hO hS => ..
 case C => exact ..
(the tactic k_is has no namespace: write k_is) -/
namespace L2
open PySem PySem.Spec PyProof.Rows
def q8n(s:Stmt):Arguments:=match s with
 |.FunctionDef _ a _ _ _ _ _ _ _ _=>a
 |_=>{posonlyargs:=[],args:=[],vararg:=none,kwonlyargs:=[],kw_defaults:=[],kwarg:=none,defaults:=[]}
def q6e(s:Stmt):List Stmt:=match s with
 |.FunctionDef _ _ b _ _ _ _ _ _ _=>b
 |_=>[]
def q1w(s:Stmt):Scope:=match s with
 |.FunctionDef _ _ _ _ _ _ sc _ _ _=>sc
 |_=>{kind:=.function,names:=[],isGenerator:=false,isCoroutine:=false}
abbrev E0:XK:=fun _ _ _=>False
structure Fun(K:Frag)(x qual:Str)(st:Stmt)(f:Addr)(fd:FuncData):Prop where
 ex:∃(oc:Value)(od:Option Addr)(kV doc pm:Value)(an:Option Addr)(cdv ct:Value)(osl:Array (Option Value)),
  fd=PySem.W.fnOf x qual (q8n st) (q6e st) (q1w st) .none kV doc pm an cdv ct/\K.lookup f=some ⟨oc,od,.func fd,osl⟩/\PySem.W.codeIn K cdv qual=true
 kp:PySem.W.keepIn K (.ref f)=true
section
variable{P:Program}{w:World}{K:Frag}{mg:Str->Option Value}{base:Heap}
theorem Fun.binds{x qual:Str}{st:Stmt}{f:Addr}{fd:FuncData}{ps:List Str}(F:Fun K x qual st f fd)
  (h:∀(kV doc pm:Value)(an:Option Addr)(cdv ct:Value)(us:List Value),us.length=ps.length->bindArgs (PySem.W.fnOf x qual (q8n st) (q6e st) (q1w st) .none kV doc pm an cdv ct) ⟨us,[]⟩=pure (ps.zip us)):z3e K fd ps []:=by
 obtain⟨oc,od,kV,doc,pm,an,cdv,ct,osl,rfl,lk,hcd⟩:=F.ex
 exact .all (h kV doc pm an cdv ct)
theorem x7r{x qual:Str}{st:Stmt}{f:Addr}{oc:Value}{od an:Option Addr}{osl:Array (Option Value)}{kV doc pm cdv ct:Value}(l:K.lookup f=some ⟨oc,od,.func (PySem.W.fnOf x qual (q8n st) (q6e st) (q1w st) .none kV doc pm an cdv ct),osl⟩)
  (c:PySem.W.codeIn K cdv qual=true) (k:PySem.W.keepIn K (.ref f)=true):Fun K x qual st f (PySem.W.fnOf x qual (q8n st) (q6e st) (q1w st) .none kV doc pm an cdv ct):=⟨⟨oc,od,kV,doc,pm,an,cdv,ct,osl,rfl,l,c⟩,k⟩
end
theorem y0j{n:Nat}(h:n<=1000):n<sizeLine:=Nat.lt_of_le_of_lt h (by decide)
section
variable{X:Cx}
end
theorem ite2{c A B:Prop} [Decidable c] (h1:c->A) (h2:¬c->B):if c then A else B:=by
 by_cases h:c
 ·rw[if_pos h]
  exact h1 h
 ·rw[if_neg h]
  exact h2 h
def Same(H H':Hp):Prop:=∀b o,H b=some o->H' b=some o
structure Fly(e:Addr)(cls:Value)(own:List Addr)(h:Heap):Prop where
 is:∃(oe:Obj)(vs:Array Value)(hd:Value),h.get? e=some oe/\oe.cls=cls/\oe.data=.fields vs/\vs[1]?=some hd/\
  (hd=.none\/∃(T:Addr)(oT:Obj)(ts:Array Value),hd=.ref T/\T∈own/\T≠e/\h.get? T=some oT/\oT.data=.fields ts/\ts[3]?=some .none)
structure Past(fs own:List Addr)(h h':Heap):Prop where
 keep:∀b o,h.get? b=some o->b∉own->b∉fs->h'.get? b=some o
 slot:∀b o,h.get? b=some o->b∉own->b∈fs->∃sl,h'.get? b=some {o with slots:=sl}
 there:∀b o,h.get? b=some o->∃o',h'.get? b=some o'
theorem Past.refl(fs own:List Addr)(h:Heap):Past fs own h h:=⟨fun _ _ q _ _=>q,fun _ o q _ _=>⟨o.slots,q⟩,fun _ o q=>⟨o,q⟩⟩
theorem Past.trans{fs own:List Addr}{h1 h2 h3:Heap}(a:Past fs own h1 h2)(b:Past fs own h2 h3):Past fs own h1 h3 where
 keep:=fun c o q n m=>b.keep c o (a.keep c o q n m) n m
 slot:=fun c o q n m=>by
  obtain⟨sl,q1⟩:=a.slot c o q n m
  obtain⟨sl2,q2⟩:=b.slot c _ q1 n m
  exact⟨sl2,q2⟩
 there:=fun c o q=>by
  obtain⟨o1,q1⟩:=a.there c o q
  exact b.there c o1 q1
theorem Past.mono{fs own own':List Addr}{h h':Heap}(a:Past fs own h h')(k:∀b∈own,b∈own'):Past fs own' h h':=
 ⟨fun b o q n m=>a.keep b o q (fun z=>n (k b z)) m,fun b o q n m=>a.slot b o q (fun z=>n (k b z)) m,a.there⟩
theorem z8v{fs own:List Addr}{h h':Heap}(x:Heap.SlotsOnly fs h h'):Past fs own h h' where
 keep:=fun b o q _ m=>by rw[x.2.1 b m];exact q
 slot:=fun b o q _ _=>x.2.2 b o q
 there:=fun b o q=>let ⟨_,z⟩:=x.2.2 b o q;⟨_,z⟩
theorem y1o{fs own:List Addr}(h:Heap)(o:Obj):Past fs own h (h.push o) where
 keep:=fun b u q _ _=>Heap.get?_push_of_some o q
 slot:=fun b u q _ _=>⟨u.slots,Heap.get?_push_of_some o q⟩
 there:=fun b u q=>⟨u,Heap.get?_push_of_some o q⟩
theorem q8e{fs own:List Addr}{h:Heap}{a:Addr}{oa:Obj}{vs:Array Value}(g:Array Value->Array Value)(ha:a∈own)(q:h.get? a=some oa)(hd:oa.data=.fields vs):Past fs own h (h.update a (Obj.mapFields g)) where
 keep:=fun b u z n _=>by rw[Heap.get?_update_other _ _ (fun w=>n (by rw[<-w];exact ha))];exact z
 slot:=fun b u z n _=>⟨u.slots,by rw[Heap.get?_update_other _ _ (fun w=>n (by rw[<-w];exact ha))];exact z⟩
 there:=fun b u z=>by
  by_cases w:a=b
  ·subst w
   exact⟨_,Heap.get?_update_self _ q (Obj.isFreed_of_fields (Obj.data_mapFields hd g))⟩
  ·exact⟨u,by rw[Heap.get?_update_other _ _ w];exact z⟩
section
variable{M:Model}{A:Around}{E:Value->Shared->Prop}{s:Shared}
theorem z7q{base:Heap}{env:Env}{outer:List Env}{L e:Addr}{oe:Obj}{vs:Array Value}{head:Value}{hn:Bool}{own:List Addr}{Q:Unit->Shared->Prop}(hfr:A.frames=some (env::outer))(hl:s.heap.FunFrames base (env::outer))
  (hf:env.frame=some L) (he:s.heap.get? e=some oe) (hd:oe.data=.fields vs) (hsz:1<vs.size) (ho:e∈own)
  (h:∀h' T,s.heap.get? T=none->Past ((env::outer).filterMap (·.frame)) own s.heap h'->Fly e oe.cls [T] h'->Q () {s with heap:=h' }) :
  wpAny M A (do let a <-frameOf env;let pl <-entryPlaceOf L hn;let b <-EntryCells.newEntry head a .none (rawInt L) .none pl;setField (.ref e) 1 b) (fun _ s'=>wpAny M A (setFlight (.ref e) none) Q E s') E s:=by
 have nfr:e∉(env::outer).filterMap (·.frame):=fun z=>by
  obtain⟨-,o,q,nd⟩:=hl.mem z
  rw[he]at q;cases q
  exact nd vs hd
 refine wpAny_bind (wpAny_frameOf_fun hfr hl hf fun g1 s1=>wpAny_bind (wpAny_entryPlaceOf fun pl hpl=>?_))
 have P1:Past ((env::outer).filterMap (·.frame)) own s.heap g1:=z8v s1
 unfold EntryCells.newEntry newFields
 refine wpAny_bind (wpAny_newObj_type ?_ (hpl.sizeOk5 _ _ _ _ _))
 have e1:g1.get? e=some oe:=by rw[s1.2.1 e nfr];exact he
 generalize hto:({cls:=.type "traceback",dict:=none,data:=.fields ([head,.ref L,.none,rawInt L,.none]++(if pl.isEmpty then List.replicate 6 Value.none else pl)).toArray}:Obj)=to
 have P2:Past ((env::outer).filterMap (·.frame)) own g1 (g1.push to):=y1o g1 to
 have e2:=Heap.get?_push_of_some (h:=g1) to e1
 have Tnew:s.heap.get? g1.objs.size=none:=by
  cases q:s.heap.get? g1.objs.size with
  |none=>rfl
  |some o=>exact absurd (Heap.lt_size q) (by rw[s1.1];exact Nat.lt_irrefl _)
 have T2:(g1.push to).get? g1.objs.size=some to:=Heap.get?_push_size g1 (by subst hto;rfl)
 refine wpAny_setField e2 hd hsz ?_
 have Te:g1.objs.size≠e:=Nat.ne_of_gt (Heap.lt_size e1)
 have P3:Past ((env::outer).filterMap (·.frame)) own (g1.push to) _:=q8e (·.setIfInBounds 1 (Value.ref g1.objs.size)) ho e2 hd
 have d3:=Obj.data_mapFields hd (·.setIfInBounds 1 (Value.ref g1.objs.size))
 have e3:=Heap.get?_update_self (Obj.mapFields (·.setIfInBounds 1 (Value.ref g1.objs.size))) e2 (Obj.isFreed_of_fields d3)
 have T3:=(Heap.get?_update_other (g1.push to) (Obj.mapFields (·.setIfInBounds 1 (Value.ref g1.objs.size))) (Ne.symm Te)).trans T2
 have tod:to.data=.fields ([head,.ref L,.none,rawInt L,.none]++(if pl.isEmpty then List.replicate 6 Value.none else pl)).toArray:=by subst hto;rfl
 unfold setFlight
 refine wpAny_bind (wpAny_field e3 d3 (x:=.ref g1.objs.size) (by simp[hsz]) ?_)
 rw[if_pos (show(Value.ref g1.objs.size != Value.none)=true by simp)]
 have sz3:3<([head,.ref L,.none,rawInt L,.none]++(if pl.isEmpty then List.replicate 6 Value.none else pl)).toArray.size:=by
  simp only[List.size_toArray,List.length_append,List.length_cons,List.length_nil];omega
 refine wpAny_setField T3 tod sz3 (h _ g1.objs.size Tnew ?_ ?_)
 ·have P:=(P1.trans P2).trans P3
  have nT:∀b u,s.heap.get? b=some u->g1.objs.size≠b:=fun b u z w=>by rw[w,z]at Tnew;cases Tnew
  refine⟨fun b u z n m=>?_,fun b u z n m=>?_,fun b u z=>?_⟩
  ·rw[Heap.get?_update_other _ _ (nT b u z)]
   exact P.keep b u z n m
  ·obtain⟨sl,q⟩:=P.slot b u z n m
   exact⟨sl,by rw[Heap.get?_update_other _ _ (nT b u z)];exact q⟩
  ·obtain⟨o',q⟩:=P.there b u z
   exact⟨o',by rw[Heap.get?_update_other _ _ (nT b u z)];exact q⟩
 ·have T4:=Heap.get?_update_self (Obj.mapFields (·.setIfInBounds 3 ((none:Option Addr).elim Value.none fun f=>rawInt f))) T3 (Obj.isFreed_of_fields (Obj.data_mapFields tod _))
  refine⟨_,_,.ref g1.objs.size,?_,Obj.cls_mapFields _ _,d3,by simp[hsz],.inr ⟨g1.objs.size,_,_,rfl,by simp,Te,T4,Obj.data_mapFields tod _,?_⟩⟩
  ·rw[Heap.get?_update_other _ _ Te]
   exact e3
  ·rw[Array.getElem?_setIfInBounds_self_of_lt sz3]
   rfl
theorem z7r{base:Heap}{env:Env}{outer:List Env}{L e:Addr}{cls:Value}{own:List Addr}{Q:Unit->Shared->Prop}(hfr:A.frames=some (env::outer))(hl:s.heap.FunFrames base (env::outer))(hf:env.frame=some L)(F:Fly e cls own s.heap)
  (h:∀h' T,s.heap.get? T=none->Past ((env::outer).filterMap (·.frame)) (e::own) s.heap h'->Fly e cls [T] h'->Q () {s with heap:=h' }):wpAny M A (noteFrame (.ref e) env) (fun _ s2=>wpAny M A (setFlight (.ref e) none) Q E s2) E s:=by
 obtain⟨oe,vs,hd,he,hc,hdt,h1,hh⟩:=F.is
 subst hc
 have hsz:1<vs.size:=(Array.getElem?_eq_some_iff.mp h1).1
 unfold noteFrame
 simp only[hf]
 refine wpAny_bind (wpAny_field he hdt h1 ?_)
 rcases hh with rfl|⟨T,oT,ts,rfl,hT,Te,gT,dT,h3⟩
 ·rw[if_neg (by decide)]
  exact z7q hfr hl hf he hdt hsz (by simp) h
 ·rw[if_pos (show(Value.ref T != Value.none)=true by simp)]
  refine wpAny_bind (wpAny_field gT dT h3 ?_)
  rw[if_neg (show ¬((Value.none==rawInt L)=true) by simp[rawInt])]
  refine wpAny_bind (wpAny_setField gT dT (Array.getElem?_eq_some_iff.mp h3).1 ?_)
  have P:Past ((env::outer).filterMap (·.frame)) (e::own) s.heap _:=q8e (·.setIfInBounds 3 Value.none) (List.mem_cons_of_mem _ hT) gT dT
  have hl2:(s.heap.update T (Obj.mapFields (·.setIfInBounds 3 Value.none))).FunFrames base (env::outer):=hl.of_keeps fun b o q nd=>⟨o,by
   rw [Heap.get?_update_other _ _ (fun w=>by subst w;rw [gT]at q;cases q;exact nd ts dT)];exact q,rfl⟩
  refine z7q (own:=e::own) hfr hl2 hf (oe:=oe) (by rw[Heap.get?_update_other _ _ Te];exact he) hdt hsz (by simp) fun h' T' n' P' F'=>h h' T' ?_ (P.trans P') F'
  cases q:s.heap.get? T' with
  |none=>rfl
  |some o=>
   obtain⟨o',z⟩:=P.there T' o q
   rw[z]at n'
   cases n'
theorem y2l{base:Heap}{env:Env}{outer:List Env}{L e:Addr}{cls:Value}{own:List Addr}{Q:Unit->Shared->Prop}(hfr:A.frames=some (env::outer))(hl:s.heap.FunFrames base (env::outer))(hf:env.frame=some L)(F:Fly e cls own s.heap)
  (h:∀h' T,s.heap.get? T=none->Past ((env::outer).filterMap (·.frame)) (e::own) s.heap h'->Fly e cls [T] h'->Q () {s with heap:=h' }):wpAny M A (leaving env (.ref e)) Q E s:=by
 unfold leaving
 exact wpAny_bind (z7r hfr hl hf F h)
theorem z7u{fs:List Addr}{e T:Addr}{cls:Value}{Q:Unit->Shared->Prop}(F:Fly e cls [T] s.heap)(h:∀h',Past fs [T] s.heap h'->Fly e cls [T] h'->Q () {s with heap:=h' }):wpAny M A (setFlight (.ref e) none) Q E s:=by
 obtain⟨oe,vs,hd,he,hc,hdt,h1,hh⟩:=F.is
 unfold setFlight
 refine wpAny_bind (wpAny_field he hdt h1 ?_)
 rcases hh with rfl|⟨T',oT,ts,rfl,hT,Te,gT,dT,h3⟩
 ·rw[if_neg (by decide)]
  exact wpAny_pure (h s.heap (Past.refl _ _ _) ⟨oe,vs,.none,he,hc,hdt,h1,.inl rfl⟩)
 ·have:T'=T:=by simpa using hT
  subst this
  rw[if_pos (show(Value.ref T' != Value.none)=true by simp)]
  have s3:=(Array.getElem?_eq_some_iff.mp h3).1
  have T4:=Heap.get?_update_self (Obj.mapFields (·.setIfInBounds 3 ((none:Option Addr).elim Value.none fun f=>rawInt f))) gT (Obj.isFreed_of_fields (Obj.data_mapFields dT _))
  refine wpAny_setField gT dT s3 (h _ (q8e _ (by simp) gT dT) ⟨oe,vs,.ref T',by rw[Heap.get?_update_other _ _ Te];exact he,hc,hdt,h1,.inr ⟨T',_,_,rfl,by simp,Te,T4,Obj.data_mapFields dT _,?_⟩⟩)
  rw[Array.getElem?_setIfInBounds_self_of_lt s3]
  rfl
end
def CXE(P:Program)(w:World):CXT:=fun outer H s E e s'=>∃(a:Addr)(cls:Value)(own:List Addr)(H':Hp),e=.ref a/\s'.os=s.os/\AllBare s'.gens/\Un (frs outer) [] H H' s.heap s'.heap/\HOk P w H' s'.heap/\Fly a cls own s'.heap/\
 (∀b∈a::own,s.heap.get? b=none/\H' b=none)/\E cls none H'
theorem HOk.past{P:Program}{w:World}{H:Hp}{h h':Heap}{fs own:List Addr}(ok:HOk P w H h)(p:Past fs own h h')(n1:∀b∈fs,H b=none)(n2:∀b∈own,H b=none):HOk P w H h':=fun a o q=>
 (ok a o q).stay (fun b u hb z=>p.keep b u z (fun m=>by
   rcases hb with rfl|hb
   ·rw [n2 _ m]at q;cases q
   ·rw [n2 _ m]at hb;cases hb) (fun m=>by
   rcases hb with rfl|hb
   ·rw [n1 _ m]at q;cases q
   ·rw [n1 _ m]at hb;cases hb)) (fun _ q=>q) fun _ _ q=>q
theorem q3m.ex{P:Program}{w:World}{H:Hp}{h:Heap}{a:Addr}{o:HO}(x:q3m P w H h a o):∃u,h.get? a=some u:=by
 cases o with
 |lst xs=>obtain⟨_,_,_,_,e⟩:=x;exact⟨_,e⟩
 |tup xs=>obtain⟨_,_,_,_,e,_⟩:=x;exact⟨_,e⟩
 |dK kvs=>obtain⟨_,_,_,_,o,_,_,e,_⟩:=x;exact⟨_,e⟩
 |dT kvs=>obtain⟨_,_,_,_,o,_,_,e,_⟩:=x;exact⟨_,e⟩
 |dH c kvs=>obtain⟨_,_,_,_,o,_,e,_⟩:=x;exact⟨_,e⟩
 |set S n=>obtain⟨o,_,_,_,e,_⟩:=x;exact⟨_,e⟩
 |ins C dx fs=>obtain⟨_,_,_,e,_⟩:=x;exact⟨_,e⟩
 |own _=>exact x
 |xd fs=>obtain⟨_,⟨_,_,_,e,_⟩,_⟩:=x;exact⟨_,e⟩
 |rng lo hi=>obtain⟨_,_,_,e⟩:=x;exact⟨_,e⟩
 |frz o u=>exact⟨_,x.1⟩
 |tbl ps=>exact⟨_,x⟩
 |met f y=>exact⟨_,x⟩
 |ext φ=>exact x.2.1
theorem HOk.none_of{P:Program}{w:World}{H:Hp}{h:Heap}{b:Addr}(ok:HOk P w H h)(n:h.get? b=none):H b=none:=by
 cases q:H b with
 |none=>rfl
 |some o=>
  obtain⟨u,z⟩:=q3m.ex (ok b o q)
  rw[n]at z;cases z
theorem w0n{P:Program}{w:World}{K:Frag}{mg:Str->Option Value}{base:Heap}{N:List Str}{qual:Str}{scope:Scope}{f:Addr}{cd:Value}{A:Around}{outer:List Env}{s:Shared}{H:Hp}{E:XK} :
  q5y (CXE P w) (cxOf (CXE P w) P w K mg base N qual scope f cd A outer s H E) E:=by
 intro pins σ H1 s1 e s2 I1 hx
 obtain⟨a,cls,own,H2,rfl,os,bare,un,hok,F,new,q⟩:=hx
 have I2:=I1.call' os un hok bare (fun b z=>absurd z (by simp))
 have n0:∀b,(∃o,s.heap.get? b=some o)->∃o,s1.heap.get? b=some o:=fun b ⟨o,z⟩=>I1.base.there b o z (by intro y;cases y)
 have old:∀b,(∃o,s.heap.get? b=some o)->b∉a::own:=fun b z m=>by
  obtain⟨o,y⟩:=n0 b z
  rw[(new b m).1]at y;cases y
 have n2:∀b,(∃o,s.heap.get? b=some o)->∃o,s2.heap.get? b=some o:=fun b ⟨o,z⟩=>I2.base.there b o z (by intro y;cases y)
 refine y2l (base:=base) I2.ok.frames I2.stack rfl F fun h' T nT P' F'=>?_
 have hfr:∀b,(∃o,s.heap.get? b=some o)->b∉frs outer->b∉frs (envOfC qual scope s.heap.objs.size f cd::outer):=fun b ⟨o,z⟩ m y=>by
  have lt:=Heap.lt_size z
  have y':b∈s.heap.objs.size::frs outer:=y
  rcases List.mem_cons.mp y' with r|r
  ·rw[r]at lt;exact absurd lt (Nat.lt_irrefl _)
  ·exact m r
 refine⟨a,cls,[T],H2,rfl,I2.os,I2.bare,⟨fun b o z n m _=>?_,fun b o z n m _=>?_,fun b o z n x=>I2.base.free b o z n x,fun b o z x=>?_,I2.base.tups,I2.base.frzs,I2.base.tbls⟩,?_,F',?_,q⟩
 ·exact P'.keep b o (I2.base.keep b o z n m (by intro y;cases y)) (old b ⟨o,z⟩) (hfr b ⟨o,z⟩ m)
 ·obtain⟨sl,y⟩:=I2.base.slot b o z n m (by intro y;cases y)
  obtain⟨sl2,y2⟩:=P'.slot b _ y (old b ⟨o,z⟩) (show b∈s.heap.objs.size::frs outer from List.mem_cons_of_mem _ m)
  exact⟨sl2,y2⟩
 ·obtain⟨o2,y⟩:=n2 b ⟨o,z⟩
  exact P'.there b o2 y
 ·exact HOk.past I2.hok P' I2.stkFree fun b m=>(new b m).2
 ·intro b m
  simp only[List.mem_cons,List.not_mem_nil,or_false]at m
  rcases m with rfl|rfl
  ·refine⟨?_,(new b (by simp)).2⟩
   cases z:s.heap.get? b with
   |none=>rfl
   |some o=>exact absurd (by simp) (old b ⟨o,z⟩)
  ·refine⟨?_,HOk.none_of I2.hok nT⟩
   cases z:s.heap.get? b with
   |none=>rfl
   |some o=>
    obtain⟨o',y⟩:=n2 b ⟨o,z⟩
    rw[nT]at y;cases y
theorem x3a{K:Frag}{h:Heap}{C:Addr}{bmB:List Value}{newId:String}(X:K.In h)(q:PySem.W.excIn K C bmB newId=true) :
  ∃bm N nm qn bs hd sn sub ab col dd k0 k1 k2 k3 k5 mN,h.get? C=some (excClassObj nm qn C N bs bm hd sn sub ab col dd k0 k1 k2 k3 k5 newId)/\h.Ns N mN/\mN "__init__" = none/\OwnTail h bmB bm:=by
 unfold PySem.W.excIn at q
 split at q
 ·rename_i d0 cl slots lk
  split at q
  ·rename_i C1 rest j0 j1 j2 j3 id j5 hm hs
   simp only[Bool.and_eq_true,beq_iff_eq,Bool.not_eq_true']at q
   obtain⟨⟨⟨⟨⟨rfl,rfl⟩,nodel⟩,tl⟩,okN⟩,noI⟩:=q
   obtain⟨c1,c2,c3,c4,c5,c6,c7,c8,c9,c10,c11⟩:=cl
   dsimp only at hm nodel okN noI
   subst hm nodel
   have es:slots=#[j0,j1,j2,j3,some (.builtin id),j5]:=by
    cases slots with
    |mk l=>simp only at hs;rw[hs]
   subst es
   refine⟨rest,c4,c1,c5,c2,c6,c7,c8,c9,c10,d0,j0,j1,j2,j3,j5,h.nsMap c4,X _ _ lk,?_,?_,?_⟩
   ·exact Heap.Ns.of_isNs (PySem.W.isNs_of_in X okN)
   ·exact PySem.W.nsMap_none_of_in X okN noI
   ·exact PySem.W.tail_of_in X tl
  ·cases q
 ·cases q
def vErr:List Value:=[.type "ValueError",.type "Exception",.type "BaseException",.type "object"]
section
variable{X:Cx}{E:XK}
theorem y6y{pins:List (Addr×Obj)}{σ:St}{H:Hp}{s:Shared}{h':Heap}{a C:Addr}{vs:List Value}(I:Inv X pins σ H s)(m:Heap.MadeExcOf s.heap h' a (.ref C) vs)(q:E (.ref C) none H):CXE X.prog X.w X.stack H s E (.ref a) {s with heap:=h' }:=by
 obtain⟨t,he,htn,ht⟩:=m.there
 refine⟨a,.ref C,[],H,rfl,rfl,I.bare,Un.kept m.keeps,I.hok.kept m.keeps,⟨_,_,.none,he,rfl,rfl,rfl,.inl rfl⟩,fun b hb=>?_,q⟩
 have:b=a:=by simpa using hb
 subst this
 exact⟨m.new,HOk.none_of I.hok m.new⟩
theorem y6a{x:Str}{C:Addr}{np cpos pos:Pos}{e0:Expr}{ta:TA}(hp:q5y (CXE X.prog X.w) X E)(hc:X.calm=true)(hg:Gl X x)(hm:X.mg x=some (.ref C))(q:PySem.W.excIn X.K C vErr "ValueError.__new__" = true)(ha:PA X [e0] ta)
  (hd:(x==("__debug__" : Str))=false:=by decide) (he:starEach [e0] X.env=(false,eval e0 X.env)::starEach [] X.env:=by rfl) :
  PS X (.Raise (some (.Call (.Name x np) [e0] [] cpos)) none pos) (fun _ σ H=>ta σ H fun vs H1=>vs.length<=sizeLine/\E (.ref C) none H1):=by
 intro pins s σ H D I h
 obtain⟨bm,N,nm,qn,bs,hdd,sn,sub,ab,col,dd,k0,k1,k2,k3,k5,mN,hC,hN,hni,T⟩:=x3a I.ok.mod.kin q
 have FB:=PySem.F.excBase_ValueError
 refine wpAny_Raise_call_subT (C:=C) (N:=N) (nm:=nm) (q:=qn) (bs:=bs) (bm:=bm) (hdct:=hdd) (sn:=sn) (sub:=sub) (ab:=ab) (col:=col) (dd:=dd) (k0:=k0) (k1:=k1) (k2:=k2) (k3:=k3) (k5:=k5) (mN:=mN) FB (T.hasType FB.hasBase) (I.ok.hd hc) (by rw[he];rfl) hni ?_
 refine q8j I hg hm ⟨rfl,?_⟩ hd
 have hs:=ha cpos pins s σ H _ I h
 rw[he]at hs ⊢
 refine Calls.evalArgs_plain (wpAny_mono hs (fun us s2 ⟨vs,H1,I1,r,hl,hE⟩=>?_) fun _ _ z=>z)
 refine⟨rfl,by rw[<-r.length];exact hl,I1.bk _ _ hC,hN.keeps I1.bk,T.keeps I1.bk,fun h' a m=>?_⟩
 exact hp pins σ H1 s2 (.ref a) _ I1 (y6y I1 m hE)
end
theorem Inv.stepX{X:Cx}{pins:List (Addr×Obj)}{σ:List (Option V)}{H H':Hp}{s:Shared}{h':Heap}{g':Array GenState}{t':Nat}{d':Drawn}{ch:List Addr}(I:Inv X pins σ H s)
  (hch:∀b∈ch,(b∈X.ex\/X.s₀.heap.get? b=none)/\b≠X.env.locals/\(∀x c,X.env.cells.lookup x=some c->c≠b)/\∀p∈X.pn++pins,p.1≠b)
  (keep:∀b o,b≠X.env.locals->b∉X.fs->b∉ch->s.heap.get? b=some o->H b=none->h'.get? b=some o)
  (slot:∀b o,b≠X.env.locals->b∈X.fs->b∉ch->s.heap.get? b=some o->H b=none->∃sl,h'.get? b=some {o with slots:=sl}) (free:∀b o,b∉ch->s.heap.get? b=some o->H b=none->H' b=none)
  (there:∀b o,b∉ch->s.heap.get? b=some o->∃o',h'.get? b=some o')
  (tups:∀b xs,H b=some (.tup xs)->H' b=some (.tup xs)) (frzs:∀b o u,H b=some (.frz o u)->H' b=some (.frz o u)) (tbls:∀b ps,H b=some (.tbl ps)->∃more,H' b=some (.tbl (ps++more)))
  (ns:∀m,s.heap.Ns X.env.locals m->h'.Ns X.env.locals m) (hok:HOk X.prog X.w H' h') (hg:AllBare g') :
  Inv X pins σ H' {s with heap:=h',gens:=g',drawn:=d',toks:=t' }:=by
 have neL:∀b o,X.s₀.heap.get? b=some o->b≠X.env.locals:=fun b o e=>Nat.ne_of_lt (Nat.lt_of_lt_of_le (Heap.lt_size e) I.ok.above)
 have neC:∀b o,X.s₀.heap.get? b=some o->b∉X.ex->b∉ch:=fun b o e hx hb=>by
  rcases(hch b hb).1 with z|z
  ·exact hx z
  ·rw[e]at z;cases z
 have cellK:∀x c,X.env.cells.lookup x=some c->∀v,s.heap.IsCell c v->h'.IsCell c v:=fun x c e v hh1=>by
  obtain⟨o,ho,hd⟩:=hh1
  have nch:c∉ch:=fun z=>(hch c z).2.2.1 x c e rfl
  by_cases hc:c∈X.fs
  ·obtain⟨sl,q⟩:=slot c o (I.cne x c e) hc nch ho (I.freeC x c e)
   exact⟨_,q,hd⟩
  ·exact⟨o,keep c o (I.cne x c e) hc nch ho (I.freeC x c e),hd⟩
 refine⟨I.ok,I.os,hg,⟨fun b o e n hb hx=>?_,fun b o e n hb hx=>?_,fun b o e n hx=>?_,fun b o e hx=>?_,fun b xs e=>tups b xs (I.base.tups b xs e),fun b o xs e=>frzs b o xs (I.base.frzs b o xs e),fun b ps e=>?_⟩,?_,fun x c e=>?_,?_,fun x c e=>?_,fun p hp=>?_,hok,I.len⟩
 ·exact keep b o (neL b o e) hb (neC b o e hx) (I.base.keep b o e n hb hx) (I.base.free b o e n hx)
 ·obtain⟨sl,e1⟩:=I.base.slot b o e n hb hx
  obtain⟨sl',e2⟩:=slot b _ (neL b o e) hb (neC b o e hx) e1 (I.base.free b o e n hx)
  exact⟨sl',e2⟩
 ·obtain⟨o',e1⟩:=I.base.there b o e hx
  exact free b o' (neC b o e hx) e1 (I.base.free b o e n hx)
 ·obtain⟨o',e1⟩:=I.base.there b o e hx
  exact there b o' (neC b o e hx) e1
 ·obtain⟨m1,e1⟩:=I.base.tbls b ps e
  obtain⟨m2,e2⟩:=tbls b _ e1
  exact⟨m1++m2,by rw[e2,Array.append_assoc]⟩
 ·obtain⟨m,hn,hl⟩:=I.loc
  refine⟨m,ns m hn,fun i x v e1 e2 e3=>?_⟩
  obtain⟨u,r,l⟩:=hl i x v e1 e2 e3
  refine⟨u,r,?_⟩
  rcases l with l|⟨k,c,e,z⟩
  ·exact .inl l
  ·exact .inr ⟨k,c,e,cellK x c e _ z⟩
 ·obtain⟨v,z⟩:=I.cell x c e
  exact⟨v,cellK x c e v z⟩
 ·obtain⟨m,⟨o,_,_,ho,_⟩,_⟩:=I.loc
  exact free _ o (fun z=>(hch _ z).2.1 rfl) ho I.free
 ·obtain⟨v,o,ho,hd⟩:=I.cell x c e
  exact free c o (fun z=>(hch c z).2.2.1 x c e rfl) ho (I.freeC x c e)
 ·obtain⟨e,n,ne,nf,d⟩:=I.pin p hp
  have nch:p.1∉ch:=fun z=>(hch p.1 z).2.2.2 p hp rfl
  exact⟨keep p.1 p.2 ne nf nch e n,free p.1 p.2 nch e n,ne,nf,d⟩
theorem x6a{P:Program}{w:World}{X:Cx}:q5y (CXE P w) X E0:=fun _ _ _ _ _ _ _ hh1=>by obtain⟨_,_,_,_,_,_,_,_,_,_,_,q⟩:=hh1;exact(q.elim)
theorem CXE.imp{P:Program}{w:World}{outer:List Env}{H:Hp}{s s':Shared}{E E':XK}{e:Value}(h:CXE P w outer H s E e s')(i:∀c d H',E c d H'->E' c d H'):CXE P w outer H s E' e s':=
 let ⟨a,cls,own,H',h1,h2,h3,h4,h5,h6,h7,q⟩:=h;⟨a,cls,own,H',h1,h2,h3,h4,h5,h6,h7,i _ _ _ q⟩
theorem q5y.imp{P:Program}{w:World}{X:Cx}{E E':XK}(h:q5y (CXE P w) X E)(i:∀c d H',E' c d H'->E c d H'):q5y (CXE P w) X E':=fun pins σ H s e s' I q=>h pins σ H s e s' I (q.imp i)
theorem Fun.okX{P:Program}{w:World}{K:Frag}{mg:Str->Option Value}{base:Heap}{x qual:Str}{st:Stmt}{f:Addr}{fd:FuncData}{N ps:List Str}{k:Nat}{sp:Sp}(F:Fun K x qual st f fd)(S:FnScope N ps (q1w st))(len:∀vs H Q E,sp vs H Q E->vs.length=ps.length)
  (hbody:∀(cdv:Value)(A:Around)(outer:List Env)(s:Shared)(H:Hp)(vs:List V)(Q:VK)(E:XK),RoomW k (A.deeper (envOfC qual (q1w st) s.heap.objs.size f cdv))->sp vs H Q E->
   ∃t,PSs (cxOf (CXE P w) P w K mg base N qual (q1w st) f cdv A outer s H E) (q6e st) t/\t {nx:=fun _ H'=>Q .non H',rt:=Q} (q9r N vs) H):FnOk P w K mg base (CXE P w) (k+1) f fd ps sp:=by
 obtain⟨oc,od,kV,doc,pm,an,cdv,ct,osl,rfl,lk,hcd⟩:=F.ex
 exact w1b lk hcd S len fun A outer s H vs Q E hr hsp=>hbody cdv A outer s H vs Q E hr hsp
section
variable(P:Program)(w:World)
end
section
variable{P:Program}{w:World}{H H':Hp}{h h':Heap}{a:Addr}{o:HO}
end
section
variable{P:Program}{w:World}{H:Hp}{h h':Heap}{x e:Addr}{o':HO}
end
section
variable{fs fs' ex ex':List Addr}{H H1 H2:Hp}{h h1 h2 h':Heap}{a x e:Addr}{o:HO}
end
section
variable{X:Cx}{pins:List (Addr×Obj)}{σ:List (Option V)}{H H':Hp}{s:Shared}{h':Heap}
end
section
variable{X:Cx}
variable{a b:Expr}{ta tb:TE}{pos:Pos}
variable{tA tB':TT}{rest:List Expr}
end
section
variable{X:Cx}{pins:List (Addr×Obj)}{σ:St}{H:Hp}{s:Shared}{a:Addr}{xs ys:List V}
end
section
variable{X:Cx}{pins:List (Addr×Obj)}{σ:St}{H:Hp}{s:Shared}{E:Value->Shared->Prop}
end
section
variable{X:Cx}{st:Stmt}{rest:List Stmt}{t u:TS}{e:Expr}{te:TE}{pos:Pos}
end
section
variable{X:Cx}{pos:Pos}
end
section
variable{X:Cx}{pos:Pos}
end
section
variable{X:Cx}{tg:Expr}
end
section
variable{X:Cx}{a b c:Expr}{ta tb tc:TE}{pos:Pos}
end
section
variable{X:Cx}{a b c:Expr}{ta tb tc:TE}{pos:Pos}
end
section
variable{prog:Program}{w:World}{A:Around}{E:Value->Shared->Prop}{s:Shared}{K:Frag}{x dx C f:Addr}{mA:Str->Option Value}{name:Str}{v:Value}
end
section
variable{P:Program}{w:World}{H H':Hp}{h h':Heap}{a C dx:Addr}{fs fs':List (Str×V)}
end
section
variable{X:Cx}{pins:List (Addr×Obj)}{σ:St}{H:Hp}{s:Shared}{a C dx:Addr}{fs:List (Str×V)}{f:Str}{v:V}{A:Around}{E:Value->Shared->Prop}
end
section
variable{X:Cx}{o e value:Expr}{f:Str}{pos pos' tpos:Pos}{ta tv:TE}
end
section
variable{X:Cx}{pins:List (Addr×Obj)}{σ:St}{H:Hp}{s:Shared}{A:Around}{E:Value->Shared->Prop}{Q:Value->Shared->Prop}{c:Value}{b:Bool}
end
section
variable{X:Cx}{e:Expr}{es:List Expr}{te:TE}{t:TA}{pos:Pos}
end
section
variable{X:Cx}{pins:List (Addr×Obj)}{σ:St}{H:Hp}{s s':Shared}
end
section
variable{X:Cx}{CX:CXT}{k:Nat}{f C:Addr}{fd:FuncData}{ps:List Str}{sp:Sp}{dvs:List V}{ds:List Value}{E:XK}{x m:Str}{p pos apos:Pos}{e o:Expr}{es:List Expr}{ta:TE}{t:TA}
end
section
variable{X:Cx}{CX:CXT}{k:Nat}{f C:Addr}{fd:FuncData}{ps ks:List Str}{sp:Sp}{E:XK}{x m:Str}{p pos apos kpos:Pos}{e o:Expr}{es:List Expr}{kws:List Keyword}{te ta:TE}{t tk:TA}{nm:Option Str}
variable{g:List Value->List Value->List Value}{gV:List V->List V->List V}
end
section
variable{X:Cx}{x:Str}{p pos:Pos}{e:Expr}{es:List Expr}{t:TA}{id T:String}{r:List V->Hp->VK->Prop}
end
section
variable{κ:Type} [DecidableEq κ]
def valV(kvs:List (κ×V))(k:κ):Option V:=(kvs.find? fun kv=>decide (kv.1=k)).map (·.2)
def putK(kvs:List (κ×V))(k:κ)(v:V):List (κ×V):=
 if(kvs.any fun kv=>decide (kv.1=k))=true then kvs.map (fun kv=>if kv.1=k then(kv.1,v)else kv)else kvs++[(k,v)]
theorem q9d{p:κ×V}{r:List (κ×V)}{k:κ}(e:p.1=k):valV (p::r) k=some p.2:=by simp[valV,List.find?_cons,e]
theorem q9e{p:κ×V}{r:List (κ×V)}{k:κ}(e:¬p.1=k):valV (p::r) k=valV r k:=by simp[valV,List.find?_cons,e]
theorem z7e(k:κ):∀kvs:List (κ×V),(kvs.any fun kv=>decide (kv.1=k))=(valV kvs k).isSome
 |[]=>rfl
 |p::r=>by
  rw[List.any_cons]
  by_cases e:p.1=k
  ·simp only[q9d e,decide_eq_true e,Bool.true_or,Option.isSome_some]
  ·rw[q9e e,decide_eq_false e,Bool.false_or];exact z7e k r
theorem q7n(kvs:List (κ×V))(k:κ)(v:V):(putK kvs k v).length<=kvs.length+1:=by
 unfold putK
 split
 ·rw[List.length_map];omega
 ·rw[List.length_append,List.length_cons,List.length_nil];omega
theorem RelO.isSome_eq{o:Option V}{u:Option Value}(r:RelO o u):o.isSome=u.isSome:=by
 cases o with
 |none=>cases u with
  |none=>rfl
  |some _=>exact(show False from r).elim
 |some _=>cases u with
  |none=>exact(show False from r).elim
  |some _=>rfl
theorem RelO.getD{o:Option V}{u:Option Value}{d:V}{d':Value}(r:RelO o u)(rd:RelV d d'):RelV (o.getD d) (u.getD d'):=by
 cases o with
 |none=>cases u with
  |none=>exact rd
  |some _=>exact(show False from r).elim
 |some _=>cases u with
  |none=>exact(show False from r).elim
  |some _=>exact r
theorem KV.val{kvs:List (κ×V)}{vs:List (κ×Value)}(r:KV kvs vs)(k:κ):RelO (valV kvs k) (valueAt vs k):=by
 unfold KV at r
 induction r with
 |nil=>exact True.intro
 |@cons p q ps qs h t ih=>
  obtain⟨h1,h2⟩:=h
  by_cases e:p.1=k
  ·have e':q.1=k:=h1.symm.trans e
   have b:valueAt (q::qs) k=some q.2:=by simp[valueAt,List.find?_cons,e']
   rw[q9d e,b];exact h2
  ·have e':¬q.1=k:=fun z=>e (h1.trans z)
   have b:valueAt (q::qs) k=valueAt qs k:=by simp[valueAt,List.find?_cons,e']
   rw[q9e e,b];exact ih
theorem KV.any{kvs:List (κ×V)}{vs:List (κ×Value)}(r:KV kvs vs)(k:κ):(kvs.any fun kv=>decide (kv.1=k))=vs.any fun kv=>decide (kv.1=k):=by
 unfold KV at r
 induction r with
 |nil=>rfl
 |cons h t ih=>rw[List.any_cons,List.any_cons,ih,h.1]
theorem KV.repl{kvs:List (κ×V)}{vs:List (κ×Value)}(r:KV kvs vs)(k:κ){y:V}{u:Value}(ry:RelV y u) :
  KV (kvs.map fun kv=>if kv.1=k then(kv.1,y)else kv) (vs.map fun kv=>if kv.1=k then(kv.1,u)else kv):=by
 unfold KV at r ⊢
 induction r with
 |nil=>exact .nil
 |@cons p q ps qs h t ih=>
  rw[List.map_cons,List.map_cons]
  refine .cons ?_ ih
  obtain⟨h1,h2⟩:=h
  by_cases e:p.1=k
  ·rw[if_pos e,if_pos (h1.symm.trans e)];exact⟨h1,ry⟩
  ·rw[if_neg e,if_neg (fun z=>e (h1.trans z))];exact⟨h1,h2⟩
theorem KV.put{kvs:List (κ×V)}{vs:List (κ×Value)}(r:KV kvs vs)(k:κ){y:V}{u:Value}(ry:RelV y u):KV (putK kvs k y) (stored vs k u):=by
 unfold putK stored
 rw[r.any k]
 by_cases e:(vs.any fun kv=>decide (kv.1=k))=true
 ·rw[if_pos e,if_pos e];exact r.repl k ry
 ·rw[if_neg e,if_neg e];exact Paired.snoc r ⟨rfl,ry⟩
theorem KV.length{kvs:List (κ×V)}{vs:List (κ×Value)}(r:KV kvs vs):kvs.length=vs.length:=Paired.length r
end
theorem y7i{P:Program}{w:World}{k:Key}{u:Value}(r:RelV (kV k) u):(q2d P w).is k u=true:=by
 cases k with
 |inl i=>obtain⟨t,e⟩:=(show ∃t,u=Value.int i t from r);subst e;exact z0d P w i t
 |inr x=>obtain⟨t,e⟩:=(show ∃t,u=Value.str x t from r);subst e;exact z0c P w x t
theorem z4a{P:Program}{w:World}:∀{ks:List Key}{us:List Value},Vals (ks.map kV) us->ItemsAre (q2d P w) ks us
 |[],_,r=>by rw[List.map_nil]at r;cases r;exact .nil
 |k::ks,_,r=>by
  rw[List.map_cons]at r
  cases r with
  |cons h t=>exact .cons (y7i h) (z4a t)
abbrev KT(H:Hp):List (List Key×V)->List (List Key×Addr×Value)->Prop:=Paired fun p q=>p.1=q.1/\H q.2.1=some (.tup (p.1.map kV))/\RelV p.2 q.2.2
theorem KT.val{H:Hp}{kvs:List (List Key×V)}{xs:List (List Key×Addr×Value)}(r:KT H kvs xs)(k:List Key):RelO (valV kvs k) ((atKey xs k).map (·.2)):=by
 induction r with
 |nil=>exact True.intro
 |@cons p q ps qs h t ih=>
  obtain⟨h1,_,h2⟩:=h
  by_cases e:p.1=k
  ·have e':q.1=k:=h1.symm.trans e
   have b:atKey (q::qs) k=some q.2:=by simp[atKey,List.find?_cons,e']
   rw[q9d e,b];exact h2
  ·have e':¬q.1=k:=fun z=>e (h1.trans z)
   have b:atKey (q::qs) k=atKey qs k:=by simp[atKey,List.find?_cons,e']
   rw[q9e e,b];exact ih
theorem KT.repl{H:Hp}{kvs:List (List Key×V)}{xs:List (List Key×Addr×Value)}(r:KT H kvs xs)(k:List Key){y:V}{u:Value}(ry:RelV y u) :
  KT H (kvs.map fun kv=>if kv.1=k then(kv.1,y)else kv) (xs.map (putAt k u)):=by
 induction r with
 |nil=>exact .nil
 |@cons p q ps qs h t ih=>
  rw[List.map_cons,List.map_cons]
  refine .cons ?_ ih
  obtain⟨h1,h2,h3⟩:=h
  unfold putAt
  by_cases e:p.1=k
  ·rw[if_pos e,if_pos (h1.symm.trans e)];exact⟨h1,h2,ry⟩
  ·rw[if_neg e,if_neg (fun z=>e (h1.trans z))];exact⟨h1,h2,h3⟩
theorem KT.put{H:Hp}{kvs:List (List Key×V)}{xs:List (List Key×Addr×Value)}(r:KT H kvs xs)(k:List Key){b:Addr}{y:V}{u:Value}(hb:H b=some (.tup (k.map kV)))(ry:RelV y u) :
  KT H (putK kvs k y) (storedH xs k b u):=by
 have e:(kvs.any fun kv=>decide (kv.1=k))=(atKey xs k).isSome:=by
  rw[z7e,(r.val k).isSome_eq,Option.isSome_map]
 unfold putK storedH
 rw[e]
 by_cases q:(atKey xs k).isSome=true
 ·rw[if_pos q,if_pos q];exact r.repl k ry
 ·rw[if_neg q,if_neg q];exact Paired.snoc r ⟨rfl,hb,ry⟩
theorem KT.keeps{H H':Hp}{kvs:List (List Key×V)}{xs:List (List Key×Addr×Value)}(r:KT H kvs xs)(ht:∀b ys,H b=some (.tup ys)->H' b=some (.tup ys)):KT H' kvs xs:=
 Paired.mapP r fun _ _ z=>⟨z.1,ht _ _ z.2.1,z.2.2⟩
section
variable{P:Program}{w:World}{H:Hp}{h:Heap}{a:Addr}
theorem x4z{u:HO}(ok:HOk P w H h)(e:Rd H a u):q3m P w H h a u:=e.ok ok
theorem x3d{kvs:List (Key×V)}(ok:HOk P w H h)(e:Rd H a (.dK kvs)):kvs.length<=sizeLine/\(a==sysModules)=false/\∃vs,KV kvs vs/\h.DictOf (q2d P w) a vs:=
 show q3m P w H h a (.dK kvs)from x4z ok e
theorem x8e{kvs:List (Key×V)}(ok:HOk P w H h)(e:H a=some (.dK kvs)):kvs.length<=sizeLine/\(a==sysModules)=false/\∃vs,KV kvs vs/\h.DictOf (q2d P w) a vs:=x3d ok (.inl e)
theorem y2o{ks:List Key}(ok:HOk P w H h)(e:H a=some (.tup (ks.map kV))):(tupleKind (q2d P w)).is h ks a:=by
 obtain⟨_,its,r,o,h1,h2,n,h3⟩:=(show q3m P w H h a (.tup (ks.map kV))from ok a _ e)
 exact⟨o,its.toArray,n,h1,h2,h3,by simpa using z4a r⟩
theorem x3b{kvs:List (List Key×V)}(ok:HOk P w H h)(e:Rd H a (.dT kvs)):kvs.length<=sizeLine/\(a==sysModules)=false/\
  ∃xs,KT H kvs xs/\h.DictOfH (tupleKind (q2d P w)) a xs:=by
 obtain⟨z,y,xs,r,o,es,ep,h1,h2,h3,h4,h5⟩:=(show q3m P w H h a (.dT kvs)from x4z ok e)
 refine⟨z,y,xs,r,o,es,ep,h1,h2,h3,h4,fun x hx=>?_,h5⟩
 have all:∀{l:List (List Key×V)}{m:List (List Key×Addr×Value)},KT H l m->∀x∈m,(tupleKind (q2d P w)).is h x.1 x.2.1:=by
  intro l m q
  induction q with
  |nil=>intro x hx;exact nomatch hx
  |@cons p q ps qs hq t ih=>
   intro x hx
   rcases List.mem_cons.mp hx with e|hx
   ·subst e
    exact y2o ok (by rw[<-hq.1];exact hq.2.1)
   ·exact ih x hx
 exact all r x hx
theorem w1g{kvs:List (List Key×V)}(ok:HOk P w H h)(e:H a=some (.dT kvs)):kvs.length<=sizeLine/\(a==sysModules)=false/\
  ∃xs,KT H kvs xs/\h.DictOfH (tupleKind (q2d P w)) a xs:=x3b ok (.inl e)
end
def DGet(H:Hp)(a:Addr)(y:V)(r:Option V):Prop:=
 (∃kvs k,Rd H a (.dK kvs)/\y=kV k/\r=valV kvs k)\/∃kvs k b,Rd H a (.dT kvs)/\y=.ref b/\H b=some (.tup (k.map kV))/\r=valV kvs k
def DPut(H:Hp)(a:Addr)(y v:V)(H':Hp):Prop:=
 (∃kvs k,H a=some (.dK kvs)/\y=kV k/\kvs.length<sizeLine/\H'=upd H a (.dK (putK kvs k v)))\/
 ∃kvs k b,H a=some (.dT kvs)/\y=.ref b/\H b=some (.tup (k.map kV))/\kvs.length<sizeLine/\H'=upd H a (.dT (putK kvs k v))
theorem DGet.k{H:Hp}{a:Addr}{kvs:List (Key×V)}{k:Key}(e:H a=some (.dK kvs)):DGet H a (kV k) (valV kvs k):=.inl ⟨kvs,k,.inl e,rfl,rfl⟩
theorem DPut.k{H:Hp}{a:Addr}{kvs:List (Key×V)}{k:Key}{v:V}(e:H a=some (.dK kvs))(hl:kvs.length<sizeLine):DPut H a (kV k) v (upd H a (.dK (putK kvs k v))):=.inl ⟨kvs,k,e,rfl,hl,rfl⟩
section
variable{X:Cx}{pins:List (Addr×Obj)}{σ:St}{H:Hp}{s:Shared}{a:Addr}{y v:V}{u r:Value}{o:Option V}{A:Around}{E:Value->Shared->Prop}
theorem Inv.big(I:Inv X pins σ H s):sysModules<s.heap.objs.size:=by
 have h:mainGlobals<s.heap.objs.size:=(I.mod.glob.keeps I.bk).lt
 exact Nat.lt_trans (by decide) h
theorem y3z{Q:Value->Shared->Prop}(hu:A.units+1<cLine)(I:Inv X pins σ H s)(g:DGet H a y (some v))(ry:RelV y u)(h:∀w' s',Inv X pins σ H s'->RelV v w'->Q w' s') :
  wpAny (model X.prog X.w) A (getItem (.ref a) u) Q E s:=by
 rcases g with⟨kvs,k,e,ey,l⟩|⟨kvs,k,b,e,ey,eb,l⟩
 ·subst ey
  obtain⟨z,hd,vs,rel,dd⟩:=x3d I.hok e
  obtain⟨w',hw,rw'⟩:=RelO.some_of (v:=v) (o:=valueAt vs k) (by rw[l];exact rel.val k)
  exact wpAny_getItem_of (y7i ry) dd.mapOf hw (h w' _ (I.tok _) rw')
 ·subst ey
  cases(show u=Value.ref b from ry)
  obtain⟨z,hd,xs,rel,dd⟩:=x3b I.hok e
  obtain⟨w',hw,rw'⟩:=RelO.some_of (v:=v) (o:=(atKey xs k).map (·.2)) (by rw[l];exact rel.val k)
  obtain⟨p,hp,hp2⟩:=Option.map_eq_some_iff.mp hw
  refine wpAny_getItem_heap (tupleKind_room_in1 hu) (y2o I.hok eb) dd hp ?_
  rw[hp2]
  exact h w' _ (I.tok _) rw'
theorem z6u{h':Heap}{t':Nat}{ob:HO}(I:Inv X pins σ H s)(mu:Mut (H a))(hs:Heap.SameBut a s.heap h')(he:∃q,h'.get? a=some q)(new:q3m X.prog X.w (upd H a ob) h' a ob) :
  Inv X pins σ (upd H a ob) {s with heap:=h',toks:=t' }:=
 I.write (x:=a) (e:=a) mu (.inl rfl) (fun b q hb z=>(hs.2 b hb).trans z) he new
theorem y9o{P:Program}{w:World}{H':Hp}{h':Heap}{kvs:List (Key×V)}{vs:List (Key×Value)}(z:kvs.length<=sizeLine)(hd:(a==sysModules)=false)(rel:KV kvs vs)(dd:h'.DictOf (q2d P w) a vs) :
  q3m P w H' h' a (.dK kvs):=⟨z,hd,vs,rel,dd⟩
theorem y3y{H':Hp}{Q:Unit->Shared->Prop}(hu:A.units+1<cLine)(I:Inv X pins σ H s)(g:DPut H a y v H')(ry:RelV y u)(rv:RelV v r)(h:∀s',Inv X pins σ H' s'->Q () s') :
  wpAny (model X.prog X.w) A (setItem (.ref a) u r) Q E s:=by
 rcases g with⟨kvs,k,e,ey,l,eH⟩|⟨kvs,k,b,e,ey,eb,l,eH⟩
 ·subst ey eH
  obtain⟨z,hd,vs,rel,dd⟩:=x8e I.hok e
  have hz:vs.length<=sizeLine:=by rw[<-rel.length];exact z
  have hl:(putK kvs k v).length<=sizeLine:=by have:=q7n kvs k v;omega
  refine wpAny_setItem_pairs (hsz:=hz) (y7i ry) dd fun h' dd' hs=>h _ ?_
  have he:∃q,h'.get? a=some q:=let ⟨q,_,_,hq,_⟩:=dd';⟨q,hq⟩
  exact z6u I (by rw[e];exact True.intro) hs he (y9o hl hd (rel.put k rv) dd')
 ·subst ey eH
  cases(show u=Value.ref b from ry)
  obtain⟨z,hd,xs,rel,dd⟩:=w1g I.hok e
  have hz:xs.length<=sizeLine:=by rw[<-Paired.length rel];exact z
  have hl:(putK kvs k v).length<=sizeLine:=by have:=q7n kvs k v;omega
  refine wpAny_setItem_heap (hsz:=hz) (tupleKind_room_in1 hu) (y2o I.hok eb) dd fun h' dd' hs=>h _ ?_
  obtain⟨q,es,ep,hq,h2,h3,h4,_,h5⟩:=dd'
  refine z6u I (by rw[e];exact True.intro) hs ⟨q,hq⟩ ⟨hl,hd,_,(rel.put k eb rv).keeps fun c ys ec=>?_,q,es,ep,hq,h2,h3,h4,h5⟩
  rw[q0z (z2l ec e (fun z=>nomatch z))]
  exact ec
end
section
variable{X:Cx}{pins:List (Addr×Obj)}{σ:St}{H:Hp}{s:Shared}{a:Addr}{kvs:List (Key×V)}{k:Key}{u:Value}{A:Around}{E:Value->Shared->Prop}
end
theorem z6t{X:Cx}{pins:List (Addr×Obj)}{σ:St}{H:Hp}{s:Shared}{a:Addr}{y:V}{o:Option V}(I:Inv X pins σ H s)(g:DGet H a y o):s.TypeIs (.ref a) "dict" :=by
 rcases g with⟨kvs,k,e,_,_⟩|⟨kvs,k,b,e,_,_,_⟩
 ·obtain⟨_,_,vs,_,dd⟩:=x3d I.hok e
  exact dd.typeIs
 ·obtain⟨_,_,xs,_,dd⟩:=x3b I.hok e
  exact dd.typeIs
section
variable{X:Cx}{o i e value:Expr}{pos pos' tpos:Pos}{td ty tv:TE}
end
theorem y7s{P:Program}{w:World}{H:Hp}(h:Heap)(hb:sysModules<h.objs.size):q3m P w H (h.push {cls:=.type "dict",data:=.dict #[]}) h.objs.size (.dK []):=
 ⟨Nat.zero_le _,beq_eq_false_iff_ne.mpr (Ne.symm (Nat.ne_of_lt hb)),[],.nil,Heap.DictOf.new h⟩
section
variable{X:Cx}{pos:Pos}
end
def z7h : List (TE × TE) -> St -> Hp -> (List (V × V) -> Hp -> Prop) -> Prop
 | [], _, H, Q => Q [] H
 | (tk, tv) :: r, σ, H, Q => tk σ H fun x H1 => tv σ H1 fun y H2 => z7h r σ H2 fun ps H3 => Q ((x, y) :: ps) H3
abbrev VV:List (V×V)->List (Value×Value)->Prop:=Paired fun p q=>RelV p.1 q.1/\RelV p.2 q.2
def PPs(X:Cx)(pos:Pos)(keys:List (Option Expr))(values:List Expr)(trs:List (TE×TE)):Prop:=
 ∀(pins:List (Addr×Obj))(s:Shared)(σ:St)(H:Hp)(Q:List (V×V)->Hp->Prop),Inv X pins σ H s->z7h trs σ H Q->
  wpAny (model X.prog X.w) X.A (evalPairs (pairTrees keys values X.env pos)) (fun vs s'=>∃ps H',Inv X pins σ H' s'/\VV ps vs/\Q ps H') X.xe s
theorem x1f{X:Cx}{pos:Pos}:PPs X pos [] [] []:=fun pins s σ H Q I h=>pairTrees_nil_walk ⟨[],H,I,.nil,h⟩
theorem y6d{X:Cx}{pos:Pos}{k v:Expr}{ks:List (Option Expr)}{vs:List Expr}{tk tv:TE}{trs:List (TE×TE)}(hk:PE X k tk)(hv:PE X v tv)(hr:PPs X pos ks vs trs) :
  PPs X pos (some k::ks) (v::vs) ((tk,tv)::trs):=fun pins s σ H Q I h=>
 pairTrees_cons_walk (thn (hk pins s σ H _ I h) fun u s1 hh1=>by obtain⟨x,H1,I1,rx,q1⟩:=hh1;exact(thn (hv pins s1 σ H1 _ I1 q1) fun w2 s2 ⟨y,H2,I2,ry,q2⟩=>
  thn (hr pins s2 σ H2 _ I2 q2) fun ws s3 hh2=>by obtain ⟨ps,H3,I3,rel,q3⟩:=hh2;exact (⟨(x,y)::ps,H3,I3,.cons ⟨rx,ry⟩ rel,q3⟩)))
def z1h(kvs more:List (Key×V)):List (Key×V):=more.foldl (fun acc kv=>putK acc kv.1 kv.2) kvs
theorem KV.merge:∀{more:List (Key×V)}{rs:List (Key×Value)}{kvs:List (Key×V)}{vs:List (Key×Value)},KV more rs->KV kvs vs->KV (z1h kvs more) (merged vs rs):=by
 intro more rs kvs vs r
 unfold KV at r
 induction r generalizing kvs vs with
 |nil=>intro q;exact q
 |@cons p q ps qs h t ih=>
  intro r0
  have e:KV (putK kvs p.1 p.2) (stored vs q.1 q.2):=by
   have:=r0.put p.1 h.2
   rw[<-h.1];exact this
  exact ih e
theorem q7u:∀(more kvs:List (Key×V)),(z1h kvs more).length<=kvs.length+more.length
 |[],kvs=>by show kvs.length<=kvs.length+0;omega
 |p::r,kvs=>by
  have h1:=q7u r (putK kvs p.1 p.2)
  have h2:=q7n kvs p.1 p.2
  show(z1h (putK kvs p.1 p.2) r).length<=_
  rw[List.length_cons];omega
theorem z1o{P:Program}{w:World}:∀{kvs:List (Key×V)}{ws:List (Value×Value)},VV (kvs.map fun kv=>(kV kv.1,kv.2)) ws->∃rs,Carries (q2d P w) ws rs/\KV kvs rs
 |[],_,r=>by rw[List.map_nil]at r;cases r;exact⟨[],True.intro,.nil⟩
 |p::kvs,_,r=>by
  rw[List.map_cons]at r
  cases r with
  |@cons a b as bs h t=>
   obtain⟨rs,c,q⟩:=z1o (P:=P) (w:=w) t
   obtain⟨b1,b2⟩:=b
   exact⟨(p.1,b2)::rs,⟨y7i h.1,rfl,c⟩,.cons ⟨rfl,h.2⟩ q⟩
def x9r(trs:List (TE×TE)):TE:=fun σ H Q=>∀p,H p=none->z7h trs σ (upd H p (.dK [])) fun ps H2=>H2 p=some (.dK [])/\∃kvs:List (Key×V),ps=kvs.map (fun kv=>(kV kv.1,kv.2))/\kvs.length<=15/\Q (.ref p) (upd H2 p (.dK (z1h [] kvs)))
theorem x1l{X:Cx}{pos:Pos}{keys:List (Option Expr)}{values:List Expr}{trs:List (TE×TE)}(h:PPs X pos keys values trs)(hall:keys.all (·.isSome)=true)(hl:keys.length=values.length)(h0:keys≠[])
  (h15:keys.length<=15):PE X (.Dict keys values pos) (x9r trs):=by
 intro pins s σ H Q I q
 have hn:=I.hok.fresh (Nat.le_refl s.heap.objs.size)
 have I1:=I.laid (a:=s.heap.objs.size) (o:=.dK []) (h':=s.heap.push {cls:=.type "dict",data:=.dict #[]}) (t':=s.toks) (fun _ _ q=>Heap.get?_push_of_some _ q) (Nat.le_refl _) (y7s s.heap I.big)
 refine wpAny_Dict_walk (knd:=q2d X.prog X.w) hall hl h0 h15 (thn (h pins _ σ _ _ I1 (q _ hn)) fun ws s2 hh1=>?_)
 obtain⟨ps,H2,I2,rel,e,kvs,ep,lk,q2⟩:=hh1
 subst ep
 obtain⟨rs,c,rk⟩:=z1o (P:=X.prog) (w:=X.w) rel
 obtain⟨z,hd,vs0,r0,dd⟩:=x8e I2.hok e
 cases r0
 refine⟨rs,c,dd,fun h' dd' hs=>⟨.ref s.heap.objs.size,_,?_,rfl,q2⟩⟩
 have hz:(z1h [] kvs).length<=sizeLine:=by
  have h1:=q7u kvs []
  rw[List.length_nil]at h1
  rw[sizeLine_eq];omega
 have he:∃q,h'.get? s.heap.objs.size=some q:=let ⟨q,_,_,hq,_⟩:=dd';⟨q,hq⟩
 exact z6u I2 (by rw[e];exact True.intro) hs he (y9o hz hd (rk.merge .nil) dd')
structure M1(X:Cx)(o:Expr)(m:Str)(apos:Pos)(e:Expr)(cpos:Pos):Prop where
 base:attributeBase o m X.env (eval o X.env)=eval o X.env
 few:((backTo cpos (starEach [e] X.env)).all (fun x=>!x.1)&&(backToKw cpos (keywordEach [] X.env)).all (fun x=>x.1.isSome)
  && decide (([e]:List Expr).length+([]:List Keyword).length+(if ([]:List Keyword).isEmpty then 0 else 1)<30))=true
 line:(apos.endLine==cpos.line)=true
 trees:backTo cpos (starEach [e] X.env)=[(false,eval e X.env)]
structure M2(X:Cx)(o:Expr)(m:Str)(apos:Pos)(e f:Expr)(cpos:Pos):Prop where
 base:attributeBase o m X.env (eval o X.env)=eval o X.env
 few:((backTo cpos (starEach [e,f] X.env)).all (fun x=>!x.1)&&(backToKw cpos (keywordEach [] X.env)).all (fun x=>x.1.isSome)
  && decide (([e,f]:List Expr).length+([]:List Keyword).length+(if ([]:List Keyword).isEmpty then 0 else 1)<30))=true
 line:(apos.endLine==cpos.line)=true
 trees:backTo cpos (starEach [e,f] X.env)=[(false,eval e X.env),(false,eval f X.env)]
section
variable{X:Cx}{pins:List (Addr×Obj)}{σ:St}{H:Hp}{s:Shared}{a:Addr}{y d:V}{u r:Value}{o:Option V}{A:Around}{E:Value->Shared->Prop}
end
section
variable{X:Cx}{o e f:Expr}{apos cpos:Pos}{td ty tx:TE}
end
section
variable{X:Cx}{pins:List (Addr×Obj)}{σ:St}{H:Hp}{s:Shared}{a:Addr}{kvs:List (Key×V)}{A:Around}{E:Value->Shared->Prop}
end
section
variable{X:Cx}{pins:List (Addr×Obj)}{σ:St}{H:Hp}{s:Shared}{a:Addr}{y:V}{u:Value}{A:Around}{E:Value->Shared->Prop}
end
end L2
namespace Att
open PySem PySem.W PySem.Calls PyProof.Rows
section
variable{prog:Program}{w:World}{A:Around}{E:Value->Shared->Prop}{s:Shared}{K:Frag}
end
end Att
namespace L2
open PySem PySem.Spec PyProof.Rows
section
variable{P:Program}{w:World}{K:Frag}{mg:Str->Option Value}{base:Heap}
end
section
variable{X:Cx}
end
section
variable{κ:Type} [DecidableEq κ]
end
theorem z5a(env:Env):∀(names:List (Str×NameKind))(acc:List (Str×Addr)),
  (∀p∈names,p.2=.free->∃c,env.cells.lookup p.1=some c)->
  (∀x c,acc.lookup x=some c->env.cells.lookup x=some c)->
  ∃cl,(forIn names acc (fun(x:Str×NameKind) cs=>
    (if (x.2==NameKind.free)=true then (do let a <-cellOf env x.1;pure (ForInStep.yield ((x.1,a)::cs)))else pure (ForInStep.yield cs))):Sem (List (Str×Addr)))=pure cl/\
   (∀x c,cl.lookup x=some c->env.cells.lookup x=some c)/\
   (∀x,(names.lookup x=some .free\/(acc.lookup x).isSome=true)->∃c,cl.lookup x=some c):=by
 intro names
 induction names with
 |nil=>
  intro acc _ ha
  refine⟨acc,rfl,ha,fun x hx=>?_⟩
  rcases hx with hx|hx
  ·simp at hx
  ·exact Option.isSome_iff_exists.mp hx
 |cons p r ih=>
  intro acc hf ha
  obtain⟨n,k⟩:=p
  have hr:∀p∈r,p.2=.free->∃c,env.cells.lookup p.1=some c:=fun p hp=>hf p (List.mem_cons_of_mem _ hp)
  by_cases hk:k=.free
  ·subst hk
   obtain⟨c,hc⟩:=hf (n,.free) List.mem_cons_self rfl
   obtain⟨cl,h1,h2,h3⟩:=ih ((n,c)::acc) hr (fun x c' e=>by
    rw [List.lookup_cons]at e
    cases hx:x==n with
    |true=>
     rw [hx]at e
     have:=eq_of_beq hx
     subst this
     cases e
     exact hc
    |false=>rw [hx]at e;exact ha x c' e)
   refine⟨cl,?_,h2,fun x hx=>h3 x ?_⟩
   ·rw[List.forIn_cons]
    have:cellOf env n=pure c:=by unfold cellOf;rw[hc]
    simp only[beq_self_eq_true,if_true,this]
    exact h1
   ·rcases hx with hx|hx
    ·rw[List.lookup_cons]at hx
     cases hq:x==n with
     |true=>right;rw[List.lookup_cons,hq];rfl
     |false=>rw[hq]at hx;exact .inl hx
    ·right
     rw[List.lookup_cons]
     cases hq:x==n with
     |true=>rfl
     |false=>exact hx
  ·have hb:(k==NameKind.free)=false:=by simpa using hk
   obtain⟨cl,h1,h2,h3⟩:=ih acc hr ha
   refine⟨cl,?_,h2,fun x hx=>h3 x ?_⟩
   ·rw[List.forIn_cons]
    simp only[hb,Bool.false_eq_true,if_false]
    exact h1
   ·rcases hx with hx|hx
    ·rw[List.lookup_cons]at hx
     cases hq:x==n with
     |true=>rw[hq]at hx;cases hx;exact absurd rfl hk
     |false=>rw[hq]at hx;exact .inl hx
    ·exact .inr hx
theorem z5b{scope:Scope}{env:Env}(hf:∀p∈scope.names,p.2=.free->∃c,env.cells.lookup p.1=some c) :
  ∃cl,closureFor scope env=pure cl/\(∀x c,cl.lookup x=some c->env.cells.lookup x=some c)/\(∀x,scope.names.lookup x=some .free->∃c,cl.lookup x=some c):=by
 obtain⟨cl,h1,h2,h3⟩:=z5a env scope.names [] hf (fun _ _ e=>by simp at e)
 refine⟨cl,?_,h2,fun x hx=>h3 x (.inl hx)⟩
 unfold closureFor
 simp only[]
 have:((forIn scope.names ([]:List (Str×Addr)) (fun(x:Str×NameKind) cs=>
    (if (x.2==NameKind.free)=true then (do let a <-cellOf env x.1;pure (ForInStep.yield ((x.1,a)::cs)))else pure (ForInStep.yield cs))):Sem (List (Str×Addr))) >>= fun r=>pure r)=pure cl:=by
  rw[h1];rfl
 exact this
def IxOk(N:List Str)(around:Scope)(scope:Scope):List Str->List (Option Nat)->Prop
 |[],[]=>True
 |y::r,some j::t=>(N[j]?=some y/\scope.names.lookup y=some .free/\(around.names.lookup y=some .cell\/around.names.lookup y=some .free))/\IxOk N around scope r t
 |_::r,none::t=>IxOk N around scope r t
 |_,_=>False
theorem IxOk.at{N:List Str}{around scope:Scope}:∀{N':List Str}{ix:List (Option Nat)},IxOk N around scope N' ix->∀(i:Nat)(y:Str)(j:Nat),N'[i]?=some y->ix[i]?=some (some j)->
  N[j]?=some y/\scope.names.lookup y=some .free/\(around.names.lookup y=some .cell\/around.names.lookup y=some .free)
 |[],_,_,i,y,j,e,_=>by simp at e
 |_::_,[],h,_,_,_,_,_=>h.elim
 |y'::r,some j'::t,h,0,y,j,e,e'=>by
  simp at e e'
  subst e e'
  exact h.1
 |y'::r,some j'::t,h,i+1,y,j,e,e'=>IxOk.at (N':=r) (ix:=t) h.2 i y j (by simpa using e) (by simpa using e')
 |y'::r,none::t,h,0,y,j,e,e'=>by simp at e'
 |y'::r,none::t,h,i+1,y,j,e,e'=>IxOk.at (N':=r) (ix:=t) h i y j (by simpa using e) (by simpa using e')
theorem IxOk.len{N:List Str}{around scope:Scope}:∀{N':List Str}{ix:List (Option Nat)},IxOk N around scope N' ix->ix.length=N'.length
 |[],[],_=>rfl
 |[],_::_,h=>h.elim
 |_::_,[],h=>h.elim
 |_::r,some _::t,h=>by simp[IxOk.len (N':=r) (ix:=t) h.2]
 |_::r,none::t,h=>by simp[IxOk.len (N':=r) (ix:=t) h]
def q4u(ix:List (Option Nat))(σ:St):St:=ix.map fun o=>match o with
 |none=>none
 |some j=>match σ[j]? with
  |some v=>v
  |none=>none
structure CompOk(X:Cx)(scope:Scope)(N':List Str)(ix:List (Option Nat)):Prop where
 kind:scope.kind=.function
 cell:∀y∈scope.names,y.2≠.cell
 names:∀y∈scope.names,y.2=.local->scope.names.lookup y.1=some .local
 free:∀y∈scope.names,y.2=.free->X.env.scope.names.lookup y.1=some .cell\/X.env.scope.names.lookup y.1=some .free
 ixs:IxOk X.N X.env.scope scope N' ix
def Cx.comp(X:Cx)(scope:Scope)(N':List Str)(cl:List (Str×Addr))(C:Addr)(s:Shared)(H:Hp)(fp:List Addr):Cx where
 prog:=X.prog
 w:=X.w
 K:=X.K
 mg:=X.mg
 base:=X.base
 A:=X.A
 N:=N'
 s₀:=s
 H₀:=H
 env:=compEnvC scope cl C X.env
 outer:=X.stack
 stack:=X.stack
 ex:=fp
 fn:=fun _=>false
 calm:=true
 pn:=[]
 xe:=fun _ _=>False
theorem z0t{env:Env}{scope:Scope}{x:Str}{k:NameKind}:(relabel scope env).names.lookup x=some k->k=.cell\/k=.free->(∀y∈scope.names,y.2≠.cell)->scope.names.lookup x=some .free:=by
 unfold relabel
 dsimp only
 generalize scope.names=names
 intro h hk hc
 induction names with
 |nil=>simp at h
 |cons p r ih=>
  obtain⟨n,k'⟩:=p
  rw[List.map_cons,List.lookup_cons]at h
  rw[List.lookup_cons]
  by_cases hf:k'=.free
  ·subst hf
   cases hq:x==n with
   |true=>rfl
   |false=>
    refine ih ?_ fun y hy=>hc y (List.mem_cons_of_mem _ hy)
    split at h
    ·rename_i hh;simp only[hq]at hh;split at hh<;>exact absurd hh (by simp[hq])
    ·exact h
  ·have hb:(k' == NameKind.free)=false:=by simpa using hf
   simp only[hb,Bool.false_and,Bool.false_eq_true,if_false]at h
   cases hq:x==n with
   |true=>
    rw[hq]at h
    simp only[Option.some.injEq]at h
    subst h
    rcases hk with hk|hk
    ·exact absurd hk (hc (n,k') List.mem_cons_self)
    ·exact absurd hk hf
   |false=>
    rw[hq]at h
    exact ih h fun y hy=>hc y (List.mem_cons_of_mem _ hy)
theorem z3p{env:Env}{scope:Scope}{x:Str}(h:scope.names.lookup x=some .free):(relabel scope env).names.lookup x=some .cell\/(relabel scope env).names.lookup x=some .free:=by
 unfold relabel
 dsimp only
 generalize scope.names=names at h
 induction names with
 |nil=>simp at h
 |cons p r ih=>
  obtain⟨n,k'⟩:=p
  rw[List.lookup_cons]at h
  rw[List.map_cons]
  cases hq:x==n with
  |true=>
   rw[hq]at h
   simp only[Option.some.injEq]at h
   subst h
   by_cases hc:(env.scope.kind==ScopeKind.function&&env.kindOf n==some NameKind.cell)=true
   ·left
    simp only[beq_self_eq_true,Bool.true_and,hc,if_true,List.lookup_cons,hq]
   ·right
    simp only[beq_self_eq_true,Bool.true_and,hc,Bool.false_eq_true,if_false,List.lookup_cons,hq]
  |false=>
   rw[hq]at h
   have:=ih h
   by_cases hc:(k' == NameKind.free&&env.scope.kind==ScopeKind.function&&env.kindOf n==some NameKind.cell)=true
   ·simp only[hc,if_true,List.lookup_cons,hq];exact this
   ·simp only[hc,Bool.false_eq_true,if_false,List.lookup_cons,hq];exact this
section
variable{X:Cx}{pins:List (Addr×Obj)}{σ:St}{H:Hp}{s:Shared}
theorem Inv.track{D:Addr}{its:List Value}{n:Nat}{ys:List V}(I:Inv X pins σ H s)(hn:H D=none)(hL:D≠X.env.locals)(h1:X.s₀.heap.objs.size<=D)
  (h2:∀x c,X.env.cells.lookup x=some c->c≠D) (h3:∀p∈X.pn++pins,p.1≠D) (ho:s.heap.get? D=some {cls:=.type "list",data:=.seq its.toArray n}) (r:Vals ys its) (hz:ys.length<=sizeLine) :
  Inv X pins σ (upd H D (.lst ys)) s:=by
 have ne:∀b u,H b=some u->b≠D:=fun b u e z=>by rw[z,hn]at e;cases e
 have ne0:∀b o,X.s₀.heap.get? b=some o->b≠D:=fun b o e=>Nat.ne_of_lt (Nat.lt_of_lt_of_le (Heap.lt_size e) h1)
 refine⟨I.ok,I.os,I.bare,⟨I.base.keep,I.base.slot,fun b o e n' hx=>?_,I.base.there,fun b xs e=>?_,fun b o u e=>?_,fun b ps e=>?_⟩,I.loc,I.cell,?_,fun x c e=>?_,fun p hp=>?_,fun b u e=>?_,I.len⟩
 ·rw[q0z (ne0 b o e)];exact I.base.free b o e n' hx
 ·have q:=I.base.tups b xs e
  rw[q0z (ne _ _ q)];exact q
 ·have q:=I.base.frzs b o u e
  rw[q0z (ne _ _ q)];exact q
 ·obtain⟨more,q⟩:=I.base.tbls b ps e
  exact⟨more,by rw[q0z (ne _ _ q)];exact q⟩
 ·rw[q0z (Ne.symm hL)];exact I.free
 ·rw[q0z (h2 x c e)];exact I.freeC x c e
 ·obtain⟨a1,a2,a3⟩:=I.pin p hp
  exact⟨a1,by rw[q0z (h3 p hp)];exact a2,a3⟩
 ·by_cases hb:b=D
  ·subst hb
   rw[q2h]at e
   cases e
   exact⟨hz,its,n,r,ho⟩
  ·rw[q0z hb]at e
   refine(I.hok b u e).stay (fun c v hc q=>q) (fun c q=>?_) fun c xs q=>?_
   ·rw[q0z (ne _ _ q)];exact q
   ·rw[q0z (ne _ _ q)];exact q
theorem Inv.comp{scope:Scope}{N':List Str}{ix:List (Option Nat)}{cl:List (Str×Addr)}{C:Addr}{fp:List Addr}{h':Heap}{t':Nat}(I:Inv X pins σ H s)(co:CompOk X scope N' ix)
  (hcl1:∀x c,cl.lookup x=some c->X.env.cells.lookup x=some c) (hcl2:∀x,scope.names.lookup x=some .free->∃c,cl.lookup x=some c) (hc:X.calm=true)
  (hC:s.heap.objs.size<=C) (hns:h'.Ns C fun _=>none) (hk:∀b o,s.heap.get? b=some o->h'.get? b=some o) (hf:∀b∈fp,FpOk X pins H b) (hfz:∀b∈fp,b<s.heap.objs.size) :
  Inv (X.comp scope N' cl C s H fp) [] (q4u ix σ) H {s with heap:=h',toks:=t' }:=by
 have lookK:∀x k,(compEnvC scope cl C X.env).kindOf x=some k->k=.cell\/k=.free->scope.names.lookup x=some .free:=fun x k e hk'=>z0t (env:=X.env) e hk' co.cell
 have ok:(X.comp scope N' cl C s H fp).Ok:=by
  refine⟨I.ok.mod,co.kind,I.ok.glob,I.ok.blt,hC,fun x y c e1 e2=>I.ok.inj x y c (hcl1 x c e1) (hcl1 y c e2),fun x hx=>?_,fun x c e=>(by cases e),fun _=>I.ok.hd hc,I.ok.frames,.inl rfl,fun b hb=>⟨?_,fun x c e=>?_⟩,I.bs,?_,fun b o e hb=>?_,fun b hb z=>?_,I.stack,I.stkFree⟩
  ·refine hcl2 x ?_
   rcases hx with e|e
   ·exact lookK x _ e (.inl rfl)
   ·exact lookK x _ e (.inr rfl)
  ·exact Nat.ne_of_lt (Nat.lt_of_lt_of_le (hfz b hb) hC)
  ·exact(hf b hb).2.2.2.2.1 x c (hcl1 x c e)
  ·exact Nat.le_trans I.ok.bsz I.sz
  ·rcases(hf b hb).2.2.2.1 with z|z
   ·exact I.ok.noex b o e z
   ·exact absurd (Nat.lt_of_lt_of_le (Heap.lt_size (I.ok.bs b o e).1) z) (Nat.lt_irrefl _)
  ·rcases List.mem_cons.mp (I.stkSub b z)with q|q
   ·exact(hf b hb).2.1 q
   ·exact(hf b hb).2.2.1 q
 refine⟨ok,rfl,I.bare,Un.kept hk,⟨_,hns,fun i y v e1 e2 e3=>?_⟩,fun x c e=>?_,?_,fun x c e=>I.freeC x c (hcl1 x c e),(fun p hp=>by cases hp),I.hok.kept hk,?_⟩
 ·-- a name of the frame around
  have e1':N'[i]?=some y:=e1
  have e2':(q4u ix σ)[i]?=some (some v):=e2
  unfold q4u at e2'
  rw[List.getElem?_map]at e2'
  cases hix:ix[i]? with
  |none=>rw[hix]at e2';cases e2'
  |some o=>
   rw[hix]at e2'
   cases o with
   |none=>cases e2'
   |some j=>
    have hj:σ[j]?=some (some v):=by
     cases hs:σ[j]? with
     |none=>simp only[Option.map_some,hs]at e2';cases e2'
     |some o=>
      simp only[Option.map_some,hs,Option.some.injEq]at e2'
      rw[e2']
    obtain⟨a1,a2,a3⟩:=co.ixs.at i y j e1' hix
    obtain⟨m,hm,hl⟩:=I.loc
    obtain⟨u,r,l⟩:=hl j y v a1 hj (by rcases a3 with z|z;exact .inr (.inl z);exact .inr (.inr z))
    refine⟨u,r,.inr ⟨z3p a2,?_⟩⟩
    obtain⟨c,hc'⟩:=hcl2 y a2
    refine⟨c,hc',?_⟩
    rcases l with⟨z,_⟩|⟨_,c',e',o,ho,hd⟩
    ·have z':X.env.scope.names.lookup y=some .local:=z
     rcases a3 with q|q<;>rw[z']at q<;>cases q
    ·have:c'=c:=Option.some.inj (e'.symm.trans (hcl1 y c hc'))
     subst this
     exact⟨o,hk _ _ ho,hd⟩
 ·obtain⟨v,o,ho,hd⟩:=I.cell x c (hcl1 x c e)
  exact⟨v,o,hk _ _ ho,hd⟩
 ·exact I.hok.fresh hC
 ·show(q4u ix σ).length=N'.length
  unfold q4u
  rw[List.length_map]
  exact co.ixs.len
end
def z8m(J:It)(g:TG)(tc:TT)(te:TE)(Q:VK)(σ₀:St)(H1:Hp):Prop:=∃(W:Nat->List V->St->Hp->Prop)(n:Nat),n<=sizeLine/\W 0 [] σ₀ H1/\∀i ys σ H,i<=n->W i ys σ H->
 (J.stop i H/\∀p,H p=none->Q (.ref p) (upd H p (.lst ys)))\/(i<n/\J.go i H/\∀x H',J.yld i H x H'->g x σ H' fun σ2 H2=>tc σ2 H2 fun b H3=>if b=true then te σ2 H3 fun y H4=>W (i+1) (ys++[y]) σ2 H4 else W (i+1) ys σ2 H3)
def z5p(wi:TI)(ix:List (Option Nat))(g:TG)(tc:TT)(te:TE):TE:=fun σ H Q=>wi σ H fun J H1=>z8m J g tc te Q (q4u ix σ) H1
section
variable{X:Cx}{tg iter elt c:Expr}{scope:Scope}{pos:Pos}{N':List Str}{ix:List (Option Nat)}{wi:TI}{g:TG}{te:TE}{tc:TT}
structure CompMid(X:Cx)(scope:Scope)(N':List Str)(cl:List (Str×Addr))(C D:Addr)(s₂:Shared)(H₂:Hp)(fp:List Addr)(tn:Nat->Heap->Prop)(W:Nat->List V->St->Hp->Prop)(i:Nat)(ys:List V)(σ':St)(H':Hp)(s':Shared):Prop where
 inv:∃us:List Value,Vals ys us/\Inv (X.comp scope N' cl C s₂ H₂ fp) [(D,{cls:=.type "list",data:=.seq us.toArray us.length})] σ' H' s'
 tn:tn i s'.heap
 fpn:∀b∈fp,H' b=none
 len:ys.length<=i
 w:W i ys σ' H'
theorem y7x{pins:List (Addr×Obj)}{σ:St}{H₂:Hp}{s₂:Shared}{cl:List (Str×Addr)}{C D:Addr}{fp:List Addr}{Q:VK}{ys:List V}{us:List Value}{σ':St}{H':Hp}{s':Shared}
  (I₂:Inv X pins σ H₂ s₂) (f2:∀b∈fp,FpOk X pins H₂ b) (hD:s₂.heap.objs.size<=D) (hC:s₂.heap.objs.size<=C) (hDC:D≠C) (r:Vals ys us)
  (I':Inv (X.comp scope N' cl C s₂ H₂ fp) [(D,{cls:=.type "list",data:=.seq us.toArray us.length})] σ' H' s') (hz:ys.length<=sizeLine) (q:∀p,H' p=none->Q (.ref p) (upd H' p (.lst ys))) :
  ∃m,s'.heap.Ns C m/\∀h',Heap.SameBut C s'.heap h'->EP X pins σ Q (.ref D) {s' with heap:=h' }:=by
 obtain⟨m,hm,_⟩:=I'.loc
 refine⟨m,hm,fun h' sb=>?_⟩
 have new:∀a,s₂.heap.objs.size<=a->a≠X.env.locals/\X.s₀.heap.objs.size<=a/\(∀x c,X.env.cells.lookup x=some c->c≠a)/\∀p∈X.pn++pins,p.1≠a:=fun a ha=>by
  refine⟨Nat.ne_of_gt (Nat.lt_of_lt_of_le I₂.lt ha),Nat.le_trans I₂.sz ha,fun x c e=>?_,fun p hp=>?_⟩
  ·obtain⟨v,o,ho,_⟩:=I₂.cell x c e
   exact Nat.ne_of_lt (Nat.lt_of_lt_of_le (Heap.lt_size ho) ha)
  ·exact Nat.ne_of_lt (Nat.lt_of_lt_of_le (Heap.lt_size (I₂.pin p hp).1) ha)
 have I3:Inv X pins σ H' s':=I₂.call' I'.os I'.base I'.hok I'.bare fun b hb=>⟨(f2 b hb).2.2.2.1,(f2 b hb).2.1,(f2 b hb).2.2.2.2.1,(f2 b hb).2.2.2.2.2⟩
 obtain⟨eD,nD,_,_,_⟩:=I'.pin (D,{cls:=.type "list",data:=.seq us.toArray us.length}) (by simp)
 obtain⟨c1,c2,c3,c4⟩:=new C hC
 have I4:Inv X pins σ H' {s' with heap:=h' }:=I3.turned (t':=s'.toks) (it:=C) (fun b o hb e=>(sb.2 b hb).trans e) I'.free c1 (.inr c2) c3 c4
 obtain⟨d1,d2,d3,d4⟩:=new D hD
 have I5:=I4.track (D:=D) (ys:=ys) nD d1 d2 d3 d4 ((sb.2 D hDC).trans eD) r hz
 exact⟨.ref D,_,I5,rfl,q D nD⟩
theorem y7y{H₂:Hp}{s₂:Shared}{cl:List (Str×Addr)}{C D:Addr}{fp:List Addr}{ys:List V}{us:List Value}{σ':St}{H':Hp}{s':Shared}{pl:List (Addr×Obj)}{y:V}{u:Value}{Q:Value->Shared->Prop}{E:Value->Shared->Prop}
  (hD:s₂.heap.objs.size<=D) (hDC:D≠C) (hcl:∀x c,cl.lookup x=some c->c≠D) (r:Vals ys us) (ry:RelV y u) (hz:ys.length<sizeLine)
  (I':Inv (X.comp scope N' cl C s₂ H₂ fp) ([(D,{cls:=.type "list",data:=.seq us.toArray us.length})]++pl) σ' H' s') (hp:∀p∈pl,p.1≠D)
  (h:∀s'',Inv (X.comp scope N' cl C s₂ H₂ fp) ([(D,{cls:=.type "list",data:=.seq (us++[u]).toArray (us++[u]).length})]++pl) σ' H' s''->Q .none s'') :
  wpAny (model X.prog X.w) X.A (call (.builtin "list.append") [.ref D,u]) Q E s':=by
 obtain⟨eD,nD,neD,nfD,ndD⟩:=I'.pin (D,{cls:=.type "list",data:=.seq us.toArray us.length}) (by simp)
 refine append_at eD (fun h₅ hs₅ hD₅=>h _ ?_) (by simp only[List.size_toArray];rw[<-r.length];exact Nat.le_of_lt hz)
 have I1:Inv (X.comp scope N' cl C s₂ H₂ fp) pl σ' H' s':=I'.pins_of fun p hp'=>I'.pin p (List.mem_append_right _ (List.mem_append_right _ hp'))
 have I2:Inv (X.comp scope N' cl C s₂ H₂ fp) pl σ' H' {s' with heap:=h₅}:=I1.turned (t':=s'.toks) (it:=D) (fun b o hb e=>(hs₅.2 b hb).trans e) nD neD (.inr hD) hcl (fun p hp'=>hp p (by simpa[Cx.comp]using hp'))
 refine I2.pins_of fun p hp'=>?_
 rcases List.mem_append.mp hp' with z|z
 ·obtain rfl:=List.mem_singleton.mp z
  refine⟨?_,nD,neD,nfD,fun v z=>by cases z⟩
  rw[hD₅,List.length_append,List.length_singleton,List.push_toArray]
 ·exact I2.pin p (List.mem_append_right _ z)
end
section
variable{X:Cx}{tg iter elt c:Expr}{scope:Scope}{pos:Pos}{N':List Str}{ix:List (Option Nat)}{wi:TI}{g:TG}{te:TE}{tc:TT}
theorem z4y{pins:List (Addr×Obj)}{σ:St}{H₂:Hp}{s₂:Shared}{cl:List (Str×Addr)}{C D:Addr}{fp:List Addr}{ys:List V}{us:List Value}{σ':St}{H':Hp}{s':Shared}{i:Nat}{x:Str}{py:Pos}{Q:Value->Shared->Prop}
  (hN:X.N.Nodup) (hi:X.N[i]?=some x) (hx:Loc X.env.scope x) (hf:X.fn x=true\/X.env.scope.names.lookup x=some .local)
  (I₂:Inv X pins σ H₂ s₂) (f2:∀b∈fp,FpOk X pins H₂ b) (hD:s₂.heap.objs.size<=D) (hC:s₂.heap.objs.size<=C) (hDC:D≠C) (r:Vals ys us)
  (I':Inv (X.comp scope N' cl C s₂ H₂ fp) [(D,{cls:=.type "list",data:=.seq us.toArray us.length})] σ' H' s') (hz:ys.length<=sizeLine)
  (q:∀s'',Inv X pins (σ.set i (some (.ref D))) (upd H' D (.lst ys)) s''->H' D=none->Q .none s'') :
  wpAny (model X.prog X.w) X.A (assign (.Name x py) X.env (.ref D)) (fun _ s''=>∃m,s''.heap.Ns C m/\∀h',Heap.SameBut C s''.heap h'->Q .none {s'' with heap:=h' }) X.xe s':=by
 obtain⟨m,hm,_⟩:=I'.loc
 have new:∀a,s₂.heap.objs.size<=a->a≠X.env.locals/\X.s₀.heap.objs.size<=a/\(∀x c,X.env.cells.lookup x=some c->c≠a)/\∀p∈X.pn++pins,p.1≠a:=fun a ha=>by
  refine⟨Nat.ne_of_gt (Nat.lt_of_lt_of_le I₂.lt ha),Nat.le_trans I₂.sz ha,fun x c e=>?_,fun p hp=>?_⟩
  ·obtain⟨v,o,ho,_⟩:=I₂.cell x c e
   exact Nat.ne_of_lt (Nat.lt_of_lt_of_le (Heap.lt_size ho) ha)
  ·exact Nat.ne_of_lt (Nat.lt_of_lt_of_le (Heap.lt_size (I₂.pin p hp).1) ha)
 have I3:Inv X pins σ H' s':=I₂.call' I'.os I'.base I'.hok I'.bare fun b hb=>⟨(f2 b hb).2.2.2.1,(f2 b hb).2.1,(f2 b hb).2.2.2.2.1,(f2 b hb).2.2.2.2.2⟩
 obtain⟨eD,nD,_,_,_⟩:=I'.pin (D,{cls:=.type "list",data:=.seq us.toArray us.length}) (by simp)
 obtain⟨c1,c2,c3,c4⟩:=new C hC
 obtain⟨d1,d2,d3,d4⟩:=new D hD
 have I5:=I3.track (D:=D) (ys:=ys) nD d1 d2 d3 d4 eD r hz
 refine wpAny_assign_Name (z3l I5 hN hi hx (v:=.ref D) rfl (fun s'' I'' ⟨a,sb,ha⟩=>?_) hf)
 have haC:a≠C:=by
  rcases ha with rfl|ha
  ·exact c1.symm
  ·exact c3 _ _ ha
 refine⟨m,hm.sameBut sb haC.symm,fun h' sb'=>q _ ?_ nD⟩
 exact I''.turned (t':=s''.toks) (it:=C) (fun b o hb e=>(sb'.2 b hb).trans e) (by rw[q0z hDC.symm];exact I'.free) c1 (.inr c2) c3 c4
theorem y7f{prog:Program}{w:World}{A:Around}{s:Shared}{elt target iter:Expr}{ifs:List Expr}{scope:Scope}{pos:Pos}{it acc:Value}{env:Env}{R:Result->Shared->Prop}(I:Nat->Shared->Prop)
  (turn:∀n s,I n s->wpAny (model prog w) A (pyNext it) (fun r s₁=>match r with
   |none=>R (.ok .next) s₁
   |some v=>wpAny (model prog w) A (letOwnedTupleGo target it v) (fun _ s₀=>wpAny (model prog w) A (assign target env v) (fun _ s₂=>
     wpAny (model prog w) A (forIn ifs true fun c r=>if r=true then do let ok <-isTrue c env (eval c env);pure (ForInStep.yield ok)else pure (ForInStep.yield r)) (fun ok s₃=>if ok=true then wpAny (model prog w) A (eval elt env) (fun x s₄=>
      wpAny (model prog w) A (call (.builtin "list.append") [acc,x]) (fun _ s₅=>∃m,m<n/\I m s₅) (notedBy (model prog w) A env fun e s'=>R (.error e) s') s₄) (notedBy (model prog w) A env fun e s'=>R (.error e) s') s₃
      else ∃m,m<n/\I m s₃) (notedBy (model prog w) A env fun e s'=>R (.error e) s') s₂)
     (notedBy (model prog w) A env fun e s'=>R (.error e) s') s₀) (notedBy (model prog w) A env fun e s'=>R (.error e) s') s₁) (notedBy (model prog w) A env fun e s'=>R (.error e) s') s)
  (n:Nat) (h:I n s):codeAny (model prog w) A (.compLoop (.ListComp elt [⟨target,iter,ifs,0⟩] scope pos) 0 it acc env) R s:=by
 refine codeAny_loop rfl I (fun n s hI=>?_) n h
 show wpAny _ A ((compTurn (.ListComp elt [⟨target,iter,ifs,0⟩] scope pos) 0 it acc env).onRaise (fun x=>do noteFrame x env;theTreesLotGoes x)) _ _ s
 refine wpAny_noted ?_
 rw[compTurn_list]
 refine wpAny_bind (wpAny_standAt (wpAny_bind (wpAny_mono (turn n s hI) (fun r s₁ h₁=>?_) fun _ _ h'=>h')))
 cases r with
 |none=>exact wpAny_pure h₁
 |some v=>
  refine wpAny_bind (wpAny_mono h₁ (fun _ s₀ h₀'=>?_) fun _ _ h'=>h')
  refine wpAny_bind (wpAny_mono h₀' (fun _ s₂ h₂=>?_) fun _ _ h'=>h')
  refine wpAny_bind (wpAny_mono h₂ (fun okb s₃ h₃=>?_) fun _ _ h'=>h')
  cases okb with
  |false=>exact wpAny_pure ⟨rfl,h₃⟩
  |true=>exact wpAny_bind (wpAny_bind (wpAny_mono h₃ (fun x s₄ h₄=>wpAny_bind (wpAny_mono h₄ (fun _ s₅ h₅=>wpAny_pure (wpAny_pure ⟨rfl,h₅⟩)) fun _ _ h'=>h')) fun _ _ h'=>h'))
def PTs(X:Cx)(ifs:List Expr)(t:TT):Prop:=
 ∀(pins:List (Addr×Obj))(s:Shared)(σ:St)(H:Hp)(Q:Bool->Hp->Prop),Inv X pins σ H s->t σ H Q->wpAny (model X.prog X.w) X.A (forIn ifs true fun c r=>if r=true then do let ok <-isTrue c X.env (eval c X.env);pure (ForInStep.yield ok)else pure (ForInStep.yield r)) (TP X pins σ Q) X.xe s
theorem y1b(h:PT X c tc):PTs X [c] tc:=fun pins s σ H Q I q=>wpAny_tests_one (h pins s σ H Q I q)
theorem y1c(h:∀σ H Q,tc σ H Q->Q true H):PTs X [] tc:=fun pins s σ H Q I q=>wpAny_tests_nil ⟨H,I,h σ H Q q⟩
theorem z4x{ifs:List Expr}{use:Option (Value->Sem Unit)}{Qf:Value->Shared->Prop}{pins:List (Addr×Obj)}{s:Shared}{σ:St}{H:Hp}{ps:Pos}(hc:X.calm=true)(co:CompOk X scope N' ix)(hi:PI X tg iter wi)(hg:∀cl C s H fp,PG (X.comp scope N' cl C s H fp) tg g)(ht:∀cl C s H fp,PTs (X.comp scope N' cl C s H fp) ifs tc)(he:∀cl C s H fp,PE (X.comp scope N' cl C s H fp) elt te)
  (hs:∀x,foldedSetIterable iter X.env x=pure x:=by intro _;rfl)
  (I:Inv X pins σ H s) (h:wi σ H fun J H1=>∃Q:VK,z8m J g tc te Q (q4u ix σ) H1/\∀{H₂:Hp}{s₂:Shared}{cl:List (Str×Addr)}{C D:Addr}{fp:List Addr}{ys:List V}{us:List Value}{σ':St}{H':Hp}{s':Shared},Inv X pins σ H₂ s₂->(∀b∈fp,FpOk X pins H₂ b)->s₂.heap.objs.size<=D->s₂.heap.objs.size<=C->D≠C->Vals ys us->
   Inv (X.comp scope N' cl C s₂ H₂ fp) [(D,{cls:=.type "list",data:=.seq us.toArray us.length})] σ' H' s'->ys.length<=sizeLine->(∀p,H' p=none->Q (.ref p) (upd H' p (.lst ys)))->compPost (model X.prog X.w) X.A X.xe use Qf (.ref D) C (.ok .next) s') :
  wpAny (model X.prog X.w) X.A (comprehension (.ListComp elt [⟨tg,iter,ifs,0⟩] scope pos) scope X.env ps (newList []) false (eval iter X.env) use) Qf X.xe s:=by
 obtain⟨cl,hclos,hcl1,hcl2⟩:=z5b (scope:=scope) (env:=X.env) fun p hp e=>by
  rcases co.free p hp e with z|z
  ·exact I.ok.has p.1 (.inl z)
  ·exact I.ok.has p.1 (.inr z)
 refine wpAny_comprehension_free (use:=use) rfl hs hclos co.kind co.names (thn (hi pins s σ H _ I h) fun v s1 h1=>thn h1 fun itv s₂ h2=>?_)
 obtain⟨it,fp,tn,J,H₂,rfl,I₂,T,st2,f2,Q,⟨W,n,hn,w0,turn⟩,fin⟩:=h2
 refine wpAny_newObj_type (wpAny_newFunctionEnv co.cell (by intro y hy;simp at hy) (fun h₁ hns₁ hsb₁=>?_) co.kind)
 dsimp only at hns₁ hsb₁ ⊢
 generalize hH2:s₂.heap.push {cls:=.type "list",dict:=none,data:=.seq ([]:List Value).toArray}=H2 at hns₁ hsb₁ ⊢
 have hC:H2.objs.size=s₂.heap.objs.size+1:=by rw[<-hH2,Heap.size_push]
 have hCle:s₂.heap.objs.size<=H2.objs.size:=by omega
 have hDC:s₂.heap.objs.size≠H2.objs.size:=by omega
 have old:∀b o,s₂.heap.get? b=some o->h₁.get? b=some o:=fun b o e=>hsb₁.extBut b o (Nat.ne_of_lt (by rw[hC];exact Nat.lt_succ_of_lt (Heap.lt_size e))) (Heap.get?_push_of_some _ (hH2▸Heap.get?_push_of_some _ e))
 have hacc:h₁.get? s₂.heap.objs.size=some {cls:=.type "list",data:=.seq ([]:List Value).toArray}:=hsb₁.extBut _ _ hDC (Heap.get?_push_of_some _ (hH2▸Heap.get?_push_size _ rfl))
 have hfz:∀b∈fp,b<s₂.heap.objs.size:=fun b hb=>by
  obtain⟨o,e,_⟩:=T.obj _ _ st2 b hb
  exact Heap.lt_size e
 have hclD:∀x c,cl.lookup x=some c->c≠s₂.heap.objs.size:=fun x c e=>by
  obtain⟨v,o,ho,_⟩:=I₂.cell x c (hcl1 x c e)
  exact Nat.ne_of_lt (Heap.lt_size ho)
 have st0:tn 0 h₁:=T.keep _ _ _ st2 fun b hb o e=>old b o e
 have loop:∀s₃:Shared,s₃={s₂ with heap:=h₁,toks:=s₂.toks+([]:List (Str×Value)).length}->
   codeAny (model X.prog X.w) X.A (.compLoop (.ListComp elt [⟨tg,iter,ifs,0⟩] scope pos) 0 (.ref it) (.ref s₂.heap.objs.size) (compEnvC scope cl H2.objs.size X.env))
    (compPost (model X.prog X.w) X.A X.xe use Qf (.ref s₂.heap.objs.size) H2.objs.size) s₃:=by
  rintro s₃ rfl
  have I0:=I₂.comp (t':=s₂.toks+([]:List (Str×Value)).length) co hcl1 hcl2 hc hCle hns₁ old f2 hfz
  have nof:s₂.heap.objs.size∉(X.comp scope N' cl H2.objs.size s₂ H₂ fp).fs:=fun z=>by
   obtain⟨_,o,ho,_⟩:=I0.ok.funs.mem z
   exact absurd (Heap.lt_size ho) (Nat.lt_irrefl _)
  have I0':Inv (X.comp scope N' cl H2.objs.size s₂ H₂ fp) [(s₂.heap.objs.size,{cls:=.type "list",data:=.seq ([]:List Value).toArray ([]:List Value).length})] (q4u ix σ) H₂ {s₂ with heap:=h₁,toks:=s₂.toks+([]:List (Str×Value)).length}:=I0.pins_of fun p hp=>by
   obtain rfl:=List.mem_singleton.mp hp
   exact⟨hacc,I₂.fresh,hDC,nof,fun v z=>by cases z⟩
  have hclC:∀x c,cl.lookup x=some c->c≠s₂.heap.objs.size:=hclD
  have fpok:∀{us:List Value}{H':Hp},(∀b∈fp,H' b=none)->∀b∈fp,FpOk (X.comp scope N' cl H2.objs.size s₂ H₂ fp) [(s₂.heap.objs.size,{cls:=.type "list",data:=.seq us.toArray us.length})] H' b:=fun hn' b hb=>
   ⟨hn' b hb,(I0.ok.exf b hb).1,I0.ok.exfs b hb,.inl hb,(I0.ok.exf b hb).2,fun p hp=>by
    have hp':p∈[(s₂.heap.objs.size,({cls:=.type "list",data:=.seq _ _}:Obj))]:=hp
    obtain rfl:=List.mem_singleton.mp hp'
    exact Nat.ne_of_gt (hfz b hb)⟩
  refine y7f (fun k s'=>∃i ys σ' H',i<=n/\k=n-i/\CompMid X scope N' cl H2.objs.size s₂.heap.objs.size s₂ H₂ fp tn W i ys σ' H' s') ?_ n
   ⟨0,[],q4u ix σ,H₂,Nat.zero_le _,rfl,⟨[],.nil,I0'⟩,st0,fun b hb=>(f2 b hb).1,Nat.le_refl _,w0⟩
  rintro k s3 ⟨i,ys,σ3,H3,hi3,rfl,⟨us,r3,I3⟩,st3,fr3,hl3,w3⟩
  have weak:∀{e:Value}{s':Shared},False->notedBy (model X.prog X.w) X.A (compEnvC scope cl H2.objs.size X.env) (fun e s'=>compPost (model X.prog X.w) X.A X.xe use Qf (.ref s₂.heap.objs.size) H2.objs.size (.error e) s') e s':=fun z=>z.elim
  rcases turn i ys σ3 H3 hi3 w3 with⟨stop,q⟩|⟨hlt,go,step⟩
  ·refine thn (T.done (X.comp scope N' cl H2.objs.size s₂ H₂ fp) rfl rfl rfl rfl i _ s3 σ3 H3 _ I3 (fpok fr3) st3 stop) fun r s4 hh1=>?_
   obtain⟨hr,I4⟩:=hh1
   subst hr
   exact fin I₂ f2 (Nat.le_refl _) hCle hDC r3 I4 (by omega) q
  ·refine thn (T.item (X.comp scope N' cl H2.objs.size s₂ H₂ fp) rfl rfl rfl rfl i _ s3 σ3 H3 _ I3 (fpok fr3) st3 go) fun r s4 hh2=>?_
   obtain⟨u,hr,h4⟩:=hh2
   subst hr
   refine thn h4 fun _ s5 hh3=>?_
   obtain⟨x,H5,I5,r5,y5,st5,fr5⟩:=hh3
   have I5':=I5.pinned (fpok fr5) (T.obj _ _ st5)
   refine wpAny_mono (hg cl _ s₂ H₂ fp _ s5 σ3 H5 x u _ I5' r5 (step x H5 y5)) (fun _ s6 ⟨σ6,H6,I6,q6⟩=>?_) fun _ _ z=>weak z
   refine wpAny_mono (ht cl _ s₂ H₂ fp _ s6 σ6 H6 _ I6 q6) (fun b6 s6' ⟨H6',I6',q6'⟩=>?_) fun _ _ z=>weak z
   have hpl:∀p∈z1e fp s5.heap,p.1≠s₂.heap.objs.size:=fun p hp=>Nat.ne_of_lt (hfz p.1 (z3u hp).1)
   cases b6 with
   |false=>
    have q6'':W (i+1) ys σ6 H6':=by simpa using q6'
    have g6:¬(false=true):=by decide
    rw[if_neg g6]
    refine⟨n-(i+1),by omega,i+1,ys,σ6,H6',hlt,rfl,⟨us,r3,I6'.unpinned⟩,?_,fun b hb=>?_,by omega,q6''⟩
    ·exact T.keep _ _ _ st5 fun b hb o e=>(I6'.pin (b,o) (List.mem_append_right _ (List.mem_append_right _ (q5b hb e)))).1
    ·obtain⟨o,e,d⟩:=T.obj _ _ st5 b hb
     exact(I6'.pin (b,o) (List.mem_append_right _ (List.mem_append_right _ (q5b hb e)))).2.1
   |true=>
    have q6'':te σ6 H6' fun y H4=>W (i+1) (ys++[y]) σ6 H4:=by simpa using q6'
    have g6:true=true:=rfl
    rw[if_pos g6]
    refine wpAny_mono (he cl _ s₂ H₂ fp _ s6' σ6 H6' _ I6' q6'') (fun u7 s7 ⟨y7,H7,I7,r7,q7⟩=>?_) fun _ _ z=>weak z
    refine y7y (pl:=z1e fp s5.heap) (Nat.le_refl _) hDC hclD r3 r7 (by omega) I7 hpl fun s8 I8=>?_
    refine⟨n-(i+1),by omega,i+1,ys++[y7],σ6,H7,hlt,rfl,⟨us++[u7],r3.append (.cons r7 .nil),I8.unpinned⟩,?_,fun b hb=>?_,by rw[List.length_append,List.length_singleton];omega,q7⟩
    ·exact T.keep _ _ _ st5 fun b hb o e=>(I8.pin (b,o) (List.mem_append_right _ (List.mem_append_right _ (q5b hb e)))).1
    ·obtain⟨o,e,d⟩:=T.obj _ _ st5 b hb
     exact(I8.pin (b,o) (List.mem_append_right _ (List.mem_append_right _ (q5b hb e)))).2.1
 exact codeAny_compStart_list (loop _ rfl) (T.self _ 0 _ _ _ st0 (loop _ rfl))
theorem z7n{ifs:List Expr}(hc:X.calm=true)(co:CompOk X scope N' ix)(hit:PI X tg iter wi)(hm:∀σ H R R',(∀J H1,R J H1->R' J H1)->wi σ H R->wi σ H R')(hg:∀cl C s H fp,PG (X.comp scope N' cl C s H fp) tg g)(ht:∀cl C s H fp,PTs (X.comp scope N' cl C s H fp) ifs tc)(he:∀cl C s H fp,PE (X.comp scope N' cl C s H fp) elt te)
  (hs:∀x,foldedSetIterable iter X.env x=pure x:=by intro _;rfl):PE X (.ListComp elt [⟨tg,iter,ifs,0⟩] scope pos) (z5p wi ix g tc te):=by
 intro pins s σ H Q I h
 rw[eval_ListComp]
 refine z4x (use:=none) (Qf:=EP X pins σ Q) hc co hit hg ht he hs I (hm σ H _ _ (fun J H1 q=>⟨_,q,?_⟩) h)
 intro H₂ s₂ cl C DD fp ys us σ' H' s' I₂ f2 hD hC hDC r I' hz q
 exact y7x I₂ f2 hD hC hDC r I' hz q
def z8q(wi:TI)(ix:List (Option Nat))(g:TG)(tc:TT)(te:TE)(i:Nat):TS:=fun D σ H=>z5p wi ix g tc te σ H fun v H1=>D.nx (σ.set i (some v)) H1
theorem PI.mono{wi wi':TI}(h:PI X tg iter wi)(i:∀σ H R,wi' σ H R->wi σ H R):PI X tg iter wi':=fun pins s σ H R I q=>h pins s σ H R I (i σ H R q)
theorem q9v{ifs:List Expr}{i:Nat}{x:Str}{px sp:Pos}(hsw:swapsWith (.ListComp elt [⟨tg,iter,ifs,0⟩] scope pos) (some (.Name x px)) sp.line X.env=pure true)(hN:X.N.Nodup)(hi:X.N[i]?=some x)(hx:Loc X.env.scope x)
  (hc:X.calm=true) (co:CompOk X scope N' ix) (hit:PI X tg iter wi) (hm:∀σ H R R',(∀J H1,R J H1->R' J H1)->wi σ H R->wi σ H R') (hg:∀cl C s H fp,PG (X.comp scope N' cl C s H fp) tg g) (ht:∀cl C s H fp,PTs (X.comp scope N' cl C s H fp) ifs tc) (he:∀cl C s H fp,PE (X.comp scope N' cl C s H fp) elt te)
  (hs:∀x,foldedSetIterable iter X.env x=pure x:=by intro _;rfl) (hf:X.fn x=true\/X.env.scope.names.lookup x=some .local:=by first|exact .inl rfl|exact .inr rfl|assumption) :
  PS X (.Assign [.Name x px] (.ListComp elt [⟨tg,iter,ifs,0⟩] scope pos) sp) (z8q wi ix g tc te i):=by
 intro pins s σ H D I h
 rw[exec_Assign_Name_used _ _ _ _ hsw]
 refine wpAny_bind (wpAny_standAt (wpAny_bind ?_))
 show wpAny _ X.A (do let _ <-comprehension (.ListComp elt [⟨tg,iter,ifs,0⟩] scope pos) scope X.env _ (newList []) false (eval iter X.env) (some (assign (.Name x px) X.env))) _ _ s
 refine wpAny_bind (wpAny_mono (z4x (use:=some (assign (.Name x px) X.env)) (Qf:=fun _ s'=>SP X pins D .next s') hc co hit hg ht he hs I (hm σ H _ _ (fun J H1 q=>⟨_,q,?_⟩) h)) (fun _ s' hq=>wpAny_pure (wpAny_pure hq)) fun _ _ e=>e)
 intro H₂ s₂ cl C DD fp ys us σ' H' s' I₂ f2 hD hC hDC r I' hz q
 exact z4y (py:=px) (Q:=fun _ s'=>SP X pins D .next s') hN hi hx hf I₂ f2 hD hC hDC r I' hz fun s'' I'' nD=>⟨_,_,I'',q DD nD⟩
end
section
variable{prog:Program}{w:World}{A:Around}{E:Value->Shared->Prop}{s:Shared}
theorem z1q{j t:Addr}{k:Nat}{xs:Array Value}{v:Value}{R:Value->Shared->Prop}(g:s.heap.IsTupleIter j t k)(gt:s.heap.IsTuple t xs)(gv:xs[k]?=some v)
  (gR:∀h',h'.IsTupleIter j t (k+1)->Heap.SameBut j s.heap h'->R v {s with heap:=h' }):wpAny (model prog w) A (Builtin.SmallTypes.nextOf (.ref j)) R E s:=by
 obtain⟨oj,gj,cj,dj⟩:=id g
 obtain⟨ot,got,_,nt,dt⟩:=gt
 unfold Builtin.SmallTypes.nextOf
 refine wpAny_bind (wpAny_callSpecial?_slot (name:=Str.ofString "__next__") g.typeIs F.slot_tuple_iterator_next (wpAny_call_entry F.slot_tuple_iterator_next g.typeIs F.entry_tuple_iterator_next ?_ (F.args_tuple_iterator_next_1 _)))
 show wpAny _ _ (field (.ref j) 0 >>= _) _ _ s
 refine wpAny_bind (wpAny_field gj dj (x:=.ref t) rfl ?_)
 show wpAny _ _ (ite ((Value.ref t==Value.none)=true) _ _) _ _ s
 rw[if_neg (show(Value.ref t==Value.none)≠true from Bool.false_ne_true)]
 show wpAny _ _ (field (.ref j) 1 >>= _) _ _ s
 refine wpAny_bind (wpAny_field gj dj (x:=.int k 0) rfl ?_)
 show wpAny _ _ (seqItems? (.ref t) >>= _) _ _ s
 refine wpAny_bind (wpAny_seqItems got dt ?_)
 simp only[Int.toNat_natCast,gv]
 refine wpAny_bind (wpAny_setField gj dj (by simp) (wpAny_pure ⟨v,rfl,wpAny_pure (gR _ ?_ (Heap.SameBut.update ..))⟩))
 refine⟨_,Heap.get?_update_self _ gj (Obj.isFreed_of_fields (Obj.data_mapFields dj _)),(Obj.cls_mapFields ..).trans cj,?_⟩
 rw[Obj.data_mapFields dj];simp[rawInt]
theorem z1r{j t:Addr}{k:Nat}{xs:Array Value}{R:Value->Shared->Prop}(gh:A.handled=none)(g:s.heap.IsTupleIter j t k)(gt:s.heap.IsTuple t xs)(gv:xs[k]?=none)
  (gE:∀h' e,Heap.ExtBut j s.heap h'->(∃o,h'.get? e=some o/\o.cls=.type "StopIteration")->E (.ref e) {s with heap:=h' }):wpAny (model prog w) A (Builtin.SmallTypes.nextOf (.ref j)) R E s:=by
 obtain⟨oj,gj,cj,dj⟩:=id g
 obtain⟨ot,got,_,nt,dt⟩:=gt
 unfold Builtin.SmallTypes.nextOf
 refine wpAny_bind (wpAny_callSpecial?_slot (name:=Str.ofString "__next__") g.typeIs F.slot_tuple_iterator_next (wpAny_call_entry F.slot_tuple_iterator_next g.typeIs F.entry_tuple_iterator_next ?_ (F.args_tuple_iterator_next_1 _)))
 show wpAny _ _ (field (.ref j) 0 >>= _) _ _ s
 refine wpAny_bind (wpAny_field gj dj (x:=.ref t) rfl ?_)
 show wpAny _ _ (ite ((Value.ref t==Value.none)=true) _ _) _ _ s
 rw[if_neg (show(Value.ref t==Value.none)≠true from Bool.false_ne_true)]
 show wpAny _ _ (field (.ref j) 1 >>= _) _ _ s
 refine wpAny_bind (wpAny_field gj dj (x:=.int k 0) rfl ?_)
 show wpAny _ _ (seqItems? (.ref t) >>= _) _ _ s
 refine wpAny_bind (wpAny_seqItems got dt ?_)
 simp only[Int.toNat_natCast,gv]
 refine wpAny_bind (wpAny_rule (wpAny_bind (wpAny_setField gj dj (by simp) ?_)))
 show wpAny _ _ (newExc (.type "StopIteration") [] >>= _) _ _ _
 refine wpAny_bind ?_
 simp only[newExc,newTuple]
 refine wpAny_bind (wpAny_newObj_type ?_ (by size_fits))
 refine wpAny_bind (m:=firstArgMember _ _) (wpAny_of_eq (a:=Value.none) (by simp only[firstArgMember];rfl) ?_)
 refine wpAny_newObj_type ?_ (by size_fits)
 simp only[raiseNew]
 refine wpAny_bind (wpAny_handled ?_)
 rw[show A.in1.handled=none from gh]
 refine wpAny_bind (wpAny_pure (wpAny_throw ?_))
 exact gE _ _ (((Heap.SameBut.update ..).extBut.push _).push _) ⟨_,Heap.get?_push_size _ rfl,rfl⟩
end
def ZIt(tp:Bool)(it l:Addr)(i:Nat)(h:Heap):Prop:=if tp=true then h.IsTupleIter it l i else h.IsListIter it l i
def ZSrc(tp:Bool)(l:Addr)(xs:Array Value)(h:Heap):Prop:=if tp=true then h.IsTuple l xs else h.IsList l xs
theorem ZIt.get{tp:Bool}{it l:Addr}{i:Nat}{h:Heap}(x:ZIt tp it l i h):∃o,h.get? it=some o/\∀v,o.data≠.cell v:=by
 unfold ZIt at x
 split at x
 ·obtain⟨o,e,c,d⟩:=x
  exact⟨o,e,fun v z=>by rw[d]at z;cases z⟩
 ·obtain⟨o,e,c,d⟩:=x
  exact⟨o,e,fun v z=>by rw[d]at z;cases z⟩
theorem ZIt.at{tp:Bool}{it l:Addr}{i:Nat}{h h':Heap}(x:ZIt tp it l i h)(k:∀o,h.get? it=some o->h'.get? it=some o):ZIt tp it l i h':=by
 unfold ZIt at x ⊢
 split at x
 ·rename_i c;rw[if_pos c];obtain⟨o,e,r⟩:=x;exact⟨o,k o e,r⟩
 ·rename_i c;rw[if_neg c];obtain⟨o,e,r⟩:=x;exact⟨o,k o e,r⟩
theorem ZSrc.at{tp:Bool}{l:Addr}{xs:Array Value}{h h':Heap}(x:ZSrc tp l xs h)(k:∀o,h.get? l=some o->h'.get? l=some o):ZSrc tp l xs h':=by
 unfold ZSrc at x ⊢
 split at x
 ·rename_i c;rw[if_pos c];obtain⟨o,e,r⟩:=x;exact⟨o,k o e,r⟩
 ·rename_i c;rw[if_neg c];obtain⟨o,e,r⟩:=x;exact⟨o,k o e,r⟩
section
variable{prog:Program}{w:World}{A:Around}{E:Value->Shared->Prop}{s:Shared}
theorem z5k{tp:Bool}{j t:Addr}{k:Nat}{xs:Array Value}{v:Value}{R:Value->Shared->Prop}(g:ZIt tp j t k s.heap)(gt:ZSrc tp t xs s.heap)(gv:xs[k]?=some v)
  (gR:∀h',ZIt tp j t (k+1) h'->Heap.SameBut j s.heap h'->R v {s with heap:=h' }):wpAny (model prog w) A (Builtin.SmallTypes.nextOf (.ref j)) R E s:=by
 cases tp with
 |true=>exact z1q g gt gv gR
 |false=>exact wpAny_nextOf_list_item g gt gv gR
theorem z9s{tp:Bool}{j t:Addr}{k:Nat}{xs:Array Value}{R:Value->Shared->Prop}(gh:A.handled=none)(g:ZIt tp j t k s.heap)(gt:ZSrc tp t xs s.heap)(gv:xs[k]?=none)
  (gE:∀h' e,Heap.ExtBut j s.heap h'->(∃o,h'.get? e=some o/\o.cls=.type "StopIteration")->E (.ref e) {s with heap:=h' }):wpAny (model prog w) A (Builtin.SmallTypes.nextOf (.ref j)) R E s:=by
 cases tp with
 |true=>exact z1r gh g gt gv gE
 |false=>exact wpAny_nextOf_list_end gh g gt gv gE
structure ZAp(z ti to j1 j2 t1 t2:Addr):Prop where
 a1:ti≠z
 a2:to≠z
 a3:j1≠z
 a4:j2≠z
 a5:ti≠to
 a6:ti≠j1
 a7:ti≠j2
 a8:to≠j1
 a9:to≠j2
 b1:j1≠j2
 b2:t1≠z
 b3:t1≠to
 b4:t1≠j1
 b5:t1≠j2
 b6:t2≠z
 b7:t2≠to
 b8:t2≠j1
 b9:t2≠j2
theorem x3t{tp tq:Bool}{z ti to j1 j2 t1 t2:Addr}{k1 k2:Nat}{xs ys:Array Value}{x y p q:Value}{R:Value->Shared->Prop}(D:ZAp z ti to j1 j2 t1 t2)
  (gz:IsZip s.heap z ti to .none) (gi:IsPair s.heap ti (.ref j1) (.ref j2)) (go:IsPair s.heap to p q)
  (g1:ZIt tp j1 t1 k1 s.heap) (g2:ZIt tq j2 t2 k2 s.heap) (l1:ZSrc tp t1 xs s.heap) (l2:ZSrc tq t2 ys s.heap) (ex:xs[k1]?=some x) (ey:ys[k2]?=some y)
  (gR:∀h',IsZip h' z ti to (rawInt s.heap.objs.size)->IsPair h' to x y->ZIt tp j1 t1 (k1+1) h'->ZIt tq j2 t2 (k2+1) h'->IsPair h' s.heap.objs.size x y->
   (∀c o,c≠z->c≠to->c≠j1->c≠j2->s.heap.get? c=some o->h'.get? c=some o)->R (.ref s.heap.objs.size) {s with heap:=h' }) :
  wpAny (model prog w) A (Builtin.«zip.__next__» ⟨[.ref z],[]⟩) (fun fin s'=>∃v,fin=.done (.ret v)/\R v s') E s:=by
 show wpAny _ _ (field (.ref z) 2 >>= _) _ _ _
 refine wpAny_bind (wpAny_field gz rfl (x:=.bool false) rfl ?_)
 show wpAny _ _ (field (.ref z) 3 >>= _) _ _ _
 refine wpAny_bind (wpAny_field gz rfl (x:=.ref ti) rfl ?_)
 refine wpAny_bind (wpAny_seqItems gi rfl ?_)
 show wpAny _ _ (Builtin.SmallTypes.ownedTupleIsFree (.ref z) >>= _) _ _ _
 refine wpAny_bind ?_
 unfold Builtin.SmallTypes.ownedTupleIsFree
 refine wpAny_bind (wpAny_field gz rfl (x:=.none) rfl (wpAny_pure ?_))
 simp only[if_true]
 refine wpAny_bind (wpAny_rule ?_)
 refine wpAny_bind (wpAny_field gz rfl (x:=.ref to) rfl ?_)
 refine wpAny_bind (wpAny_setField_rec gz (by simp) fun H1 gz1 e1=>?_)
 replace gz1:IsZip H1 z ti to .ellipsis:=gz1
 refine wpAny_bind ?_
 simp only[List.zipIdx_cons,List.zipIdx_nil,List.forIn_cons,List.forIn_nil]
 refine wpAny_bind (wpAny_bind (wpAny_onRaise ?_))
 show wpAny _ _ (Builtin.SmallTypes.nextOf (.ref j1) >>= _) _ _ _
 refine wpAny_bind (z5k (g1.at fun o e=>e1.extBut _ _ D.a3 e) (l1.at fun o e=>e1.extBut _ _ D.b2 e) ex fun H2 n1 e2=>wpAny_pure ?_)
 have go2:IsPair H2 to p q:=e2.extBut _ _ D.a8 (e1.extBut _ _ D.a2 go)
 refine wpAny_bind (wpAny_seqItems go2 rfl ?_)
 refine wpAny_bind (wpAny_updateSeq_pair go2 fun H3 go3 e3=>?_)
 replace go3:IsPair H3 to x q:=go3
 refine wpAny_bind (wpAny_letGo (wpAny_pure ?_))
 refine wpAny_bind (wpAny_bind (wpAny_onRaise ?_))
 show wpAny _ _ (Builtin.SmallTypes.nextOf (.ref j2) >>= _) _ _ _
 refine wpAny_bind (z5k (g2.at fun o e=>e3.extBut _ _ D.a9.symm (e2.extBut _ _ D.b1.symm (e1.extBut _ _ D.a4 e))) (l2.at fun o e=>e3.extBut _ _ D.b7 (e2.extBut _ _ D.b8 (e1.extBut _ _ D.b6 e))) ey fun H4 n2 e4=>wpAny_pure ?_)
 have go4:IsPair H4 to x q:=e4.extBut _ _ D.a9 go3
 refine wpAny_bind (wpAny_seqItems go4 rfl ?_)
 refine wpAny_bind (wpAny_updateSeq_pair go4 fun H5 go5 e5=>?_)
 replace go5:IsPair H5 to x y:=go5
 refine wpAny_bind (wpAny_letGo (wpAny_pure (wpAny_pure ?_)))
 refine wpAny_bind (wpAny_seqItems go5 rfl ?_)
 refine wpAny_bind (wpAny_newTuple ?_)
 have sz5:H5.objs.size=s.heap.objs.size:=by rw[e5.1,e4.1,e3.1,e2.1,e1.1]
 have gz5:IsZip H5 z ti to .ellipsis:=e5.extBut _ _ D.a2.symm (e4.extBut _ _ D.a4.symm (e3.extBut _ _ D.a2.symm (e2.extBut _ _ D.a3.symm gz1)))
 have kk5:∀c o,c≠z->c≠to->c≠j1->c≠j2->s.heap.get? c=some o->H5.get? c=some o:=fun c o c1 c2 c3 c4 e=>
  e5.extBut _ _ c2 (e4.extBut _ _ c4 (e3.extBut _ _ c2 (e2.extBut _ _ c3 (e1.extBut _ _ c1 e))))
 have n15:ZIt tp j1 t1 (k1+1) H5:=n1.at fun o e=>e5.extBut _ _ D.a8.symm (e4.extBut _ _ D.b1 (e3.extBut _ _ D.a8.symm e))
 have n25:ZIt tq j2 t2 (k2+1) H5:=n2.at fun o e=>e5.extBut _ _ D.a9.symm e
 have lz:z<H5.objs.size:=Heap.lt_size gz5
 show wpAny _ _ (Builtin.SmallTypes.ownedTupleHandOut (.ref z) (.ref H5.objs.size) >>= _) _ _ _
 refine wpAny_bind ?_
 unfold Builtin.SmallTypes.ownedTupleHandOut
 have gz6:IsZip (H5.push {cls:=.type "tuple",data:=.seq #[x,y]}) z ti to .ellipsis:=Heap.get?_push_of_some _ gz5
 refine wpAny_bind (wpAny_setField_rec gz6 (by simp) fun H7 gz7 e7=>?_)
 replace gz7:IsZip H7 z ti to (rawInt H5.objs.size):=gz7
 refine wpAny_setField_rec gz7 (by simp) fun H8 gz8 e8=>?_
 replace gz8:IsZip H8 z ti to (rawInt H5.objs.size):=gz8
 have up:∀c o,c≠z->H5.get? c=some o->H8.get? c=some o:=fun c o c1 e=>e8.extBut _ _ c1 (e7.extBut _ _ c1 (Heap.get?_push_of_some _ e))
 have gT8:IsPair H8 H5.objs.size x y:=e8.extBut _ _ (Nat.ne_of_gt lz) (e7.extBut _ _ (Nat.ne_of_gt lz) (Heap.get?_push_size _ rfl))
 rw[sz5]at gz8 gT8
 refine wpAny_pure ⟨_,rfl,?_⟩
 show R (.ref H5.objs.size) _
 rw[sz5]
 exact gR H8 gz8 (up _ _ D.a2 go5) (n15.at fun o e=>up _ o D.a3 e) (n25.at fun o e=>up _ o D.a4 e) gT8 fun c o c1 c2 c3 c4 e=>up c o c1 (kk5 c o c1 c2 c3 c4 e)
theorem x3u{tp tq:Bool}{z ti to j1 j2 t1 t2:Addr}{k1 k2:Nat}{xs ys:Array Value}{p q:Value}{R:Fin->Shared->Prop}(gh:A.handled=none)(D:ZAp z ti to j1 j2 t1 t2)
  (gz:IsZip s.heap z ti to .none) (gi:IsPair s.heap ti (.ref j1) (.ref j2)) (go:IsPair s.heap to p q)
  (g1:ZIt tp j1 t1 k1 s.heap) (g2:ZIt tq j2 t2 k2 s.heap) (l1:ZSrc tp t1 xs s.heap) (l2:ZSrc tq t2 ys s.heap) (hend:xs[k1]?=none\/ys[k2]?=none)
  (gE:∀h' e,(∀c o,c≠z->c≠to->c≠j1->c≠j2->s.heap.get? c=some o->h'.get? c=some o)->(∃o,h'.get? e=some o/\o.cls=.type "StopIteration")->E (.ref e) {s with heap:=h' }) :
  wpAny (model prog w) A (Builtin.«zip.__next__» ⟨[.ref z],[]⟩) R E s:=by
 show wpAny _ _ (field (.ref z) 2 >>= _) _ _ _
 refine wpAny_bind (wpAny_field gz rfl (x:=.bool false) rfl ?_)
 show wpAny _ _ (field (.ref z) 3 >>= _) _ _ _
 refine wpAny_bind (wpAny_field gz rfl (x:=.ref ti) rfl ?_)
 refine wpAny_bind (wpAny_seqItems gi rfl ?_)
 show wpAny _ _ (Builtin.SmallTypes.ownedTupleIsFree (.ref z) >>= _) _ _ _
 refine wpAny_bind ?_
 unfold Builtin.SmallTypes.ownedTupleIsFree
 refine wpAny_bind (wpAny_field gz rfl (x:=.none) rfl (wpAny_pure ?_))
 simp only[if_true]
 refine wpAny_bind (wpAny_rule ?_)
 refine wpAny_bind (wpAny_field gz rfl (x:=.ref to) rfl ?_)
 refine wpAny_bind (wpAny_setField_rec gz (by simp) fun H1 gz1 e1=>?_)
 replace gz1:IsZip H1 z ti to .ellipsis:=gz1
 refine wpAny_bind ?_
 simp only[List.zipIdx_cons,List.zipIdx_nil,List.forIn_cons,List.forIn_nil]
 refine wpAny_bind (wpAny_bind (wpAny_onRaise ?_))
 show wpAny _ _ (Builtin.SmallTypes.nextOf (.ref j1) >>= _) _ _ _
 cases ex:xs[k1]? with
 |none=>
  refine wpAny_bind (z9s gh (g1.at fun o e=>e1.extBut _ _ D.a3 e) (l1.at fun o e=>e1.extBut _ _ D.b2 e) ex fun H2 e e2 ge=>?_)
  obtain⟨oe,goe,gce⟩:=ge
  have gz2:IsZip H2 z ti to .ellipsis:=e2 _ _ D.a3.symm gz1
  have ne:e≠z:=fun x=>by subst x;rw[gz2]at goe;cases goe;simp at gce
  refine wpAny_setField_rec gz2 (by simp) fun H3 _ e3=>gE H3 e (fun c o c1 _ c3 _ x=>e3.extBut _ _ c1 (e2 _ _ c3 (e1.extBut _ _ c1 x))) ⟨oe,e3.extBut _ _ ne goe,gce⟩
 |some x=>
  have ey:ys[k2]?=none:=by
   rcases hend with h|h
   ·rw[ex]at h;cases h
   ·exact h
  refine wpAny_bind (z5k (g1.at fun o e=>e1.extBut _ _ D.a3 e) (l1.at fun o e=>e1.extBut _ _ D.b2 e) ex fun H2 n1 e2=>wpAny_pure ?_)
  have go2:IsPair H2 to p q:=e2.extBut _ _ D.a8 (e1.extBut _ _ D.a2 go)
  refine wpAny_bind (wpAny_seqItems go2 rfl ?_)
  refine wpAny_bind (wpAny_updateSeq_pair go2 fun H3 go3 e3=>?_)
  refine wpAny_bind (wpAny_letGo (wpAny_pure ?_))
  refine wpAny_bind (wpAny_bind (wpAny_onRaise ?_))
  show wpAny _ _ (Builtin.SmallTypes.nextOf (.ref j2) >>= _) _ _ _
  refine wpAny_bind (z9s gh (g2.at fun o e=>e3.extBut _ _ D.a9.symm (e2.extBut _ _ D.b1.symm (e1.extBut _ _ D.a4 e))) (l2.at fun o e=>e3.extBut _ _ D.b7 (e2.extBut _ _ D.b8 (e1.extBut _ _ D.b6 e))) ey fun H4 e e4 ge=>?_)
  obtain⟨oe,goe,gce⟩:=ge
  have gz4:IsZip H4 z ti to .ellipsis:=e4 _ _ D.a4.symm (e3.extBut _ _ D.a2.symm (e2.extBut _ _ D.a3.symm gz1))
  have ne:e≠z:=fun x=>by subst x;rw[gz4]at goe;cases goe;simp at gce
  refine wpAny_setField_rec gz4 (by simp) fun H5 _ e5=>gE H5 e (fun c o c1 c2 c3 c4 x=>e5.extBut _ _ c1 (e4 _ _ c4 (e3.extBut _ _ c2 (e2.extBut _ _ c3 (e1.extBut _ _ c1 x))))) ⟨oe,e5.extBut _ _ ne goe,gce⟩
end
section
variable{X:Cx}{pins:List (Addr×Obj)}{σ:St}{H:Hp}{s:Shared}{h':Heap}
theorem Inv.turneds{t':Nat}{ch:List Addr}(I:Inv X pins σ H s)(k:∀b o,b∉ch->s.heap.get? b=some o->h'.get? b=some o)(hf:∀b∈ch,FpOk X pins H b):Inv X pins σ H {s with heap:=h',toks:=t' }:=by
 have nit:∀b u,H b=some u->b∉ch:=fun b u e z=>by have q:=(hf b z).1;rw[q]at e;cases e
 refine I.step (g':=s.gens) (d':=s.drawn) (ch:=ch) (fun b hb=>?_) (fun b o _ _ hc e _=>k b o hc e) (fun b o _ _ hc e _=>⟨o.slots,k b o hc e⟩) (fun _ _ _ _ n=>n)
  (fun b o hc e=>⟨o,k b o hc e⟩) (fun _ _ e=>e) (fun _ _ _ e=>e) (fun b ps e=>⟨#[],by rw[e];simp⟩) (fun m hm=>?_) (fun b u e=>?_) I.bare
 ·exact⟨(hf b hb).2.2.2.1,(hf b hb).2.1,(hf b hb).2.2.2.2.1,(hf b hb).2.2.2.2.2⟩
 ·obtain⟨o,es,ep,ho,r⟩:=hm
  exact⟨o,es,ep,k _ o (fun z=>(hf _ z).2.1 rfl) ho,r⟩
 ·refine(I.hok b u e).stay (fun c v hc q=>k c v ?_ q) (fun _ q=>q) fun _ _ q=>q
  rcases hc with z|z
  ·rw[z];exact nit b u e
  ·exact nit c _ z
theorem Inv.trackO{D:Addr}{ob:HO}(I:Inv X pins σ H s)(hf:FpOk X pins H D)(h1:X.s₀.heap.objs.size<=D)(new:q3m X.prog X.w (upd H D ob) s.heap D ob):Inv X pins σ (upd H D ob) s:=by
 obtain⟨hn,hL,_,_,h2,h3⟩:=hf
 have ne:∀b u,H b=some u->b≠D:=fun b u e z=>by rw[z,hn]at e;cases e
 have ne0:∀b o,X.s₀.heap.get? b=some o->b≠D:=fun b o e=>Nat.ne_of_lt (Nat.lt_of_lt_of_le (Heap.lt_size e) h1)
 refine⟨I.ok,I.os,I.bare,⟨I.base.keep,I.base.slot,fun b o e n' hx=>?_,I.base.there,fun b xs e=>?_,fun b o u e=>?_,fun b ps e=>?_⟩,I.loc,I.cell,?_,fun x c e=>?_,fun p hp=>?_,fun b u e=>?_,I.len⟩
 ·rw[q0z (ne0 b o e)];exact I.base.free b o e n' hx
 ·have q:=I.base.tups b xs e
  rw[q0z (ne _ _ q)];exact q
 ·have q:=I.base.frzs b o u e
  rw[q0z (ne _ _ q)];exact q
 ·obtain⟨more,q⟩:=I.base.tbls b ps e
  exact⟨more,by rw[q0z (ne _ _ q)];exact q⟩
 ·rw[q0z (Ne.symm hL)];exact I.free
 ·rw[q0z (h2 x c e)];exact I.freeC x c e
 ·obtain⟨a1,a2,a3⟩:=I.pin p hp
  exact⟨a1,by rw[q0z (h3 p hp)];exact a2,a3⟩
 ·by_cases hb:b=D
  ·subst hb
   rw[q2h]at e
   cases e
   exact new
  ·rw[q0z hb]at e
   refine(I.hok b u e).stay (fun c v hc q=>q) (fun c q=>?_) fun c xs q=>?_
   ·rw[q0z (ne _ _ q)];exact q
   ·rw[q0z (ne _ _ q)];exact q
end
def Sq(tp:Bool)(K:Frag)(H:Hp)(a:Addr)(xs:List V):Prop:=if tp=true then SqT K H a xs else SqL K H a xs
theorem Inv.sq{X:Cx}{pins:List (Addr×Obj)}{σ:St}{H:Hp}{s:Shared}{tp:Bool}{a:Addr}{xs:List V}(I:Inv X pins σ H s)(h:Sq tp X.K H a xs):∃its:List Value,Vals xs its/\ZSrc tp a its.toArray s.heap/\xs.length<=sizeLine:=by
 cases tp with
 |true=>
  obtain⟨its,r,t,z⟩:=I.tuple h
  exact⟨its,r,t,z⟩
 |false=>
  obtain⟨its,r,t,z⟩:=I.list h
  exact⟨its,r,t.isList,z⟩
theorem Inv.sq_inj{X:Cx}{pins:List (Addr×Obj)}{σ:St}{H:Hp}{s:Shared}{tp:Bool}{a:Addr}{xs ys:List V}(I:Inv X pins σ H s)(h:Sq tp X.K H a xs)(h':Sq tp X.K H a ys):xs=ys:=by
 cases tp with
 |true=>exact I.tuple_inj h h'
 |false=>exact I.list_inj h h'
theorem Inv.sq_fp{X:Cx}{pins:List (Addr×Obj)}{σ:St}{H:Hp}{s:Shared}{tp:Bool}{a b:Addr}{xs:List V}(I:Inv X pins σ H s)(h:Sq tp X.K H a xs)(hf:FpOk X pins H b):a≠b:=by
 rintro rfl
 have look:∀o,X.K.lookup a=some o->False:=fun o e=>by
  have e':=I.ok.mod.kin a o e
  rcases hf.2.2.2.1 with z|z
  ·exact I.ok.noex a o e' z
  ·exact absurd (Nat.lt_of_lt_of_le (Heap.lt_size (I.ok.bs a o e').1) z) (Nat.lt_irrefl _)
 have rd:∀u,Rd H a u->False:=fun u e=>by
  rcases e with e|⟨o,e⟩<;>rw[hf.1]at e<;>cases e
 cases tp with
 |true=>
  rcases h with e|⟨o,its,n,e,_⟩
  ·exact rd _ e
  ·exact look o e
 |false=>
  rcases h with e|⟨o,its,n,e,_⟩
  ·exact rd _ e
  ·exact look o e
def Itz(tp tq:Bool)(K:Frag)(a b:Addr):It:=
  ⟨fun i H=>∃xs ys x y,Sq tp K H a xs/\Sq tq K H b ys/\xs[i]?=some x/\ys[i]?=some y,
   fun i H v H'=>∃p x y,v=.ref p/\H p=none/\H'=upd H p (.tup [x,y])/\(∀xs,Sq tp K H a xs->xs[i]?=some x)/\(∀ys,Sq tq K H b ys->ys[i]?=some y),
   fun i H=>∃xs ys,Sq tp K H a xs/\Sq tq K H b ys/\(xs.length<=i\/ys.length<=i)⟩
structure ZAt(tp tq:Bool)(z ti to j1 j2 a b:Addr)(i:Nat)(h:Heap):Prop where
 gz:IsZip h z ti to .none
 gi:IsPair h ti (.ref j1) (.ref j2)
 go:∃p q,IsPair h to p q
 g1:ZIt tp j1 a i h
 g2:ZIt tq j2 b i h
theorem y5c{P:Program}{w:World}{K:Frag}{es:List Expr}{k:Nat}{ps:Pos}{tp tq:Bool}(a b z ti to j1 j2:Addr)(n1:ti≠z)(n2:to≠z)(n3:j1≠z)(n4:j2≠z)(n5:ti≠to)(n6:ti≠j1)(n7:ti≠j2)(n8:to≠j1)(n9:to≠j2)(n0:j1≠j2) :
  Turn P w K (.Tuple es k ps) (Itz tp tq K a b) [z,ti,to,j1,j2] z (ZAt tp tq z ti to j1 j2 a b) where
 mem:=by simp
 obj:=fun i h st c hc=>by
  obtain⟨gz,gi,⟨p,q,go⟩,g1,g2⟩:=st
  simp only[List.mem_cons,List.not_mem_nil,or_false]at hc
  rcases hc with rfl|rfl|rfl|rfl|rfl
  ·exact⟨_,gz,fun v e=>by cases e⟩
  ·exact⟨_,gi,fun v e=>by cases e⟩
  ·exact⟨_,go,fun v e=>by cases e⟩
  ·exact g1.get
  ·exact g2.get
 keep:=fun i h h' st kk=>by
  obtain⟨gz,gi,⟨p,q,go⟩,g1,g2⟩:=st
  exact⟨kk z (by simp) _ gz,kk ti (by simp) _ gi,⟨p,q,kk to (by simp) _ go⟩,g1.at fun o e=>kk j1 (by simp) o e,g2.at fun o e=>kk j2 (by simp) o e⟩
 item:=by
  intro X hP hw hK hc i pins s σ H E I hf st hg
  subst hP hw hK
  obtain⟨gz,gi,⟨p,q,go⟩,g1,g2⟩:=st
  obtain⟨xs,ys,x,y,sx,sy,ex,ey⟩:=hg
  obtain⟨is,rx,lx,zx⟩:=I.sq sx
  obtain⟨js,ry,ly,zy⟩:=I.sq sy
  obtain⟨u,eu,ru⟩:=rx.get ex
  obtain⟨v,ev,rv⟩:=ry.get ey
  have D:ZAp z ti to j1 j2 a b:=⟨n1,n2,n3,n4,n5,n6,n7,n8,n9,n0,I.sq_fp sx (hf z (by simp)),I.sq_fp sx (hf to (by simp)),I.sq_fp sx (hf j1 (by simp)),I.sq_fp sx (hf j2 (by simp)),I.sq_fp sy (hf z (by simp)),I.sq_fp sy (hf to (by simp)),I.sq_fp sy (hf j1 (by simp)),I.sq_fp sy (hf j2 (by simp))⟩
  have hT:s.TypeIs (.ref z) "zip" :=⟨_,gz,rfl⟩
  unfold pyNext
  refine wpAny_bind (wpAny_attempt (wpAny_callSpecial?_slot (name:=Str.ofString "__next__") hT F.slot_zip_next (wpAny_call_entry F.slot_zip_next hT F.entry_zip_next
   (x3t (x:=u) (y:=v) D gz gi go g1 g2 lx ly (by simpa using eu) (by simpa using ev) fun h1 b1 b2 b3 b4 b5 b6=>wpAny_pure ⟨_,rfl,?_⟩) (F.args_zip_next_1 _))))
  refine wpAny_letOwnedTupleGo_zip b1 fun h2 c1 c2=>?_
  have hsz:s.heap.objs.size≠z:=Nat.ne_of_gt (Heap.lt_size gz)
  have up:∀c o,c∉[z,ti,to,j1,j2]->s.heap.get? c=some o->h2.get? c=some o:=fun c o hc' e=>by
   simp only[List.mem_cons,List.not_mem_nil,or_false,not_or]at hc'
   exact c2.extBut _ _ hc'.1 (b6 c o hc'.1 hc'.2.2.1 hc'.2.2.2.1 hc'.2.2.2.2 e)
  have I1:Inv X pins σ H {s with heap:=h2}:=I.turneds (t':=s.toks) (ch:=[z,ti,to,j1,j2]) up hf
  have f1:FpOk X pins H s.heap.objs.size:=I.fpOk (Nat.le_refl _) I.fresh
  have gT:IsPair h2 s.heap.objs.size u v:=c2.extBut _ _ hsz b5
  have I2:Inv X pins σ (upd H s.heap.objs.size (.tup [x,y])) {s with heap:=h2}:=I1.trackO f1 I.sz ⟨by show 2<=sizeLine;decide,[u,v],.cons ru (.cons rv .nil),⟨_,gT,rfl,_,rfl⟩⟩
  have lt:∀c∈[z,ti,to,j1,j2],c≠s.heap.objs.size:=fun c hc'=>by
   simp only[List.mem_cons,List.not_mem_nil,or_false]at hc'
   rcases hc' with rfl|rfl|rfl|rfl|rfl
   ·exact Nat.ne_of_lt (Heap.lt_size gz)
   ·exact Nat.ne_of_lt (Heap.lt_size gi)
   ·exact Nat.ne_of_lt (Heap.lt_size go)
   ·obtain⟨o,e,_⟩:=g1.get;exact Nat.ne_of_lt (Heap.lt_size e)
   ·obtain⟨o,e,_⟩:=g2.get;exact Nat.ne_of_lt (Heap.lt_size e)
  refine⟨.ref s.heap.objs.size,_,I2,rfl,⟨_,x,y,rfl,I.fresh,rfl,fun zs hz=>by rw[I.sq_inj hz sx];exact ex,fun zs hz=>by rw[I.sq_inj hz sy];exact ey⟩,⟨c1,c2.extBut _ _ n1 (b6 _ _ n1 n5 n6 n7 gi),⟨_,_,c2.extBut _ _ n2 b2⟩,b3.at fun o e=>c2.extBut _ _ n3 e,b4.at fun o e=>c2.extBut _ _ n4 e⟩,fun c hc'=>?_⟩
  rw[q0z (lt c hc')]
  exact(hf c hc').1
 done:=by
  intro X hP hw hK hc i pins s σ H E I hf st hg
  subst hP hw hK
  obtain⟨gz,gi,⟨p,q,go⟩,g1,g2⟩:=st
  obtain⟨xs,ys,sx,sy,he⟩:=hg
  obtain⟨is,rx,lx,zx⟩:=I.sq sx
  obtain⟨js,ry,ly,zy⟩:=I.sq sy
  have D:ZAp z ti to j1 j2 a b:=⟨n1,n2,n3,n4,n5,n6,n7,n8,n9,n0,I.sq_fp sx (hf z (by simp)),I.sq_fp sx (hf to (by simp)),I.sq_fp sx (hf j1 (by simp)),I.sq_fp sx (hf j2 (by simp)),I.sq_fp sy (hf z (by simp)),I.sq_fp sy (hf to (by simp)),I.sq_fp sy (hf j1 (by simp)),I.sq_fp sy (hf j2 (by simp))⟩
  have hT:s.TypeIs (.ref z) "zip" :=⟨_,gz,rfl⟩
  have l1:=rx.length
  have l2:=ry.length
  unfold pyNext
  refine wpAny_bind (wpAny_attempt (wpAny_callSpecial?_slot (name:=Str.ofString "__next__") hT F.slot_zip_next (wpAny_call_entry F.slot_zip_next hT F.entry_zip_next
   (x3u (I.ok.hd hc) D gz gi go g1 g2 lx ly (by rcases he with z|z;exact .inl (by simp;omega);exact .inr (by simp;omega)) fun h1 e kk ge=>?_) (F.args_zip_next_1 _))))
  obtain⟨oe,goe,gce⟩:=ge
  refine wpAny_bind (wpAny_isInstance (T:= "StopIteration") (b:=true) ⟨oe,goe,gce⟩ isSubtype_stop ?_)
  refine wpAny_pure ⟨rfl,I.turneds (t':=s.toks) (ch:=[z,ti,to,j1,j2]) (fun c o hc' e=>?_) hf⟩
  simp only[List.mem_cons,List.not_mem_nil,or_false,not_or]at hc'
  exact kk c o hc'.1 hc'.2.2.1 hc'.2.2.2.1 hc'.2.2.2.2 e
 self:=fun _ _ _ _ _ st h=>wpAny_pyIter_zip st.gz h
abbrev z3f(tp:Bool)(a:Addr):Obj:={cls:=.type (if tp=true then "tuple_iterator" else "list_iterator"),data:=.fields #[.ref a,.int 0 0]}
theorem y8q{prog:Program}{w:World}{A:Around}{E:Value->Shared->Prop}{s:Shared}{tp:Bool}{a:Addr}{xs:Array Value}{R:Value->Shared->Prop}(g:ZSrc tp a xs s.heap)
  (h:R (.ref s.heap.objs.size) {s with heap:=s.heap.push (z3f tp a)}):wpAny (model prog w) A (pyIter (.ref a)) R E s:=by
 cases tp with
 |true=>exact wpAny_pyIter_tuple g h
 |false=>exact wpAny_pyIter_list g h
theorem ZIt.new{tp:Bool}{a:Addr}{h:Heap}{it:Addr}(g:h.get? it=some (z3f tp a)):ZIt tp it a 0 h:=by
 cases tp with
 |true=>exact⟨_,g,rfl,rfl⟩
 |false=>exact⟨_,g,rfl,rfl⟩
abbrev zz1(h:Heap)(tp:Bool)(a:Addr):Heap:=h.push (z3f tp a)
abbrev zz2(h:Heap)(tp tq:Bool)(a b:Addr):Heap:=(zz1 h tp a).push (z3f tq b)
abbrev zz3(h:Heap)(tp tq:Bool)(a b:Addr):Heap:=(zz2 h tp tq a b).push {cls:=.type "tuple",data:=.seq #[.ref h.objs.size,.ref (zz1 h tp a).objs.size]}
abbrev zz4(h:Heap)(tp tq:Bool)(a b:Addr):Heap:=(zz3 h tp tq a b).push {cls:=.type "tuple",data:=.seq #[.none,.none]}
abbrev zz5(h:Heap)(tp tq:Bool)(a b:Addr):Heap:=(zz4 h tp tq a b).push {cls:=.type "zip",data:=.fields #[.none,.bool false,.bool false,.ref (zz2 h tp tq a b).objs.size,.ref (zz3 h tp tq a b).objs.size]}
theorem x9i(tp tq:Bool)(a b:Addr)(xs ys:Array Value) :
  Meets (Builtin.«zip.__new__» ⟨[.type "zip",.ref a,.ref b],[]⟩) (fun _ R s=>ZSrc tp a xs s.heap/\ZSrc tq b ys s.heap/\R (.ok (.ret (.ref (zz4 s.heap tp tq a b).objs.size))) {s with heap:=zz5 s.heap tp tq a b}):=
 .of_wp fun prog w A R s h=>by
  obtain⟨hp,g,d,tk,os⟩:=s;obtain⟨s1,s2,h⟩:=h
  have hsub:=sub_zip
  have S1:ZSrc tp a xs (Shared.heap ⟨hp,g,d,tk,os⟩):=s1
  have S2:ZSrc tq b ys (Shared.heap ⟨hp.push (z3f tp a),g,d,tk,os⟩):=ZSrc.at s2 fun o e=>Heap.get?_push_of_some _ e
  wp_walk using y8q S1,y8q S2
  exact⟨_,rfl,h⟩
theorem x3i{prog:Program}{w:World}{A:Around}{E:Value->Shared->Prop}{s:Shared}{tp tq:Bool}{a b:Addr}{xs ys:Array Value}{Q:Value->Shared->Prop}(s1:ZSrc tp a xs s.heap)(s2:ZSrc tq b ys s.heap)
  (h:∀h',ZAt tp tq (s.heap.objs.size+4) (s.heap.objs.size+2) (s.heap.objs.size+3) s.heap.objs.size (s.heap.objs.size+1) a b 0 h'->(∀c o,s.heap.get? c=some o->h'.get? c=some o)->Q (.ref (s.heap.objs.size+4)) {s with heap:=h' }) :
  wpAny (model prog w) A (call (.type "zip") [.ref a,.ref b]) Q E s:=by
 refine callType_new F.called_zip (by decide) (F.typeCall_zip_2 _ _) (F.newCall_zip_2 _ _) (fun obj=>F.args_object_init_3 obj _ _) F.entry_zip_new (x9i tp tq a b xs ys) ⟨s1,s2,?_⟩
 have z1:(zz1 s.heap tp a).objs.size=s.heap.objs.size+1:=Heap.size_push ..
 have z2:(zz2 s.heap tp tq a b).objs.size=s.heap.objs.size+2:=by rw[Heap.size_push,z1]
 have z3:(zz3 s.heap tp tq a b).objs.size=s.heap.objs.size+3:=by rw[Heap.size_push,z2]
 have z4:(zz4 s.heap tp tq a b).objs.size=s.heap.objs.size+4:=by rw[Heap.size_push,z3]
 have g5:(zz5 s.heap tp tq a b).get? (zz4 s.heap tp tq a b).objs.size=some _:=Heap.get?_push_size _ rfl
 have g4:(zz5 s.heap tp tq a b).get? (zz3 s.heap tp tq a b).objs.size=some _:=Heap.get?_push_of_some _ (Heap.get?_push_size _ rfl)
 have g3:(zz5 s.heap tp tq a b).get? (zz2 s.heap tp tq a b).objs.size=some _:=Heap.get?_push_of_some _ (Heap.get?_push_of_some _ (Heap.get?_push_size _ rfl))
 have g2:(zz5 s.heap tp tq a b).get? (zz1 s.heap tp a).objs.size=some _:=Heap.get?_push_of_some _ (Heap.get?_push_of_some _ (Heap.get?_push_of_some _ (Heap.get?_push_size _ rfl)))
 have g1:(zz5 s.heap tp tq a b).get? s.heap.objs.size=some _:=Heap.get?_push_of_some _ (Heap.get?_push_of_some _ (Heap.get?_push_of_some _ (Heap.get?_push_of_some _ (Heap.get?_push_size _ rfl))))
 show _/\_
 rw[z2,z3,z4]at g5
 rw[z1,z2]at g3
 rw[z3]at g4
 rw[z1]at g2
 rw[z4]
 exact⟨⟨_,g5,rfl⟩,h _ ⟨g5,g3,⟨_,_,g4⟩,ZIt.new g1,ZIt.new g2⟩ fun c o x=>Heap.get?_push_of_some _ (Heap.get?_push_of_some _ (Heap.get?_push_of_some _ (Heap.get?_push_of_some _ (Heap.get?_push_of_some _ x))))⟩
theorem y8g:bootBuiltins "zip" = some (.type "zip"):=by kernel_rfl
def iZip(K:Frag)(ta:TA):TI:=fun σ H R=>ta σ H fun vs H1=>∃tp tq a b xs ys,vs=[.ref a,.ref b]/\Sq tp K H1 a xs/\Sq tq K H1 b ys/\R (Itz tp tq K a b) H1
theorem x5l{X:Cx}{es:List Expr}{k:Nat}{ps:Pos}{a b:Expr}{ta:TA}{p pos:Pos}(hg:Gl X "zip")(hm:X.mg "zip" = none)(ha:PA X [a,b] ta)(hs:starEach [a,b] X.env=[(false,eval a X.env),(false,eval b X.env)]:=by rfl)(hs2:starEach [b] X.env=[(false,eval b X.env)]:=by rfl) :
  PI X (.Tuple es k ps) (.Call (.Name "zip" p) [a,b] [] pos) (iZip X.K ta):=by
 intro pins s σ H R I h
 refine Call_ (z1j I hg hm y8g (PyProof.Rows.callWith_type1 (thn (ha pos pins s σ H _ I h) fun us s1 ⟨vs,H1,I1,r1,q1⟩=>?_) (by rw[hs,hs2]) (by rw[hs2];rfl)))
 obtain⟨tp,tq,a,b,xs,ys,e,sx,sy,q⟩:=q1
 subst e
 cases r1 with
 |cons r rr=>
  cases rr with
  |cons r' rr=>
   cases rr
   cases r
   cases r'
   obtain⟨is,rx,lx,zx⟩:=I1.sq sx
   obtain⟨js,ry,ly,zy⟩:=I1.sq sy
   have d:∀i j:Nat,i≠j->s1.heap.objs.size+i≠s1.heap.objs.size+j:=fun i j q z=>q (Nat.add_left_cancel z)
   refine x3i lx ly fun h' st kk=>wpAny_pyIter_zip st.gz ?_
   refine⟨_,[s1.heap.objs.size+4,s1.heap.objs.size+2,s1.heap.objs.size+3,s1.heap.objs.size,s1.heap.objs.size+1],_,_,H1,rfl,I1.kept (t':=s1.toks) kk,
    y5c a b _ _ _ _ _ (d 2 4 (by decide)) (d 3 4 (by decide)) (d 0 4 (by decide)) (d 1 4 (by decide)) (d 2 3 (by decide)) (d 2 0 (by decide)) (d 2 1 (by decide)) (d 3 0 (by decide)) (d 3 1 (by decide)) (d 0 1 (by decide)),st,fun c hc=>?_,q⟩
   have hle:s1.heap.objs.size<=c:=by
    simp only[List.mem_cons,List.not_mem_nil,or_false]at hc
    rcases hc with z|z|z|z|z<;>rw[z]<;>first|exact Nat.le_add_right _ _|exact Nat.le_refl _
   exact I1.fpOk hle (I1.hok.fresh hle)
section
variable{X:Cx}
theorem y6n:OpR X (binaryOp .FloorDiv) (rI (fun _ j=>0<j/\j<2 ^ 100) fun i j=>.int (i / j)):=opI fun i j _ _ s Q E hc q=>by
 refine floordiv_int (by omega) ?_ (.inl (PyProof.noPylong_of_log2 ?_))
 ·rw[Int.fdiv_eq_ediv_of_nonneg _ (by omega)];exact q
 ·have:j.natAbs<2 ^ 100:=by omega
  have h2:j.natAbs.log2<100:=(Nat.log2_lt (by omega)).mpr this
  omega
theorem z8d:X.calm=true->q6g X (.builtin "sum") (fun xs H Q=>∃(p:Addr)(ns:List Int),xs=[.ref p]/\SqL X.K H p (ns.map V.int)/\Q (.int ns.sum) H):=by
 intro hc pins s σ H xs us Q I r h
 obtain⟨p,ns,rfl,hp,q⟩:=h
 obtain⟨u,rfl,ru⟩:=z5m r
 cases ru
 obtain⟨is,r1,p1,_⟩:=I.list hp
 have hi:=z9m r1
 obtain⟨zs,hz⟩:=hi.allInts.items
 refine sum_intListG (I.ok.hd hc) (by rw[<-hz];exact p1.isList) fun h' tk t' hk=>?_
 refine⟨.int _,H,I.kept hk,⟨t',rfl⟩,?_⟩
 have e:preSum (numAt zs) zs.size=ns.sum:=by
  rw[preSum_eq,List.take_of_length_le (by simp)]
  have e2:=hi.numsOf
  have e3:is=(intItems zs).toList:=by rw[<-hz]
  rw[e3,nums_intItems]at e2
  rw[<-e2]
 rw[e];exact q
theorem y8j{bs:List Bool}{us:List Value}(r:Vals (bs.map V.bl) us){i:Nat}{v:Value}(e:us[i]?=some v):v=.bool (bs.getD i true):=by
 have hl:=r.length
 rw[List.length_map]at hl
 obtain⟨hi,rfl⟩:=List.getElem?_eq_some_iff.mp e
 have hi':i<bs.length:=by omega
 have:(bs.map V.bl)[i]?=some (.bl bs[i]):=by simp[hi']
 obtain⟨u,eu,ru⟩:=r.get this
 rw[e]at eu
 cases eu
 have hd:bs.getD i true=bs[i]:=by simp[List.getD,hi']
 rw[hd]
 exact ru
theorem y1a(bs:List Bool):(List.range bs.length).all (fun i=>bs.getD i true)=bs.all id:=by
 rw[Bool.eq_iff_iff,List.all_eq_true,List.all_eq_true]
 constructor
 ·intro h x hx
  obtain⟨i,hi,rfl⟩:=List.mem_iff_getElem.mp hx
  have:=h i (by simp[hi])
  simpa[List.getD,hi]using this
 ·intro h i hi
  have hi':i<bs.length:=by simpa using hi
  have:=h bs[i] (List.getElem_mem hi')
  simpa[List.getD,hi']using this
theorem y8c:X.calm=true->q6g X (.builtin "all") (fun xs H Q=>∃(p:Addr)(bs:List Bool),xs=[.ref p]/\SqL X.K H p (bs.map V.bl)/\Q (.bl (bs.all id)) H):=by
 intro hc pins s σ H xs us Q I r h
 obtain⟨p,bs,rfl,hp,q⟩:=h
 obtain⟨u,rfl,ru⟩:=z5m r
 cases ru
 obtain⟨is,r1,p1,_⟩:=I.list hp
 have hl:=r1.length
 rw[List.length_map]at hl
 have hlt:p<s.heap.objs.size:=by obtain⟨_,e,_⟩:=p1.isList;exact Heap.lt_size e
 refine call_all_walk (wpAny_pyIter_list p1.isList ?_)
 refine⟨s.heap.objs.size,_,_,_,_,_,(fun i=>bs.getD i true),rfl,Walks.list (A:=X.A.in1) (I.ok.hd hc) s.heap.objs.size p (Nat.ne_of_lt hlt) is.toArray,⟨⟨_,Heap.get?_push_size _ rfl,rfl,rfl⟩,p1.isList.push _⟩,fun i v s' Q' E' hv hQ'=>?_,fun h' tk hk=>?_⟩
 ·have e:=y8j r1 (i:=i) (v:=v) (by simpa using hv)
  subst e
  exact wpAny_pure hQ'
 ·refine⟨.bl _,H,I.kept (fun b o e=>hk b o (by have:=Heap.lt_size e;simp;exact Nat.ne_of_lt this) (Heap.get?_push_of_some _ e)),rfl,?_⟩
  have e:(List.range is.toArray.size).all (fun i=>bs.getD i true)=bs.all id:=by
   rw[List.size_toArray,<-hl];exact y1a bs
  show Q (.bl ((List.range is.toArray.size).all fun i=>bs.getD i true)) H
  rw[e];exact q
theorem z8s{ys:List Str}:∀{us:List Value},Vals (ys.map V.str) us->StrsAre us ys:=by
 induction ys with
 |nil=>intro us r;cases r;exact .nil
 |cons y ys ih=>
  intro us r
  cases r with
  |cons a b=>
   obtain⟨t,rfl⟩:=a
   exact .cons _ t (ih b)
theorem x1z:MtR X "str.join" (fun x xs H Q=>∃(z:Str)(p:Addr)(ys:List Str),x=.str z/\xs=[.ref p]/\SqL X.K H p (ys.map V.str)/\(ys.map (·.length)).sum+ys.length*z.length<=16777216/\Q (.str (Txt.join z ys)) H):=by
 intro pins s σ H x xs v us Q I rx r h
 obtain⟨z,p,ys,rfl,rfl,hp,hb,q⟩:=h
 obtain⟨t,rfl⟩:=rx
 obtain⟨u,rfl,ru⟩:=z5m r
 cases ru
 obtain⟨is,r1,p1,_⟩:=I.list hp
 exact join_list p1.isList (by simpa using z8s r1) hb fun t' k=>⟨.str _,H,I.tok k,⟨t',rfl⟩,q⟩
theorem z9j{h:Heap}{sl:Addr}{vl vu:Value}{lo hi:Option Int}(hs:h.IsSliceOf sl vl vu .none)(pl:IsPart vl lo)(pu:IsPart vu hi):∃l u:Option (Int×Tok),h.IsSlice sl l u none/\l.map (·.1)=lo/\u.map (·.1)=hi:=by
 cases pl with
 |none=>
  cases pu with
  |none=>exact⟨none,none,hs,rfl,rfl⟩
  |int i t=>exact⟨none,some (_,_),hs,rfl,rfl⟩
 |int i t=>
  cases pu with
  |none=>exact⟨some (_,_),none,hs,rfl,rfl⟩
  |int i t=>exact⟨some (_,_),some (_,_),hs,rfl,rfl⟩
theorem x4u:SlR X (fun x lo hi H Q=>∃z:Str,x=.str z/\z.length<=sizeLine/\Q (.str (Txt.slice z lo hi)) H):=by
 intro pins s σ H x v vl vu lo hi sl Q I rx hs pl pu h
 obtain⟨z,rfl,hz,q⟩:=h
 obtain⟨t,rfl⟩:=rx
 obtain⟨l,u,hsl,rfl,rfl⟩:=z9j hs pl pu
 refine⟨"str",_,F.slot_str_getitem.lookup,typeIs_str _ _ _,wpAny_getItem_str_slice (l:=l) (u:=u) (st:=none) hsl rfl ?_⟩
 exact post_val_or_str ⟨Nat.le_trans (Txt.slice_le z _ _) hz,fun t' k=>⟨.str _,H,I.tok k,⟨t',rfl⟩,q⟩⟩
end
section
variable{X:Cx}
end
theorem q8o:bootBuiltins "tuple" = some (.type "tuple"):=by kernel_rfl
theorem q2k:bootBuiltins "str" = some (.type "str"):=by kernel_rfl
theorem z8e:bootBuiltins "int" = some (.type "int"):=by kernel_rfl
theorem y4i:bootBuiltins "bool" = some (.type "bool"):=by kernel_rfl
theorem q1m:bootBuiltins "isinstance" = some (.builtin "isinstance"):=by kernel_rfl
theorem y8h:bootBuiltins "sum" = some (.builtin "sum"):=by kernel_rfl
theorem z8f:bootBuiltins "all" = some (.builtin "all"):=by kernel_rfl
inductive Ty(H:Hp):V->String->Prop where
 |non:Ty H .non "NoneType"
 |bl (x:Bool):Ty H (.bl x) "bool"
 |int (i:Int):Ty H (.int i) "int"
 |str (x:Str):Ty H (.str x) "str"
 |lst {a:Addr} {xs:List V} (e:H a=some (.lst xs)):Ty H (.ref a) "list"
 |tup {a:Addr} {xs:List V} (e:H a=some (.tup xs)):Ty H (.ref a) "tuple"
section
variable{X:Cx}
theorem Ty.of{K:Frag}{H:Hp}{x:V}{T:String}(h:Ty H x T):TyOf K H x (.type T):=by
 cases h with
 |non=>exact .non
 |bl x=>exact .bl x
 |int i=>exact .int i
 |str x=>exact .str x
 |lst e=>exact .lst e
 |tup e=>exact .tup e
theorem y7d{K:Frag}{T C D:String}{b c:Bool}(h1:PySem.W.kitOne K (.type T) (.type C)=some b)(h2:PySem.W.kitOne K (.type T) (.type D)=some c):PySem.W.kitAny K (.type T) [.type C,.type D]=some (b||c):=by
 unfold PySem.W.kitAny
 rw[h1]
 cases b with
 |true=>rfl
 |false=>
  show PySem.W.kitAny K (.type T) [.type D]=_
  unfold PySem.W.kitAny
  rw[h2]
  cases c<;>rfl
end
structure Cal(P:Program)(w:World)(K:Frag)(mg:Str->Option Value)(base:Heap)(k:Nat)(name:Str)(ps:List Str)(sp:Sp)(f:Addr)(fd:FuncData):Prop where
 G:FnOk P w K mg base (CXE P w) k f fd ps sp
 m:mg name=some (.ref f)
 kp:PySem.W.keepIn K (.ref f)=true
 b:z3e K fd ps []
theorem Cal.mono{P:Program}{w:World}{K:Frag}{mg:Str->Option Value}{base:Heap}{j k:Nat}{name:Str}{ps:List Str}{sp:Sp}{f:Addr}{fd:FuncData}(c:Cal P w K mg base j name ps sp f fd)(h:j<=k):Cal P w K mg base k name ps sp f fd:=⟨c.G.mono h,c.m,c.kp,c.b⟩
structure Loc2(K:Frag)(mg:Str->Option Value)(name:Str)(st:Stmt)(ps:List Str)(f:Addr)(fd:FuncData):Prop where
 F:Fun K name name st f fd
 m:mg name=some (.ref f)
 b:z3e K fd ps []
theorem Loc2.cal{P:Program}{w:World}{K:Frag}{mg:Str->Option Value}{base:Heap}{k:Nat}{name:Str}{st:Stmt}{ps:List Str}{sp:Sp}{f:Addr}{fd:FuncData}(l:Loc2 K mg name st ps f fd)(G:FnOk P w K mg base (CXE P w) k f fd ps sp):Cal P w K mg base k name ps sp f fd:=⟨G,l.m,l.F.kp,l.b⟩
structure Zs(mg:Str->Option Value):Prop where
 len:mg "len" = none
 range:mg "range" = none
 isinstance:mg "isinstance" = none
 list:mg "list" = none
 tuple:mg "tuple" = none
 str:mg "str" = none
 int:mg "int" = none
 bool:mg "bool" = none
 sum:mg "sum" = none
 all:mg "all" = none
 zip:mg "zip" = none
def z3d(l:Addr)(H H':Hp):Prop:=∀b o,b≠l->H b=some o->H' b=some o
theorem Same.x{H H':Hp}(h:Same H H')(l:Addr):z3d l H H':=fun b o _ e=>h b o e
theorem z3d.trans{l:Addr}{H H1 H2:Hp}(a:z3d l H H1)(b:z3d l H1 H2):z3d l H H2:=fun c o n e=>b c o n (a c o n e)
theorem z3d.refl(l:Addr)(H:Hp):z3d l H H:=fun _ _ _ e=>e
theorem z3d.seq{K:Frag}{l:Addr}{H H':Hp}{a:Addr}{xs:List V}(e:z3d l H H')(n:a≠l)(h:SqL K H a xs):SqL K H' a xs:=by
 rcases h with h|h
 ·left
  rcases h with q|⟨ob,q⟩
  ·exact .inl (e _ _ n q)
  ·exact .inr ⟨ob,e _ _ n q⟩
 ·exact .inr h
theorem w1r{n:Nat}(h:n<=1000):n<=sizeLine:=Nat.le_of_lt (y0j h)
end L2
namespace My
open PySem L2
def wd(ks:List Nat):Str:=⟨(ks.map (97+·)).toArray⟩
theorem q7l{x y:Str}(h:x.cps.toList=y.cps.toList):x=y:=by
 obtain⟨a⟩:=x
 obtain⟨b⟩:=y
 have:a=b:=by rw[<-Array.toList_inj];exact h
 rw[this]
theorem x0d(ks:List Nat):(wd ks).cps.toList=ks.map (97+·):=rfl
theorem y8u(ks:List Nat):(wd ks).length=ks.length:=by simp[wd,Str.length]
theorem z3b(x y:Str):(x++y).cps.toList=x.cps.toList++y.cps.toList:=by
 show(x.cps++y.cps).toList=_
 simp
theorem z1i:(Str.ofString "abcdefghijklmnopqrstuvwxyz")=wd (List.range 26):=by decide +kernel
theorem z9b{i:Int}(h0:0<=i)(h1:i<26):atI (Str.ofString "abcdefghijklmnopqrstuvwxyz").cps.toList i=some (97+i.toNat):=by
 obtain⟨m,rfl⟩:∃m:Nat,i=(m:Int):=⟨i.toNat,by omega⟩
 have hm:m<26:=by omega
 rw[z1i]
 refine x3l ?_
 rw[x0d]
 simp[hm]
theorem z6a:(Str.ofString "abcdefghijklmnopqrstuvwxyz").length<=sizeLine:=by rw[z1i,y8u];decide
theorem x7n(lo hi:Option Int)(n:Nat):Builtin.Str.strSliceIndices lo hi 1 n=(List.range (HT.sIx n n hi-HT.sIx n 0 lo)).map fun k=>HT.sIx n 0 lo+k:=by
 have clip:∀(v:Option Int)(d:Nat),(match v with|none=>((d:Nat):Int)|some i=>max 0 (min (if i<0 then i+(n:Int)else i) (n:Int)))=((HT.sIx n d v:Nat):Int):=by
  intro v d
  cases v with
  |none=>rfl
  |some i=>
   unfold HT.sIx
   dsimp only
   split
   ·omega
   ·omega
 unfold Builtin.Str.strSliceIndices
 simp only[show((1:Int) > 0) by decide,if_true]
 have e1:=clip lo 0
 have e2:=clip hi n
 simp only[Int.ofNat_zero]at e1
 have key:∀a b a' b':Int,a=a'->b=b'->sliceRange a b 1=sliceRange a' b' 1:=fun a b a' b' h1 h2=>by rw[h1,h2]
 refine(key _ _ _ _ e1 e2).trans ?_
 unfold sliceRange
 simp only[show((1:Int) > 0) by decide,if_true]
 have e3:(if((HT.sIx n 0 lo:Nat):Int)<((HT.sIx n n hi:Nat):Int)then(((HT.sIx n n hi:Nat):Int)-((HT.sIx n 0 lo:Nat):Int)+1-1) / 1 else 0).toNat=HT.sIx n n hi-HT.sIx n 0 lo:=by
  split
  ·rw[Int.ediv_one];omega
  ·omega
 rw[e3]
 apply List.map_congr_left
 intro k _
 omega
theorem x1i(xs:List Nat)(a c:Nat)(hc:a+c<=xs.length):((List.range c).map fun k=>a+k).filterMap (fun i=>xs[i]?)=(xs.drop a).take c:=by
 induction c generalizing a with
 |zero=>simp
 |succ c ih=>
  have ha:a<xs.length:=by omega
  rw[List.range_succ_eq_map,List.map_cons,List.map_map,List.filterMap_cons]
  have e0:xs[a+0]?=some xs[a]:=by simp[ha]
  rw[e0]
  dsimp only
  rw[List.drop_eq_getElem_cons ha,List.take_succ_cons]
  congr 1
  have:=ih (a+1) (by omega)
  rw[<-this]
  congr 1
  apply List.map_congr_left
  intro k _
  simp only[Function.comp]
  omega
theorem q5s(x:Str)(lo hi:Option Int):(Txt.slice x lo hi).cps.toList=(x.cps.toList.drop (HT.sIx x.length 0 lo)).take (HT.sIx x.length x.length hi-HT.sIx x.length 0 lo):=by
 have hn:x.cps.toList.length=x.length:=by simp[Str.length]
 have hb:=HT.sIx_le x.length x.length (Nat.le_refl _) hi
 have ha:=HT.sIx_le x.length 0 (Nat.zero_le _) lo
 unfold Txt.slice
 rw[x7n,List.length_map,List.length_range]
 split
 ·rename_i h
  have h':HT.sIx x.length x.length hi-HT.sIx x.length 0 lo=x.length:=by simpa using h
  have h2:HT.sIx x.length 0 lo=0\/x.length=0:=by omega
  rw[h']
  rcases h2 with h2|h2
  ·rw[h2,List.drop_zero,List.take_of_length_le (by omega)]
  ·have:x.cps.toList=[]:=List.length_eq_zero_iff.mp (by omega)
   rw[this];simp
 ·show List.filterMap _ _=_
  have e:(fun(i:Nat)=>x.cps[i]?)=fun i=>x.cps.toList[i]?:=by funext i;simp
  rw[e]
  by_cases hle:HT.sIx x.length 0 lo<=HT.sIx x.length x.length hi
  ·exact x1i _ _ _ (by omega)
  ·have:HT.sIx x.length x.length hi-HT.sIx x.length 0 lo=0:=by omega
   rw[this];simp
def Nm(x:Str):Prop:=∃ks:List Nat,x=wd ks/\ks≠[]/\ks.length<=8/\∀k∈ks,k<26
theorem Nm.len{x:Str}(h:Nm x):x.length<=8:=by
 obtain⟨ks,rfl,_,h,_⟩:=h
 rw[y8u];exact h
end My
namespace L2
open PySem PySem.Spec PyProof.Rows
theorem q8u{X:Cx}{scope:Scope}{N':List Str}{ix:List (Option Nat)}(kind:scope.kind=.function)(cell:∀y∈scope.names,y.2≠.cell)(names:∀y∈scope.names,y.2=.local->scope.names.lookup y.1=some .local)
  (free:(scope.names.all fun y=>!(y.2==.free)||X.env.scope.names.lookup y.1==some .cell||X.env.scope.names.lookup y.1==some .free)=true) (ixs:IxOk X.N X.env.scope scope N' ix):CompOk X scope N' ix:=
 ⟨kind,cell,names,fun y hy e=>by
  have h:=List.all_eq_true.mp free y hy
  simp only [e,beq_self_eq_true,Bool.not_true,Bool.false_or,Bool.or_eq_true,beq_iff_eq]at h
  exact h,ixs⟩
section
variable{X:Cx}{K:Frag}
end
end L2
namespace My
open PySem L2
theorem z9e:∀ts:List Str,(Txt.join (Str.ofString "") ts).cps.toList=ts.flatMap (·.cps.toList):=by
 intro ts
 have e:Txt.join (Str.ofString "") ts=Str.join (Str.ofString "") ts:=StrLaws.glued_eq_join _ _
 rw[e]
 have e0:(Str.ofString "").cps.toList=[]:=by decide +kernel
 induction ts with
 |nil=>rfl
 |cons x r ih=>
  cases r with
  |nil=>simp[Str.join]
  |cons y r=>
   show(x++Str.ofString "" ++Str.join (Str.ofString "") (y::r)).cps.toList=_
   rw[z3b,z3b,e0,ih (StrLaws.glued_eq_join _ _)]
   simp
end My
namespace L2
open PySem PySem.Spec PyProof.Rows
def Its(z:Str):It:=⟨fun i _=>i<z.length,fun i H v H'=>H'=H/\∃c,z.cps[i]?=some c/\v=.str ⟨#[c]⟩,fun i _=>z.length<=i⟩
theorem y0d{P:Program}{w:World}{A:Around}(hh:A.handled=none)(it:Addr)(x:Str)(t:Tok):Walks P w A it [it] [it] x.cps.size (SignAt x) fun i h=>h.IsStrIter it (strIterType x) x t i:=by
 unfold strIterType
 split
 ·exact Walks.strAscii hh it x t
 ·exact Walks.strWide hh it x t
theorem x7p{M:Model}{A:Around}{E:Value->Shared->Prop}{s:Shared}{tg:Expr}{it:Addr}{u:Value}{x:Str}{t:Tok}{i:Nat}{Q:Unit->Shared->Prop}(h:s.heap.IsStrIter it (strIterType x) x t i)(hQ:Q () s):wpAny M A (letOwnedTupleGo tg (.ref it) u) Q E s:=by
 obtain⟨o,e,c,d⟩:=h
 refine y3a e c d ?_ hQ
 unfold strIterType
 split<;>decide
theorem y5d{P:Program}{w:World}{K:Frag}{tg:Expr}(it:Addr)(x:Str)(t:Tok):Turn P w K tg (Its x) [it] it (fun i h=>i<=x.length/\h.IsStrIter it (strIterType x) x t i) where
 mem:=by simp
 obj:=fun i h st b hb=>by
  obtain rfl:=List.mem_singleton.mp hb
  obtain⟨_,o,e,c,d⟩:=st
  exact⟨o,e,fun v z=>by rw[d]at z;cases z⟩
 keep:=fun i h h' st k=>by
  obtain⟨hi,o,e,r⟩:=st
  exact⟨hi,o,k it (by simp) o e,r⟩
 item:=by
  intro X hP hw hK hc i pins s σ H E I hf st hg
  subst hP hw hK
  obtain⟨f0,f1,f2,f3,f4,f5⟩:=hf it (by simp)
  have hg':i<x.length:=hg
  refine(y0d (P:=X.prog) (w:=X.w) (I.ok.hd hc) it x t).item i s _ _ hg' st.2 fun v h' tk hv st' kk=>?_
  have I1:Inv X pins σ H {s with heap:=h',toks:=tk}:=I.turned (fun b o hb e=>kk b o (by simpa using hb) e) f0 f1 f3 f4 f5
  obtain⟨c,u,hc',rfl⟩:=hv
  exact⟨_,rfl,x7p (s:={s with heap:=h',toks:=tk}) st' ⟨.str ⟨#[c]⟩,H,I1,⟨u,rfl⟩,⟨rfl,c,hc',rfl⟩,⟨hg',st'⟩,fun b hb=>(hf b hb).1⟩⟩
 done:=by
  intro X hP hw hK hc i pins s σ H E I hf st hg
  subst hP hw hK
  obtain⟨f0,f1,f2,f3,f4,f5⟩:=hf it (by simp)
  have hg':x.length<=i:=hg
  have e:i=x.cps.size:=Nat.le_antisymm st.1 hg'
  subst e
  exact(y0d (P:=X.prog) (w:=X.w) (I.ok.hd hc) it x t).done s _ _ st.2 fun h' tk kk=>⟨rfl,I.turned (fun b o hb e=>kk b o (by simpa using hb) e) f0 f1 f3 f4 f5⟩
 self:=fun A i s Q E st h=>by
  have st':=st.2
  unfold strIterType at st'
  split at st'
  ·exact wpAny_pyIter_striter_ascii st' h
  ·exact wpAny_pyIter_striter_wide st' h
section
variable{X:Cx}{tg:Expr}
end
abbrev TJ:=St->Hp->Str->(Str->Hp->Prop)->Prop
def PJ(X:Cx)(es:List Expr)(t:TJ):Prop:=∀(pins:List (Addr×Obj))(s:Shared)(σ:St)(H:Hp)(acc:Str)(Q:Str->Hp->Prop),Inv X pins σ H s->t σ H acc Q->
 Joins (model X.prog X.w) X.A X.xe (evalEach es X.env) acc (fun out s₁=>∃H',Inv X pins σ H' s₁/\Q out H') s
section
variable{X:Cx}{e:Expr}{es:List Expr}{t:TJ}{te:TE}{pos p2:Pos}
theorem y1s:OpR X (compareOp .IsNot) (fun x y H Q=>∃a b,x=.bl a/\y=.bl b/\Q (.bl (!decide (a=b))) H):=by
 intro pins s σ H x y v u Q I rx ry h
 obtain⟨a,b,rfl,rfl,q⟩:=h
 cases(show v=Value.bool a from rx)
 cases(show u=Value.bool b from ry)
 refine wpAny_isNot_plain rfl ⟨.bl (!decide (a=b)),H,I,?_,q⟩
 show Value.bool _=Value.bool _
 cases a<;>cases b<;>rfl
end
section
variable{X:Cx}
theorem extT(lA:Addr)(xsA:Array Value)(nA:Nat)(tB:Addr)(ysB:Array Value)(nB:Nat)(ddB:Option Addr)(slB:Array (Option Value))(h0:¬(!xsA.isEmpty&&Builtin.List.listTooLong (xsA.size+ysB.size))=true)(h1:xsA.size<=sizeLine)(h2:xsA.size+ysB.size<=sizeLine+1) :
  Meets (Builtin.«list.extend» ⟨[.ref lA,.ref tB],[]⟩) (fun _ R s=>s.heap.get? lA=some {cls:=.type "list",dict:=none,data:=.seq xsA nA,slots:=#[]}/\s.heap.get? tB=some {cls:=.type "tuple",dict:=ddB,data:=.seq ysB nB,slots:=slB}/\R (.ok (.ret Value.none)) {s with heap:=s.heap.update lA (Obj.mapSeq fun u=>u++ysB),toks:=s.toks}):=
 .of_wp fun prog w A R s h=>by
  obtain⟨hp,g,d,tk,os⟩:=s
  obtain⟨hl,hb,h⟩:=h
  have f1:=AutoSeq1.idx_int
  have f2:=AutoSeq1.sub_tuple_tuple
  have f3:=AutoSeq1.sub_list_list
  have f4:=AutoSeq1.sub_tuple_list
  have f5:=AutoSeq1.sub_list_tuple
  have hz':(xsA++ysB).size<=sizeLine+1:=by rw[Array.size_append];exact h2
  wp_walk using(wpAny_updateSeq hl rfl (hz:=h1) (_hz':=hz')),AutoSeq1.wpAny_loadPart' hl,AutoSeq1.wpAny_loadPart' hb
  exact⟨_,rfl,h⟩
theorem y6o:OpR X (binaryOp .Add) (fun x y H Q=>(∃a b ys,x=.ref a/\y=.ref b/\SqT X.K H a []/\SqT X.K H b ys/\Q (.ref b) H)\/x5b X.K x y H Q):=by
 intro pins s σ H x y v u Q I rx ry h
 rcases h with h|h
 ·obtain⟨a,b,ys,rfl,rfl,ha,hb,q⟩:=h
  cases rx
  cases ry
  obtain⟨its,r1,p1,_⟩:=I.tuple ha
  obtain⟨its2,r2,p2,hz⟩:=I.tuple hb
  cases r1
  obtain⟨⟨c1,e1,t1,l1⟩,ho,hc,n,hd⟩:=p1
  obtain⟨⟨c2,e2,t2,l2⟩,ho2,hc2,n2,hd2⟩:=p2
  simp only at hc hd hc2 hd2
  subst hc hd hc2 hd2
  refine concat_meets ⟨_,ho,rfl⟩ ⟨_,ho2,rfl⟩ noFill_tuple_add seq_tuple_add PySem.F.slot_tuple_add PySem.F.entry_tuple_add (PySem.F.args_tuple_add_2 _ _)
   (tuple_addW0 a b _ its2.toArray n n2 e1 e2 l1 l2 (by rfl)) ⟨ho,ho2,⟨.ref b,H,I,rfl,q⟩⟩
 ·exact x1q pins s σ H x y v u Q I rx ry h
end
end L2
namespace Ev
open PySem L2
inductive PV where
 |non|bl (b:Bool)|int (i:Int)|str (x:Str)|ty (n:String)
 |tup (xs:List PV)|frl (xs:List PV)|ref (n:Nat)|exc (c:String)
inductive SO where
 |lst (xs:List PV)|dK (kvs:List (Key×PV))|dN (kvs:List (KTr×PV))|dF (kvs:List (Key×PV))
abbrev q0i:=List SO
abbrev Loc:=List (Option PV)
def SqF(K:Frag)(H:Hp)(a:Addr)(xs:List V):Prop:=
 (∃o,H a=some (.frz o (.lst xs)))\/∃(o:Obj)(its:Array Value)(n:Nat),K.lookup a=some o/\o.cls=.type "list" /\o.dict=none/\o.data=.seq its n/\its.size<=sizeLine/\Vals xs its.toList
theorem SqF.sq{K:Frag}{H:Hp}{a:Addr}{xs:List V}(h:SqF K H a xs):SqL K H a xs:=by
 rcases h with⟨o,h⟩|h
 ·exact .inl (.inr ⟨o,h⟩)
 ·exact .inr h
def w1q(K:Frag)(H:Hp)(a:Addr)(c:String):Prop:=∃(f:Heap->Prop)(C:Addr),H a=some (.ext f)/\PySem.W.nsIn K mainGlobals (Str.ofString c)=some (some (.ref C))/\∀h,f h->∃o,h.get? a=some o/\o.cls=.ref C
mutual
def RV(K:Frag)(H:Hp)(φ:List Addr):PV->V->Prop
 |.non,v=>v=.non
 |.bl b,v=>v=.bl b
 |.int i,v=>v=.int i
 |.str x,v=>v=.str x
 |.ty n,v=>v=.ty n
 |.tup xs,v=>∃a vs,v=.ref a/\SqT K H a vs/\RVs K H φ xs vs
 |.frl xs,v=>∃a vs,v=.ref a/\SqF K H a vs/\RVs K H φ xs vs
 |.ref n,v=>∃a,v=.ref a/\φ[n]?=some a
 |.exc c,v=>∃a,v=.ref a/\w1q K H a c
def RVs(K:Frag)(H:Hp)(φ:List Addr):List PV->List V->Prop
 |[],vs=>vs=[]
 |x::xs,vs=>∃y ys,vs=y::ys/\RV K H φ x y/\RVs K H φ xs ys
end
structure Mono(H H':Hp):Prop where
 tup:∀a xs,H a=some (.tup xs)->H' a=some (.tup xs)
 frz:∀a o u,H a=some (.frz o u)->H' a=some (.frz o u)
 ext:∀a f,H a=some (.ext f)->H' a=some (.ext f)
 dic:∀a c ws,H a=some (.dH c ws)->∃ws',H' a=some (.dH c ws')
theorem Mono.refl(H:Hp):Mono H H:=⟨fun _ _ h=>h,fun _ _ _ h=>h,fun _ _ h=>h,fun _ _ ws h=>⟨ws,h⟩⟩
theorem Mono.trans{H H1 H2:Hp}(a:Mono H H1)(b:Mono H1 H2):Mono H H2:=⟨fun c xs h=>b.tup c xs (a.tup c xs h),fun c o u h=>b.frz c o u (a.frz c o u h),fun c f h=>b.ext c f (a.ext c f h),fun c n ws h=>let ⟨ws',h'⟩:=a.dic c n ws h;b.dic c n ws' h'⟩
theorem Mono.new{H:Hp}{p:Addr}(o:HO)(h:H p=none):Mono H (upd H p o):=⟨fun b u q=>by rw[q0z (q2o q h)];exact q,fun b u v q=>by rw[q0z (q2o q h)];exact q,fun b f q=>by rw[q0z (q2o q h)];exact q,fun b c ws q=>⟨ws,by rw[q0z (q2o q h)];exact q⟩⟩
theorem Mono.rd{H H':Hp}(m:Mono H H'){a:Addr}{xs:List V}(h:Rd H a (.tup xs)):Rd H' a (.tup xs):=by
 rcases h with h|⟨o,h⟩
 ·exact .inl (m.tup _ _ h)
 ·exact .inr ⟨o,m.frz _ _ _ h⟩
theorem Mono.sqT{K:Frag}{H H':Hp}(m:Mono H H'){a:Addr}{xs:List V}(h:SqT K H a xs):SqT K H' a xs:=by
 rcases h with h|h
 ·exact .inl (m.rd h)
 ·exact .inr h
theorem Mono.sqF{K:Frag}{H H':Hp}(m:Mono H H'){a:Addr}{xs:List V}(h:SqF K H a xs):SqF K H' a xs:=by
 rcases h with⟨o,h⟩|h
 ·exact .inl ⟨o,m.frz _ _ _ h⟩
 ·exact .inr h
theorem q9w{φ φ':List Addr}(h:φ <+: φ'){n:Nat}{a:Addr}(e:φ[n]?=some a):φ'[n]?=some a:=by
 obtain⟨t,rfl⟩:=h
 rw[List.getElem?_append_left (by
  have:=List.getElem?_eq_some_iff.mp e
  exact this.1)]
 exact e
section
variable{K:Frag}{H H':Hp}{φ φ':List Addr}
mutual
theorem RV.mono(m:Mono H H')(p:φ <+: φ'):∀(v:PV)(x:V),RV K H φ v x->RV K H' φ' v x
 |.non,_,h=>h
 |.bl _,_,h=>h
 |.int _,_,h=>h
 |.str _,_,h=>h
 |.ty _,_,h=>h
 |.tup xs,_,⟨a,vs,e,s,r⟩=>⟨a,vs,e,m.sqT s,RVs.mono m p xs vs r⟩
 |.frl xs,_,⟨a,vs,e,s,r⟩=>⟨a,vs,e,m.sqF s,RVs.mono m p xs vs r⟩
 |.ref _,_,⟨a,e,q⟩=>⟨a,e,q9w p q⟩
 |.exc _,_,⟨a,e,f,C,h1,h2,h3⟩=>⟨a,e,f,C,m.ext _ _ h1,h2,h3⟩
theorem RVs.mono(m:Mono H H')(p:φ <+: φ'):∀(xs:List PV)(vs:List V),RVs K H φ xs vs->RVs K H' φ' xs vs
 |[],_,h=>h
 |x::xs,_,⟨y,ys,e,r,t⟩=>⟨y,ys,e,RV.mono m p x y r,RVs.mono m p xs ys t⟩
end
theorem RVs.length:∀{xs:List PV}{vs:List V},RVs K H φ xs vs->xs.length=vs.length
 |[],_,h=>by rw[show _=[]from h];rfl
 |_::xs,_,⟨y,ys,e,_,t⟩=>by rw[e,List.length_cons,List.length_cons,RVs.length t]
theorem RVs.get:∀{xs:List PV}{vs:List V}{i:Nat}{x:PV},RVs K H φ xs vs->xs[i]?=some x->∃y,vs[i]?=some y/\RV K H φ x y
 |[],_,_,_,_,e=>by simp at e
 |x::xs,_,0,x',⟨y,ys,e,r,t⟩,q=>by
  simp at q;subst q;subst e
  exact⟨y,by simp,r⟩
 |x::xs,_,i+1,x',⟨y,ys,e,r,t⟩,q=>by
  subst e
  obtain⟨z,h1,h2⟩:=RVs.get (i:=i) t (by simpa using q)
  exact⟨z,by simpa using h1,h2⟩
theorem RVs.append:∀{xs ys:List PV}{vs ws:List V},RVs K H φ xs vs->RVs K H φ ys ws->RVs K H φ (xs++ys) (vs++ws)
 |[],_,_,_,h,s=>by rw[show _=[]from h];exact s
 |x::xs,_,_,_,⟨y,ys,e,r,t⟩,s=>by subst e;exact⟨y,_,rfl,r,RVs.append t s⟩
theorem RVs.one{x:PV}{y:V}(r:RV K H φ x y):RVs K H φ [x] [y]:=⟨y,[],rfl,r,rfl⟩
theorem RVs.cons{x:PV}{y:V}{xs:List PV}{ys:List V}(r:RV K H φ x y)(t:RVs K H φ xs ys):RVs K H φ (x::xs) (y::ys):=⟨y,ys,rfl,r,t⟩
theorem RVs.take:∀{xs:List PV}{vs:List V}(n:Nat),RVs K H φ xs vs->RVs K H φ (xs.take n) (vs.take n)
 |_,_,0,_=>by simp;exact rfl
 |[],_,_+1,h=>by rw[show _=[]from h];exact rfl
 |x::xs,_,n+1,⟨y,ys,e,r,t⟩=>by subst e;exact⟨y,_,rfl,r,RVs.take n t⟩
theorem RVs.drop:∀{xs:List PV}{vs:List V}(n:Nat),RVs K H φ xs vs->RVs K H φ (xs.drop n) (vs.drop n)
 |_,_,0,h=>h
 |[],_,_+1,h=>by rw[show _=[]from h];exact rfl
 |x::xs,_,n+1,⟨y,ys,e,r,t⟩=>by subst e;exact RVs.drop n t
theorem RVs.set{z:PV}{u:V}(q:RV K H φ z u):∀{xs:List PV}{vs:List V}(n:Nat),RVs K H φ xs vs->RVs K H φ (xs.set n z) (vs.set n u)
 |[],_,_,h=>by rw[show _=[]from h];exact rfl
 |x::xs,_,0,⟨y,ys,e,r,t⟩=>by subst e;exact⟨u,_,rfl,q,t⟩
 |x::xs,_,n+1,⟨y,ys,e,r,t⟩=>by subst e;exact⟨y,_,rfl,r,RVs.set q n t⟩
theorem RVs.eraseIdx:∀{xs:List PV}{vs:List V}(n:Nat),RVs K H φ xs vs->RVs K H φ (xs.eraseIdx n) (vs.eraseIdx n)
 |[],_,_,h=>by rw[show _=[]from h];exact rfl
 |x::xs,_,0,⟨y,ys,e,r,t⟩=>by subst e;exact t
 |x::xs,_,n+1,⟨y,ys,e,r,t⟩=>by subst e;exact⟨y,_,rfl,r,RVs.eraseIdx n t⟩
theorem RVs.dropLast{xs:List PV}{vs:List V}(h:RVs K H φ xs vs):RVs K H φ xs.dropLast vs.dropLast:=by
 rw[List.dropLast_eq_take,List.dropLast_eq_take,<-h.length]
 exact h.take _
theorem RVs.reverse:∀{xs:List PV}{vs:List V},RVs K H φ xs vs->RVs K H φ xs.reverse vs.reverse
 |[],_,h=>by rw[show _=[]from h];exact rfl
 |x::xs,_,⟨y,ys,e,r,t⟩=>by
  subst e
  rw[List.reverse_cons,List.reverse_cons]
  exact(RVs.reverse t).append (.one r)
theorem RVs.rep{xs:List PV}{vs:List V}(h:RVs K H φ xs vs):∀n,RVs K H φ (List.replicate n xs).flatten (List.replicate n vs).flatten
 |0=>rfl
 |n+1=>by
  rw[List.replicate_succ,List.replicate_succ,List.flatten_cons,List.flatten_cons]
  exact h.append (RVs.rep h n)
theorem RVs.ints:∀{ns:List Int}{vs:List V},RVs K H φ (ns.map PV.int) vs->vs=ns.map V.int
 |[],_,h=>h
 |_::ns,_,⟨y,ys,e,r,t⟩=>by rw[e,show y=_ from r,RVs.ints t];rfl
theorem RVs.strs:∀{ns:List Str}{vs:List V},RVs K H φ (ns.map PV.str) vs->vs=ns.map V.str
 |[],_,h=>h
 |_::ns,_,⟨y,ys,e,r,t⟩=>by rw[e,show y=_ from r,RVs.strs t];rfl
theorem RVs.bls:∀{ns:List Bool}{vs:List V},RVs K H φ (ns.map PV.bl) vs->vs=ns.map V.bl
 |[],_,h=>h
 |_::ns,_,⟨y,ys,e,r,t⟩=>by rw[e,show y=_ from r,RVs.bls t];rfl
theorem RVs.of_ints:∀(ns:List Int),RVs K H φ (ns.map PV.int) (ns.map V.int)
 |[]=>rfl
 |_::ns=>⟨_,_,rfl,rfl,RVs.of_ints ns⟩
def RKs(K:Frag)(H:Hp)(φ:List Addr):List (Key×PV)->List (Key×V)->Prop:=Paired fun p q=>p.1=q.1/\RV K H φ p.2 q.2
theorem RKs.mono(m:Mono H H')(p:φ <+: φ'){xs:List (Key×PV)}{ys:List (Key×V)}(h:RKs K H φ xs ys):RKs K H' φ' xs ys:=Paired.mapP h fun _ _ hh1=>by obtain⟨a,b⟩:=hh1;exact(⟨a,RV.mono m p _ _ b⟩)
mutual
def ktP:KTr->PV
 |.int i=>.int i
 |.str x=>.str x
 |.tup xs=>.tup (ktPs xs)
def ktPs:List KTr->List PV
 |[]=>[]
 |x::xs=>ktP x::ktPs xs
end
def RNs(K:Frag)(H:Hp)(φ:List Addr):List (KTr×PV)->List (KTr×Addr×V)->Prop:=Paired fun p q=>p.1=q.1/\((∃ys,p.1=.tup ys)/\kdep p.1<=8)/\RV K H φ (ktP p.1) (.ref q.2.1)/\RV K H φ p.2 q.2.2
theorem RNs.mono(m:Mono H H')(p:φ <+: φ'){xs:List (KTr×PV)}{ys:List (KTr×Addr×V)}(h:RNs K H φ xs ys):RNs K H' φ' xs ys:=Paired.mapP h fun _ _ hh1=>by obtain⟨a,c,b,d⟩:=hh1;exact(⟨a,c,RV.mono m p _ _ b,RV.mono m p _ _ d⟩)
def ObjR(K:Frag)(H:Hp)(φ:List Addr):SO->Addr->Prop
 |.lst xs,a=>∃vs,H a=some (.lst vs)/\RVs K H φ xs vs
 |.dK kvs,a=>∃ws,H a=some (.dK ws)/\RKs K H φ kvs ws
 |.dN kvs,a=>∃c ws,H a=some (.dH c ws)/\RNs K H φ kvs ws
 |.dF kvs,a=>∃o ws,H a=some (.frz o (.dK ws))/\RKs K H φ kvs ws
theorem ObjR.some{o:SO}{a:Addr}(h:ObjR K H φ o a):∃u,H a=Option.some u:=by
 cases o with
 |lst xs=>obtain⟨vs,e,_⟩:=h;exact⟨_,e⟩
 |dK xs=>obtain⟨vs,e,_⟩:=h;exact⟨_,e⟩
 |dN xs=>obtain⟨_,vs,e,_⟩:=h;exact⟨_,e⟩
 |dF xs=>obtain⟨_,vs,e,_⟩:=h;exact⟨_,e⟩
theorem ObjR.mono(m:Mono H H')(p:φ <+: φ'){o:SO}{a:Addr}(e:∀u,H a=Option.some u->H' a=Option.some u)(h:ObjR K H φ o a):ObjR K H' φ' o a:=by
 cases o with
 |lst xs=>obtain⟨vs,q,r⟩:=h;exact⟨vs,e _ q,RVs.mono m p _ _ r⟩
 |dK xs=>obtain⟨vs,q,r⟩:=h;exact⟨vs,e _ q,RKs.mono m p r⟩
 |dN xs=>obtain⟨c,vs,q,r⟩:=h;exact⟨c,vs,e _ q,RNs.mono m p r⟩
 |dF xs=>obtain⟨c,vs,q,r⟩:=h;exact⟨c,vs,e _ q,RKs.mono m p r⟩
structure Rel(K:Frag)(φ:List Addr)(S:q0i)(H:Hp):Prop where
 len:φ.length=S.length
 nd:φ.Nodup
 obj:∀(n:Nat)(a:Addr)(o:SO),φ[n]?=some a->S[n]?=some o->ObjR K H φ o a
theorem Rel.at{S:q0i}(h:Rel K φ S H){n:Nat}{o:SO}(e:S[n]?=some o):∃a,φ[n]?=some a/\ObjR K H φ o a:=by
 have hn:n<φ.length:=by rw[h.len];exact(List.getElem?_eq_some_iff.mp e).1
 exact⟨φ[n],List.getElem?_eq_getElem hn,h.obj n _ o (List.getElem?_eq_getElem hn) e⟩
theorem Rel.at'{S:q0i}(h:Rel K φ S H){n:Nat}{a:Addr}(e:φ[n]?=some a):∃o,S[n]?=some o/\ObjR K H φ o a:=by
 have hn:n<S.length:=by rw[<-h.len];exact(List.getElem?_eq_some_iff.mp e).1
 exact⟨S[n],List.getElem?_eq_getElem hn,h.obj n a _ e (List.getElem?_eq_getElem hn)⟩
theorem Rel.frame{S:q0i}(h:Rel K φ S H){p:Addr}(o:HO)(hp:H p=none):Rel K φ S (upd H p o):=
 ⟨h.len,h.nd,fun n a o' e q=>(h.obj n a o' e q).mono (Mono.new o hp) (List.prefix_refl _) fun u z=>by rw[q0z (q2o z hp)];exact z⟩
theorem Rel.new{S:q0i}(h:Rel K φ S H){p:Addr}{o:SO}{u:HO}(hp:H p=none)(ho:ObjR K (upd H p u) (φ++[p]) o p):Rel K (φ++[p]) (S++[o]) (upd H p u):=by
 refine⟨by simp[h.len],?_,fun n a o' e q=>?_⟩
 ·refine List.nodup_append.mpr ⟨h.nd,by simp,fun a ha b hb=>?_⟩
  rw[List.mem_singleton]at hb
  subst hb
  intro z
  subst z
  obtain⟨n,hn,e⟩:=List.mem_iff_getElem.mp ha
  obtain⟨o',_,r⟩:=h.at' (n:=n) (a:=a) (by rw[List.getElem?_eq_getElem hn,e])
  obtain⟨u',z⟩:=r.some
  rw[hp]at z
  cases z
 ·by_cases hn:n<φ.length
  ·rw[List.getElem?_append_left hn]at e
   rw[List.getElem?_append_left (by rw[<-h.len];exact hn)]at q
   exact(h.obj n a o' e q).mono (Mono.new u hp) (List.prefix_append _ _) fun u' z=>by rw[q0z (q2o z hp)];exact z
  ·have hn':n=φ.length:=by
    have:=(List.getElem?_eq_some_iff.mp e).1
    simp at this
    omega
   subst hn'
   rw[List.getElem?_append_right (Nat.le_refl _)]at e
   rw[h.len,List.getElem?_append_right (Nat.le_refl _)]at q
   simp at e q
   subst e q
   exact ho
theorem Rel.put{S:q0i}(h:Rel K φ S H){n:Nat}{a:Addr}{o:SO}{u:HO}(e:φ[n]?=some a)(m:Mono H (upd H a u))(ho:ObjR K (upd H a u) φ o a):Rel K φ (S.set n o) (upd H a u):=by
 refine⟨by simp[h.len],h.nd,fun i b o' q r=>?_⟩
 by_cases hi:i=n
 ·subst hi
  rw[e]at q
  cases q
  have hl:i<S.length:=by rw[<-h.len];exact(List.getElem?_eq_some_iff.mp e).1
  rw[List.getElem?_set_self hl]at r
  cases r
  exact ho
 ·rw[List.getElem?_set_ne (fun z=>hi z.symm)]at r
  have hb:b≠a:=fun z=>by
   subst z
   have h1:=List.getElem?_eq_some_iff.mp q
   have h2:=List.getElem?_eq_some_iff.mp e
   obtain⟨l1,e1⟩:=h1
   obtain⟨l2,e2⟩:=h2
   exact hi ((List.getElem_inj h.nd).mp (e1.trans e2.symm))
  exact(h.obj i b o' q r).mono m (List.prefix_refl _) fun u' z=>by rw[q0z hb];exact z
theorem Mono.lst{a:Addr}{xs:List V}{u:HO}(e:H a=some (.lst xs)):Mono H (upd H a u):=
 ⟨fun b xs q=>by rw[q0z (z2l q e (by intro z;cases z))];exact q,fun b o w q=>by rw[q0z (z2l q e (by intro z;cases z))];exact q,fun b f q=>by rw[q0z (z2l q e (by intro z;cases z))];exact q,fun b c ws q=>⟨ws,by rw[q0z (z2l q e (by intro z;cases z))];exact q⟩⟩
theorem Mono.dict{a:Addr}{xs:List (Key×V)}{u:HO}(e:H a=some (.dK xs)):Mono H (upd H a u):=
 ⟨fun b xs q=>by rw[q0z (z2l q e (by intro z;cases z))];exact q,fun b o w q=>by rw[q0z (z2l q e (by intro z;cases z))];exact q,fun b f q=>by rw[q0z (z2l q e (by intro z;cases z))];exact q,fun b c ws q=>⟨ws,by rw[q0z (z2l q e (by intro z;cases z))];exact q⟩⟩
abbrev EK:=PV->q0i->Prop
structure GX where
 ek:EK
 xh:PV->Hp->Prop
structure LRel(K:Frag)(G:GX)(H:Hp)(φ:List Addr)(σ:Loc)(σV:St):Prop where
 len:σ.length=σV.length
 at':∀(i:Nat)(v:PV),σ[i]?=some (some v)->∃x,σV[i]?=some (some x)/\RV K H φ v x
 kx:∀v S' φ' H',G.ek v S'->φ <+: φ'->Mono H H'->Rel K φ' S' H'->G.xh v H'
theorem LRel.mono{G:GX}(m:Mono H H')(p:φ <+: φ'){σ:Loc}{σV:St}(h:LRel K G H φ σ σV):LRel K G H' φ' σ σV:=
 ⟨h.len,fun i v e=>let ⟨x,a,b⟩:=h.at' i v e;⟨x,a,RV.mono m p _ _ b⟩,fun v S1 φ1 H1 g p1 m1 r=>h.kx v S1 φ1 H1 g (p.trans p1) (m.trans m1) r⟩
theorem LRel.set{G:GX}{σ:Loc}{σV:St}(h:LRel K G H φ σ σV)(i:Nat){v:PV}{x:V}(r:RV K H φ v x):LRel K G H φ (σ.set i (some v)) (σV.set i (some x)):=by
 refine⟨by simp[h.len],fun j u e=>?_,h.kx⟩
 by_cases hj:j=i
 ·subst hj
  have hl:j<σ.length:=by
   have:=(List.getElem?_eq_some_iff.mp e).1
   simpa using this
  rw[List.getElem?_set_self hl]at e
  cases e
  exact⟨x,List.getElem?_set_self (by rw[<-h.len];exact hl),r⟩
 ·rw[List.getElem?_set_ne (fun z=>hj z.symm)]at e
  rw[List.getElem?_set_ne (fun z=>hj z.symm)]
  exact h.at' j u e
end
end Ev
namespace Ev
open PySem L2
abbrev VC:=PV->q0i->Prop
abbrev WE:=Loc->q0i->EK->VC->Prop
abbrev WT:=Loc->q0i->EK->(Bool->q0i->Prop)->Prop
abbrev WA:=Loc->q0i->EK->(List PV->q0i->Prop)->Prop
def KE(K:Frag)(φ:List Addr)(H:Hp)(Q0:VC)(Q:VK):Prop:=∀v S' φ' H' x,Q0 v S'->φ <+: φ'->Mono H H'->Rel K φ' S' H'->RV K H' φ' v x->Q x H'
def KB(K:Frag)(φ:List Addr)(H:Hp)(Q0:Bool->q0i->Prop)(Q:Bool->Hp->Prop):Prop:=∀v S' φ' H',Q0 v S'->φ <+: φ'->Mono H H'->Rel K φ' S' H'->Q v H'
def KL(K:Frag)(φ:List Addr)(H:Hp)(Q0:List PV->q0i->Prop)(Q:List V->Hp->Prop):Prop:=∀v S' φ' H' x,Q0 v S'->φ <+: φ'->Mono H H'->Rel K φ' S' H'->RVs K H' φ' v x->Q x H'
theorem KE.up{K:Frag}{φ φ1:List Addr}{H H1:Hp}{Q0:VC}{Q:VK}(k:KE K φ H Q0 Q)(p:φ <+: φ1)(m:Mono H H1):KE K φ1 H1 Q0 Q:=fun v S' φ' H' x q p' m'=>k v S' φ' H' x q (p.trans p') (m.trans m')
theorem KB.up{K:Frag}{φ φ1:List Addr}{H H1:Hp}{Q0:Bool->q0i->Prop}{Q:Bool->Hp->Prop}(k:KB K φ H Q0 Q)(p:φ <+: φ1)(m:Mono H H1):KB K φ1 H1 Q0 Q:=fun v S' φ' H' q p' m'=>k v S' φ' H' q (p.trans p') (m.trans m')
theorem KL.up{K:Frag}{φ φ1:List Addr}{H H1:Hp}{Q0:List PV->q0i->Prop}{Q:List V->Hp->Prop}(k:KL K φ H Q0 Q)(p:φ <+: φ1)(m:Mono H H1):KL K φ1 H1 Q0 Q:=fun v S' φ' H' x q p' m'=>k v S' φ' H' x q (p.trans p') (m.trans m')
def q8i(K:Frag)(G:GX)(w:WE):TE:=fun σV H Q=>∃φ σ S Q0,LRel K G H φ σ σV/\Rel K φ S H/\w σ S G.ek Q0/\KE K φ H Q0 Q
def z2o(K:Frag)(G:GX)(w:WT):TT:=fun σV H Q=>∃φ σ S Q0,LRel K G H φ σ σV/\Rel K φ S H/\w σ S G.ek Q0/\KB K φ H Q0 Q
def x6w(K:Frag)(G:GX)(w:WA):TA:=fun σV H Q=>∃φ σ S Q0,LRel K G H φ σ σV/\Rel K φ S H/\w σ S G.ek Q0/\KL K φ H Q0 Q
def SimE(X:Cx)(G:GX)(e:Expr)(w:WE):Prop:=PE X e (q8i X.K G w)
def SimT(X:Cx)(G:GX)(e:Expr)(w:WT):Prop:=PT X e (z2o X.K G w)
def SimW(X:Cx)(G:GX)(e:Expr)(w:WT):Prop:=PW X e (z2o X.K G w)
def SimA(X:Cx)(G:GX)(es:List Expr)(w:WA):Prop:=PA X es (x6w X.K G w)
theorem _root_.L2.PE.imp{X:Cx}{e:Expr}{t t':TE}(h:PE X e t)(i:∀σ H Q,t' σ H Q->t σ H Q):PE X e t':=fun pins s σ H Q I q=>h pins s σ H Q I (i σ H Q q)
theorem _root_.L2.PT.imp{X:Cx}{e:Expr}{t t':TT}(h:PT X e t)(i:∀σ H Q,t' σ H Q->t σ H Q):PT X e t':=fun pins s σ H Q I q=>h pins s σ H Q I (i σ H Q q)
theorem _root_.L2.PW.imp{X:Cx}{e:Expr}{t t':TT}(h:PW X e t)(i:∀σ H Q,t' σ H Q->t σ H Q):PW X e t':=fun wh pins s σ H Q I q=>h wh pins s σ H Q I (i σ H Q q)
theorem _root_.L2.PA.imp{X:Cx}{e:List Expr}{t t':TA}(h:PA X e t)(i:∀σ H Q,t' σ H Q->t σ H Q):PA X e t':=fun pos pins s σ H Q I q=>h pos pins s σ H Q I (i σ H Q q)
def wVar(i:Nat):WE:=fun σ S _ Q=>match σ[i]? with
 |some (some v)=>Q v S
 |_=>False
def wC(v:PV):WE:=fun _ S _ Q=>Q v S
section
variable{X:Cx}{G:GX}{pos:Pos}
theorem q0b(i:Nat){x:Str}(hN:X.N[i]?=some x:=by rfl)(hv:Vis X.env.scope x:=by first|exact Or.inl rfl|exact Or.inr (Or.inl rfl)|exact Or.inr (Or.inr rfl))(hd:(x==("__debug__" : Str))=false:=by decide)(hcd:(x==("__classdict__" : Str))=false:=by decide) :
  SimE X G (.Name x pos) (wVar i):=by
 refine(x5q (i:=i) hN hv hd hcd).imp fun σV H Q hh1=>?_
 obtain⟨φ,σ,S,Q0,L,R,h,k⟩:=hh1
 unfold wVar at h
 split at h
 ·rename_i v e
  obtain⟨x,e',r⟩:=L.at' i v e
  exact⟨x,e',k v S φ H x h (List.prefix_refl _) (.refl _) R r⟩
 ·exact h.elim
theorem q7z{e:Expr}{v:V}(p:PV)(h:PE X e (tC v))(r:∀H φ,RV X.K H φ p v):SimE X G e (wC p):=
 h.imp fun σV H Q hh1=>by obtain⟨φ,σ,S,Q0,L,R,h,k⟩:=hh1;exact(k p S φ H v h (List.prefix_refl _) (.refl _) R (r H φ))
theorem q0f {i j}:SimE X G (.Constant (.int i) j pos) (wC (.int i)):=q7z _ x5w fun _ _=>rfl
theorem q7r {i j}:SimE X G (.Constant (.bool i) j pos) (wC (.bl i)):=q7z _ w0m fun _ _=>rfl
theorem q0h {i j}:SimE X G (.Constant (.str i) j pos) (wC (.str i)):=q7z _ x5r fun _ _=>rfl
theorem q6m {j}:SimE X G (.Constant .none j pos) (wC .non):=q7z _ x5u fun _ _=>rfl
structure GlobV(K:Frag)(mg:Str->Option Value)(x:Str)(p:PV):Prop where
 is:∃u v,mg x=some u/\RelV v u/\∀H φ,RV K H φ p v
theorem q2i{x:Str}{p:PV}(g:GlobV X.K X.mg x p)(hg:Gl X x:=by rfl)(hd:(x==("__debug__" : Str))=false:=by decide):SimE X G (.Name x pos) (wC p):=by
 obtain⟨u,v,h1,h2,h3⟩:=g.is
 exact q7z p (y1k hg h1 h2 hd) h3
theorem q4v{x:Str}{T:String}(hm:X.mg x=none)(hb:bootBuiltins x=some (.type T))(hg:Gl X x:=by rfl)(hn:x≠ "__name__" :=by decide)(hd:(x==("__debug__" : Str))=false:=by decide):SimE X G (.Name x pos) (wC (.ty T)):=
 q7z (v:=.ty T) _ (y1m hg hm hb rfl hn hd) fun _ _=>rfl
end
abbrev F2:=PV->PV->q0i->VC->Prop
def wBin(f:F2)(wa wb:WE):WE:=fun σ S E Q=>wa σ S E fun x S1=>wb σ S1 E fun y S2=>f x y S2 Q
def q5e(K:Frag)(f:F2):R2:=fun x' y' H Q=>∃φ S x y Q0,Rel K φ S H/\RV K H φ x x'/\RV K H φ y y'/\f x y S Q0/\KE K φ H Q0 Q
section
variable{X:Cx}{G:GX}{pos:Pos}{a b:Expr}{wa wb:WE}{f:F2}
theorem q9i{σV:St}{H:Hp}{Q:VK}(h:q8i X.K G (wBin f wa wb) σV H Q):tOp (q5e X.K f) (q8i X.K G wa) (q8i X.K G wb) σV H Q:=by
 obtain⟨φ,σ,S,Q0,L,R,h,k⟩:=h
 refine⟨φ,σ,S,_,L,R,h,fun v S1 φ1 H1 x q p1 m1 R1 r1=>?_⟩
 refine⟨φ1,σ,S1,_,L.mono m1 p1,R1,q,fun u S2 φ2 H2 y q2 p2 m2 R2 r2=>?_⟩
 exact⟨φ2,S2,v,u,Q0,R2,RV.mono m2 p2 _ _ r1,r2,q2,k.up (p1.trans p2) (m1.trans m2)⟩
theorem q0j{op:Operator}(ho:OpR X (binaryOp op) (q5e X.K f))(ha:SimE X G a wa)(hb:SimE X G b wb):SimE X G (.BinOp a op b pos) (wBin f wa wb):=(w0j ho ha hb).imp fun _ _ _ h=>q9i h
theorem q8b{op:CmpOp}(ho:OpR X (compareOp op) (q5e X.K f))(ha:SimE X G a wa)(hb:SimE X G b wb)(hm:behindInMarks op b=false):SimE X G (.Compare a [op] [b] pos) (wBin f wa wb):=(x1m ho ha hb hm).imp fun _ _ _ h=>q9i h
def q0u(w:WE):WT:=fun σ S E Q=>w σ S E fun x S1=>match x with
 |.bl c=>Q c S1
 |_=>False
theorem y2g{w:WE}{t:TE}(i:∀σ H Q,q8i X.K G w σ H Q->t σ H Q){σV:St}{H:Hp}{Q:Bool->Hp->Prop}(h:z2o X.K G (q0u w) σV H Q):x4q t σV H Q:=by
 obtain⟨φ,σ,S,Q0,L,R,h,k⟩:=h
 refine i _ _ _ ⟨φ,σ,S,_,L,R,h,fun v S1 φ1 H1 x q p1 m1 R1 r1=>?_⟩
 cases v with
 |bl c=>exact⟨c,r1,k c S1 φ1 H1 q p1 m1 R1⟩
 |_=>exact q.elim
theorem q0l{op:CmpOp}(ho:OpR X (compareOp op) (q5e X.K f))(ha:SimE X G a wa)(hb:SimE X G b wb)(hm:behindInMarks op b=false):SimT X G (.Compare a [op] [b] pos) (q0u (wBin f wa wb)):=
 (x0z ho ha hb hm).imp fun _ _ _ h=>y2g (fun _ _ _ h=>q9i h) h
end
def truK(x:PV)(S:q0i)(Q:Bool->q0i->Prop):Prop:=match x with
 |.non=>Q false S
 |.bl b=>Q b S
 |.int i=>Q (i != 0) S
 |.str y=>y.length<=sizeLine/\Q (!decide (y.length=0)) S
 |.tup xs=>Q (!xs.isEmpty) S
 |.frl xs=>Q (!xs.isEmpty) S
 |.ref n=>match S[n]? with
  |some (.lst xs)=>Q (!xs.isEmpty) S
  |some (.dK xs)=>Q (!xs.isEmpty) S
  |_=>False
 |.ty _=>False
 |.exc _=>False
def wTru(w:WE):WT:=fun σ S E Q=>w σ S E fun x S1=>truK x S1 Q
theorem y3s{K:Frag}{H:Hp}{φ:List Addr}{xs:List PV}{vs:List V}(r:RVs K H φ xs vs):(!xs.isEmpty)=!vs.isEmpty:=by
 have:=r.length
 cases xs<;>cases vs<;>simp_all
theorem x0f{K:Frag}{H:Hp}{φ:List Addr}{S:q0i}{x:PV}{x':V}{Q0:Bool->q0i->Prop}{Q:Bool->Hp->Prop}(R:Rel K φ S H)(r:RV K H φ x x')(h:truK x S Q0)(k:∀b,Q0 b S->Q b H):∃b,TruV K x' H b/\Q b H:=by
 unfold truK at h
 cases x with
 |non=>cases r;exact⟨false,rfl,k _ h⟩
 |bl b=>cases r;exact⟨b,rfl,k _ h⟩
 |int i=>cases r;exact⟨_,rfl,k _ h⟩
 |str y=>
  cases r
  obtain⟨hz,h⟩:=h
  refine⟨!decide (y.length=0),⟨hz,?_⟩,k _ h⟩
  by_cases e:y.length=0
  ·rw[e];rfl
  ·rw[decide_eq_false e]
   symm
   simp only[bne_iff_ne,Bool.not_false]
   intro z
   exact e (by exact_mod_cast z)
 |tup xs=>
  obtain⟨a,vs,rfl,s,rs⟩:=r
  exact⟨_,.inr (.inl ⟨vs,s,rfl⟩),k _ (by rw[<-y3s rs];exact h)⟩
 |frl xs=>
  obtain⟨a,vs,rfl,s,rs⟩:=r
  exact⟨_,.inl ⟨vs,s.sq,rfl⟩,k _ (by rw[<-y3s rs];exact h)⟩
 |ref n=>
  obtain⟨a,rfl,e⟩:=r
  dsimp only at h
  split at h
  ·rename_i xs es
   obtain⟨vs,e1,rs⟩:=R.obj n a _ e es
   exact⟨_,.inl ⟨vs,SqL.of e1,rfl⟩,k _ (by rw[<-y3s rs];exact h)⟩
  ·rename_i xs es
   obtain⟨vs,e1,rs⟩:=R.obj n a _ e es
   have:(!xs.isEmpty)=!vs.isEmpty:=by cases rs<;>rfl
   exact⟨_,.inr (.inr ⟨vs,e1,rfl⟩),k _ (by rw[<-this];exact h)⟩
  ·exact h.elim
 |ty n=>exact h.elim
 |exc c=>exact h.elim
section
variable{X:Cx}{G:GX}{pos:Pos}{a b c:Expr}{wa wb:WE}{ta tb:WT}{rest:List Expr}
theorem q1h(ha:SimE X G a wa)(he:∀whole,isTrue a X.env whole=(do let v <-whole;standAt a.pos;holding [v] (truthy v)):=by intro _;rfl):SimT X G a (wTru wa):=
 (y5v ha he).imp fun σV H Q hh1=>by obtain⟨φ,σ,S,Q0,L,R,h,k⟩:=hh1;exact(⟨φ,σ,S,_,L,R,h,fun v S1 φ1 H1 x q p1 m1 R1 r1=>x0f R1 r1 q fun b q=>k b S1 φ1 H1 q p1 m1 R1⟩)
def wAnd(ta tb:WT):WT:=fun σ S E Q=>ta σ S E fun c S1=>if c=true then tb σ S1 E Q else Q false S1
def wOr(ta tb:WT):WT:=fun σ S E Q=>ta σ S E fun c S1=>if c=true then Q true S1 else tb σ S1 E Q
def wNot(ta:WT):WT:=fun σ S E Q=>ta σ S E fun c S1=>Q (!c) S1
theorem SimW.t{e:Expr}{w:WT}(h:SimW X G e w):SimT X G e w:=h _
theorem q2n(ha:SimT X G a ta):SimW X G (.BoolOp .And [a] pos) ta:=x0y ha
theorem q3b(ha:SimT X G a ta):SimW X G (.BoolOp .Or [a] pos) ta:=x5c ha
theorem q2s(ha:SimT X G a ta)(hb:SimW X G (.BoolOp .And (b::rest) pos) tb):SimW X G (.BoolOp .And (a::b::rest) pos) (wAnd ta tb):=
 (x5d ha hb).imp fun σV H Q hh1=>by obtain⟨φ,σ,S,Q0,L,R,h,k⟩:=hh1;exact(⟨φ,σ,S,_,L,R,h,fun c S1 φ1 H1 q p1 m1 R1=>by
  cases c with
  |true=>exact ⟨φ1,σ,S1,_,L.mono m1 p1,R1,q,k.up p1 m1⟩
  |false=>exact k false S1 φ1 H1 q p1 m1 R1⟩)
theorem q2y(ha:SimT X G a ta)(hb:SimW X G (.BoolOp .Or (b::rest) pos) tb):SimW X G (.BoolOp .Or (a::b::rest) pos) (wOr ta tb):=
 (w0f ha hb).imp fun σV H Q hh1=>by obtain⟨φ,σ,S,Q0,L,R,h,k⟩:=hh1;exact(⟨φ,σ,S,_,L,R,h,fun c S1 φ1 H1 q p1 m1 R1=>by
  cases c with
  |false=>exact ⟨φ1,σ,S1,_,L.mono m1 p1,R1,q,k.up p1 m1⟩
  |true=>exact k true S1 φ1 H1 q p1 m1 R1⟩)
theorem q4g(ha:SimT X G a ta):SimT X G (.UnaryOp .Not a pos) (wNot ta):=
 (x5e ha).imp fun σV H Q hh1=>by obtain⟨φ,σ,S,Q0,L,R,h,k⟩:=hh1;exact(⟨φ,σ,S,_,L,R,h,fun c S1 φ1 H1 q p1 m1 R1=>k (!c) S1 φ1 H1 q p1 m1 R1⟩)
def z0r(wa wb:WE):WE:=fun σ S E Q=>wa σ S E fun x S1=>match x with
 |.bl c=>if c=true then wb σ S1 E Q else Q (.bl false) S1
 |_=>False
def wOrV(wa wb:WE):WE:=fun σ S E Q=>wa σ S E fun x S1=>match x with
 |.bl c=>if c=true then Q (.bl true) S1 else wb σ S1 E Q
 |_=>False
def z9w(wa:WE):WE:=fun σ S E Q=>wa σ S E fun x S1=>match x with
 |.bl c=>Q (.bl (!c)) S1
 |_=>False
theorem q9s {op} (h:SimE X G a wa):SimE X G (.BoolOp op [a] pos) wa:=x5s h
theorem q8c(ha:SimE X G a wa)(hb:SimE X G (.BoolOp .And (b::rest) pos) wb):SimE X G (.BoolOp .And (a::b::rest) pos) (z0r wa wb):=
 (x5z ha hb).imp fun σV H Q hh1=>by obtain⟨φ,σ,S,Q0,L,R,h,k⟩:=hh1;exact(⟨φ,σ,S,_,L,R,h,fun v S1 φ1 H1 x q p1 m1 R1 r1=>by
  cases v with
  |bl c=>
   refine ⟨c,r1,?_⟩
   cases c with
   |true=>exact ⟨φ1,σ,S1,_,L.mono m1 p1,R1,q,k.up p1 m1⟩
   |false=>exact k _ S1 φ1 H1 _ q p1 m1 R1 rfl
  |_=>exact q.elim⟩)
theorem x4v(ha:SimE X G a wa)(hb:SimE X G (.BoolOp .Or (b::rest) pos) wb):SimE X G (.BoolOp .Or (a::b::rest) pos) (wOrV wa wb):=
 (w0i ha hb).imp fun σV H Q hh1=>by obtain⟨φ,σ,S,Q0,L,R,h,k⟩:=hh1;exact(⟨φ,σ,S,_,L,R,h,fun v S1 φ1 H1 x q p1 m1 R1 r1=>by
  cases v with
  |bl c=>
   refine ⟨c,r1,?_⟩
   cases c with
   |false=>exact ⟨φ1,σ,S1,_,L.mono m1 p1,R1,q,k.up p1 m1⟩
   |true=>exact k _ S1 φ1 H1 _ q p1 m1 R1 rfl
  |_=>exact q.elim⟩)
theorem y0o(ha:SimE X G a wa):SimE X G (.UnaryOp .Not a pos) (z9w wa):=
 (x5t ha).imp fun σV H Q hh1=>by obtain⟨φ,σ,S,Q0,L,R,h,k⟩:=hh1;exact(⟨φ,σ,S,_,L,R,h,fun v S1 φ1 H1 x q p1 m1 R1 r1=>by
  cases v with
  |bl c=>exact ⟨c,r1,k _ S1 φ1 H1 _ q p1 m1 R1 rfl⟩
  |_=>exact q.elim⟩)
def wIf(t:WT)(wa wb:WE):WE:=fun σ S E Q=>t σ S E fun c S1=>if c=true then wa σ S1 E Q else wb σ S1 E Q
theorem y0s(hc:SimT X G c ta)(ha:SimE X G a wa)(hb:SimE X G b wb):SimE X G (.IfExp c a b pos) (wIf ta wa wb):=
 (y6j hc ha hb).imp fun σV H Q hh1=>by obtain⟨φ,σ,S,Q0,L,R,h,k⟩:=hh1;exact(⟨φ,σ,S,_,L,R,h,fun c S1 φ1 H1 q p1 m1 R1=>by
  cases c with
  |true=>exact ⟨φ1,σ,S1,_,L.mono m1 p1,R1,q,k.up p1 m1⟩
  |false=>exact ⟨φ1,σ,S1,_,L.mono m1 p1,R1,q,k.up p1 m1⟩⟩)
def wNeg(wa:WE):WE:=fun σ S E Q=>wa σ S E fun x S1=>match x with
 |.int i=>Q (.int (-i)) S1
 |_=>False
theorem q9t(ha:SimE X G a wa):SimE X G (.UnaryOp .USub a pos) (wNeg wa):=
 (w0h x4i ha).imp fun σV H Q hh1=>by obtain⟨φ,σ,S,Q0,L,R,h,k⟩:=hh1;exact(⟨φ,σ,S,_,L,R,h,fun v S1 φ1 H1 x q p1 m1 R1 r1=>by
  cases v with
  |int c=>exact ⟨c,r1,k _ S1 φ1 H1 _ q p1 m1 R1 rfl⟩
  |_=>exact q.elim⟩)
def wNil:WA:=fun _ S _ Q=>Q [] S
def q0e(wa:WE)(wr:WA):WA:=fun σ S E Q=>wa σ S E fun x S1=>wr σ S1 E fun xs S2=>Q (x::xs) S2
theorem q0c:SimA X G [] wNil:=y1p.imp fun σV H Q hh1=>by obtain⟨φ,σ,S,Q0,L,R,h,k⟩:=hh1;exact(k [] S φ H [] h (List.prefix_refl _) (.refl _) R rfl)
theorem q0a{e:Expr}{es:List Expr}{we:WE}{wr:WA}(ha:SimE X G e we)(hr:SimA X G es wr)(hs:starEach (e::es) X.env=(false,eval e X.env)::starEach es X.env:=by rfl):SimA X G (e::es) (q0e we wr):=
 (q9x ha hr hs).imp fun σV H Q hh1=>by obtain⟨φ,σ,S,Q0,L,R,h,k⟩:=hh1;exact(⟨φ,σ,S,_,L,R,h,fun v S1 φ1 H1 x q p1 m1 R1 r1=>
  ⟨φ1,σ,S1,_,L.mono m1 p1,R1,q,fun vs S2 φ2 H2 xs q2 p2 m2 R2 r2=>k (v::vs) S2 φ2 H2 (x::xs) q2 (p1.trans p2) (m1.trans m2) R2 (.cons (RV.mono m2 p2 _ _ r1) r2)⟩⟩)
def wTup(w:WA):WE:=fun σ S E Q=>w σ S E fun xs S1=>xs.length<=sizeLine/\Q (.tup xs) S1
def wLst(w:WA):WE:=fun σ S E Q=>w σ S E fun xs S1=>xs.length<=sizeLine/\Q (.ref S1.length) (S1++[.lst xs])
variable{es:List Expr}{w:WA}
theorem KE.tup{K:Frag}{φ:List Addr}{H:Hp}{Q0:VC}{Q:VK}{S:q0i}{xs:List PV}{vs:List V}(k:KE K φ H Q0 Q)(q:Q0 (.tup xs) S)(R:Rel K φ S H)(r:RVs K H φ xs vs):∀p,H p=none->Q (.ref p) (upd H p (.tup vs)):=fun p hp=>
 k _ S φ _ _ q (List.prefix_refl _) (.new _ hp) (R.frame _ hp) ⟨p,vs,rfl,SqT.of q2h,RVs.mono (.new _ hp) (List.prefix_refl _) _ _ r⟩
theorem KE.lst{K:Frag}{φ:List Addr}{H:Hp}{Q0:VC}{Q:VK}{S:q0i}{xs:List PV}{vs:List V}(k:KE K φ H Q0 Q)(q:Q0 (.ref S.length) (S++[.lst xs]))(R:Rel K φ S H)(r:RVs K H φ xs vs):∀p,H p=none->Q (.ref p) (upd H p (.lst vs)):=fun p hp=>
 k _ (S++[.lst xs]) (φ++[p]) _ _ q (List.prefix_append _ _) (.new _ hp) (R.new (o:=.lst xs) hp ⟨vs,q2h,RVs.mono (.new _ hp) (List.prefix_append _ _) _ _ r⟩) (show RV K _ _ (.ref S.length) _ from⟨p,rfl,by rw[<-R.len];simp⟩)
theorem q1p {x1} (h:SimA X G es w):SimE X G (.Tuple es x1 pos) (wTup w):=
 (y9c h).imp fun σV H Q hh1=>by obtain⟨φ,σ,S,Q0,L,R,h,k⟩:=hh1;exact(⟨φ,σ,S,_,L,R,h,fun vs S1 φ1 H1 xs hh2 p1 m1 R1 r1=>by obtain⟨hz,q⟩:=hh2;exact(⟨by rw[<-r1.length];exact hz,(k.up p1 m1).tup q R1 r1⟩)⟩)
theorem q1v(h:SimA X G es w):SimE X G (.List es pos) (wLst w):=
 (x5v h).imp fun σV H Q hh1=>by obtain⟨φ,σ,S,Q0,L,R,h,k⟩:=hh1;exact(⟨φ,σ,S,_,L,R,h,fun vs S1 φ1 H1 xs hh2 p1 m1 R1 r1=>by obtain⟨hz,q⟩:=hh2;exact(⟨by rw[<-r1.length];exact hz,(k.up p1 m1).lst q R1 r1⟩)⟩)
end
def q5q(S:q0i)(n:Nat):Option (List PV):=match S[n]? with
 |some (.lst xs)=>some xs
 |_=>none
def q3c(S:q0i)(n:Nat):Option (List PV):=match S[n]? with
 |some (.lst xs)=>some xs
 |_=>none
def x3e(S:q0i)(n:Nat):Option (List (Key×PV)):=match S[n]? with
 |some (.dK xs)=>some xs
 |_=>none
section
variable{K:Frag}{H:Hp}{φ:List Addr}{S:q0i}
theorem y2e{n:Nat}{xs:List PV}(e:q5q S n=some xs):S[n]?=some (.lst xs):=by
 unfold q5q at e
 split at e
 ·cases e;assumption
 ·cases e
theorem y3w{n:Nat}{xs:List (Key×PV)}(e:x3e S n=some xs):S[n]?=some (.dK xs):=by
 unfold x3e at e
 split at e
 ·cases e;assumption
 ·cases e
theorem Rel.lst(R:Rel K φ S H){n:Nat}{a:Addr}{xs:List PV}(q:φ[n]?=some a)(e:q5q S n=some xs):∃vs,H a=some (.lst vs)/\RVs K H φ xs vs:=R.obj n a _ q (y2e e)
theorem Rel.dic(R:Rel K φ S H){n:Nat}{a:Addr}{xs:List (Key×PV)}(q:φ[n]?=some a)(e:x3e S n=some xs):∃vs,H a=some (.dK vs)/\RKs K H φ xs vs:=R.obj n a _ q (y3w e)
theorem Rel.seq(R:Rel K φ S H){n:Nat}{a:Addr}{xs:List PV}(q:φ[n]?=some a)(e:q3c S n=some xs):∃vs,SqL K H a vs/\RVs K H φ xs vs:=by
 unfold q3c at e
 split at e
 ·rename_i ys es
  cases e
  obtain⟨vs,e1,r⟩:=R.obj n a _ q es
  exact⟨vs,SqL.of e1,r⟩
 ·cases e
end
def bAdd:F2:=fun x y S Q=>match x,y with
 |.int i,.int j=>Q (.int (i+j)) S
 |.str a,.str b=>a.length+b.length<=sizeLine/\Q (.str (a++b)) S
 |.tup xs,.tup ys=>xs.length+ys.length<=sizeLine/\Q (.tup (xs++ys)) S
 |.ref m,.ref n=>match q5q S m,q5q S n with
  |some xs,some ys=>xs.length+ys.length<=sizeLine/\Q (.ref S.length) (S++[.lst (xs++ys)])
  |_,_=>False
 |_,_=>False
def bI(C:Int->Int->Prop)(g:Int->Int->PV):F2:=fun x y S Q=>match x,y with
 |.int i,.int j=>C i j/\Q (g i j) S
 |_,_=>False
def bSub:F2:=bI (fun _ _=>True) fun i j=>.int (i-j)
def q5h:F2:=bI (fun _ j=>0<j/\j<2 ^ 100) fun i j=>.int (i / j)
def bMod:F2:=bI (fun _ j=>0<j) fun i j=>.int (i % j)
def bPow:F2:=bI CPow fun i j=>.int (i ^ j.toNat)
def cLt:F2:=bI (fun _ _=>True) fun i j=>.bl (decide (i<j))
def cLe:F2:=bI (fun _ _=>True) fun i j=>.bl (decide (i<=j))
def cGt:F2:=bI (fun _ _=>True) fun i j=>.bl (decide (j<i))
def cGe:F2:=bI (fun _ _=>True) fun i j=>.bl (decide (j<=i))
def bMul:F2:=fun x y S Q=>match x,y with
 |.int i,.int j=>CMul i j/\Q (.int (i*j)) S
 |.ref m,.int k=>match q5q S m with
  |some xs=>(-(2 ^ 63)<=k/\k<2 ^ 63/\xs.length*k.toNat<=sizeLine)/\Q (.ref S.length) (S++[.lst (List.replicate k.toNat xs).flatten])
  |none=>False
 |_,_=>False
section
variable{X:Cx}
theorem z5w{f:Value->Value->Sem Value}{C D:Int->Int->Prop}{g:Int->Int->PV}{gV:Int->Int->V}(ho:OpR X f (rI D gV))(hd:∀i j,C i j->D i j)(hg:∀i j H φ,RV X.K H φ (g i j) (gV i j)):OpR X f (q5e X.K (bI C g)):=by
 rintro pins s σ H x y v u Q I rx ry ⟨φ,S,px,py,Q0,R,hx,hy,h,k⟩
 unfold bI at h
 split at h
 ·rename_i i j
  exact ho pins s σ H x y v u Q I rx ry ⟨i,j,hx,hy,hd i j h.1,k _ S φ H _ h.2 (List.prefix_refl _) (.refl _) R (hg i j H φ)⟩
 ·exact h.elim
theorem OpR.of0{f:Value->Value->Sem Value}{gV:Int->Int->V}(ho:OpR X f (rI0 gV)):OpR X f (rI (fun _ _=>True) gV):=fun pins s σ H x y v u Q I rx ry hh1=>by obtain⟨i,j,a,b,_,q⟩:=hh1;exact(ho pins s σ H x y v u Q I rx ry ⟨i,j,a,b,q⟩)
theorem q4l:OpR X (binaryOp .Sub) (q5e X.K bSub):=z5w (OpR.of0 x6d) (fun _ _ h=>h) fun _ _ _ _=>rfl
theorem q3i:OpR X (binaryOp .FloorDiv) (q5e X.K q5h):=z5w y6n (fun _ _ h=>h) fun _ _ _ _=>rfl
theorem q1q:OpR X (binaryOp .Mod) (q5e X.K bMod):=z5w x6h (fun _ _ h=>h) fun _ _ _ _=>rfl
theorem y1r:OpR X (binaryOp .Pow) (q5e X.K bPow):=z5w x6f (fun _ _ h=>h) fun _ _ _ _=>rfl
theorem q9y:OpR X (compareOp .Lt) (q5e X.K cLt):=z5w (OpR.of0 w0o) (fun _ _ h=>h) fun _ _ _ _=>rfl
theorem q4s:OpR X (compareOp .Gt) (q5e X.K cGt):=z5w (OpR.of0 w0p) (fun _ _ h=>h) fun _ _ _ _=>rfl
theorem x6c:OpR X (compareOp .GtE) (q5e X.K cGe):=z5w (OpR.of0 w0q) (fun _ _ h=>h) fun _ _ _ _=>rfl
theorem q8f:OpR X (binaryOp .Mult) (q5e X.K bMul):=by
 rintro pins s σ H x y v u Q I rx ry ⟨φ,S,px,py,Q0,R,hx,hy,h,k⟩
 unfold bMul at h
 split at h
 ·rename_i i j
  exact x6g pins s σ H x y v u Q I rx ry ⟨i,j,hx,hy,h.1,k _ S φ H _ h.2 (List.prefix_refl _) (.refl _) R rfl⟩
 ·rename_i m kk
  split at h
  ·rename_i xs e
   obtain⟨a,rfl,qa⟩:=hx
   cases hy
   obtain⟨vs,ea,r⟩:=R.lst qa e
   obtain⟨⟨h1,h2,h3⟩,h⟩:=h
   exact x6e pins s σ H _ _ v u Q I rx ry ⟨a,kk,vs,rfl,rfl,ea,h1,h2,by rw[<-r.length];exact h3,k.lst h R (r.rep _)⟩
  ·exact h.elim
 ·exact h.elim
theorem q0t:OpR X (binaryOp .Add) (q5e X.K bAdd):=by
 rintro pins s σ H x y v u Q I rx ry ⟨φ,S,px,py,Q0,R,hx,hy,h,k⟩
 unfold bAdd at h
 split at h
 ·rename_i i j
  exact x6k pins s σ H x y v u Q I rx ry ⟨i,j,hx,hy,k _ S φ H _ h (List.prefix_refl _) (.refl _) R rfl⟩
 ·rename_i a b
  exact z8w pins s σ H x y v u Q I rx ry ⟨a,b,hx,hy,h.1,k _ S φ H _ h.2 (List.prefix_refl _) (.refl _) R rfl⟩
 ·rename_i xs ys
  obtain⟨a,vs,rfl,sa,ra⟩:=hx
  obtain⟨b,ws,rfl,sb,rb⟩:=hy
  refine y6o pins s σ H _ _ v u Q I rx ry ?_
  by_cases hv:vs=[]
  ·subst hv
   have:xs=[]:=List.length_eq_zero_iff.mp (by rw[ra.length];rfl)
   subst this
   exact .inl ⟨a,b,ws,rfl,rfl,sa,sb,k _ S φ H _ h.2 (List.prefix_refl _) (.refl _) R ⟨b,ws,rfl,sb,rb⟩⟩
  ·refine .inr ⟨a,b,vs,ws,rfl,rfl,sa,sb,hv,by rw[<-ra.length,<-rb.length];exact h.1,fun hw=>?_,fun _=>k.tup h.2 R (ra.append rb)⟩
   subst hw
   have:ys=[]:=List.length_eq_zero_iff.mp (by rw[rb.length];rfl)
   subst this
   refine k _ S φ H _ h.2 (List.prefix_refl _) (.refl _) R ?_
   rw[List.append_nil]
   exact⟨a,vs,rfl,sa,ra⟩
 ·rename_i m n
  split at h
  ·rename_i xs ys e1 e2
   obtain⟨a,rfl,qa⟩:=hx
   obtain⟨b,rfl,qb⟩:=hy
   obtain⟨vs,ea,ra⟩:=R.lst qa e1
   obtain⟨ws,eb,rb⟩:=R.lst qb e2
   exact x6j pins s σ H _ _ v u Q I rx ry ⟨a,b,vs,ws,rfl,rfl,ea,eb,by rw[<-ra.length,<-rb.length];exact h.1,k.lst h.2 R (ra.append rb)⟩
  ·exact h.elim
 ·exact h.elim
def z6w:F2:=fun x y S Q=>match x,y with
 |.int i,.int j=>Q (.int (i+j)) S
 |.str a,.str b=>a.length+b.length<=sizeLine/\Q (.str (a++b)) S
 |_,_=>False
theorem x2u:PIp X .Add (fun x' y' H Q=>q5e X.K z6w x' y' H Q):=by
 rintro pins s σ H x y v u Q I rx ry ⟨φ,S,px,py,Q0,R,hx,hy,h,k⟩
 unfold z6w at h
 split at h
 ·rename_i i j
  exact x7m pins s σ H x y v u Q I rx ry ⟨i,j,hx,hy,k _ S φ H _ h (List.prefix_refl _) (.refl _) R rfl⟩
 ·rename_i a b
  exact z6s pins s σ H x y v u Q I rx ry ⟨a,b,hx,hy,h.1,k _ S φ H _ h.2 (List.prefix_refl _) (.refl _) R rfl⟩
 ·exact h.elim
end
mutual
def eqB:PV->PV->Bool
 |.non,y=>match y with
  |.non=>true
  |_=>false
 |.bl a,y=>match y with
  |.bl b=>a==b
  |.int b=>(if a then 1 else 0)==b
  |_=>false
 |.int a,y=>match y with
  |.bl b=>a==(if b then 1 else 0)
  |.int b=>a==b
  |_=>false
 |.str a,y=>match y with
  |.str b=>a==b
  |_=>false
 |.tup xs,y=>match y with
  |.tup ys=>eqBs xs ys
  |_=>false
 |.ty _,_=>false
 |.frl _,_=>false
 |.ref _,_=>false
 |.exc _,_=>false
def eqBs:List PV->List PV->Bool
 |[],ys=>ys.isEmpty
 |x::xs,ys=>match ys with
  |[]=>false
  |y::r=>eqB x y&&eqBs xs r
end
mutual
def nrf:PV->Bool
 |.ty _=>false
 |.frl _=>false
 |.ref _=>false
 |.exc _=>false
 |.tup xs=>nrfs xs
 |_=>true
def nrfs:List PV->Bool
 |[]=>true
 |x::xs=>nrf x&&nrfs xs
end
mutual
def dep:PV->Nat
 |.tup xs=>1+deps xs
 |_=>0
def deps:List PV->Nat
 |[]=>0
 |x::xs=>max (dep x) (deps xs)
end
theorem z7w:∀{xs ys:List PV},eqBs xs ys=true->xs.length=ys.length
 |[],ys,h=>by cases ys<;>simp_all [eqBs]
 |x::xs,ys,h=>by
  cases ys with
  |nil=>simp[eqBs]at h
  |cons y r=>
   simp only[eqBs,Bool.and_eq_true]at h
   simp[z7w h.2]
theorem q5w:∀(xs ys:List PV),eqBs xs ys=((List.range (min xs.length ys.length)).all (fun j=>eqB (xs.getD j .non) (ys.getD j .non))&&xs.length==ys.length)
 |[],ys=>by cases ys<;>simp[eqBs]
 |x::xs,ys=>by
  cases ys with
  |nil=>simp[eqBs]
  |cons y r=>
   have e:min (x::xs).length (y::r).length=min xs.length r.length+1:=by simp only[List.length_cons];omega
   rw[e,List.range_succ_eq_map,List.all_cons,List.all_map]
   simp only[eqBs,q5w xs r,List.length_cons,Function.comp]
   rw[Bool.and_assoc]
   congr 2
   by_cases h:xs.length=r.length
   ·simp[h]
   ·simp[h]
mutual
theorem z7x:∀x:PV,nrf x=true->eqB x x=true
 |.non,_=>rfl
 |.bl b,_=>by simp[eqB]
 |.int i,_=>by simp[eqB]
 |.str x,_=>by simp[eqB]
 |.tup xs,h=>by simp only[eqB];exact z4u xs (by simpa[nrf]using h)
 |.ty _,h=>by simp[nrf]at h
 |.frl _,h=>by simp[nrf]at h
 |.ref _,h=>by simp[nrf]at h
 |.exc _,h=>by simp[nrf]at h
theorem z4u:∀xs:List PV,nrfs xs=true->eqBs xs xs=true
 |[],_=>rfl
 |x::xs,h=>by
  simp only[nrfs,Bool.and_eq_true]at h
  simp only[eqBs,z7x x h.1,z4u xs h.2,Bool.and_self]
end
section
variable{X:Cx}{pins:List (Addr×Obj)}{s:Shared}{σ:St}{H:Hp}{φ:List Addr}
mutual
theorem RV.inj(I:Inv X pins σ H s):∀(x y:PV)(v:V),nrf x=true->nrf y=true->RV X.K H φ x v->RV X.K H φ y v->x=y
 |.non,y,v,_,hy,r,q=>by cases y<;>simp_all [RV,nrf]
 |.bl b,y,v,_,hy,r,q=>by cases y<;>simp_all [RV,nrf]
 |.int b,y,v,_,hy,r,q=>by cases y<;>simp_all [RV,nrf]
 |.str b,y,v,_,hy,r,q=>by cases y<;>simp_all [RV,nrf]
 |.ty _,y,v,h,hy,r,q=>by simp[nrf]at h
 |.frl _,y,v,h,hy,r,q=>by simp[nrf]at h
 |.ref _,y,v,h,hy,r,q=>by simp[nrf]at h
 |.exc _,y,v,h,hy,r,q=>by simp[nrf]at h
 |.tup xs,y,v,h,hy,r,q=>by
  obtain⟨a,vs,rfl,sa,ra⟩:=r
  cases y with
  |tup ys=>
   obtain⟨b,ws,e,sb,rb⟩:=q
   cases e
   have:=I.tuple_inj sa sb
   subst this
   rw[RVs.inj I xs ys vs (by simpa[nrf]using h) (by simpa[nrf]using hy) ra rb]
  |non=>cases q
  |bl _=>cases q
  |int _=>cases q
  |str _=>cases q
  |ty _=>simp[nrf]at hy
  |frl _=>simp[nrf]at hy
  |ref _=>simp[nrf]at hy
  |exc _=>simp[nrf]at hy
theorem RVs.inj(I:Inv X pins σ H s):∀(xs ys:List PV)(vs:List V),nrfs xs=true->nrfs ys=true->RVs X.K H φ xs vs->RVs X.K H φ ys vs->xs=ys
 |[],ys,vs,_,_,r,q=>by
  rw[show vs=[]from r]at q
  exact(List.length_eq_zero_iff.mp (by rw[RVs.length q];rfl)).symm
 |x::xs,ys,vs,h,h',r,q=>by
  obtain⟨v,ws,rfl,r1,r2⟩:=r
  cases ys with
  |nil=>cases(show v::ws=[]from q)
  |cons y ys=>
   obtain⟨v',ws',e,q1,q2⟩:=q
   cases e
   simp only[nrfs,Bool.and_eq_true]at h h'
   rw[RV.inj I x y v h.1 h'.1 r1 q1,RVs.inj I xs ys ws h.2 h'.2 r2 q2]
end
theorem q5v(A:Around):A.in1.units=A.units+1:=rfl
theorem q5n{vs:List V}{its:List Value}(r:Vals vs its){j:Nat}(h:j<its.toArray.size){x:V}(e:vs[j]?=some x):RelV x its.toArray[j]:=by
 obtain⟨u,e1,r1⟩:=r.get e
 have:its.toArray[j]=u:=by
  have h':j<its.length:=by simpa using h
  rw[List.getElem?_eq_getElem h']at e1
  simpa using e1
 rw[this]
 exact r1
theorem q2j:∀{xs:List PV}{j:Nat}{x:PV},nrfs xs=true->xs[j]?=some x->nrf x=true
 |[],_,_,_,e=>by simp at e
 |x::xs,0,y,h,e=>by simp[nrfs]at h e;subst e;exact h.1
 |x::xs,j+1,y,h,e=>by simp[nrfs]at h e;exact q2j h.2 e
theorem q6d:∀{xs:List PV}{j:Nat}{x:PV},xs[j]?=some x->dep x<=deps xs
 |[],_,_,e=>by simp at e
 |x::xs,0,y,e=>by simp at e;subst e;simp only[deps];omega
 |x::xs,j+1,y,e=>by simp at e;have:=q6d e;simp only[deps];omega
theorem q3o{xs:List PV}{j:Nat}{x:PV}(e:xs[j]?=some x):xs.getD j .non=x:=by rw[List.getD_eq_getElem?_getD,e];rfl
theorem z4w(I:Inv X pins σ H s):∀(d:Nat)(A:Around)(x y:PV)(x' y':V)(v u:Value),nrf x=true->nrf y=true->dep x<=d->A.units+d<cLine->RV X.K H φ x x'->RV X.K H φ y y'->RelV x' v->RelV y' u->SeqAt.EqAt A s v u (eqB x y):=by
 intro d
 induction d with
 |zero=>
  intro A x y x' y' v u hx hy hd hu rx ry qx qy
  cases x with
  |tup xs=>simp[dep]at hd
  |non=>
   cases rx;cases qx
   cases y with
   |non=>cases ry;cases qy;exact .same _
   |bl b=>cases ry;cases qy;exact .none_bool b
   |int b=>cases ry;obtain⟨t,rfl⟩:=qy;exact .none_int b t
   |str b=>cases ry;obtain⟨t,rfl⟩:=qy;exact .none_str b t
   |tup ys=>obtain⟨b,ws,rfl,sb,rb⟩:=ry;cases qy;obtain⟨_,_,p,_⟩:=I.tuple sb;exact .none_tuple p (by omega)
   |ty _=>simp[nrf]at hy
   |frl _=>simp[nrf]at hy
   |ref _=>simp[nrf]at hy
   |exc _=>simp[nrf]at hy
  |bl a=>
   cases rx;cases qx
   cases y with
   |non=>cases ry;cases qy;exact .bool_none a
   |bl b=>cases ry;cases qy;exact .bool_bool a b
   |int b=>cases ry;obtain⟨t,rfl⟩:=qy;exact .bool_int a b t
   |str b=>cases ry;obtain⟨t,rfl⟩:=qy;exact .bool_str a b t
   |tup ys=>obtain⟨b,ws,rfl,sb,rb⟩:=ry;cases qy;obtain⟨_,_,p,_⟩:=I.tuple sb;exact .bool_tuple a p (by omega)
   |ty _=>simp[nrf]at hy
   |frl _=>simp[nrf]at hy
   |ref _=>simp[nrf]at hy
   |exc _=>simp[nrf]at hy
  |int a=>
   cases rx;obtain⟨t,rfl⟩:=qx
   cases y with
   |non=>cases ry;cases qy;exact .int_none a t
   |bl b=>cases ry;cases qy;exact .int_bool a t b
   |int b=>cases ry;obtain⟨t',rfl⟩:=qy;exact .int_int a t b t'
   |str b=>cases ry;obtain⟨t',rfl⟩:=qy;exact .int_str a t b t'
   |tup ys=>obtain⟨b,ws,rfl,sb,rb⟩:=ry;cases qy;obtain⟨_,_,p,_⟩:=I.tuple sb;exact .int_tuple a t p (by omega)
   |ty _=>simp[nrf]at hy
   |frl _=>simp[nrf]at hy
   |ref _=>simp[nrf]at hy
   |exc _=>simp[nrf]at hy
  |str a=>
   cases rx;obtain⟨t,rfl⟩:=qx
   cases y with
   |non=>cases ry;cases qy;exact .str_none a t
   |bl b=>cases ry;cases qy;exact .str_bool a t b
   |int b=>cases ry;obtain⟨t',rfl⟩:=qy;exact .str_int a t b t'
   |str b=>cases ry;obtain⟨t',rfl⟩:=qy;exact .str_str a t b t'
   |tup ys=>obtain⟨b,ws,rfl,sb,rb⟩:=ry;cases qy;obtain⟨_,_,p,_⟩:=I.tuple sb;exact .str_tuple a t p (by omega)
   |ty _=>simp[nrf]at hy
   |frl _=>simp[nrf]at hy
   |ref _=>simp[nrf]at hy
   |exc _=>simp[nrf]at hy
  |ty _=>simp[nrf]at hx
  |frl _=>simp[nrf]at hx
  |ref _=>simp[nrf]at hx
  |exc _=>simp[nrf]at hx
 |succ d ih=>
  intro A x y x' y' v u hx hy hd hu rx ry qx qy
  cases x with
  |tup xs=>
   obtain⟨a,vs,rfl,sa,ra⟩:=id rx
   cases qx
   obtain⟨its,r1,p1,_⟩:=I.tuple sa
   cases y with
   |non=>cases ry;cases qy;exact .tuple_none p1 (by omega)
   |bl b=>cases ry;cases qy;exact .tuple_bool b p1 (by omega)
   |int b=>cases ry;obtain⟨t,rfl⟩:=qy;exact .tuple_int b t p1 (by omega)
   |str b=>cases ry;obtain⟨t,rfl⟩:=qy;exact .tuple_str b t p1 (by omega)
   |ty _=>simp[nrf]at hy
   |frl _=>simp[nrf]at hy
   |ref _=>simp[nrf]at hy
   |exc _=>simp[nrf]at hy
   |tup ys=>
    obtain⟨b,ws,rfl,sb,rb⟩:=id ry
    cases qy
    obtain⟨its2,r2,p2,_⟩:=I.tuple sb
    by_cases hab:a=b
    ·subst hab
     rw[RV.inj I _ _ _ hx hy rx ry,z7x _ hy]
     exact .same _
    ·refine .of_refs hab ?_
     have e:eqB (.tup xs) (.tup ys)=((List.range (min its.toArray.size its2.toArray.size)).all (fun j=>eqB (xs.getD j .non) (ys.getD j .non))&&its.toArray.size==its2.toArray.size):=by
      simp only[eqB]
      rw[q5w,List.size_toArray,List.size_toArray,<-r1.length,<-r2.length,ra.length,rb.length]
     rw[e]
     refine .tuples p1 p2 (by omega) fun j h1 h2=>?_
     have hj1:j<xs.length:=by rw[ra.length,r1.length];simpa using h1
     have hj2:j<ys.length:=by rw[rb.length,r2.length];simpa using h2
     have e1:xs[j]?=some xs[j]:=List.getElem?_eq_getElem hj1
     have e2:ys[j]?=some ys[j]:=List.getElem?_eq_getElem hj2
     obtain⟨v1,g1,q1⟩:=ra.get e1
     obtain⟨v2,g2,q2⟩:=rb.get e2
     rw[q3o e1,q3o e2]
     have hdd:=q6d e1
     simp only[dep]at hd
     exact ih A.in1 _ _ v1 v2 _ _ (q2j (by simpa[nrf]using hx) e1) (q2j (by simpa[nrf]using hy) e2) (by omega) (by rw[q5v];omega) q1 q2 (q5n r1 h1 g1) (q5n r2 h2 g2)
  |non=>exact ih A _ _ x' y' v u hx hy (Nat.zero_le _) (by omega) rx ry qx qy
  |bl a=>exact ih A _ _ x' y' v u hx hy (Nat.zero_le _) (by omega) rx ry qx qy
  |int a=>exact ih A _ _ x' y' v u hx hy (Nat.zero_le _) (by omega) rx ry qx qy
  |str a=>exact ih A _ _ x' y' v u hx hy (Nat.zero_le _) (by omega) rx ry qx qy
  |ty _=>simp[nrf]at hx
  |frl _=>simp[nrf]at hx
  |ref _=>simp[nrf]at hx
  |exc _=>simp[nrf]at hx
end
section
variable{X:Cx}{pins:List (Addr×Obj)}{s:Shared}{σ:St}{H:Hp}{φ:List Addr}
theorem y9b(I:Inv X pins σ H s)(d:Nat)(A:Around)(x y:PV)(x' y':V)(v u:Value)(hx:nrf x=true)(hy:nrf y=true)(hd:∀xs ys,x=.tup xs->y=.tup ys->dep x<=d)(hu:A.units+d<cLine)(rx:RV X.K H φ x x')(ry:RV X.K H φ y y')(qx:RelV x' v)(qy:RelV y' u):SeqAt.RcAt A s v u (eqB x y):=by
 cases x with
 |non=>
  cases rx
  cases qx
  cases y with
  |non=>cases ry;cases qy;exact .none_none
  |bl b=>cases ry;cases qy;exact .none_bool b
  |int b=>cases ry;obtain⟨t',rfl⟩:=qy;exact .none_int b t'
  |str b=>cases ry;obtain⟨t',rfl⟩:=qy;exact .none_str b t'
  |tup ys=>obtain⟨b,ws,rfl,sb,rb⟩:=ry;cases qy;obtain⟨_,_,p,_⟩:=I.tuple sb;exact .none_tuple  p (by omega)
  |ty _=>simp[nrf]at hy
  |frl _=>simp[nrf]at hy
  |ref _=>simp[nrf]at hy
  |exc _=>simp[nrf]at hy
 |bl a=>
  cases rx
  cases qx
  cases y with
  |non=>cases ry;cases qy;exact .bool_none a
  |bl b=>cases ry;cases qy;exact .bool_bool a b
  |int b=>cases ry;obtain⟨t',rfl⟩:=qy;exact .bool_int a b t'
  |str b=>cases ry;obtain⟨t',rfl⟩:=qy;exact .bool_str a b t'
  |tup ys=>obtain⟨b,ws,rfl,sb,rb⟩:=ry;cases qy;obtain⟨_,_,p,_⟩:=I.tuple sb;exact .bool_tuple a p (by omega)
  |ty _=>simp[nrf]at hy
  |frl _=>simp[nrf]at hy
  |ref _=>simp[nrf]at hy
  |exc _=>simp[nrf]at hy
 |int a=>
  cases rx
  obtain⟨t,rfl⟩:=qx
  cases y with
  |non=>cases ry;cases qy;exact .int_none a t
  |bl b=>cases ry;cases qy;exact .int_bool a t b
  |int b=>cases ry;obtain⟨t',rfl⟩:=qy;exact .int_int a t b t'
  |str b=>cases ry;obtain⟨t',rfl⟩:=qy;exact .int_str a t b t'
  |tup ys=>obtain⟨b,ws,rfl,sb,rb⟩:=ry;cases qy;obtain⟨_,_,p,_⟩:=I.tuple sb;exact .int_tuple a t p (by omega)
  |ty _=>simp[nrf]at hy
  |frl _=>simp[nrf]at hy
  |ref _=>simp[nrf]at hy
  |exc _=>simp[nrf]at hy
 |str a=>
  cases rx
  obtain⟨t,rfl⟩:=qx
  cases y with
  |non=>cases ry;cases qy;exact .str_none a t
  |bl b=>cases ry;cases qy;exact .str_bool a t b
  |int b=>cases ry;obtain⟨t',rfl⟩:=qy;exact .str_int a t b t'
  |str b=>cases ry;obtain⟨t',rfl⟩:=qy;exact .str_str a t b t'
  |tup ys=>obtain⟨b,ws,rfl,sb,rb⟩:=ry;cases qy;obtain⟨_,_,p,_⟩:=I.tuple sb;exact .str_tuple a t p (by omega)
  |ty _=>simp[nrf]at hy
  |frl _=>simp[nrf]at hy
  |ref _=>simp[nrf]at hy
  |exc _=>simp[nrf]at hy
 |ty _=>simp[nrf]at hx
 |frl _=>simp[nrf]at hx
 |ref _=>simp[nrf]at hx
 |exc _=>simp[nrf]at hx
 |tup xs=>
  obtain⟨a,vs,rfl,sa,ra⟩:=id rx
  cases qx
  obtain⟨its,r1,p1,_⟩:=I.tuple sa
  cases y with
  |non=>cases ry;cases qy;exact .tuple_none p1 (by omega)
  |bl b=>cases ry;cases qy;exact .tuple_bool b p1 (by omega)
  |int b=>cases ry;obtain⟨t,rfl⟩:=qy;exact .tuple_int b t p1 (by omega)
  |str b=>cases ry;obtain⟨t,rfl⟩:=qy;exact .tuple_str b t p1 (by omega)
  |ty _=>simp[nrf]at hy
  |frl _=>simp[nrf]at hy
  |ref _=>simp[nrf]at hy
  |exc _=>simp[nrf]at hy
  |tup ys=>
   obtain⟨b,ws,rfl,sb,rb⟩:=id ry
   cases qy
   obtain⟨its2,r2,p2,_⟩:=I.tuple sb
   have e:eqB (.tup xs) (.tup ys)=((List.range (min its.toArray.size its2.toArray.size)).all (fun j=>eqB (xs.getD j .non) (ys.getD j .non))&&its.toArray.size==its2.toArray.size):=by
    simp only[eqB]
    rw[q5w,List.size_toArray,List.size_toArray,<-r1.length,<-r2.length,ra.length,rb.length]
   rw[e]
   have hd':=hd xs ys rfl rfl
   simp only[dep]at hd'
   refine .tuples p1 p2 (by omega) fun j h1 h2=>?_
   have hj1:j<xs.length:=by rw[ra.length,r1.length];simpa using h1
   have hj2:j<ys.length:=by rw[rb.length,r2.length];simpa using h2
   have e1:xs[j]?=some xs[j]:=List.getElem?_eq_getElem hj1
   have e2:ys[j]?=some ys[j]:=List.getElem?_eq_getElem hj2
   obtain⟨v1,g1,q1⟩:=ra.get e1
   obtain⟨v2,g2,q2⟩:=rb.get e2
   rw[q3o e1,q3o e2]
   have hdd:=q6d e1
   exact z4w I (d-1) A.in1 _ _ v1 v2 _ _ (q2j (by simpa[nrf]using hx) e1) (q2j (by simpa[nrf]using hy) e2) (by omega) (by rw[q5v];omega) q1 q2 (q5n r1 h1 g1) (q5n r2 h2 g2)
theorem z7m(I:Inv X pins σ H s)(d:Nat)(A:Around)(x y:PV)(x' y':V)(v u:Value)(hx:nrf x=true)(hy:nrf y=true)(hd:∀xs ys,x=.tup xs->y=.tup ys->dep x<=d)(hu:A.units+d<cLine)(rx:RV X.K H φ x x')(ry:RV X.K H φ y y')(qx:RelV x' v)(qy:RelV y' u):SeqAt.RcNeAt A s v u (!eqB x y):=by
 cases x with
 |non=>
  cases rx
  cases qx
  cases y with
  |non=>cases ry;cases qy;exact .none_none
  |bl b=>cases ry;cases qy;exact .none_bool b
  |int b=>cases ry;obtain⟨t',rfl⟩:=qy;exact .none_int b t'
  |str b=>cases ry;obtain⟨t',rfl⟩:=qy;exact .none_str b t'
  |tup ys=>obtain⟨b,ws,rfl,sb,rb⟩:=ry;cases qy;obtain⟨_,_,p,_⟩:=I.tuple sb;exact .none_tuple  p (by omega)
  |ty _=>simp[nrf]at hy
  |frl _=>simp[nrf]at hy
  |ref _=>simp[nrf]at hy
  |exc _=>simp[nrf]at hy
 |bl a=>
  cases rx
  cases qx
  cases y with
  |non=>cases ry;cases qy;exact .bool_none a
  |bl b=>cases ry;cases qy;exact .bool_bool a b
  |int b=>cases ry;obtain⟨t',rfl⟩:=qy;exact .bool_int a b t'
  |str b=>cases ry;obtain⟨t',rfl⟩:=qy;exact .bool_str a b t'
  |tup ys=>obtain⟨b,ws,rfl,sb,rb⟩:=ry;cases qy;obtain⟨_,_,p,_⟩:=I.tuple sb;exact .bool_tuple a p (by omega)
  |ty _=>simp[nrf]at hy
  |frl _=>simp[nrf]at hy
  |ref _=>simp[nrf]at hy
  |exc _=>simp[nrf]at hy
 |int a=>
  cases rx
  obtain⟨t,rfl⟩:=qx
  cases y with
  |non=>cases ry;cases qy;exact .int_none a t
  |bl b=>cases ry;cases qy;exact .int_bool a t b
  |int b=>cases ry;obtain⟨t',rfl⟩:=qy;exact .int_int a t b t'
  |str b=>cases ry;obtain⟨t',rfl⟩:=qy;exact .int_str a t b t'
  |tup ys=>obtain⟨b,ws,rfl,sb,rb⟩:=ry;cases qy;obtain⟨_,_,p,_⟩:=I.tuple sb;exact .int_tuple a t p (by omega)
  |ty _=>simp[nrf]at hy
  |frl _=>simp[nrf]at hy
  |ref _=>simp[nrf]at hy
  |exc _=>simp[nrf]at hy
 |str a=>
  cases rx
  obtain⟨t,rfl⟩:=qx
  cases y with
  |non=>cases ry;cases qy;exact .str_none a t
  |bl b=>cases ry;cases qy;exact .str_bool a t b
  |int b=>cases ry;obtain⟨t',rfl⟩:=qy;exact .str_int a t b t'
  |str b=>cases ry;obtain⟨t',rfl⟩:=qy;exact .str_str a t b t'
  |tup ys=>obtain⟨b,ws,rfl,sb,rb⟩:=ry;cases qy;obtain⟨_,_,p,_⟩:=I.tuple sb;exact .str_tuple a t p (by omega)
  |ty _=>simp[nrf]at hy
  |frl _=>simp[nrf]at hy
  |ref _=>simp[nrf]at hy
  |exc _=>simp[nrf]at hy
 |ty _=>simp[nrf]at hx
 |frl _=>simp[nrf]at hx
 |ref _=>simp[nrf]at hx
 |exc _=>simp[nrf]at hx
 |tup xs=>
  obtain⟨a,vs,rfl,sa,ra⟩:=id rx
  cases qx
  obtain⟨its,r1,p1,_⟩:=I.tuple sa
  cases y with
  |non=>cases ry;cases qy;exact .tuple_none p1 (by omega)
  |bl b=>cases ry;cases qy;exact .tuple_bool b p1 (by omega)
  |int b=>cases ry;obtain⟨t,rfl⟩:=qy;exact .tuple_int b t p1 (by omega)
  |str b=>cases ry;obtain⟨t,rfl⟩:=qy;exact .tuple_str b t p1 (by omega)
  |ty _=>simp[nrf]at hy
  |frl _=>simp[nrf]at hy
  |ref _=>simp[nrf]at hy
  |exc _=>simp[nrf]at hy
  |tup ys=>
   obtain⟨b,ws,rfl,sb,rb⟩:=id ry
   cases qy
   obtain⟨its2,r2,p2,_⟩:=I.tuple sb
   have e:eqB (.tup xs) (.tup ys)=((List.range (min its.toArray.size its2.toArray.size)).all (fun j=>eqB (xs.getD j .non) (ys.getD j .non))&&its.toArray.size==its2.toArray.size):=by
    simp only[eqB]
    rw[q5w,List.size_toArray,List.size_toArray,<-r1.length,<-r2.length,ra.length,rb.length]
   rw[e]
   have hd':=hd xs ys rfl rfl
   simp only[dep]at hd'
   refine .tuples p1 p2 (by omega) fun j h1 h2=>?_
   have hj1:j<xs.length:=by rw[ra.length,r1.length];simpa using h1
   have hj2:j<ys.length:=by rw[rb.length,r2.length];simpa using h2
   have e1:xs[j]?=some xs[j]:=List.getElem?_eq_getElem hj1
   have e2:ys[j]?=some ys[j]:=List.getElem?_eq_getElem hj2
   obtain⟨v1,g1,q1⟩:=ra.get e1
   obtain⟨v2,g2,q2⟩:=rb.get e2
   rw[q3o e1,q3o e2]
   have hdd:=q6d e1
   exact z4w I (d-1) A.in1 _ _ v1 v2 _ _ (q2j (by simpa[nrf]using hx) e1) (q2j (by simpa[nrf]using hy) e2) (by omega) (by rw[q5v];omega) q1 q2 (q5n r1 h1 g1) (q5n r2 h2 g2)
theorem z8j{f:PV->Bool}{e:Value->Bool}:∀{its:List Value}{ys:List PV},its.length=ys.length->(∀(j:Nat) u y,its[j]?=some u->ys[j]?=some y->e u=f y)->its.any e=ys.any f
 |[],[],_,_=>rfl
 |u::its,y::ys,hl,he=>by
  rw[List.any_cons,List.any_cons,he 0 u y rfl rfl,z8j (by simpa using hl) fun j u y h1 h2=>he (j+1) u y (by simpa using h1) (by simpa using h2)]
 |[],_::_,hl,_=>by simp at hl
 |_::_,[],hl,_=>by simp at hl
end
def okEq(x:PV):Prop:=nrf x=true/\dep x<=190
def q5p(xs:List PV):Prop:=nrfs xs=true/\deps xs<=190
def cEqG(neg:Bool):F2:=fun x y S Q=>match x,y with
 |.tup xs,.tup ys=>(okEq (.tup xs)/\okEq (.tup ys))/\Q (.bl (neg ^^ eqBs xs ys)) S
 |.ref m,.ref n=>match q3c S m,q3c S n with
  |some xs,some ys=>(q5p xs/\q5p ys)/\Q (.bl (neg ^^ eqBs xs ys)) S
  |_,_=>False
 |.ref _,_=>False
 |_,.ref _=>False
 |x,y=>(nrf x=true/\nrf y=true)/\Q (.bl (neg ^^ eqB x y)) S
def cEq:F2:=cEqG false
def cNe:F2:=cEqG true
theorem y3m:∀{xs ys:List PV},xs.length≠ys.length->eqBs xs ys=false:=fun {xs ys} h=>by
 cases e:eqBs xs ys with
 |false=>rfl
 |true=>exact absurd (z7w e) h
theorem y3n{xs ys:List PV}(h:xs.length=ys.length):eqBs xs ys=(List.range xs.length).all (fun j=>eqB (xs.getD j .non) (ys.getD j .non)):=by
 rw[q5w,<-h,Nat.min_self];simp
section
variable{X:Cx}
theorem q2x(b:Bool):(false ^^ b)=b:=by cases b<;>rfl
theorem q2w(b:Bool):(true ^^ b)=!b:=by cases b<;>rfl
theorem q9a{pins:List (Addr×Obj)}{s:Shared}{σ:St}{H:Hp}{φ:List Addr}{S:q0i}{Q0:VC}{Q:VK}{b b':Bool}(I:Inv X pins σ H s)(k:KE X.K φ H Q0 Q)(R:Rel X.K φ S H)(q:Q0 (.bl b) S)(e:b=b'):EP X pins σ Q (.bool b') s:=by
 subst e
 exact⟨.bl b,H,I,rfl,k _ S φ H _ q (List.prefix_refl _) (.refl _) R rfl⟩
theorem y3g{x y:PV}(h:∀xs ys,x=.tup xs->y=.tup ys->False)(d:Nat):∀xs ys,x=.tup xs->y=.tup ys->dep x<=d:=fun xs ys a b=>(h xs ys a b).elim
theorem q1n(hu:X.A.units+200<cLine):OpR X (compareOp .Eq) (q5e X.K cEq):=by
 rintro pins s σ H x y v u Q I rx ry ⟨φ,S,px,py,Q0,R,hx,hy,h,k⟩
 unfold cEq cEqG at h
 split at h
 ·rename_i xs ys
  obtain⟨⟨o1,o2⟩,h⟩:=h
  rw[q2x]at h
  exact y9b I 190 X.A _ _ x y v u o1.1 o2.1 (fun _ _ _ _=>o1.2) (by omega) hx hy rx ry X.prog X.w X.xe _ (q9a I k R h (by simp only[eqB]))
 ·rename_i m n
  split at h
  ·rename_i xs ys e1 e2
   obtain⟨⟨o1,o2⟩,h⟩:=h
   rw[q2x]at h
   obtain⟨a,rfl,qa⟩:=hx
   obtain⟨b,rfl,qb⟩:=hy
   obtain⟨vs,sa,ra⟩:=R.seq qa e1
   obtain⟨ws,sb,rb⟩:=R.seq qb e2
   cases rx
   cases ry
   obtain⟨its,r1,p1,_⟩:=I.list sa
   obtain⟨its2,r2,p2,_⟩:=I.list sb
   by_cases hl:xs.length=ys.length
   ·rw[y3n hl]at h
    have hz:its.toArray.size=its2.toArray.size:=by rw[List.size_toArray,List.size_toArray,<-r1.length,<-r2.length,<-ra.length,<-rb.length,hl]
    refine SeqAt.eq_listAt (e:=fun j=>eqB (xs.getD j .non) (ys.getD j .non)) p1.isList p2.isList hz (by omega) (fun j h1 h2=>?_) (q9a I k R h (by rw[List.size_toArray,<-r1.length,<-ra.length]))
    have hj1:j<xs.length:=by rw[ra.length,r1.length];simpa using h1
    have hj2:j<ys.length:=by omega
    have e1:xs[j]?=some xs[j]:=List.getElem?_eq_getElem hj1
    have e2:ys[j]?=some ys[j]:=List.getElem?_eq_getElem hj2
    obtain⟨v1,g1,q1⟩:=ra.get e1
    obtain⟨v2,g2,q2⟩:=rb.get e2
    rw[q3o e1,q3o e2]
    have hdd:=q6d e1
    have:=o1.2
    exact z4w I 190 X.A.in1 _ _ v1 v2 _ _ (q2j o1.1 e1) (q2j o2.1 e2) (by omega) (by rw[q5v];omega) q1 q2 (q5n r1 h1 g1) (q5n r2 h2 g2)
   ·rw[y3m hl]at h
    have hz:(its.toArray.size != its2.toArray.size)=true:=by rw[List.size_toArray,List.size_toArray,<-r1.length,<-r2.length,<-ra.length,<-rb.length];simpa using hl
    exact SeqAt.eq_list_lengthsAt p1.isList p2.isList hz (by omega) (q9a I k R h rfl)
  ·exact h.elim
 ·exact h.elim
 ·exact h.elim
 ·rename_i h1 h2 h3 h4
  obtain⟨⟨o1,o2⟩,h⟩:=h
  rw[q2x]at h
  exact y9b I 0 X.A _ _ x y v u o1 o2 (y3g (by assumption) _) (by omega) hx hy rx ry X.prog X.w X.xe _ (q9a I k R h rfl)
theorem q5u(hu:X.A.units+200<cLine):OpR X (compareOp .NotEq) (q5e X.K cNe):=by
 rintro pins s σ H x y v u Q I rx ry ⟨φ,S,px,py,Q0,R,hx,hy,h,k⟩
 unfold cNe cEqG at h
 split at h
 ·rename_i xs ys
  obtain⟨⟨o1,o2⟩,h⟩:=h
  rw[q2w]at h
  exact z7m I 190 X.A _ _ x y v u o1.1 o2.1 (fun _ _ _ _=>o1.2) (by omega) hx hy rx ry X.prog X.w X.xe _ (q9a I k R h (by simp only[eqB]))
 ·rename_i m n
  split at h
  ·rename_i xs ys e1 e2
   obtain⟨⟨o1,o2⟩,h⟩:=h
   rw[q2w]at h
   obtain⟨a,rfl,qa⟩:=hx
   obtain⟨b,rfl,qb⟩:=hy
   obtain⟨vs,sa,ra⟩:=R.seq qa e1
   obtain⟨ws,sb,rb⟩:=R.seq qb e2
   cases rx
   cases ry
   obtain⟨its,r1,p1,_⟩:=I.list sa
   obtain⟨its2,r2,p2,_⟩:=I.list sb
   by_cases hl:xs.length=ys.length
   ·rw[y3n hl]at h
    have hz:its.toArray.size=its2.toArray.size:=by rw[List.size_toArray,List.size_toArray,<-r1.length,<-r2.length,<-ra.length,<-rb.length,hl]
    refine SeqAt.RcNeAt.lists (e:=fun j=>eqB (xs.getD j .non) (ys.getD j .non)) p1.isList p2.isList hz (by omega) (fun j h1 h2=>?_) X.prog X.w X.xe _ (q9a I k R h (by rw[List.size_toArray,<-r1.length,<-ra.length]))
    have hj1:j<xs.length:=by rw[ra.length,r1.length];simpa using h1
    have hj2:j<ys.length:=by omega
    have e1:xs[j]?=some xs[j]:=List.getElem?_eq_getElem hj1
    have e2:ys[j]?=some ys[j]:=List.getElem?_eq_getElem hj2
    obtain⟨v1,g1,q1⟩:=ra.get e1
    obtain⟨v2,g2,q2⟩:=rb.get e2
    rw[q3o e1,q3o e2]
    have hdd:=q6d e1
    have:=o1.2
    exact z4w I 190 X.A.in1 _ _ v1 v2 _ _ (q2j o1.1 e1) (q2j o2.1 e2) (by omega) (by rw[q5v];omega) q1 q2 (q5n r1 h1 g1) (q5n r2 h2 g2)
   ·rw[y3m hl]at h
    have hz:(its.toArray.size != its2.toArray.size)=true:=by rw[List.size_toArray,List.size_toArray,<-r1.length,<-r2.length,<-ra.length,<-rb.length];simpa using hl
    exact SeqAt.RcNeAt.lists_lengths p1.isList p2.isList hz (by omega) X.prog X.w X.xe _ (q9a I k R h rfl)
  ·exact h.elim
 ·exact h.elim
 ·exact h.elim
 ·rename_i h1 h2 h3 h4
  obtain⟨⟨o1,o2⟩,h⟩:=h
  rw[q2w]at h
  exact z7m I 0 X.A _ _ x y v u o1 o2 (y3g (by assumption) _) (by omega) hx hy rx ry X.prog X.w X.xe _ (q9a I k R h rfl)
def inS(i j:Str):Bool:=!(Builtin.Str.occurrences j i 0 j.length 1).isEmpty
def cInG(neg:Bool):F2:=fun x y S Q=>match x,y with
 |.str i,.str j=>Q (.bl (neg ^^ inS i j)) S
 |x,.tup ys=>(okEq x/\q5p ys)/\Q (.bl (neg ^^ ys.any fun y=>eqB y x)) S
 |x,.ref n=>match q3c S n with
  |some ys=>(okEq x/\q5p ys)/\Q (.bl (neg ^^ ys.any fun y=>eqB y x)) S
  |none=>False
 |_,_=>False
def cIn:F2:=cInG false
def q7h:F2:=cInG true
open Classical in
theorem q9k{pins:List (Addr×Obj)}{s:Shared}{σ:St}{H:Hp}{φ:List Addr}(hu:X.A.units+200<cLine)(I:Inv X pins σ H s){x:PV}{x':V}{v:Value}{ys:List PV}{vs:List V}{its:List Value}(ox:okEq x)(oy:q5p ys)(rx:RV X.K H φ x x')(qx:RelV x' v)(ry:RVs X.K H φ ys vs)(r:Vals vs its) :
  ∃e:Value->Bool,(∀u,u∈its.toArray->SeqAt.EqAt X.A.in1 s u v (e u))/\its.toArray.any e=ys.any fun y=>eqB y x:=by
 have key:∀(j:Nat) u y,its[j]?=some u->ys[j]?=some y->∃y',RV X.K H φ y y'/\RelV y' u:=fun j u y h1 h2=>by
  obtain⟨y',g,q⟩:=ry.get h2
  obtain⟨u',g',q'⟩:=r.get g
  rw[h1]at g'
  cases g'
  exact⟨y',q,q'⟩
 refine⟨fun u=>decide (∃(j:Nat)(y:PV),its[j]?=some u/\ys[j]?=some y/\eqB y x=true),?_,?_⟩
 ·intro u hu'
  have hm:u∈its:=by simpa using hu'
  obtain⟨j,hj,e⟩:=List.mem_iff_getElem.mp hm
  have hjy:j<ys.length:=by rw[ry.length,r.length];exact hj
  have e1:its[j]?=some u:=by rw[List.getElem?_eq_getElem hj,e]
  have e2:ys[j]?=some ys[j]:=List.getElem?_eq_getElem hjy
  obtain⟨y',q,q'⟩:=key j u _ e1 e2
  have hdd:=q6d e2
  have o2:=oy.2
  have base:=z4w I 190 X.A.in1 _ x y' x' u v (q2j oy.1 e2) ox.1 (by omega) (by rw[q5v];omega) q rx q' qx
  have:decide (∃(j:Nat)(y:PV),its[j]?=some u/\ys[j]?=some y/\eqB y x=true)=eqB ys[j] x:=by
   cases hb:eqB ys[j] x with
   |true=>exact decide_eq_true ⟨j,_,e1,e2,hb⟩
   |false=>
    refine decide_eq_false ?_
    rintro⟨i,y,h1,h2,h3⟩
    obtain⟨y2,g,g'⟩:=key i u y h1 h2
    have:=g'.inj q'
    subst this
    have:=RV.inj I _ _ _ (q2j oy.1 h2) (q2j oy.1 e2) g q
    rw[this,hb]at h3
    cases h3
  dsimp only
  rw[this]
  exact base
 ·rw[List.any_toArray]
  refine z8j (by rw[<-r.length,ry.length]) fun j u y h1 h2=>?_
  obtain⟨y',q,q'⟩:=key j u y h1 h2
  cases hb:eqB y x with
  |true=>exact decide_eq_true ⟨j,_,h1,h2,hb⟩
  |false=>
   refine decide_eq_false ?_
   rintro⟨i,z,g1,g2,g3⟩
   obtain⟨y2,g,g'⟩:=key i u z g1 g2
   have:=g'.inj q'
   subst this
   have:=RV.inj I _ _ _ (q2j oy.1 g2) (q2j oy.1 h2) g q
   rw[this,hb]at g3
   cases g3
theorem q7f(hu:X.A.units+200<cLine):OpR X (compareOp .In) (q5e X.K cIn):=by
 rintro pins s σ H x y v u Q I rx ry ⟨φ,S,px,py,Q0,R,hx,hy,h,k⟩
 unfold cIn cInG at h
 split at h
 ·rename_i i j
  rw[q2x]at h
  exact y1t pins s σ H x y v u Q I rx ry ⟨i,j,hx,hy,k _ S φ H _ h (List.prefix_refl _) (.refl _) R rfl⟩
 ·rename_i ys _
  obtain⟨⟨o1,o2⟩,h⟩:=h
  rw[q2x]at h
  obtain⟨a,vs,rfl,sa,ra⟩:=hy
  cases ry
  obtain⟨its,r1,p1,_⟩:=I.tuple sa
  obtain⟨e,h1,h2⟩:=q9k hu I o1 o2 hx rx ra r1
  exact SeqAt.in_tupleAt e p1 h1 (q9a I k R h (by rw[h2]))
 ·rename_i n _
  split at h
  ·rename_i ys es
   obtain⟨⟨o1,o2⟩,h⟩:=h
   rw[q2x]at h
   obtain⟨a,rfl,qa⟩:=hy
   cases ry
   obtain⟨vs,sa,ra⟩:=R.seq qa es
   obtain⟨its,r1,p1,_⟩:=I.list sa
   obtain⟨e,h1,h2⟩:=q9k hu I o1 o2 hx rx ra r1
   exact SeqAt.in_listAt e p1.isList h1 (q9a I k R h (by rw[h2]))
  ·exact h.elim
 ·exact h.elim
theorem z3r(hu:X.A.units+200<cLine):OpR X (compareOp .NotIn) (q5e X.K q7h):=by
 rintro pins s σ H x y v u Q I rx ry ⟨φ,S,px,py,Q0,R,hx,hy,h,k⟩
 unfold q7h cInG at h
 split at h
 ·rename_i i j
  rw[q2w]at h
  exact z3s pins s σ H x y v u Q I rx ry ⟨i,j,hx,hy,k _ S φ H _ h (List.prefix_refl _) (.refl _) R rfl⟩
 ·rename_i ys _
  obtain⟨⟨o1,o2⟩,h⟩:=h
  rw[q2w]at h
  obtain⟨a,vs,rfl,sa,ra⟩:=hy
  cases ry
  obtain⟨its,r1,p1,_⟩:=I.tuple sa
  obtain⟨e,h1,h2⟩:=q9k hu I o1 o2 hx rx ra r1
  exact SeqAt.notIn_tupleAt e p1 h1 (q9a I k R h (by rw[h2]))
 ·rename_i n _
  split at h
  ·rename_i ys es
   obtain⟨⟨o1,o2⟩,h⟩:=h
   rw[q2w]at h
   obtain⟨a,rfl,qa⟩:=hy
   cases ry
   obtain⟨vs,sa,ra⟩:=R.seq qa es
   obtain⟨its,r1,p1,_⟩:=I.list sa
   obtain⟨e,h1,h2⟩:=q9k hu I o1 o2 hx rx ra r1
   exact SeqAt.notIn_listAt e p1.isList h1 (q9a I k R h (by rw[h2]))
  ·exact h.elim
 ·exact h.elim
def y7l:PV->Bool
 |.non=>true
 |_=>false
def cIs:F2:=fun x y S Q=>match y with
 |.non=>Q (.bl (y7l x)) S
 |_=>False
def z0o:F2:=fun x y S Q=>match x,y with
 |x,.non=>Q (.bl (!y7l x)) S
 |.bl a,.bl b=>Q (.bl (!decide (a=b))) S
 |_,_=>False
theorem z4q{K:Frag}{H:Hp}{φ:List Addr}{x:PV}{x':V}(r:RV K H φ x x'):decide (x'=.non)=y7l x:=by
 cases x with
 |non=>cases r;rfl
 |bl b=>cases r;exact decide_eq_false (fun z=>nomatch z)
 |int b=>cases r;exact decide_eq_false (fun z=>nomatch z)
 |str b=>cases r;exact decide_eq_false (fun z=>nomatch z)
 |ty b=>cases r;exact decide_eq_false (fun z=>nomatch z)
 |tup b=>obtain⟨a,vs,rfl,_⟩:=r;exact decide_eq_false (fun z=>nomatch z)
 |frl b=>obtain⟨a,vs,rfl,_⟩:=r;exact decide_eq_false (fun z=>nomatch z)
 |ref b=>obtain⟨a,rfl,_⟩:=r;exact decide_eq_false (fun z=>nomatch z)
 |exc b=>obtain⟨a,rfl,_⟩:=r;exact decide_eq_false (fun z=>nomatch z)
theorem x6b:OpR X (compareOp .Is) (q5e X.K cIs):=by
 rintro pins s σ H x y v u Q I rx ry ⟨φ,S,px,py,Q0,R,hx,hy,h,k⟩
 unfold cIs at h
 split at h
 ·exact x6i pins s σ H x y v u Q I rx ry ⟨hy,k _ S φ H _ h (List.prefix_refl _) (.refl _) R (by rw[z4q hx];rfl)⟩
 ·exact h.elim
theorem q9z:OpR X (compareOp .IsNot) (q5e X.K z0o):=by
 rintro pins s σ H x y v u Q I rx ry ⟨φ,S,px,py,Q0,R,hx,hy,h,k⟩
 unfold z0o at h
 split at h
 ·exact x1p pins s σ H x y v u Q I rx ry ⟨hy,k _ S φ H _ h (List.prefix_refl _) (.refl _) R (by rw[z4q hx];rfl)⟩
 ·exact y1s pins s σ H x y v u Q I rx ry ⟨_,_,hx,hy,k _ S φ H _ h (List.prefix_refl _) (.refl _) R rfl⟩
 ·exact h.elim
end
theorem z6x{K:Frag}{H:Hp}{φ:List Addr}{xs:List PV}{vs:List V}{i:Int}{v:PV}(r:RVs K H φ xs vs)(e:atI xs i=some v):∃x,atI vs i=some x/\RV K H φ v x:=by
 unfold atI at e ⊢
 rw[<-r.length]
 cases h:ixN xs.length i with
 |none=>rw[h]at e;cases e
 |some j=>
  rw[h]at e
  obtain⟨x,h1,h2⟩:=r.get (i:=j) e
  exact⟨x,h1,h2⟩
def valP(kvs:List (Key×PV))(k:Key):Option PV:=(kvs.find? fun kv=>decide (kv.1=k)).map (·.2)
def putP(kvs:List (Key×PV))(k:Key)(v:PV):List (Key×PV):=
 if kvs.any (fun kv=>decide (kv.1=k))then kvs.map fun kv=>if kv.1=k then(kv.1,v)else kv else kvs++[(k,v)]
def q7v:PV->Option Key
 |.int i=>some (.inl i)
 |.str x=>some (.inr x)
 |_=>none
theorem z6c{K:Frag}{H:Hp}{φ:List Addr}{y:PV}{y':V}{k:Key}(r:RV K H φ y y')(e:q7v y=some k):y'=kV k:=by
 cases y with
 |int i=>cases e;exact r
 |str i=>cases e;exact r
 |_=>cases e
theorem RKs.val{K:Frag}{H:Hp}{φ:List Addr}{xs:List (Key×PV)}{ys:List (Key×V)}(h:RKs K H φ xs ys)(k:Key):(∀v,valP xs k=some v->∃x,valV ys k=some x/\RV K H φ v x)/\(valP xs k=none->valV ys k=none):=by
 unfold RKs at h
 induction h with
 |nil=>exact⟨fun v e=>by simp[valP]at e,fun _=>rfl⟩
 |@cons p q ps qs hd t ih=>
  by_cases e:p.1=k
  ·have e1:valP (p::ps) k=some p.2:=by simp[valP,List.find?_cons,e]
   rw[e1,q9d (hd.1.symm.trans e)]
   exact⟨fun v z=>by cases z;exact⟨_,rfl,hd.2⟩,fun z=>by cases z⟩
  ·have e1:valP (p::ps) k=valP ps k:=by simp[valP,List.find?_cons,e]
   rw[e1,q9e (fun z=>e (hd.1.trans z))]
   exact ih
theorem RKs.any{K:Frag}{H:Hp}{φ:List Addr}{xs:List (Key×PV)}{ys:List (Key×V)}(h:RKs K H φ xs ys)(k:Key):(xs.any fun kv=>decide (kv.1=k))=ys.any fun kv=>decide (kv.1=k):=by
 unfold RKs at h
 induction h with
 |nil=>rfl
 |@cons p q ps qs hd t ih=>rw[List.any_cons,List.any_cons,ih,hd.1]
theorem RKs.repl{K:Frag}{H:Hp}{φ:List Addr}{xs:List (Key×PV)}{ys:List (Key×V)}(h:RKs K H φ xs ys)(k:Key){v:PV}{x:V}(r:RV K H φ v x):RKs K H φ (xs.map fun kv=>if kv.1=k then(kv.1,v)else kv) (ys.map fun kv=>if kv.1=k then(kv.1,x)else kv):=by
 unfold RKs at h ⊢
 induction h with
 |nil=>exact .nil
 |@cons p q ps qs hd t ih=>
  rw[List.map_cons,List.map_cons]
  refine .cons ?_ ih
  by_cases e:p.1=k
  ·rw[if_pos e,if_pos (hd.1.symm.trans e)]
   exact⟨hd.1,r⟩
  ·rw[if_neg e,if_neg (fun z=>e (hd.1.trans z))]
   exact hd
theorem RKs.snoc{K:Frag}{H:Hp}{φ:List Addr}{xs:List (Key×PV)}{ys:List (Key×V)}(h:RKs K H φ xs ys)(k:Key){v:PV}{x:V}(r:RV K H φ v x):RKs K H φ (xs++[(k,v)]) (ys++[(k,x)]):=by
 unfold RKs at h ⊢
 induction h with
 |nil=>exact .cons ⟨rfl,r⟩ .nil
 |cons hd t ih=>exact .cons hd ih
theorem RKs.put{K:Frag}{H:Hp}{φ:List Addr}{xs:List (Key×PV)}{ys:List (Key×V)}(h:RKs K H φ xs ys)(k:Key){v:PV}{x:V}(r:RV K H φ v x):RKs K H φ (putP xs k v) (putK ys k x):=by
 unfold putP putK
 rw[h.any]
 split
 ·exact h.repl k r
 ·exact h.snoc k r
theorem RKs.length{K:Frag}{H:Hp}{φ:List Addr}{xs:List (Key×PV)}{ys:List (Key×V)}(h:RKs K H φ xs ys):xs.length=ys.length:=Paired.length h
def bIx:F2:=fun x y S Q=>match x,y with
 |.tup xs,.int i=>match atI xs i with
  |some v=>Q v S
  |none=>False
 |.str z,.int i=>z.length<=sizeLine/\match atI z.cps.toList i with
  |some c=>Q (.str ⟨#[c]⟩) S
  |none=>False
 |.frl xs,.int i=>match atI xs i with
  |some v=>Q v S
  |none=>False
 |.ref n,y=>match S[n]? with
  |some (.lst xs)=>match y with
   |.int i=>match atI xs i with
    |some v=>Q v S
    |none=>False
   |_=>False
  |some (.dK kvs)=>match q7v y with
   |some k=>match valP kvs k with
    |some v=>Q v S
    |none=>False
   |none=>False
  |_=>False
 |_,_=>False
theorem x2l{X:Cx}(hu:X.A.units+200<cLine):IxR X (fun x y H Q=>∃a v,x=.ref a/\DGet H a y (some v)/\Q v H):=by
 intro value slice pins s σ H x y v u Q I rx ry h hs
 obtain⟨a,w,rfl,g,q⟩:=h
 cases rx
 exact PyProof.Rows.tail_any (z6t I g) PySem.F.slot_dict_getitem.lookup (y3z (by omega) I g ry fun w' s3 I3 rw'=>⟨w,H,I3,rw',q⟩) hs
section
variable{X:Cx}{G:GX}{pos:Pos}
theorem x2k(hu:X.A.units+200<cLine):IxR X (q5e X.K bIx):=by
 rintro value slice pins s σ H x y v u Q I rx ry ⟨φ,S,px,py,Q0,R,hx,hy,h,k⟩ hs
 unfold bIx at h
 split at h
 ·rename_i xs i
  split at h
  ·rename_i w e
   obtain⟨a,vs,rfl,sa,ra⟩:=hx
   cases hy
   obtain⟨w',e',r'⟩:=z6x ra e
   exact x7i value slice pins s σ H _ _ v u Q I rx ry ⟨a,vs,i,w',rfl,rfl,sa,e',k _ S φ H _ h (List.prefix_refl _) (.refl _) R r'⟩ hs
  ·exact h.elim
 ·rename_i z i
  obtain⟨hz,h⟩:=h
  split at h
  ·rename_i c e
   cases hx
   cases hy
   exact x7j value slice pins s σ H _ _ v u Q I rx ry ⟨z,i,c,rfl,rfl,hz,e,k _ S φ H _ h (List.prefix_refl _) (.refl _) R rfl⟩ hs
  ·exact h.elim
 ·rename_i xs i
  split at h
  ·rename_i w e
   obtain⟨a,vs,rfl,sa,ra⟩:=hx
   cases hy
   obtain⟨w',e',r'⟩:=z6x ra e
   exact y2v value slice pins s σ H _ _ v u Q I rx ry ⟨a,vs,i,w',rfl,rfl,sa.sq,e',k _ S φ H _ h (List.prefix_refl _) (.refl _) R r'⟩ hs
  ·exact h.elim
 ·rename_i n
  obtain⟨a,rfl,qa⟩:=hx
  split at h
  ·rename_i xs es
   split at h
   ·rename_i i
    split at h
    ·rename_i w e
     cases hy
     obtain⟨vs,sa,ra⟩:=R.obj n a _ qa es
     obtain⟨w',e',r'⟩:=z6x ra e
     exact y2v value slice pins s σ H _ _ v u Q I rx ry ⟨a,vs,i,w',rfl,rfl,SqL.of sa,e',k _ S φ H _ h (List.prefix_refl _) (.refl _) R r'⟩ hs
    ·exact h.elim
   ·exact h.elim
  ·rename_i kvs es
   split at h
   ·rename_i kk ek
    split at h
    ·rename_i w e
     have hk:=z6c hy ek
     subst hk
     obtain⟨ws,sa,ra⟩:=R.obj n a _ qa es
     obtain⟨w',e',r'⟩:=(ra.val kk).1 w e
     refine x2l hu value slice pins s σ H _ _ v u Q I rx ry ⟨a,w',rfl,?_,k _ S φ H _ h (List.prefix_refl _) (.refl _) R r'⟩ hs
     rw[<-e']
     exact DGet.k sa
    ·exact h.elim
   ·exact h.elim
  ·exact h.elim
 ·exact h.elim
variable{a b:Expr}{wa wb:WE}
theorem q0m(hu:X.A.units+200<cLine)(ha:SimE X G a wa)(hb:SimE X G b wb)(hs:y4n b:=by exact fun _ _=>rfl):SimE X G (.Subscript a b pos) (wBin bIx wa wb):=(w0k (x2k hu) ha hb hs).imp fun _ _ _ h=>q9i h
def cutP{α:Type}(xs:List α)(lo hi:Option Int):List α:=(xs.drop (HT.sIx xs.length 0 lo)).take (HT.sIx xs.length xs.length hi-HT.sIx xs.length 0 lo)
theorem z6v{K:Frag}{H:Hp}{φ:List Addr}{xs:List PV}{vs:List V}(lo hi:Option Int)(r:RVs K H φ xs vs):RVs K H φ (cutP xs lo hi) (cutV vs lo hi):=by
 unfold cutP cutV
 rw[<-r.length]
 exact(r.drop _).take _
abbrev F3:=PV->Option Int->Option Int->q0i->VC->Prop
def bSl:F3:=fun x lo hi S Q=>match x with
 |.str z=>z.length<=sizeLine/\Q (.str (Txt.slice z lo hi)) S
 |.tup xs=>¬(HT.sIx xs.length 0 lo=0/\HT.sIx xs.length xs.length hi=xs.length)/\Q (.tup (cutP xs lo hi)) S
 |.frl xs=>Q (.ref S.length) (S++[.lst (cutP xs lo hi)])
 |.ref n=>match q3c S n with
  |some xs=>Q (.ref S.length) (S++[.lst (cutP xs lo hi)])
  |none=>False
 |_=>False
def x6t(K:Frag)(f:F3):V->Option Int->Option Int->Hp->VK->Prop:=fun x' lo hi H Q=>∃φ S x Q0,Rel K φ S H/\RV K H φ x x'/\f x lo hi S Q0/\KE K φ H Q0 Q
theorem sls:SlR X (x6t X.K bSl):=by
 rintro pins s σ H x v vl vu lo hi sl Q I rx hs pl pu ⟨φ,S,px,Q0,R,hx,h,k⟩
 unfold bSl at h
 split at h
 ·rename_i z
  cases hx
  exact x4u pins s σ H _ v vl vu lo hi sl Q I rx hs pl pu ⟨z,rfl,h.1,k _ S φ H _ h.2 (List.prefix_refl _) (.refl _) R rfl⟩
 ·rename_i xs
  obtain⟨a,vs,rfl,sa,ra⟩:=hx
  exact x4t pins s σ H _ v vl vu lo hi sl Q I rx hs pl pu ⟨a,vs,rfl,sa,by rw[<-ra.length];exact h.1,k.tup h.2 R (z6v lo hi ra)⟩
 ·rename_i xs
  obtain⟨a,vs,rfl,sa,ra⟩:=hx
  exact y0k pins s σ H _ v vl vu lo hi sl Q I rx hs pl pu ⟨a,vs,rfl,sa.sq,k.lst h R (z6v lo hi ra)⟩
 ·rename_i n
  split at h
  ·rename_i xs es
   obtain⟨a,rfl,qa⟩:=hx
   obtain⟨vs,sa,ra⟩:=R.seq qa es
   exact y0k pins s σ H _ v vl vu lo hi sl Q I rx hs pl pu ⟨a,vs,rfl,sa,k.lst h R (z6v lo hi ra)⟩
  ·exact h.elim
 ·exact h.elim
abbrev WO:=Loc->q0i->EK->(Option Int->q0i->Prop)->Prop
def KO(K:Frag)(φ:List Addr)(H:Hp)(Q0:Option Int->q0i->Prop)(Q:Option Int->Hp->Prop):Prop:=∀v S' φ' H',Q0 v S'->φ <+: φ'->Mono H H'->Rel K φ' S' H'->Q v H'
def w0u(K:Frag)(G:GX)(w:WO):TO:=fun σV H Q=>∃φ σ S Q0,LRel K G H φ σ σV/\Rel K φ S H/\w σ S G.ek Q0/\KO K φ H Q0 Q
def SimO(X:Cx)(G:GX)(e:Option Expr)(w:WO):Prop:=PO X e (w0u X.K G w)
theorem PO.imp{e:Option Expr}{t t':TO}(h:PO X e t)(i:∀σ H Q,t' σ H Q->t σ H Q):PO X e t':=fun pins s σ H Q I q=>h pins s σ H Q I (i σ H Q q)
def q5d:WO:=fun _ S _ Q=>Q none S
def q7k(w:WE):WO:=fun σ S E Q=>w σ S E fun x S1=>match x with
 |.int i=>Q (some i) S1
 |_=>False
theorem q4r:SimO X G none q5d:=PO.imp x1h fun σV H Q hh1=>by obtain⟨φ,σ,S,Q0,L,R,h,k⟩:=hh1;exact(k none S φ H h (List.prefix_refl _) (.refl _) R)
theorem q2u{e:Expr}{w:WE}(h:SimE X G e w):SimO X G (some e) (q7k w):=
 PO.imp (x1g h) fun σV H Q hh1=>by obtain⟨φ,σ,S,Q0,L,R,h,k⟩:=hh1;exact(⟨φ,σ,S,_,L,R,h,fun v S1 φ1 H1 x q p1 m1 R1 r1=>by
  cases v with
  |int i=>exact ⟨i,r1,k _ S1 φ1 H1 q p1 m1 R1⟩
  |_=>exact q.elim⟩)
def wSl(w:WE)(wl wh:WO):WE:=fun σ S E Q=>w σ S E fun x S1=>wl σ S1 E fun lo S2=>wh σ S2 E fun hi S3=>bSl x lo hi S3 Q
theorem q4f{e:Expr}{w:WE}{lo hi:Option Expr}{wl wh:WO}{p2:Pos}(he:SimE X G e w)(hl:SimO X G lo wl)(hh:SimO X G hi wh):SimE X G (.Subscript e (.Slice lo hi none p2) pos) (wSl w wl wh):=
 (y6i sls he hl hh).imp fun σV H Q hh1=>by obtain⟨φ,σ,S,Q0,L,R,h,k⟩:=hh1;exact(⟨φ,σ,S,_,L,R,h,fun v S1 φ1 H1 x q p1 m1 R1 r1=>
  ⟨φ1,σ,S1,_,L.mono m1 p1,R1,q,fun l S2 φ2 H2 q2 p2 m2 R2=>
   ⟨φ2,σ,S2,_,(L.mono m1 p1).mono m2 p2,R2,q2,fun u S3 φ3 H3 q3 p3 m3 R3=>
    ⟨φ3,S3,v,Q0,R3,RV.mono m3 p3 _ _ (RV.mono m2 p2 _ _ r1),q3,k.up ((p1.trans p2).trans p3) ((m1.trans m2).trans m3)⟩⟩⟩⟩)
abbrev FL:=List PV->q0i->VC->Prop
def z0u(K:Frag)(f:FL):List V->Hp->VK->Prop:=fun xs' H Q=>∃φ S xs Q0,Rel K φ S H/\RVs K H φ xs xs'/\f xs S Q0/\KE K φ H Q0 Q
def wCB(f:FL)(wa:WA):WE:=fun σ S E Q=>wa σ S E fun xs S1=>f xs S1 Q
theorem y2h{f:FL}{wa:WA}{σV:St}{H:Hp}{Q:VK}(h:q8i X.K G (wCB f wa) σV H Q):tCB (z0u X.K f) (x6w X.K G wa) σV H Q:=by
 obtain⟨φ,σ,S,Q0,L,R,h,k⟩:=h
 exact⟨φ,σ,S,_,L,R,h,fun v S1 φ1 H1 x q p1 m1 R1 r1=>⟨φ1,S1,v,Q0,R1,r1,q,k.up p1 m1⟩⟩
theorem q0r{f:FL}{x:Str}{id:String}{p:Pos}{e:Expr}{es:List Expr}{wa:WA}(hc:q6g X (.builtin id) (z0u X.K f))(hm:X.mg x=none)(hv:bootBuiltins x=some (.builtin id))(ha:SimA X G (e::es) wa)(hg:Gl X x:=by rfl)(hn:x≠ "__name__" :=by decide)(hdb:(x==("__debug__" : Str))=false:=by decide)
  (he:starEach (e::es) X.env=(false,eval e X.env)::starEach es X.env:=by rfl) (hpl:(backTo pos (starEach es X.env)).any (·.1)=false:=by rfl):SimE X G (.Call (.Name x p) (e::es) [] pos) (wCB f wa):=
 (z2b hc hg hm hv ha hn hdb he hpl).imp fun _ _ _ h=>y2h h
theorem q5a{f:FL}{x:Str}{T:String}{p:Pos}{e:Expr}{es:List Expr}{wa:WA}(hc:q6g X (.type T) (z0u X.K f))(hm:X.mg x=none)(hv:bootBuiltins x=some (.type T))(ha:SimA X G (e::es) wa)(hg:Gl X x:=by rfl)(hn:x≠ "__name__" :=by decide)(hdb:(x==("__debug__" : Str))=false:=by decide)
  (he:starEach (e::es) X.env=(false,eval e X.env)::starEach es X.env:=by rfl) (hpl:(backTo pos (starEach es X.env)).any (·.1)=false:=by rfl):SimE X G (.Call (.Name x p) (e::es) [] pos) (wCB f wa):=
 (y1l hc hg hm hv ha hn hdb he hpl).imp fun _ _ _ h=>y2h h
theorem q3l{K:Frag}{H:Hp}{φ:List Addr}{x:PV}{vs:List V}(r:RVs K H φ [x] vs):∃v,vs=[v]/\RV K H φ x v:=by
 obtain⟨y,ys,rfl,r1,r2⟩:=r
 rw[show ys=[]from r2]
 exact⟨y,rfl,r1⟩
theorem q7y{K:Frag}{H:Hp}{φ:List Addr}{x y:PV}{vs:List V}(r:RVs K H φ [x,y] vs):∃v w,vs=[v,w]/\RV K H φ x v/\RV K H φ y w:=by
 obtain⟨a,as,rfl,r1,r2⟩:=r
 obtain⟨b,rfl,r3⟩:=q3l r2
 exact⟨a,b,rfl,r1,r3⟩
def fLen:FL:=fun xs S Q=>match xs with
 |[.str z]=>z.length<=sizeLine/\Q (.int z.length) S
 |[.tup xs]=>Q (.int xs.length) S
 |[.frl xs]=>Q (.int xs.length) S
 |[.ref n]=>match q3c S n with
  |some xs=>Q (.int xs.length) S
  |none=>False
 |_=>False
theorem q1b:q6g X (.builtin "len") (z0u X.K fLen):=by
 rintro pins s σ H xs us Q I r ⟨φ,S,pxs,Q0,R,hx,h,k⟩
 unfold fLen at h
 split at h
 ·rename_i z
  obtain⟨v,rfl,r1⟩:=q3l hx
  cases r1
  exact z5e pins s σ H _ us Q I r ⟨z,rfl,h.1,k _ S φ H _ h.2 (List.prefix_refl _) (.refl _) R rfl⟩
 ·rename_i ys
  obtain⟨v,rfl,a,vs,rfl,sa,ra⟩:=q3l hx
  exact q6u pins s σ H _ us Q I r ⟨a,vs,rfl,.inr sa,k _ S φ H _ h (List.prefix_refl _) (.refl _) R (by rw[<-ra.length];rfl)⟩
 ·rename_i ys
  obtain⟨v,rfl,a,vs,rfl,sa,ra⟩:=q3l hx
  exact q6u pins s σ H _ us Q I r ⟨a,vs,rfl,.inl sa.sq,k _ S φ H _ h (List.prefix_refl _) (.refl _) R (by rw[<-ra.length];rfl)⟩
 ·rename_i n
  split at h
  ·rename_i ys es
   obtain⟨v,rfl,a,rfl,qa⟩:=q3l hx
   obtain⟨vs,sa,ra⟩:=R.seq qa es
   exact q6u pins s σ H _ us Q I r ⟨a,vs,rfl,.inl sa,k _ S φ H _ h (List.prefix_refl _) (.refl _) R (by rw[<-ra.length];rfl)⟩
  ·exact h.elim
 ·exact h.elim
def tyP(x:PV)(S:q0i):Option String:=match x with
 |.non=>some "NoneType"
 |.bl _=>some "bool"
 |.int _=>some "int"
 |.str _=>some "str"
 |.tup _=>some "tuple"
 |.ref n=>match S[n]? with
  |some (.lst _)=>some "list"
  |some (.dK _)=>some "dict"
  |_=>none
 |.frl _=>some "list"
 |.ty _=>none
 |.exc _=>none
def isT(T C:String):Bool:=T==C||(T == "bool"&&C == "int")
def y2n:List String:=["NoneType", "bool", "int", "str", "tuple", "list", "dict"]
def q4t:List String:=["list", "tuple", "str", "int", "bool", "dict"]
theorem z6b(K:Frag):∀T∈y2n,∀C∈q4t,PySem.W.kitOne K (.type T) (.type C)=some (isT T C):=by
 intro T hT C hC
 simp only[y2n,List.mem_cons,List.not_mem_nil,or_false]at hT
 simp only[q4t,List.mem_cons,List.not_mem_nil,or_false]at hC
 rcases hT with rfl|rfl|rfl|rfl|rfl|rfl|rfl<;>rcases hC with rfl|rfl|rfl|rfl|rfl|rfl<;>kernel_rfl
theorem z1t {x : PV} {S : q0i} {T : String} (h : tyP x S = some T) : T ∈ y2n := by
 unfold tyP at h
 split at h
 all_goals first
  | (cases h; simp [y2n])
  | (split at h <;> first | (cases h; simp [y2n]) | cases h)
  | cases h
end
section
variable{X:Cx}{G:GX}{pos:Pos}
theorem x2s{pins:List (Addr×Obj)}{s:Shared}{σ:St}{H:Hp}{φ:List Addr}{S:q0i}{x:PV}{x':V}{u c:Value}{T:String}{b:Bool}{A:Around}{E:Value->Shared->Prop}{Q:Value->Shared->Prop}(I:Inv X pins σ H s)(R:Rel X.K φ S H)(rx:RV X.K H φ x x')(q:RelV x' u)
  (ht:tyP x S=some T) (e:PySem.W.kitOne X.K (.type T) c=some b) (h:∀tk,Q (.bool b) {s with toks:=tk}):wpAny (model X.prog X.w) A (call (.builtin "isinstance") [u,c]) Q E s:=by
 unfold tyP at ht
 split at ht
 ·cases ht;cases rx;cases(show u=Value.none from q);exact PySem.W.kia_one PySem.W.kitx_none I.kIn True.intro e (fun z=>nomatch z) h
 ·rename_i y;cases ht;cases rx;cases(show u=Value.bool y from q);exact PySem.W.kia_one PySem.W.kitx_bool I.kIn True.intro e (fun z=>nomatch z) h
 ·rename_i y;cases ht;cases rx;obtain⟨t,rfl⟩:=(show ∃t,u=Value.int y t from q);exact PySem.W.kia_one PySem.W.kitx_int I.kIn True.intro e (fun z=>nomatch z) h
 ·rename_i y;cases ht;cases rx;obtain⟨t,rfl⟩:=(show ∃t,u=Value.str y t from q);exact PySem.W.kia_one PySem.W.kitx_str I.kIn True.intro e (fun z=>nomatch z) h
 ·cases ht
  obtain⟨a,vs,rfl,sa,ra⟩:=rx
  cases q
  obtain⟨its,_,⟨o,h1,h2,_⟩,_⟩:=I.tuple sa
  exact PySem.W.kia_one PySem.W.kitx_tuple I.kIn ⟨o,h1,h2⟩ e (fun z=>nomatch z) h
 ·rename_i n
  obtain⟨a,rfl,qa⟩:=rx
  cases q
  split at ht
  ·rename_i xs es
   cases ht
   obtain⟨vs,e1,_⟩:=R.obj n a _ qa es
   exact z4o (x:=.ref a) I rfl (TyOf.lst (K:=X.K) e1) e h
  ·rename_i xs es
   cases ht
   obtain⟨vs,e1,_⟩:=R.obj n a _ qa es
   exact z4o (x:=.ref a) I rfl (TyOf.dK (K:=X.K) e1) e h
  ·cases ht
 ·cases ht
  obtain⟨a,vs,rfl,sa,ra⟩:=rx
  cases q
  obtain⟨its,_,p,_⟩:=I.list sa.sq
  obtain⟨o,h1,h2,_⟩:=p.isList
  exact PySem.W.kia_one PySem.W.kitx_list I.kIn ⟨o,h1,h2⟩ e (fun z=>nomatch z) h
 ·cases ht
 ·cases ht
theorem x2r{pins:List (Addr×Obj)}{s:Shared}{σ:St}{H:Hp}{φ:List Addr}{S:q0i}{x:PV}{x':V}{u:Value}{T:String}{p:Addr}{its:List Value}{b:Bool}{A:Around}{E:Value->Shared->Prop}{Q:Value->Shared->Prop}(I:Inv X pins σ H s)(R:Rel X.K φ S H)(rx:RV X.K H φ x x')(q:RelV x' u)
  (ht:tyP x S=some T) (ho:PyProof.Rows.IsTup s.heap p its.toArray) (e:PySem.W.kitAny X.K (.type T) its=some b) (h:∀tk,Q (.bool b) {s with toks:=tk}):wpAny (model X.prog X.w) A (call (.builtin "isinstance") [u,.ref p]) Q E s:=by
 obtain⟨⟨cls,dd,dat,sl⟩,ho,hc,n,hd⟩:=ho
 simp only at hc hd
 subst hc hd
 unfold tyP at ht
 split at ht
 ·cases ht;cases rx;cases(show u=Value.none from q);exact PySem.W.kia_tup PySem.W.kitx_none I.kIn True.intro ho e (fun z=>nomatch z) h
 ·rename_i y;cases ht;cases rx;cases(show u=Value.bool y from q);exact PySem.W.kia_tup PySem.W.kitx_bool I.kIn True.intro ho e (fun z=>nomatch z) h
 ·rename_i y;cases ht;cases rx;obtain⟨t,rfl⟩:=(show ∃t,u=Value.int y t from q);exact PySem.W.kia_tup PySem.W.kitx_int I.kIn True.intro ho e (fun z=>nomatch z) h
 ·rename_i y;cases ht;cases rx;obtain⟨t,rfl⟩:=(show ∃t,u=Value.str y t from q);exact PySem.W.kia_tup PySem.W.kitx_str I.kIn True.intro ho e (fun z=>nomatch z) h
 ·cases ht
  obtain⟨a,vs,rfl,sa,ra⟩:=rx
  cases q
  obtain⟨_,_,⟨o,h1,h2,_⟩,_⟩:=I.tuple sa
  exact PySem.W.kia_tup PySem.W.kitx_tuple I.kIn ⟨o,h1,h2⟩ ho e (fun z=>nomatch z) h
 ·rename_i m
  obtain⟨a,rfl,qa⟩:=rx
  cases q
  split at ht
  ·rename_i xs es
   cases ht
   obtain⟨vs,e1,_⟩:=R.obj m a _ qa es
   obtain⟨_,_,n,_,h1⟩:=(show q3m X.prog X.w H s.heap a (.lst vs)from I.hok a _ e1)
   exact PySem.W.kia_tup PySem.W.kitx_list I.kIn ⟨_,h1,rfl⟩ ho e (fun z=>nomatch z) h
  ·rename_i xs es
   cases ht
   obtain⟨vs,e1,_⟩:=R.obj m a _ qa es
   obtain⟨_,_,_,_,p⟩:=(show q3m X.prog X.w H s.heap a (.dK vs)from I.hok a _ e1)
   obtain⟨o,es,ep,h1,h2,_⟩:=p
   exact PySem.W.kia_tup PySem.W.kitx_dict I.kIn ⟨o,h1,h2.1⟩ ho e (fun z=>nomatch z) h
  ·cases ht
 ·cases ht
  obtain⟨a,vs,rfl,sa,ra⟩:=rx
  cases q
  obtain⟨_,_,p,_⟩:=I.list sa.sq
  obtain⟨o,h1,h2,_⟩:=p.isList
  exact PySem.W.kia_tup PySem.W.kitx_list I.kIn ⟨o,h1,h2⟩ ho e (fun z=>nomatch z) h
 ·cases ht
 ·cases ht
def fIsi:FL:=fun xs S Q=>match xs with
 |[x,.ty D]=>match tyP x S with
  |some T=>D∈q4t/\Q (.bl (isT T D)) S
  |none=>False
 |[x,.tup [.ty D,.ty D']]=>match tyP x S with
  |some T=>(D∈q4t/\D'∈q4t)/\Q (.bl (isT T D||isT T D')) S
  |none=>False
 |_=>False
theorem q1u:q6g X (.builtin "isinstance") (z0u X.K fIsi):=by
 rintro pins s σ H xs us Q I r ⟨φ,S,pxs,Q0,R,hx,h,k⟩
 unfold fIsi at h
 split at h
 ·rename_i x D
  split at h
  ·rename_i T ht
   obtain⟨v,w,rfl,r1,r2⟩:=q7y hx
   cases r2
   obtain⟨u,c,rfl,ru,rc⟩:=z5l r
   cases(show c=Value.type D from rc)
   exact x2s I R r1 ru ht (z6b X.K T (z1t ht) D h.1) fun tk=>⟨.bl _,H,I.tok tk,rfl,k _ S φ H _ h.2 (List.prefix_refl _) (.refl _) R rfl⟩
  ·exact h.elim
 ·rename_i x D D'
  split at h
  ·rename_i T ht
   obtain⟨v,w,rfl,r1,a,vs,rfl,sa,ra⟩:=q7y hx
   obtain⟨d1,d2,rfl,q1,q2⟩:=q7y ra
   cases q1
   cases q2
   obtain⟨u,c,rfl,ru,rc⟩:=z5l r
   cases(show c=Value.ref a from rc)
   obtain⟨its,rv,p,_⟩:=I.tuple sa
   obtain⟨v1,v2,rfl,g1,g2⟩:=z5l rv
   cases(show v1=Value.type D from g1)
   cases(show v2=Value.type D' from g2)
   exact x2r I R r1 ru ht p (y7d (z6b X.K T (z1t ht) D h.1.1) (z6b X.K T (z1t ht) D' h.1.2)) fun tk=>⟨.bl _,H,I.tok tk,rfl,k _ S φ H _ h.2 (List.prefix_refl _) (.refl _) R rfl⟩
  ·exact h.elim
 ·exact h.elim
def q7g:List PV->Option (List Int)
 |[]=>some []
 |.int i::r=>(q7g r).map (i::·)
 |_=>none
def q8s:List PV->Option (List Str)
 |[]=>some []
 |.str i::r=>(q8s r).map (i::·)
 |_=>none
def z0x:List PV->Option (List Bool)
 |[]=>some []
 |.bl i::r=>(z0x r).map (i::·)
 |_=>none
theorem z0j:∀{xs:List PV}{ns:List Int},q7g xs=some ns->xs=ns.map PV.int
 |[],ns,h=>by simp[q7g]at h;subst h;rfl
 |x::r,ns,h=>by
  cases x with
  |int i=>
   simp only[q7g,Option.map_eq_some_iff]at h
   obtain⟨ms,h1,rfl⟩:=h
   rw[z0j h1];rfl
  |_=>simp[q7g]at h
theorem z3k:∀{xs:List PV}{ns:List Str},q8s xs=some ns->xs=ns.map PV.str
 |[],ns,h=>by simp[q8s]at h;subst h;rfl
 |x::r,ns,h=>by
  cases x with
  |str i=>
   simp only[q8s,Option.map_eq_some_iff]at h
   obtain⟨ms,h1,rfl⟩:=h
   rw[z3k h1];rfl
  |_=>simp[q8s]at h
theorem z8g:∀{xs:List PV}{ns:List Bool},z0x xs=some ns->xs=ns.map PV.bl
 |[],ns,h=>by simp[z0x]at h;subst h;rfl
 |x::r,ns,h=>by
  cases x with
  |bl i=>
   simp only[z0x,Option.map_eq_some_iff]at h
   obtain⟨ms,h1,rfl⟩:=h
   rw[z8g h1];rfl
  |_=>simp[z0x]at h
theorem z9l(ns:List Int):q7g (ns.map PV.int)=some ns:=by induction ns with
 |nil=>rfl
 |cons a r ih=>simp[q7g,ih]
theorem z1a(ns:List Str):q8s (ns.map PV.str)=some ns:=by induction ns with
 |nil=>rfl
 |cons a r ih=>simp[q8s,ih]
theorem y4j(ns:List Bool):z0x (ns.map PV.bl)=some ns:=by induction ns with
 |nil=>rfl
 |cons a r ih=>simp[z0x,ih]
def fSum:FL:=fun xs S Q=>match xs with
 |[.frl ys]=>match q7g ys with
  |some ns=>Q (.int ns.sum) S
  |none=>False
 |[.ref n]=>match (q3c S n).bind q7g with
  |some ns=>Q (.int ns.sum) S
  |none=>False
 |_=>False
def fAll:FL:=fun xs S Q=>match xs with
 |[.ref n]=>match (q3c S n).bind z0x with
  |some ns=>Q (.bl (ns.all id)) S
  |none=>False
 |_=>False
theorem y4e(hc:X.calm=true):q6g X (.builtin "sum") (z0u X.K fSum):=by
 rintro pins s σ H xs us Q I r ⟨φ,S,pxs,Q0,R,hx,h,k⟩
 unfold fSum at h
 split at h
 ·split at h
  ·rename_i ns e
   have:=z0j e
   subst this
   obtain⟨v,rfl,a,vs,rfl,sa,ra⟩:=q3l hx
   have sa:=sa.sq
   rw[ra.ints]at sa
   exact z8d hc pins s σ H _ us Q I r ⟨a,ns,rfl,sa,k _ S φ H _ h (List.prefix_refl _) (.refl _) R rfl⟩
  ·exact h.elim
 ·rename_i n
  split at h
  ·rename_i ns e
   obtain⟨ys,e1,e2⟩:=Option.bind_eq_some_iff.mp e
   have:=z0j e2
   subst this
   obtain⟨v,rfl,a,rfl,qa⟩:=q3l hx
   obtain⟨vs,sa,ra⟩:=R.seq qa e1
   rw[ra.ints]at sa
   exact z8d hc pins s σ H _ us Q I r ⟨a,ns,rfl,sa,k _ S φ H _ h (List.prefix_refl _) (.refl _) R rfl⟩
  ·exact h.elim
 ·exact h.elim
theorem z5c(hc:X.calm=true):q6g X (.builtin "all") (z0u X.K fAll):=by
 rintro pins s σ H xs us Q I r ⟨φ,S,pxs,Q0,R,hx,h,k⟩
 unfold fAll at h
 split at h
 ·rename_i n
  split at h
  ·rename_i ns e
   obtain⟨ys,e1,e2⟩:=Option.bind_eq_some_iff.mp e
   have:=z8g e2
   subst this
   obtain⟨v,rfl,a,rfl,qa⟩:=q3l hx
   obtain⟨vs,sa,ra⟩:=R.seq qa e1
   rw[ra.bls]at sa
   exact y8c hc pins s σ H _ us Q I r ⟨a,ns,rfl,sa,k _ S φ H _ h (List.prefix_refl _) (.refl _) R rfl⟩
  ·exact h.elim
 ·exact h.elim
def x7x:FL:=fun xs S Q=>match xs with
 |[.frl ys]=>Q (.ref S.length) (S++[.lst ys])
 |[.tup ys]=>Q (.ref S.length) (S++[.lst ys])
 |[.ref n]=>match q3c S n with
  |some ys=>Q (.ref S.length) (S++[.lst ys])
  |none=>False
 |_=>False
def y9n:FL:=fun xs S Q=>match xs with
 |[.tup ys]=>Q (.tup ys) S
 |[.ref n]=>match q3c S n with
  |some ys=>Q (.tup ys) S
  |none=>False
 |_=>False
def fInt:FL:=fun xs S Q=>match xs with
 |[.int i]=>Q (.int i) S
 |[.bl b]=>Q (.int (if b then 1 else 0)) S
 |_=>False
def fStr:FL:=fun xs S Q=>match xs with
 |[.int i]=>i.natAbs.log2<1920/\Q (.str (toString i)) S
 |_=>False
theorem q6t:q6g X (.type "str") (z0u X.K fStr):=by
 rintro pins s σ H xs us Q I r ⟨φ,S,pxs,Q0,R,hx,h,k⟩
 unfold fStr at h
 split at h
 ·obtain⟨v,rfl,r1⟩:=q3l hx
  cases r1
  exact z5d pins s σ H _ us Q I r ⟨_,rfl,h.1,k _ S φ H _ h.2 (List.prefix_refl _) (.refl _) R rfl⟩
 ·exact h.elim
def fMax:FL:=fun xs S Q=>match xs with
 |[.int i,.int j]=>Q (.int (if j > i then j else i)) S
 |_=>False
theorem z0n(hc:X.calm=true):q6g X (.builtin "max") (z0u X.K fMax):=by
 rintro pins s σ H xs us Q I r ⟨φ,S,pxs,Q0,R,hx,h,k⟩
 unfold fMax at h
 split at h
 ·obtain⟨v,w,rfl,r1,r2⟩:=q7y hx
  cases r1
  cases r2
  exact y4f hc pins s σ H _ us Q I r ⟨_,_,rfl,k _ S φ H _ h (List.prefix_refl _) (.refl _) R rfl⟩
 ·exact h.elim
abbrev FM:=PV->List PV->q0i->VC->Prop
def z3y(K:Frag)(f:FM):V->List V->Hp->VK->Prop:=fun x' xs' H Q=>∃φ S x xs Q0,Rel K φ S H/\RV K H φ x x'/\RVs K H φ xs xs'/\f x xs S Q0/\KE K φ H Q0 Q
def wBM(T:String)(f:FM)(wo:WE)(wa:WA):WE:=fun σ S E Q=>wo σ S E fun x S1=>tyP x S1=some T/\wa σ S1 E fun xs S2=>f x xs S2 Q
def wBM0(T:String)(f:FM)(wo:WE):WE:=fun σ S E Q=>wo σ S E fun x S1=>tyP x S1=some T/\f x [] S1 Q
theorem y8z{K:Frag}{H:Hp}{φ:List Addr}{S:q0i}{x:PV}{x':V}{T:String}(R:Rel K φ S H)(r:RV K H φ x x')(h:tyP x S=some T)(hT:T = "str" \/T = "list" \/T = "dict"):tyV K T x' H:=by
 unfold tyP at h
 split at h
 ·cases h;simp at hT
 ·cases h;simp at hT
 ·cases h;simp at hT
 ·cases h;cases r;rfl
 ·cases h;simp at hT
 ·rename_i n
  obtain⟨a,rfl,qa⟩:=r
  split at h
  ·rename_i xs es
   cases h
   obtain⟨vs,e1,_⟩:=R.obj n a _ qa es
   exact .inl ⟨rfl,vs,SqL.of e1⟩
  ·rename_i xs es
   cases h
   obtain⟨vs,e1,_⟩:=R.obj n a _ qa es
   exact .inr (.inr (.inl ⟨rfl,.inl ⟨vs,e1⟩⟩))
  ·cases h
 ·cases h
  obtain⟨a,vs,rfl,sa,ra⟩:=r
  exact .inl ⟨rfl,vs,sa.sq⟩
 ·cases h
 ·cases h
theorem q1z{f:FM}{T id:String}{name:Str}{o e:Expr}{es:List Expr}{apos cpos:Pos}{wo:WE}{wa:WA}(pa:PlainAttrs T)(slot:Slot T name id)(hty:typeOf (.builtin id)=pure (.type "method_descriptor"))(hm:MtR X id (z3y X.K f))(ho:SimE X G o wo)(ha:SimA X G (e::es) wa)
  (hT:T = "str" \/T = "list" \/T = "dict" :=by first|exact Or.inl rfl|exact Or.inr (Or.inl rfl)|exact Or.inr (Or.inr rfl))
  (hbase:attributeBase o name X.env (eval o X.env)=eval o X.env:=by rfl)
  (hfew:((backTo cpos (starEach (e::es) X.env)).all (fun x=>!x.1)&&(backToKw cpos (keywordEach [] X.env)).all (fun x=>x.1.isSome)
   && decide ((e::es).length+([]:List Keyword).length+(if ([]:List Keyword).isEmpty then 0 else 1)<30))=true:=by rfl)
  (hline:(apos.endLine==cpos.line)=true:=by rfl) (hs:starEach (e::es) X.env=(false,eval e X.env)::starEach es X.env:=by rfl) (hplain:(backTo cpos (starEach es X.env)).any (·.1)=false:=by rfl) :
  SimE X G (.Call (.Attribute o name apos) (e::es) [] cpos) (wBM T f wo wa):=
 (w0l pa slot hty hm ho ha hbase hfew hline hs hplain).imp fun σV H Q hh1=>by obtain⟨φ,σ,S,Q0,L,R,h,k⟩:=hh1;exact(⟨φ,σ,S,_,L,R,h,fun v S1 φ1 H1 x hh2 p1 m1 R1 r1=>by obtain⟨ht,q⟩:=hh2;exact(⟨y8z R1 r1 ht hT,
  ⟨φ1,σ,S1,_,L.mono m1 p1,R1,q,fun vs S2 φ2 H2 xs q2 p2 m2 R2 r2=>⟨φ2,S2,v,vs,Q0,R2,RV.mono m2 p2 _ _ r1,r2,q2,k.up (p1.trans p2) (m1.trans m2)⟩⟩⟩)⟩)
theorem q5z{f:FM}{T id:String}{name:Str}{o:Expr}{apos cpos:Pos}{wo:WE}(pa:PlainAttrs T)(slot:Slot T name id)(hty:typeOf (.builtin id)=pure (.type "method_descriptor"))(hm:MtR X id (z3y X.K f))(ho:SimE X G o wo)
  (hT:T = "str" \/T = "list" \/T = "dict" :=by first|exact Or.inl rfl|exact Or.inr (Or.inl rfl)|exact Or.inr (Or.inr rfl))
  (hbase:attributeBase o name X.env (eval o X.env)=eval o X.env:=by rfl) (hline:(apos.endLine==cpos.line)=true:=by rfl) :
  SimE X G (.Call (.Attribute o name apos) [] [] cpos) (wBM0 T f wo):=
 (x5y pa slot hty hm ho hbase hline).imp fun σV H Q hh1=>by obtain⟨φ,σ,S,Q0,L,R,h,k⟩:=hh1;exact(⟨φ,σ,S,_,L,R,h,fun v S1 φ1 H1 x hh2 p1 m1 R1 r1=>by obtain⟨ht,q⟩:=hh2;exact(⟨y8z R1 r1 ht hT,⟨φ1,S1,v,[],Q0,R1,r1,rfl,q,k.up p1 m1⟩⟩)⟩)
theorem KE.put{K:Frag}{φ:List Addr}{H:Hp}{Q0:VC}{Q:VK}{S:q0i}{n:Nat}{a:Addr}{old:List V}{xs:List PV}{vs:List V}{y:PV}{y':V}(k:KE K φ H Q0 Q)(R:Rel K φ S H)(qa:φ[n]?=some a)(e:H a=some (.lst old))(r:RVs K H φ xs vs)(ry:RV K H φ y y')(q:Q0 y (S.set n (.lst xs))):Q y' (upd H a (.lst vs)):=
 k _ _ φ _ _ q (List.prefix_refl _) (.lst e) (R.put (o:=.lst xs) qa (.lst e) ⟨vs,q2h,RVs.mono (.lst e) (List.prefix_refl _) _ _ r⟩) (RV.mono (.lst e) (List.prefix_refl _) _ _ ry)
def q1i:FM:=fun x xs S Q=>match x,xs with
 |.ref n,[y]=>match q5q S n with
  |some ys=>ys.length<sizeLine/\Q .non (S.set n (.lst (ys++[y])))
  |none=>False
 |_,_=>False
theorem q1c:MtR X "list.append" (z3y X.K q1i):=by
 rintro pins s σ H x xs v us Q I rx rs ⟨φ,S,px,pxs,Q0,R,hx,hxs,h,k⟩
 unfold q1i at h
 split at h
 ·rename_i n y
  split at h
  ·rename_i ys e
   obtain⟨a,rfl,qa⟩:=hx
   obtain⟨y',rfl,ry⟩:=q3l hxs
   obtain⟨vs,ea,ra⟩:=R.lst qa e
   exact y2a pins s σ H _ _ v us Q I rx rs ⟨a,vs,y',rfl,rfl,ea,by rw[<-ra.length];exact h.1,k.put R qa ea (ra.append (.one ry)) (show RV X.K H φ .non .non from rfl) h.2⟩
  ·exact h.elim
 ·exact h.elim
def mPop:FM:=fun x xs S Q=>match x,xs with
 |.ref n,[]=>match q5q S n with
  |some ys=>match ys.getLast? with
   |some y=>Q y (S.set n (.lst ys.dropLast))
   |none=>False
  |none=>False
 |_,_=>False
theorem q6c:MtR X "list.pop" (z3y X.K mPop):=by
 rintro pins s σ H x xs v us Q I rx rs ⟨φ,S,px,pxs,Q0,R,hx,hxs,h,k⟩
 unfold mPop at h
 split at h
 ·rename_i n
  split at h
  ·rename_i ys e
   split at h
   ·rename_i y ey
    obtain⟨a,rfl,qa⟩:=hx
    have hxs':xs=[]:=hxs
    subst hxs'
    obtain⟨vs,ea,ra⟩:=R.lst qa e
    rw[List.getLast?_eq_getElem?]at ey
    obtain⟨y',e',r'⟩:=ra.get ey
    rw[ra.length]at e'
    exact x6o pins s σ H _ _ v us Q I rx rs ⟨a,vs,y',rfl,rfl,ea,e',k.put R qa ea ra.dropLast r' h⟩
   ·exact h.elim
  ·exact h.elim
 ·exact h.elim
def z3w:FM:=fun x xs S Q=>match x,xs with
 |.ref n,[.int i]=>match q5q S n with
  |some ys=>match ixN ys.length i with
   |some j=>match ys[j]? with
    |some y=>(-(2 ^ 63)<=i/\i<2 ^ 63)/\Q y (S.set n (.lst (ys.eraseIdx j)))
    |none=>False
   |none=>False
  |none=>False
 |_,_=>False
def y9f:FM:=fun x xs S Q=>match x,xs with
 |.ref n,[]=>match q5q S n with
  |some _=>Q .non (S.set n (.lst []))
  |none=>False
 |_,_=>False
def q6o:FM:=fun x xs S Q=>match x,xs with
 |.ref n,[.ref m]=>match q5q S n,q5q S m with
  |some ys,some zs=>ys.length+zs.length<=sizeLine/\Q .non (S.set n (.lst (ys++zs)))
  |_,_=>False
 |.ref n,[.tup zs]=>match q5q S n with
  |some ys=>ys.length+zs.length<=sizeLine/\Q .non (S.set n (.lst (ys++zs)))
  |none=>False
 |_,_=>False
theorem x2z:MtM X "list.extend" (fun x vs H Q=>∃l b xs zs,x=.ref l/\vs=[.ref b]/\H l=some (.lst xs)/\SqT X.K H b zs/\xs.length+zs.length<=sizeLine/\Q .non (upd H l (.lst (xs++zs)))):=by
 intro pins s σ H x vs v us Q I rx rv h
 obtain⟨l,b,xs,zs,rfl,rfl,hH,hB,hz,q⟩:=h
 cases rx
 obtain⟨u,rfl,ru⟩:=rv.one
 cases ru
 obtain⟨z,its,n,r,hl,e⟩:=I.lstM hH
 obtain⟨its2,r2,⟨⟨cls,dd,dat,sl⟩,h1,h2,n2,h3⟩,z2⟩:=I.tuple hB
 simp only at h2 h3
 subst h2 h3
 have hl2:=r2.length
 have hss:its.toArray.size+its2.toArray.size<=sizeLine:=by simp only[List.size_toArray];omega
 have hlong:¬(!its.toArray.isEmpty&&Builtin.List.listTooLong (its.toArray.size+its2.toArray.size))=true:=by rw[z2j hss,Bool.and_false];exact Bool.false_ne_true
 refine call_meets F.slot_list_extend ⟨_,e,rfl⟩ F.entry_list_extend (F.args_list_extend_2 _ _) (extT l its.toArray n b its2.toArray n2 dd sl hlong (by rw[List.size_toArray];omega) (by omega)) ⟨e,h1,?_⟩
 exact⟨.non,_,I.lset (its':=its++its2) hH e (by simp) (r.append r2) (by rw[List.length_append];omega),rfl,q⟩
theorem q7b:MtR X "list.extend" (z3y X.K q6o):=by
 rintro pins s σ H x xs v us Q I rx rs ⟨φ,S,px,pxs,Q0,R,hx,hxs,h,k⟩
 unfold q6o at h
 split at h
 ·rename_i n m
  split at h
  ·rename_i ys zs e1 e2
   obtain⟨a,rfl,qa⟩:=hx
   obtain⟨y',rfl,b,rfl,qb⟩:=q3l hxs
   obtain⟨vs,ea,ra⟩:=R.lst qa e1
   obtain⟨ws,eb,rb⟩:=R.lst qb e2
   exact y1z pins s σ H _ _ v us Q I rx rs ⟨a,b,vs,ws,rfl,rfl,ea,eb,by rw[<-ra.length,<-rb.length];exact h.1,k.put (y:=.non) R qa ea (ra.append rb) rfl h.2⟩
  ·exact h.elim
 ·rename_i n zs
  split at h
  ·rename_i ys e1
   obtain⟨a,rfl,qa⟩:=hx
   obtain⟨y',rfl,b,ws,rfl,sb,rb⟩:=q3l hxs
   obtain⟨vs,ea,ra⟩:=R.lst qa e1
   exact x2z pins s σ H _ _ v us Q I rx rs ⟨a,b,vs,ws,rfl,rfl,ea,sb,by rw[<-ra.length,<-rb.length];exact h.1,k.put (y:=.non) R qa ea (ra.append rb) rfl h.2⟩
  ·exact h.elim
 ·exact h.elim
theorem y1x:MtR X "list.pop" (z3y X.K z3w):=by
 rintro pins s σ H x xs v us Q I rx rs ⟨φ,S,px,pxs,Q0,R,hx,hxs,h,k⟩
 unfold z3w at h
 split at h
 ·rename_i n i
  split at h
  ·rename_i ys e
   split at h
   ·rename_i j ej
    split at h
    ·rename_i y ey
     obtain⟨a,rfl,qa⟩:=hx
     obtain⟨y',rfl,ry⟩:=q3l hxs
     cases ry
     obtain⟨vs,ea,ra⟩:=R.lst qa e
     obtain⟨y',e',r'⟩:=ra.get ey
     rw[ra.length]at ej
     exact y6x pins s σ H _ _ v us Q I rx rs ⟨a,vs,i,j,y',rfl,rfl,ea,h.1.1,h.1.2,(z6e ej).1,e',k.put R qa ea (ra.eraseIdx _) r' h.2⟩
    ·exact h.elim
   ·exact h.elim
  ·exact h.elim
 ·exact h.elim
def z8z:FM:=fun x xs S Q=>match x,xs with
 |.str z,[.ref n]=>match (q3c S n).bind q8s with
  |some ys=>(ys.map (·.length)).sum+ys.length*z.length<=16777216/\Q (.str (Txt.join z ys)) S
  |none=>False
 |_,_=>False
theorem z7t:MtR X "str.join" (z3y X.K z8z):=by
 rintro pins s σ H x xs v us Q I rx rs ⟨φ,S,px,pxs,Q0,R,hx,hxs,h,k⟩
 unfold z8z at h
 split at h
 ·rename_i z n
  split at h
  ·rename_i ys e
   obtain⟨zs,e1,e2⟩:=Option.bind_eq_some_iff.mp e
   have:=z3k e2
   subst this
   cases hx
   obtain⟨y',rfl,a,rfl,qa⟩:=q3l hxs
   obtain⟨vs,sa,ra⟩:=R.seq qa e1
   rw[ra.strs]at sa
   exact x1z pins s σ H _ _ v us Q I rx rs ⟨z,a,ys,rfl,rfl,sa,h.1,k _ S φ H _ h.2 (List.prefix_refl _) (.refl _) R rfl⟩
  ·exact h.elim
 ·exact h.elim
def y9e:FM:=fun x xs S Q=>match x,xs with
 |.str z,[.str y]=>0<=Txt.find z y/\Q (.int (Txt.find z y)) S
 |_,_=>False
abbrev WJ:=Loc->q0i->EK->Str->(Str->q0i->Prop)->Prop
theorem PJ.imp{e:List Expr}{t t':TJ}(h:PJ X e t)(i:∀σ H a Q,t' σ H a Q->t σ H a Q):PJ X e t':=fun pins s σ H acc Q I q=>h pins s σ H acc Q I (i σ H acc Q q)
def x3z:WJ:=fun _ S _ acc Q=>Q acc S
def x3y(x:Str)(w:WJ):WJ:=fun σ S E acc Q=>(acc++x).length<=sizeLine/\w σ S E (acc++x) Q
def x3x(we:WE)(w:WJ):WJ:=fun σ S E acc Q=>we σ S E fun v S1=>match v with
 |.str x=>(x.length<=sizeLine/\(acc++x).length<=sizeLine)/\w σ S1 E (acc++x) Q
 |_=>False
def z9x(w:WJ):WE:=fun σ S E Q=>w σ S E Str.empty fun out S1=>out.length<=sizeLine/\Q (.str out) S1
end
structure PEnds where
 nx:Loc->q0i->Prop
 rt:VC
 bk:Loc->q0i->Prop:=fun _ _=>False
 ct:Loc->q0i->Prop:=fun _ _=>False
abbrev WS:=PEnds->EK->Loc->q0i->Prop
def KN(K:Frag)(G:GX)(φ:List Addr)(H:Hp)(Q0:Loc->q0i->Prop)(Q:St->Hp->Prop):Prop:=∀σ' S' φ' H' σV',Q0 σ' S'->φ <+: φ'->Mono H H'->Rel K φ' S' H'->LRel K G H' φ' σ' σV'->Q σV' H'
theorem KN.up{K:Frag}{G:GX}{φ φ1:List Addr}{H H1:Hp}{Q0:Loc->q0i->Prop}{Q:St->Hp->Prop}(k:KN K G φ H Q0 Q)(p:φ <+: φ1)(m:Mono H H1):KN K G φ1 H1 Q0 Q:=fun σ' S' φ' H' σV' q p' m'=>k σ' S' φ' H' σV' q (p.trans p') (m.trans m')
structure KS(K:Frag)(G:GX)(φ:List Addr)(H:Hp)(D0:PEnds)(D:Ends):Prop where
 nx:KN K G φ H D0.nx D.nx
 rt:KE K φ H D0.rt D.rt
 bk:KN K G φ H D0.bk D.bk
 ct:KN K G φ H D0.ct D.ct
theorem KS.up{K:Frag}{G:GX}{φ φ1:List Addr}{H H1:Hp}{D0:PEnds}{D:Ends}(k:KS K G φ H D0 D)(p:φ <+: φ1)(m:Mono H H1):KS K G φ1 H1 D0 D:=⟨k.nx.up p m,k.rt.up p m,k.bk.up p m,k.ct.up p m⟩
def y2j(K:Frag)(G:GX)(w:WS):TS:=fun D σV H=>∃φ σ S D0,LRel K G H φ σ σV/\Rel K φ S H/\w D0 G.ek σ S/\KS K G φ H D0 D
def SimS(X:Cx)(G:GX)(st:Stmt)(w:WS):Prop:=PS X st (y2j X.K G w)
def q9c(X:Cx)(G:GX)(st:List Stmt)(w:WS):Prop:=PSs X st (y2j X.K G w)
theorem _root_.L2.PS.imp{X:Cx}{e:Stmt}{t t':TS}(h:PS X e t)(i:∀D σ H,t' D σ H->t D σ H):PS X e t':=fun pins s σ H D I q=>h pins s σ H D I (i D σ H q)
theorem _root_.L2.PSs.imp{X:Cx}{e:List Stmt}{t t':TS}(h:PSs X e t)(i:∀D σ H,t' D σ H->t D σ H):PSs X e t':=fun pins s σ H D I q=>h pins s σ H D I (i D σ H q)
section
variable{X:Cx}{G:GX}{pos:Pos}
def q1k:WS:=fun D _ σ S=>D.nx σ S
def wSeq(w1 w2:WS):WS:=fun D E σ S=>w1 {D with nx:=w2 D E} E σ S
theorem q0q:q9c X G [] q1k:=x1c.imp fun D σV H hh1=>by obtain⟨φ,σ,S,D0,L,R,h,k⟩:=hh1;exact(k.nx σ S φ H σV h (List.prefix_refl _) (.refl _) R L)
theorem q0g{st:Stmt}{w:WS}(h:SimS X G st w):q9c X G [st] w:=x1b h
theorem q0d{st:Stmt}{rest:List Stmt}{w1 w2:WS}(h1:SimS X G st w1)(h2:q9c X G rest w2):q9c X G (st::rest) (wSeq w1 w2):=
 (y5y h1 h2).imp fun D σV H hh1=>by obtain⟨φ,σ,S,D0,L,R,h,k⟩:=hh1;exact(⟨φ,σ,S,_,L,R,h,⟨fun σ' S' φ' H' σV' q p m R' L'=>⟨φ',σ',S',D0,L',R',q,k.up p m⟩,k.rt,k.bk,k.ct⟩⟩)
def x4f:WS:=q1k
def y8y:WS:=fun D _ σ S=>D.bk σ S
def y4z:WS:=fun D _ σ S=>D.ct σ S
theorem z3n:SimS X G (.Continue pos) y4z:=z5u.imp fun D σV H hh1=>by obtain⟨φ,σ,S,D0,L,R,h,k⟩:=hh1;exact(k.ct σ S φ H σV h (List.prefix_refl _) (.refl _) R L)
def z7c:WS:=fun _ _ _ _=>False
theorem y0p{st:Stmt}:SimS X G st z7c:=(y6b (X:=X)).imp fun D σV H hh1=>by obtain⟨φ,σ,S,D0,L,R,h,k⟩:=hh1;exact(h)
def q2e(w:WE):WS:=fun D E σ S=>w σ S E fun _ S1=>D.nx σ S1
theorem q1g{e:Expr}{w:WE}(he:SimE X G e w)(hs:swapsWith e none pos.line X.env=pure false:=by rfl):SimS X G (.Expr e pos) (q2e w):=
 (x1e he hs).imp fun D σV H hh1=>by obtain⟨φ,σ,S,D0,L,R,h,k⟩:=hh1;exact(⟨φ,σ,S,_,L,R,h,fun v S1 φ1 H1 x q p1 m1 R1 r1=>k.nx σ S1 φ1 H1 σV q p1 m1 R1 (L.mono m1 p1)⟩)
def wRet(w:WE):WS:=fun D E σ S=>w σ S E D.rt
theorem q0o{e:Expr}{w:WE}(he:SimE X G e w):SimS X G (.Return (some e) pos) (wRet w):=
 (x5h he).imp fun D σV H hh1=>by obtain⟨φ,σ,S,D0,L,R,h,k⟩:=hh1;exact(⟨φ,σ,S,_,L,R,h,k.rt⟩)
def x4e:WS:=fun D _ _ S=>D.rt .non S
def wIfS(c:WT)(t u:WS):WS:=fun D E σ S=>c σ S E fun b S1=>if b=true then t D E σ S1 else u D E σ S1
theorem q0w{c:Expr}{a b:List Stmt}{wc:WT}{t u:WS}(hc:SimT X G c wc)(ha:q9c X G a t)(hb:q9c X G b u):SimS X G (.If c a b pos) (wIfS wc t u):=
 (w0g hc ha hb).imp fun D σV H hh1=>by obtain⟨φ,σ,S,D0,L,R,h,k⟩:=hh1;exact(⟨φ,σ,S,_,L,R,h,fun c S1 φ1 H1 q p1 m1 R1=>by
  cases c with
  |true=>exact ⟨φ1,σ,S1,D0,L.mono m1 p1,R1,q,k.up p1 m1⟩
  |false=>exact ⟨φ1,σ,S1,D0,L.mono m1 p1,R1,q,k.up p1 m1⟩⟩)
abbrev WG:=PV->Loc->q0i->EK->(Loc->q0i->Prop)->Prop
abbrev WGs:=List PV->Loc->q0i->EK->(Loc->q0i->Prop)->Prop
def z9a(K:Frag)(G:GX)(w:WG):TG:=fun v' σV H Q=>∃φ v σ S Q0,LRel K G H φ σ σV/\Rel K φ S H/\RV K H φ v v'/\w v σ S G.ek Q0/\KN K G φ H Q0 Q
def x6u(K:Frag)(G:GX)(w:WGs):TGs:=fun v' σV H Q=>∃φ v σ S Q0,LRel K G H φ σ σV/\Rel K φ S H/\RVs K H φ v v'/\w v σ S G.ek Q0/\KN K G φ H Q0 Q
def SimG(X:Cx)(G:GX)(tg:Expr)(w:WG):Prop:=PG X tg (z9a X.K G w)
def y8p(X:Cx)(G:GX)(tg:List Expr)(w:WGs):Prop:=PGs X tg (x6u X.K G w)
theorem PG.imp{e:Expr}{t t':TG}(h:PG X e t)(i:∀v σ H Q,t' v σ H Q->t v σ H Q):PG X e t':=fun pins s σ H v u Q I r q=>h pins s σ H v u Q I r (i v σ H Q q)
theorem PGs.imp{e:List Expr}{t t':TGs}(h:PGs X e t)(i:∀v σ H Q,t' v σ H Q->t v σ H Q):PGs X e t':=fun pins s σ H v u Q I r q=>h pins s σ H v u Q I r (i v σ H Q q)
def q1o(i:Nat):WG:=fun v σ S _ Q=>Q (σ.set i (some v)) S
theorem q1f{i:Nat}{x:Str}(hN:X.N.Nodup)(hi:X.N[i]?=some x:=by rfl)(hx:L2.Loc X.env.scope x:=by first|exact Or.inl rfl|exact Or.inr rfl)(hf:X.fn x=true\/X.env.scope.names.lookup x=some .local:=by first|exact .inl rfl|exact .inr rfl|assumption):SimG X G (.Name x pos) (q1o i):=
 PG.imp (x1k (i:=i) hN hi hx hf) fun v' σV H Q hh1=>by obtain⟨φ,v,σ,S,Q0,L,R,r,h,k⟩:=hh1;exact(k _ S φ H _ h (List.prefix_refl _) (.refl _) R (L.set i r))
def q7j:WGs:=fun vs σ S _ Q=>match vs with
 |[]=>Q σ S
 |_=>False
def q2l(w:WG)(ws:WGs):WGs:=fun vs σ S E Q=>match vs with
 |v::r=>w v σ S E fun σ' S'=>ws r σ' S' E Q
 |_=>False
theorem q5t:y8p X G [] q7j:=PGs.imp x1j fun v' σV H Q hh1=>by
 obtain⟨φ,v,σ,S,Q0,L,R,r,h,k⟩:=hh1
 cases v with
 |nil=>exact⟨r,k _ S φ H _ h (List.prefix_refl _) (.refl _) R L⟩
 |cons _ _=>exact h.elim
theorem q2a{e:Expr}{es:List Expr}{w:WG}{ws:WGs}(h1:SimG X G e w)(h2:y8p X G es ws)(hs:(assignEach (e::es) X.env).map (·.2)=assign e X.env::(assignEach es X.env).map (·.2):=by rfl):y8p X G (e::es) (q2l w ws):=
 PGs.imp (y6g h1 h2 hs) fun v' σV H Q hh1=>by
  obtain⟨φ,v,σ,S,Q0,L,R,r,h,k⟩:=hh1
  cases v with
  |nil=>exact h.elim
  |cons a b=>
   obtain⟨y,ys,rfl,r1,r2⟩:=r
   exact⟨y,ys,rfl,φ,a,σ,S,_,L,R,r1,h,fun σ' S' φ' H' σV' q p m R' L'=>⟨φ',b,σ',S',Q0,L',R',RVs.mono m p _ _ r2,q,k.up p m⟩⟩
def q7i(n:Nat)(ws:WGs):WG:=fun v σ S E Q=>match v with
 |.tup xs=>xs.length=n/\ws xs σ S E Q
 |_=>False
theorem q6z{es:List Expr}{kk:Nat}{ws:WGs}(n:Nat)(hc:X.calm=true)(h:y8p X G es ws)(hn:(assignEach es X.env).length=n:=by rfl)(hst:(assignEach es X.env).findIdx? (·.1)=none:=by rfl):SimG X G (.Tuple es kk pos) (q7i n ws):=
 PG.imp (x5o hc h hn hst) fun v' σV H Q hh1=>by
  obtain⟨φ,v,σ,S,Q0,L,R,r,h,k⟩:=hh1
  cases v with
  |tup xs=>
   obtain⟨a,vs,rfl,sa,ra⟩:=r
   exact⟨a,vs,rfl,sa,by rw[<-ra.length];exact h.1,φ,xs,σ,S,Q0,L,R,ra,h.2,k⟩
  |_=>exact h.elim
def wAsg(w:WE)(g:WG):WS:=fun D E σ S=>w σ S E fun v S1=>g v σ S1 E D.nx
theorem q6n{tg e:Expr}{w:WE}{g:WG}(he:SimE X G e w)(hg:SimG X G tg g)(hs:swapsWithSole [tg] e pos.line X.env=pure false:=by rfl)(hw:swappedStores [tg] e X.env=pure none:=by rfl)
  (h1:(assignEach [tg] X.env).map (·.2)=[assign tg X.env]:=by rfl):SimS X G (.Assign [tg] e pos) (wAsg w g):=
 (x5k he hg hs hw h1).imp fun D σV H hh1=>by obtain⟨φ,σ,S,D0,L,R,h,k⟩:=hh1;exact(⟨φ,σ,S,_,L,R,h,fun v S1 φ1 H1 x q p1 m1 R1 r1=>⟨φ1,v,σ,S1,D0.nx,L.mono m1 p1,R1,r1,q,k.nx.up p1 m1⟩⟩)
def wSet(i:Nat)(w:WE):WS:=fun D E σ S=>w σ S E fun v S1=>D.nx (σ.set i (some v)) S1
theorem q0n(i:Nat){x:Str}{e:Expr}{w:WE}{pos':Pos}(hN:X.N.Nodup)(he:SimE X G e w)(hi:X.N[i]?=some x:=by rfl)(hx:L2.Loc X.env.scope x:=by first|exact Or.inl rfl|exact Or.inr rfl)(hs:swapsWith e (some (.Name x pos')) pos.line X.env=pure false:=by rfl)(hf:X.fn x=true\/X.env.scope.names.lookup x=some .local:=by first|exact .inl rfl|exact .inr rfl|assumption) :
  SimS X G (.Assign [.Name x pos'] e pos) (wSet i w):=
 (x5g (i:=i) hN hi hx he hs hf).imp fun D σV H hh1=>by obtain⟨φ,σ,S,D0,L,R,h,k⟩:=hh1;exact(⟨φ,σ,S,_,L,R,h,fun v S1 φ1 H1 x q p1 m1 R1 r1=>k.nx _ S1 φ1 H1 _ q p1 m1 R1 ((L.mono m1 p1).set i r1)⟩)
def wAug(i:Nat)(f:F2)(w:WE):WS:=fun D E σ S=>match σ[i]? with
 |some (some x)=>w σ S E fun y S1=>f x y S1 fun z S2=>D.nx (σ.set i (some z)) S2
 |_=>False
theorem y0u(i:Nat){x:Str}{e:Expr}{w:WE}{pos':Pos}(hN:X.N.Nodup)(he:SimE X G e w)(hi:X.N[i]?=some x:=by rfl)(hx:L2.Loc X.env.scope x:=by first|exact Or.inl rfl|exact Or.inr rfl)(hf:X.fn x=true\/X.env.scope.names.lookup x=some .local:=by first|exact .inl rfl|exact .inr rfl|assumption) :
  SimS X G (.AugAssign (.Name x pos') .Add e pos) (wAug i z6w w):=
 (x5j (i:=i) hN hi hx he x2u hf).imp fun D σV H hh1=>by
  obtain⟨φ,σ,S,D0,L,R,h,k⟩:=hh1
  unfold wAug at h
  split at h
  ·rename_i v ev
   obtain⟨x',e',r'⟩:=L.at' i v ev
   refine⟨x',e',φ,σ,S,_,L,R,h,fun u S1 φ1 H1 y q p1 m1 R1 r1=>?_⟩
   exact⟨φ1,S1,v,u,_,R1,RV.mono m1 p1 _ _ r',r1,q,fun z S2 φ2 H2 z' q2 p2 m2 R2 r2=>k.nx _ S2 φ2 H2 _ q2 (p1.trans p2) (m1.trans m2) R2 (((L.mono m1 p1).mono m2 p2).set i r2)⟩
  ·exact h.elim
abbrev FS:=PV->PV->PV->q0i->(q0i->Prop)->Prop
def y2i(K:Frag)(f:FS):TSet:=fun o' i' v' H Q=>∃φ S o i v Q0,Rel K φ S H/\RV K H φ o o'/\RV K H φ i i'/\RV K H φ v v'/\f o i v S Q0/\∀S' H',Q0 S'->Mono H H'->Rel K φ S' H'->Q H'
def sSet:FS:=fun o i v S Q=>match o with
 |.ref n=>match S[n]? with
  |some (.lst xs)=>match i with
   |.int k=>match ixN xs.length k with
    |some j=>Q (S.set n (.lst (xs.set j v)))
    |none=>False
   |_=>False
  |some (.dK kvs)=>match q7v i with
   |some k=>kvs.length<sizeLine/\Q (S.set n (.dK (putP kvs k v)))
   |none=>False
  |_=>False
 |_=>False
theorem sets(hu:X.A.units+200<cLine):PSet X (y2i X.K sSet):=by
 rintro pins s σ H o i v ov iv u Q I ro ri rv ⟨φ,S,po,pi,pv,Q0,R,ho,hi,hv,h,k⟩
 unfold sSet at h
 split at h
 ·rename_i n
  obtain⟨a,rfl,qa⟩:=ho
  split at h
  ·rename_i xs e
   split at h
   ·rename_i kk
    split at h
    ·rename_i j ej
     cases hi
     obtain⟨vs,ea,ra⟩:=R.obj n a _ qa e
     rw[ra.length]at ej
     refine y5r pins s σ H _ _ v ov iv u Q I ro ri rv ⟨a,vs,kk,j,rfl,rfl,ea,ej,k _ _ h (.lst ea) (R.put (o:=.lst (xs.set j pv)) qa (.lst ea) ⟨vs.set j v,q2h,RVs.mono (.lst ea) (List.prefix_refl _) _ _ (ra.set hv j)⟩)⟩
    ·exact h.elim
   ·exact h.elim
  ·rename_i kvs e
   split at h
   ·rename_i kk ek
    have hk:=z6c hi ek
    subst hk
    obtain⟨ws,ea,ra⟩:=R.obj n a _ qa e
    cases ro
    refine y3y (by omega) I (DPut.k ea (by rw[<-ra.length];exact h.1)) ri rv fun s' I'=>⟨_,I',k _ _ h.2 (.dict ea) (R.put (o:=.dK (putP kvs kk pv)) qa (.dict ea) ⟨_,q2h,RKs.mono (.dict ea) (List.prefix_refl _) (ra.put kk hv)⟩)⟩
   ·exact h.elim
  ·exact h.elim
 ·exact h.elim
def q9o(wo wi:WE)(f:FS):WG:=fun v σ S E Q=>wo σ S E fun o S1=>wi σ S1 E fun i S2=>f o i v S2 fun S3=>Q σ S3
theorem q6a{o i:Expr}{wo wi:WE}{f:FS}(hf:PSet X (y2i X.K f))(ho:SimE X G o wo)(hi:SimE X G i wi)
  (ha:∀v,assign (.Subscript o i pos) X.env v=(do
   let ov <-holding [v] (eval o X.env)
   let iv <-holding [v,ov] (eval i X.env)
   standAt pos
   holding [v,ov,iv] (setItem ov iv v)
   release [v,ov,iv] []):=by intro _;rfl):SimG X G (.Subscript o i pos) (q9o wo wi f):=
 PG.imp (x5p ho hi hf ha) fun v' σV H Q hh1=>by obtain⟨φ,v,σ,S,Q0,L,R,r,h,k⟩:=hh1;exact(⟨φ,σ,S,_,L,R,h,fun ov S1 φ1 H1 x q p1 m1 R1 r1=>⟨φ1,σ,S1,_,L.mono m1 p1,R1,q,fun iv S2 φ2 H2 y q2 p2 m2 R2 r2=>
  ⟨φ2,S2,ov,iv,v,_,R2,RV.mono m2 p2 _ _ r1,r2,RV.mono m2 p2 _ _ (RV.mono m1 p1 _ _ r),q2,fun S3 H3 q3 m3 R3=>k σ S3 φ2 H3 σV q3 (p1.trans p2) ((m1.trans m2).trans m3) R3 (((L.mono m1 p1).mono m2 p2).mono m3 (List.prefix_refl _))⟩⟩⟩)
def q6k(c:WT)(b:WS):WS:=fun D E σ S=>∃W:Nat->Loc->q0i->Prop,(∃m,W m σ S)/\∀m σ S,W m σ S->
 c σ S E fun bo S1=>if bo=true then ∃N:Loc->q0i->Prop,(∀σ' S',N σ' S'->∃m',m'<m/\W m' σ' S')/\b {D with nx:=N,ct:=N,bk:=D.nx} E σ S1 else D.nx σ S1
theorem q4q{c:Expr}{body:List Stmt}{wc:WT}{wb:WS}(hp:PassesOwn (model X.prog X.w) X.A X.env X.xe)(hc:SimT X G c wc)(hb:q9c X G body wb):SimS X G (.While c body [] pos) (q6k wc wb):=
 (y5z hp hc hb).imp fun D σV H hh1=>by
  obtain⟨φ,σ,S,D0,L,R,h,k⟩:=hh1
  obtain⟨W,⟨m0,w0⟩,st⟩:=h
  refine⟨fun m σV' H'=>∃φ' σ' S',φ <+: φ'/\Mono H H'/\LRel X.K G H' φ' σ' σV'/\Rel X.K φ' S' H'/\W m σ' S',⟨m0,φ,σ,S,List.prefix_refl _,.refl _,L,R,w0⟩,?_⟩
  rintro m σV' H' ⟨φ',σ',S',p,mo,L',R',hw⟩
  refine⟨φ',σ',S',_,L',R',st m σ' S' hw,fun bo S1 φ1 H1 q p1 m1 R1=>?_⟩
  cases bo with
  |true=>
   obtain⟨N,hN,hb⟩:=q
   refine⟨fun σ2V H2=>∃φ2 σ2 S2,φ1 <+: φ2/\Mono H1 H2/\LRel X.K G H2 φ2 σ2 σ2V/\Rel X.K φ2 S2 H2/\N σ2 S2,?_,?_⟩
   ·rintro σ2V H2 ⟨φ2,σ2,S2,p2,m2,L2,R2,hn⟩
    obtain⟨m',hm,hw'⟩:=hN σ2 S2 hn
    exact⟨m',hm,φ2,σ2,S2,(p.trans p1).trans p2,(mo.trans m1).trans m2,L2,R2,hw'⟩
   ·exact⟨φ1,σ',S1,_,L'.mono m1 p1,R1,hb,⟨fun σ2 S2 φ2 H2 σ2V q p2 m2 R2 L2=>⟨φ2,σ2,S2,p2,m2,L2,R2,q⟩,k.rt.up (p.trans p1) (mo.trans m1),k.nx.up (p.trans p1) (mo.trans m1),fun σ2 S2 φ2 H2 σ2V q p2 m2 R2 L2=>⟨φ2,σ2,S2,p2,m2,L2,R2,q⟩⟩⟩
  |false=>exact k.nx σ' S1 φ1 H1 σV' q (p.trans p1) (mo.trans m1) R1 (L'.mono m1 p1)
structure PIt where
 xs:List PV
 chk:q0i->Prop
structure ItR(K:Frag)(φ0:List Addr)(H0:Hp)(J:It)(it:PIt):Prop where
 go:∀φ H S,φ0 <+: φ->Mono H0 H->Rel K φ S H->it.chk S->∀(i:Nat) x,it.xs[i]?=some x->J.go i H/\∀y H',J.yld i H y H'->∃φ',φ <+: φ'/\Mono H H'/\Rel K φ' S H'/\RV K H' φ' x y
 stop:∀φ H S,φ0 <+: φ->Mono H0 H->Rel K φ S H->it.chk S->∀i:Nat,it.xs.length<=i->J.stop i H
abbrev WI:=Loc->q0i->EK->(PIt->q0i->Prop)->Prop
def KI(K:Frag)(φ:List Addr)(H:Hp)(Q0:PIt->q0i->Prop)(R:It->Hp->Prop):Prop:=∀it S' φ' H' J,Q0 it S'->φ <+: φ'->Mono H H'->Rel K φ' S' H'->ItR K φ' H' J it->R J H'
def y7a(K:Frag)(G:GX)(w:WI):TI:=fun σV H R=>∃φ σ S Q0,LRel K G H φ σ σV/\Rel K φ S H/\w σ S G.ek Q0/\KI K φ H Q0 R
def SimI(X:Cx)(G:GX)(tg iter:Expr)(w:WI):Prop:=PI X tg iter (y7a X.K G w)
theorem PI.imp{tg e:Expr}{t t':TI}(h:PI X tg e t)(i:∀σ H Q,t' σ H Q->t σ H Q):PI X tg e t':=fun pins s σ H R I q=>h pins s σ H R I (i σ H R q)
def iAny(K:Frag)(tl:TE):TI:=fun σ H R=>tl σ H fun x H1=>(∃a,x=.ref a/\(∃xs,SqL K H1 a xs)/\R (Itl K a) H1)\/(∃a,x=.ref a/\(∃xs,SqT K H1 a xs)/\R (Itt K a) H1)\/∃z,x=.str z/\R (Its z) H1
theorem x5n{tg l:Expr}{tl:TE}(hl:PE X l tl):PI X tg l (iAny X.K tl):=by
 intro pins s σ H R I h
 refine thn (hl pins s σ H _ I h) fun v s1 hh1=>?_
 obtain⟨x,H1,I1,r1,q1⟩:=hh1
 rcases q1 with⟨a,e,⟨xs,hq⟩,q⟩|⟨a,e,⟨xs,hq⟩,q⟩|⟨z,rfl,q⟩
 ·subst e
  cases r1
  obtain⟨its,rv,p,hz⟩:=I1.list hq
  refine wpAny_pyIter_list p.isList ?_
  refine⟨s1.heap.objs.size,[s1.heap.objs.size],_,_,H1,rfl,I1.kept (t':=s1.toks) fun b o e=>Heap.get?_push_of_some _ e,y0a a _,⟨_,Heap.get?_push_size _ rfl,rfl,rfl⟩,fun b hb=>?_,q⟩
  have e:b=s1.heap.objs.size:=by simpa using hb
  subst e
  exact I1.fpOk (Nat.le_refl _) (I1.hok.fresh (Nat.le_refl _))
 ·subst e
  cases r1
  obtain⟨its,rv,p,hz⟩:=I1.tuple hq
  refine wpAny_pyIter_tuple (show s1.heap.IsTuple a its.toArray from p) ?_
  refine⟨s1.heap.objs.size,[s1.heap.objs.size],_,_,H1,rfl,I1.kept (t':=s1.toks) fun b o e=>Heap.get?_push_of_some _ e,z8o a _,⟨_,Heap.get?_push_size _ rfl,rfl,rfl⟩,fun b hb=>?_,q⟩
  have e:b=s1.heap.objs.size:=by simpa using hb
  subst e
  exact I1.fpOk (Nat.le_refl _) (I1.hok.fresh (Nat.le_refl _))
 ·obtain⟨t,rfl⟩:=r1
  refine wpAny_pyIter_strU ?_
  refine⟨s1.heap.objs.size,[s1.heap.objs.size],_,_,H1,rfl,I1.kept (t':=s1.toks) fun b o e=>Heap.get?_push_of_some _ e,y5d _ z t,⟨Nat.zero_le _,_,Heap.get?_push_size _ rfl,rfl,rfl⟩,fun b hb=>?_,q⟩
  obtain rfl:=List.mem_singleton.mp hb
  exact I1.fpOk (Nat.le_refl _) I1.fresh
def chr1(c:Nat):PV:=.str ⟨#[c]⟩
def q7o(w:WE):WI:=fun σ S E Q=>w σ S E fun x S1=>match x with
 |.ref n=>match q3c S1 n with
  |some xs=>Q ⟨xs,fun S=>q3c S n=some xs⟩ S1
  |none=>False
 |.tup xs=>Q ⟨xs,fun _=>True⟩ S1
 |.frl xs=>Q ⟨xs,fun _=>True⟩ S1
 |.str z=>Q ⟨z.cps.toList.map chr1,fun _=>True⟩ S1
 |_=>False
theorem y7k{K:Frag}{φ:List Addr}{H:Hp}{n:Nat}{a:Addr}{xs:List PV}(qa:φ[n]?=some a):ItR K φ H (Itl K a) ⟨xs,fun S=>q3c S n=some xs⟩ where
 go:=fun φ1 H1 S1 p m R e i x hx=>by
  obtain⟨vs,sa,ra⟩:=R.seq (q9w p qa) e
  obtain⟨y,ey,ry⟩:=ra.get hx
  refine⟨⟨vs,y,sa,ey⟩,fun y' H' hh1=>?_⟩
  obtain⟨e1,e2⟩:=hh1
  subst e1
  have:=e2 vs sa
  rw[ey]at this
  cases this
  exact⟨φ1,List.prefix_refl _,.refl _,R,ry⟩
 stop:=fun φ1 H1 S1 p m R e i hi=>by
  obtain⟨vs,sa,ra⟩:=R.seq (q9w p qa) e
  exact⟨vs,sa,by rw[<-ra.length];exact hi⟩
theorem x2n{K:Frag}{φ:List Addr}{H:Hp}{a:Addr}{xs:List PV}{vs:List V}(sa:SqT K H a vs)(ra:RVs K H φ xs vs):ItR K φ H (Itt K a) ⟨xs,fun _=>True⟩ where
 go:=fun φ1 H1 S1 p m R e i x hx=>by
  have sa1:=m.sqT sa
  obtain⟨y,ey,ry⟩:=(RVs.mono m p _ _ ra).get hx
  refine⟨⟨vs,y,sa1,ey⟩,fun y' H' hh1=>?_⟩
  obtain⟨e1,e2⟩:=hh1
  subst e1
  have:=e2 vs sa1
  rw[ey]at this
  cases this
  exact⟨φ1,List.prefix_refl _,.refl _,R,ry⟩
 stop:=fun φ1 H1 S1 p m R e i hi=>⟨vs,m.sqT sa,by rw[<-ra.length];exact hi⟩
theorem x2q{K:Frag}{φ:List Addr}{H:Hp}{a:Addr}{xs:List PV}{vs:List V}(sa:SqF K H a vs)(ra:RVs K H φ xs vs):ItR K φ H (Itl K a) ⟨xs,fun _=>True⟩ where
 go:=fun φ1 H1 S1 p m R e i x hx=>by
  have sa1:=(m.sqF sa).sq
  obtain⟨y,ey,ry⟩:=(RVs.mono m p _ _ ra).get hx
  refine⟨⟨vs,y,sa1,ey⟩,fun y' H' hh1=>?_⟩
  obtain⟨e1,e2⟩:=hh1
  subst e1
  have:=e2 vs sa1
  rw[ey]at this
  cases this
  exact⟨φ1,List.prefix_refl _,.refl _,R,ry⟩
 stop:=fun φ1 H1 S1 p m R e i hi=>⟨vs,(m.sqF sa).sq,by rw[<-ra.length];exact hi⟩
theorem x2o{K:Frag}{φ:List Addr}{H:Hp}{z:Str}:ItR K φ H (Its z) ⟨z.cps.toList.map chr1,fun _=>True⟩ where
 go:=fun φ1 H1 S1 p m R e i x hx=>by
  have hx':(z.cps.toList.map chr1)[i]?=some x:=hx
  rw[List.getElem?_map]at hx'
  obtain⟨c,hc,rfl⟩:=Option.map_eq_some_iff.mp hx'
  have hc':z.cps[i]?=some c:=by simpa using hc
  refine⟨(Array.getElem?_eq_some_iff.mp hc').1,fun y' H' ⟨e1,c',e2,e3⟩=>?_⟩
  subst e1
  rw[hc']at e2
  cases e2
  exact⟨φ1,List.prefix_refl _,.refl _,R,e3⟩
 stop:=fun φ1 H1 S1 p m R e i hi=>by
  have:(z.cps.toList.map chr1).length<=i:=hi
  show z.cps.size<=i
  simpa using this
theorem q4y{tg l:Expr}{w:WE}(hl:SimE X G l w):SimI X G tg l (q7o w):=
 PI.imp (x5n hl) fun σV H Q hh1=>by obtain⟨φ,σ,S,Q0,L,R,h,k⟩:=hh1;exact(⟨φ,σ,S,_,L,R,h,fun v S1 φ1 H1 x q p1 m1 R1 r1=>by
  split at q
  ·rename_i n
   split at q
   ·rename_i xs e
    obtain ⟨a,rfl,qa⟩:=r1
    obtain ⟨vs,sa,ra⟩:=R1.seq qa e
    exact .inl ⟨a,rfl,⟨vs,sa⟩,k _ S1 φ1 H1 _ q p1 m1 R1 (y7k qa)⟩
   ·exact q.elim
  ·rename_i xs
   obtain ⟨a,vs,rfl,sa,ra⟩:=r1
   exact .inr (.inl ⟨a,rfl,⟨vs,sa⟩,k _ S1 φ1 H1 _ q p1 m1 R1 (x2n sa ra)⟩)
  ·rename_i xs
   obtain ⟨a,vs,rfl,sa,ra⟩:=r1
   exact .inl ⟨a,rfl,⟨vs,sa.sq⟩,k _ S1 φ1 H1 _ q p1 m1 R1 (x2q sa ra)⟩
  ·rename_i z
   cases r1
   exact .inr (.inr ⟨z,rfl,k _ S1 φ1 H1 _ q p1 m1 R1 x2o⟩)
  ·exact q.elim⟩)
def rngP(lo:Int)(n:Nat):List PV:=(List.range n).map fun i=>.int (lo+(i:Nat))
def q5c(wa:WA):WI:=fun σ S E Q=>wa σ S E fun xs S1=>match xs with
 |[.int j]=>(-(2 ^ 62)<=j/\j<2 ^ 62)/\Q ⟨rngP 0 j.toNat,fun _=>True⟩ S1
 |_=>False
theorem y2w{K:Frag}{φ:List Addr}{H:Hp}{lo:Int}{n:Nat}:ItR K φ H (Itr lo n) ⟨rngP lo n,fun _=>True⟩ where
 go:=fun φ1 H1 S1 p m R e i x hx=>by
  have hx':(rngP lo n)[i]?=some x:=hx
  unfold rngP at hx'
  rw[List.getElem?_map]at hx'
  obtain⟨c,hc,rfl⟩:=Option.map_eq_some_iff.mp hx'
  obtain⟨hl,rfl⟩:=List.getElem?_eq_some_iff.mp hc
  rw[List.getElem_range]
  refine⟨by show i<n;simpa using hl,fun y' H' hh1=>?_⟩
  obtain⟨e1,e2⟩:=hh1
  subst e1
  exact⟨φ1,List.prefix_refl _,.refl _,R,e2⟩
 stop:=fun φ1 H1 S1 p m R e i hi=>by
  have:(rngP lo n).length<=i:=hi
  unfold rngP at this
  show n<=i
  simpa using this
theorem q4k{tg a:Expr}{wa:WA}{p:Pos}(hm:X.mg "range" = none)(ha:SimA X G [a] wa)(hg:Gl X "range" :=by rfl)(hs:starEach [a] X.env=[(false,eval a X.env)]:=by rfl):SimI X G tg (.Call (.Name "range" p) [a] [] pos) (q5c wa):=
 PI.imp (y1j hg hm ha hs) fun σV H Q hh1=>by obtain⟨φ,σ,S,Q0,L,R,h,k⟩:=hh1;exact(⟨φ,σ,S,_,L,R,h,fun v S1 φ1 H1 x q p1 m1 R1 r1=>by
  split at q
  ·rename_i j
   obtain ⟨y,rfl,r⟩:=q3l r1
   cases r
   exact ⟨j,rfl,q.1.1,q.1.2,k _ S1 φ1 H1 _ q.2 p1 m1 R1 y2w⟩
  ·exact q.elim⟩)
def q8m(chk:q0i->Prop)(g:WG)(wb:WS)(D:PEnds)(E:EK):List PV->Loc->q0i->Prop
 |[],σ,S=>chk S/\D.nx σ S
 |x::r,σ,S=>chk S/\∃N:Loc->q0i->Prop,(∀σ' S',N σ' S'->q8m chk g wb D E r σ' S')/\g x σ S E fun σ2 S2=>wb {nx:=N,rt:=D.rt,ct:=N,bk:=D.nx} E σ2 S2
def wFor(wi:WI)(g:WG)(wb:WS):WS:=fun D E σ S=>wi σ S E fun it S1=>q8m it.chk g wb D E it.xs σ S1
theorem q5o{tg iter:Expr}{body:List Stmt}{wi:WI}{g:WG}{wb:WS}(hp:PassesOwn (model X.prog X.w) X.A X.env X.xe)(hc:X.calm=true)(hi:SimI X G tg iter wi)(hg:SimG X G tg g)(hb:q9c X G body wb)(hs:∀x,foldedSetIterable iter X.env x=pure x:=by intro _;rfl):SimS X G (.For tg iter body [] pos) (wFor wi g wb):=
 (x5i hp hc hi hg hb hs).imp fun D σV H hh1=>by obtain⟨φ,σ,S,D0,L,R,h,k⟩:=hh1;exact(⟨φ,σ,S,_,L,R,h,fun it S1 φ1 H1 J q p1 m1 R1 hj=>by
  refine ⟨fun i m σV' H'=>m=it.xs.length-i/\i<=it.xs.length/\∃φ' σ' S',φ1 <+: φ'/\Mono H1 H'/\LRel X.K G H' φ' σ' σV'/\Rel X.K φ' S' H'/\q8m it.chk g wb D0 G.ek (it.xs.drop i) σ' S',⟨it.xs.length,by simp,Nat.zero_le _,φ1,σ,S1,List.prefix_refl _,.refl _,L.mono m1 p1,R1,by simpa using q⟩,?_⟩
  rintro i m σV' H' ⟨rfl,hi,φ',σ',S',p',m',L',R',hf⟩
  by_cases hlt:i<it.xs.length
  ·rw [List.drop_eq_getElem_cons hlt]at hf
   obtain ⟨hch,N,hN,hb⟩:=hf
   obtain ⟨jg,jy⟩:=hj.go φ' H' S' p' m' R' hch i _ (List.getElem?_eq_getElem hlt)
   refine .inr ⟨jg,fun σ2V H2=>∃φ2 σ2 S2,φ' <+: φ2/\Mono H' H2/\LRel X.K G H2 φ2 σ2 σ2V/\Rel X.K φ2 S2 H2/\N σ2 S2,?_,?_⟩
   ·rintro σ2V H2 ⟨φ2,σ2,S2,p2,m2,L2,R2,hn⟩
    exact ⟨it.xs.length-(i+1),by omega,rfl,hlt,φ2,σ2,S2,p'.trans p2,m'.trans m2,L2,R2,hN σ2 S2 hn⟩
   ·intro y H2 hy
    obtain ⟨φ2,p2,m2,R2,r2⟩:=jy y H2 hy
    refine ⟨φ2,_,σ',S',_,L'.mono m2 p2,R2,r2,hb,fun σ3 S3 φ3 H3 σ3V q3 p3 m3 R3 L3=>?_⟩
    refine ⟨φ3,σ3,S3,_,L3,R3,q3,⟨?_,k.rt.up (((p1.trans p').trans p2).trans p3) (((m1.trans m').trans m2).trans m3),k.nx.up (((p1.trans p').trans p2).trans p3) (((m1.trans m').trans m2).trans m3),?_⟩⟩
    ·exact fun σ4 S4 φ4 H4 σ4V q4 p4 m4 R4 L4=>⟨φ4,σ4,S4,(p2.trans p3).trans p4,(m2.trans m3).trans m4,L4,R4,q4⟩
    ·exact fun σ4 S4 φ4 H4 σ4V q4 p4 m4 R4 L4=>⟨φ4,σ4,S4,(p2.trans p3).trans p4,(m2.trans m3).trans m4,L4,R4,q4⟩
  ·have e:i=it.xs.length:=by omega
   subst e
   rw [List.drop_length]at hf
   exact .inl ⟨hj.stop φ' H' S' p' m' R' hf.1 _ (Nat.le_refl _),k.nx σ' S' φ' H' σV' hf.2 (p1.trans p') (m1.trans m') R' L'⟩⟩)
def z0k(ix:List (Option Nat))(σ:Loc):Loc:=ix.map fun o=>match o with
 |none=>none
 |some j=>match σ[j]? with
  |some v=>v
  |none=>none
abbrev NoX:EK:=fun _ _=>False
abbrev NoG:GX:=⟨NoX,fun _ _=>False⟩
def z8a(chk:q0i->Prop)(g:WG)(wc:WT)(we:WE)(Q:VC):List PV->List PV->Loc->q0i->Prop
 |[],ys,_,S=>chk S/\Q (.ref S.length) (S++[.lst ys])
 |x::r,ys,σ,S=>chk S/\∃N:List PV->Loc->q0i->Prop,(∀ys' σ' S',N ys' σ' S'->z8a chk g wc we Q r ys' σ' S')/\g x σ S NoX fun σ2 S2=>wc σ2 S2 NoX fun b S3=>if b=true then we σ2 S3 NoX (fun y S4=>N (ys++[y]) σ2 S4)else N ys σ2 S3
def q6h:WT:=fun _ S _ Q=>Q true S
def q7e(wi:WI)(ix:List (Option Nat))(g:WG)(wc:WT)(we:WE):WE:=fun σ S E Q=>wi σ S E fun it S1=>it.xs.length<=sizeLine/\z8a it.chk g wc we Q it.xs [] (z0k ix σ) S1
theorem y2y{K:Frag}{H:Hp}{φ:List Addr}{σ:Loc}{σV:St}(ix:List (Option Nat))(L:LRel K G H φ σ σV):LRel K NoG H φ (z0k ix σ) (q4u ix σV):=by
 refine⟨by simp[z0k,q4u],fun i v e=>?_,fun _ _ _ _ q=>q.elim⟩
 unfold z0k at e
 rw[List.getElem?_map]at e
 obtain⟨o,ho,e'⟩:=Option.map_eq_some_iff.mp e
 cases o with
 |none=>cases e'
 |some j=>
  dsimp only at e'
  cases hj:σ[j]? with
  |none=>rw[hj]at e';cases e'
  |some w=>
   rw[hj]at e'
   dsimp only at e'
   subst e'
   obtain⟨x,hx,r⟩:=L.at' j v hj
   refine⟨x,?_,r⟩
   unfold q4u
   rw[List.getElem?_map,ho]
   simp[hx]
end
end Ev
namespace Ev
open PySem L2 PySem.Spec PyProof.Rows
section
variable{X:Cx}{G:GX}{pos:Pos}
def sqOf(x:PV)(S:q0i):Option (Bool×List PV):=match x with
 |.tup xs=>some (true,xs)
 |.frl xs=>some (false,xs)
 |.ref n=>(q5q S n).map fun xs=>(false,xs)
 |_=>none
theorem z1b{K:Frag}{φ:List Addr}{H:Hp}{S:q0i}{x:PV}{x':V}{tp:Bool}{xs:List PV}(R:Rel K φ S H)(r:RV K H φ x x')(e:sqOf x S=some (tp,xs)):∃a vs,x'=.ref a/\Sq tp K H a vs/\RVs K H φ xs vs:=by
 unfold sqOf at e
 split at e
 ·cases e
  obtain⟨a,vs,rfl,sa,ra⟩:=r
  exact⟨a,vs,rfl,sa,ra⟩
 ·cases e
  obtain⟨a,vs,rfl,sa,ra⟩:=r
  exact⟨a,vs,rfl,sa.sq,ra⟩
 ·obtain⟨ys,e1,e2⟩:=Option.map_eq_some_iff.mp e
  cases e2
  obtain⟨a,rfl,qa⟩:=r
  obtain⟨vs,ea,ra⟩:=R.lst qa e1
  exact⟨a,vs,rfl,SqL.of ea,ra⟩
 ·cases e
def zipP(xs ys:List PV):List PV:=(xs.zip ys).map fun p=>.tup [p.1,p.2]
def y4w(wa:WA):WI:=fun σ S E Q=>wa σ S E fun vs S1=>match vs with
 |[x,y]=>match sqOf x S1,sqOf y S1 with
  |some (tp,xs),some (tq,ys)=>Q ⟨zipP xs ys,fun S=>sqOf x S=some (tp,xs)/\sqOf y S=some (tq,ys)⟩ S1
  |_,_=>False
 |_=>False
theorem z1v{K:Frag}{φ φ1:List Addr}{H H1:Hp}{x:PV}{x':V}(m:Mono H H1)(p:φ <+: φ1)(r:RV K H φ x x'):RV K H1 φ1 x x':=RV.mono m p _ _ r
theorem x2m{K:Frag}{φ:List Addr}{H:Hp}{x y:PV}{a b:Addr}{tp tq:Bool}{xs ys:List PV}(rx:RV K H φ x (.ref a))(ry:RV K H φ y (.ref b)):ItR K φ H (Itz tp tq K a b) ⟨zipP xs ys,fun S=>sqOf x S=some (tp,xs)/\sqOf y S=some (tq,ys)⟩ where
 go:=fun φ1 H1 S1 p m R hh1 i z hz=>by
  obtain⟨e1,e2⟩:=hh1
  obtain⟨a',vs,ea,sa,ra⟩:=z1b R (z1v m p rx) e1
  obtain⟨b',ws,eb,sb,rb⟩:=z1b R (z1v m p ry) e2
  cases ea
  cases eb
  have hz':(zipP xs ys)[i]?=some z:=hz
  unfold zipP at hz'
  rw[List.getElem?_map]at hz'
  obtain⟨⟨u,v⟩,hu,rfl⟩:=Option.map_eq_some_iff.mp hz'
  obtain⟨h1,h2⟩:=List.getElem?_zip_eq_some.mp hu
  obtain⟨u',g1,q1⟩:=ra.get h1
  obtain⟨v',g2,q2⟩:=rb.get h2
  refine⟨⟨vs,ws,u',v',sa,sb,g1,g2⟩,fun y' H' hh2=>?_⟩
  obtain⟨p',x1,x2,e1,hp,e2,h3,h4⟩:=hh2
  subst e1 e2
  have:=h3 vs sa
  rw[g1]at this
  cases this
  have:=h4 ws sb
  rw[g2]at this
  cases this
  exact⟨φ1,List.prefix_refl _,.new _ hp,R.frame _ hp,p',_,rfl,SqT.of q2h,RVs.mono (.new _ hp) (List.prefix_refl _) _ _ (.cons q1 (.one q2))⟩
 stop:=fun φ1 H1 S1 p m R hh3 i hi=>by
  obtain⟨e1,e2⟩:=hh3
  obtain⟨a',vs,ea,sa,ra⟩:=z1b R (z1v m p rx) e1
  obtain⟨b',ws,eb,sb,rb⟩:=z1b R (z1v m p ry) e2
  cases ea
  cases eb
  refine⟨vs,ws,sa,sb,?_⟩
  have:(zipP xs ys).length<=i:=hi
  unfold zipP at this
  rw[List.length_map,List.length_zip,ra.length,rb.length]at this
  omega
theorem y5p{es:List Expr}{kk:Nat}{ps:Pos}{a b:Expr}{wa:WA}{p:Pos}(hm:X.mg "zip" = none)(ha:SimA X G [a,b] wa)(hg:Gl X "zip" :=by rfl)(hs:starEach [a,b] X.env=[(false,eval a X.env),(false,eval b X.env)]:=by rfl)(hs2:starEach [b] X.env=[(false,eval b X.env)]:=by rfl):SimI X G (.Tuple es kk ps) (.Call (.Name "zip" p) [a,b] [] pos) (y4w wa):=
 PI.imp (x5l hg hm ha hs hs2) fun σV H Q hh1=>by obtain⟨φ,σ,S,Q0,L,R,h,k⟩:=hh1;exact(⟨φ,σ,S,_,L,R,h,fun v S1 φ1 H1 x q p1 m1 R1 r1=>by
  split at q
  ·rename_i x1 x2
   split at q
   ·rename_i tp xs tq ys e1 e2
    obtain ⟨y1,y2,rfl,g1,g2⟩:=q7y r1
    obtain ⟨a',vs,rfl,sa,ra⟩:=z1b R1 g1 e1
    obtain ⟨b',ws,rfl,sb,rb⟩:=z1b R1 g2 e2
    exact ⟨tp,tq,a',b',vs,ws,rfl,sa,sb,k _ S1 φ1 H1 _ q p1 m1 R1 (x2m g1 g2)⟩
   ·exact q.elim
  ·exact q.elim⟩)
end
abbrev Den:=List PV->q0i->EK->VC->Prop
def ClsP(K:Frag)(v:PV)(cls:Value):Prop:=∃c C,v=.exc c/\cls=.ref C/\PySem.W.nsIn K mainGlobals (Str.ofString c)=some (some (.ref C))
def xkOf(K:Frag)(f:PV->Hp->Prop):XK:=fun cls _ H'=>∃v,ClsP K v cls/\f v H'
def KX(K:Frag)(φ:List Addr)(H:Hp)(E0:EK)(f:PV->Hp->Prop):Prop:=∀v S' φ' H',E0 v S'->φ <+: φ'->Mono H H'->Rel K φ' S' H'->f v H'
theorem z7o{P:Program}{w:World}{X:Cx}{K:Frag}:q5y (CXE P w) X (xkOf K NoG.xh):=x6a.imp fun _ _ _ hh1=>by obtain⟨_,_,q⟩:=hh1;exact(q)
def q1a(K:Frag)(sp:Den):Sp:=fun vs H Q E=>∃φ args S Q0 E0 f,RVs K H φ args vs/\Rel K φ S H/\sp args S E0 Q0/\KE K φ H Q0 Q/\KX K φ H E0 f/\∀cls d H',xkOf K f cls d H'->E cls d H'
def q0v(sp:Den)(wa:WA):WE:=fun σ S E Q=>wa σ S E fun xs S1=>sp xs S1 E Q
theorem q0k{X:Cx}{G:GX}{pos:Pos}{k:Nat}{f:Addr}{fd:FuncData}{ps:List Str}{sp:Den}{x:Str}{p:Pos}{e:Expr}{es:List Expr}{wa:WA}(C:Cal X.prog X.w X.K X.mg X.base k x ps (q1a X.K sp) f fd)(hr:Room k X.A)(hx:q5y (CXE X.prog X.w) X (xkOf X.K G.xh))(ha:SimA X G (e::es) wa)(hg:Gl X x:=by rfl)
  (hdb:(x==("__debug__" : Str))=false:=by decide) (he:starEach (e::es) X.env=(false,eval e X.env)::starEach es X.env:=by rfl) (hpl:(backTo pos (starEach es X.env)).any (·.1)=false:=by rfl) :
  SimE X G (.Call (.Name x p) (e::es) [] pos) (q0v sp wa):=
 (x1n C.G hr hg C.m C.kp C.b .nil hx ha hdb he hpl).imp fun σV H Q hh1=>by obtain⟨φ,σ,S,Q0,L,R,h,k⟩:=hh1;exact(⟨φ,σ,S,_,L,R,h,fun v S1 φ1 H1 x q p1 m1 R1 r1=>
  ⟨φ1,v,S1,Q0,G.ek,G.xh,by rw [List.append_nil];exact r1,R1,q,k.up p1 m1,(L.mono m1 p1).kx,fun _ _ _ z=>z⟩⟩)
def fnP(np nl:Nat)(w:WS):Den:=fun args S E Q=>args.length=np/\w {nx:=fun _ S'=>Q .non S',rt:=Q} E (args.map some++List.replicate (nl-np) none) S
theorem y0h{K:Frag}{G:GX}{H:Hp}{φ:List Addr}{args:List PV}{vs:List V}(N:List Str)(r:RVs K H φ args vs)(kx:KX K φ H G.ek G.xh):LRel K G H φ (args.map some++List.replicate (N.length-args.length) none) (L2.q9r N vs):=by
 refine⟨by unfold L2.q9r;simp[r.length],fun i v e=>?_,kx⟩
 by_cases hi:i<args.length
 ·rw[List.getElem?_append_left (by simpa using hi),List.getElem?_map]at e
  obtain⟨u,hu,e'⟩:=Option.map_eq_some_iff.mp e
  cases e'
  obtain⟨x,hx,rx⟩:=r.get hu
  refine⟨x,?_,rx⟩
  unfold L2.q9r
  rw[List.getElem?_append_left (by simpa[<-r.length]using hi),List.getElem?_map,hx]
  rfl
 ·rw[List.getElem?_append_right (by simpa using hi),List.getElem?_replicate]at e
  split at e<;>cases e
theorem x7s{P:Program}{w:World}{K:Frag}{mg:Str->Option Value}{base:Heap}{x qual:Str}{st:Stmt}{f:Addr}{fd:FuncData}{N ps:List Str}{k:Nat}{wb:WS}(F:Fun K x qual st f fd)(Sc:FnScope N ps (q1w st))
  (sim:∀(cdv:Value)(A:Around)(outer:List Env)(s:Shared)(H:Hp)(E:XK)(G:GX),RoomW k (A.deeper (envOfC qual (q1w st) s.heap.objs.size f cdv))->q5y (CXE P w) (cxOf (CXE P w) P w K mg base N qual (q1w st) f cdv A outer s H E) (xkOf K G.xh)->
   q9c (cxOf (CXE P w) P w K mg base N qual (q1w st) f cdv A outer s H E) G (q6e st) wb) :
  FnOk P w K mg base (CXE P w) (k+1) f fd ps (q1a K (fnP ps.length N.length wb)):=by
 refine F.okX Sc (fun vs H Q E h=>?_) (fun cdv A outer s H vs Q E hr h=>?_)
 ·obtain⟨φ,args,S,Q0,E0,g,r,_,⟨h,_⟩,_⟩:=h
  rw[<-r.length,h]
 ·obtain⟨φ,args,S,Q0,E0,g,r,R,⟨hl,h⟩,kk,kx,hE⟩:=h
  refine⟨_,sim cdv A outer s H E ⟨E0,g⟩ hr (w0n.imp hE),φ,_,S,{nx:=fun _ S'=>Q0 .non S',rt:=Q0},?_,R,h,⟨fun σ' S' φ' H' σV' q p m R' L'=>kk _ S' φ' H' _ q p m R' rfl,kk,fun _ _ _ _ _ q=>q.elim,fun _ _ _ _ _ q=>q.elim⟩⟩
  have:=y0h (G:=⟨E0,g⟩) N r kx
  rw[hl]at this
  exact this
theorem q1y{P:Program}{w:World}{K:Frag}{mg:Str->Option Value}{base:Heap}{k:Nat}{f:Addr}{fd:FuncData}{ps:List Str}:FnOk P w K mg base (CXE P w) k f fd ps (q1a K fun _ _ _ _=>False):=
 ⟨fun vs H Q E hh1=>by obtain⟨_,_,_,_,_,_,_,_,h,_⟩:=hh1;exact(h.elim),fun A outer s H args us vs Q E _ _ _ _ hh2=>by obtain⟨_,_,_,_,_,_,_,_,h,_⟩:=hh2;exact(h.elim)⟩
def LawP(sp:Den):Prop:=∀ns:List Int,ns.length<=63->sp [.frl (ns.map .int)] [] NoX fun v _=>v=.bl true
theorem x6x{K:Frag}{sp:Den}(h:LawP sp):∀(H:Hp)(a:Addr)(ns:List Int),ns.length<=63->Only H->SqL K H a (ns.map V.int)->q1a K sp [.ref a] H (fun v _=>v=.bl true) fun _ _ _=>False:=by
 intro H a ns hl hO hS
 refine⟨[],[.frl (ns.map .int)],[],_,NoX,fun _ _=>False,⟨_,_,rfl,⟨a,_,rfl,?_,RVs.of_ints ns⟩,rfl⟩,⟨rfl,by simp,fun n a o e=>by simp at e⟩,h ns hl,fun v S' φ' H' x q p m R r=>?_,fun _ _ _ _ q=>q.elim,fun _ _ _ hh1=>by obtain⟨_,_,q⟩:=hh1;exact(q)⟩
 ·rcases hS with hS|hS
  ·rcases hS with z|⟨o,z⟩
   ·rcases hO a with w|⟨o,xs,w⟩
    ·rw[z]at w;cases w
    ·rw[z]at w;cases w
   ·exact .inl ⟨o,z⟩
  ·exact .inr hS
 ·subst q
  exact r
end Ev
namespace L2
open PySem PySem.Spec PyProof.Rows
theorem z3a:bootBuiltins "max" = some (.builtin "max"):=by kernel_rfl
def delF(a c:Nat)(xs:Array Value):Array Value:=(xs.toList.zipIdx.filterMap fun(p:Value×Nat)=>if Builtin.Bytes.selects (a:Int) (c:Int) 1 p.2 then none else some p.1).toArray
theorem y3x(a c:Nat)(hac:a<=c)(xs:List Value):(delF a c xs.toArray).toList=xs.take a++xs.drop c:=by
 have sel:∀i:Nat,Builtin.Bytes.selects (a:Int) (c:Int) 1 i=(decide (a<=i)&&decide (i<c)):=by
  intro i
  unfold Builtin.Bytes.selects
  simp only[show((1:Int) > 0) by decide,if_true,Int.emod_one,beq_self_eq_true,Bool.and_true]
  congr 1
  ·exact decide_eq_decide.mpr (by omega)
  ·exact decide_eq_decide.mpr (by omega)
 unfold delF
 simp only[sel]
 have key:∀(ys:List Value)(j:Nat),((ys.zipIdx j).filterMap fun(p:Value×Nat)=>if(decide (a<=p.2)&&decide (p.2<c))=true then none else some p.1)=ys.take (a-j)++ys.drop (c-j):=by
  intro ys
  induction ys with
  |nil=>intro j;simp
  |cons y ys ih=>
   intro j
   rw[List.zipIdx_cons,List.filterMap_cons,ih (j+1)]
   by_cases h1:a<=j
   ·by_cases h2:j<c
    ·rw[show(if(decide (a<=(y,j).2)&&decide ((y,j).2<c))=true then none else some (y,j).1)=(none:Option Value) by simp[h1,h2]]
     dsimp only
     rw[show a-(j+1)=0 by omega,show a-j=0 by omega,show c-j=(c-(j+1))+1 by omega]
     simp
    ·rw[show(if(decide (a<=(y,j).2)&&decide ((y,j).2<c))=true then none else some (y,j).1)=some y by simp[h2]]
     dsimp only
     rw[show a-(j+1)=0 by omega,show a-j=0 by omega,show c-j=0 by omega,show c-(j+1)=0 by omega]
     simp
   ·rw[show(if(decide (a<=(y,j).2)&&decide ((y,j).2<c))=true then none else some (y,j).1)=some y by simp[h1]]
    dsimp only
    rw[show a-j=(a-(j+1))+1 by omega,show c-j=(c-(j+1))+1 by omega]
    simp
 have:=key xs 0
 simpa using this
section
variable{prog:Program}{w:World}{A:Around}{E:Value->Shared->Prop}{s:Shared}
set_option maxRecDepth 100000 in
theorem z2y{l sl:Addr}{items:Array Value}{n:Nat}{vl vu:Value}{lo hi:Option Int}{a c:Nat}{Q:Unit->Shared->Prop}
  (e:s.heap.get? l=some {cls:=.type "list",data:=.seq items n})
  (hs:s.heap.IsSliceOf sl vl vu .none) (pl:IsPart vl lo) (pu:IsPart vu hi) (hb:sliceBounds lo hi none items.size=((a:Int),(c:Int),1))
  (hsz:items.size<=sizeLine) (hz2:(delF a c items).size<=sizeLine) (h:Q () {s with heap:=s.heap.update l (Obj.mapSeq (delF a c))}) :
  wpAny (model prog w) A (delItem (.ref l) (.ref sl)) Q E s:=by
 have hl:s.heap.IsList l items:=PySem.IsL.isList e
 obtain⟨os,hos,hcs,hds⟩:=id hs
 have hTs:s.TypeIs (.ref sl) "slice" :=⟨os,hos,hcs⟩
 have hstep:¬((rawPart none==rawInt 0)=true):=Bool.false_ne_true
 refine wpAny_delItem_slot hl.typeIs (by decide) F.slot_list_delitem ?_
 refine wpAny_call_entry F.slot_list_delitem hl.typeIs F.entry_list_delitem ?_ (F.args_list_delitem_2 _ _)
 show wpAny _ _ (Builtin.List.listSubscript? (.ref sl) >>= _) _ _ s
 refine wpAny_bind ?_
 unfold Builtin.List.listSubscript?
 refine wpAny_bind (wpAny_specialOf hTs slice_no_index ?_)
 simp only[Option.isNone_none,if_true]
 refine wpAny_pure ?_
 show wpAny _ _ (typeOf (.ref sl) >>= _) _ _ s
 refine wpAny_bind (wpAny_typeOf hTs ?_)
 first
  |rw[if_neg (by decide)]
  |refine PySem.W.KFB.if_not (by decide) ?_
 rw[listSliceParts_eq]
 refine wpAny_bind (wpAny_bind (wpAny_field hos hds (x:=.none) rfl (wpAny_bind (wpAny_listPart .none ?_))))
 rw[if_neg hstep]
 refine wpAny_bind (wpAny_field hos hds (x:=vl) rfl (wpAny_bind (wpAny_listPart pl ?_)))
 refine wpAny_bind (wpAny_field hos hds (x:=vu) rfl (wpAny_bind (wpAny_listPart pu (wpAny_pure ?_))))
 refine wpAny_bind (m:=Builtin.List.listItems (.ref l)) ?_
 unfold Builtin.List.listItems
 refine wpAny_bind (wpAny_seqItems e rfl (wpAny_pure ?_))
 refine wpAny_bind (wpAny_of_eq ((sliceIndices_raw lo hi none items.size (by simp)).trans (congrArg (pure:Int×Int×Int->Sem (Int×Int×Int)) hb)) ?_)
 refine wpAny_bind (wpAny_rule ?_)
 refine wpAny_bind (m:=updateSeq l (delF a c)) (wpAny_updateSeq (hz:=hsz) (_hz':=Nat.le_succ_of_le hz2) e rfl ?_)
 refine wpAny_bind (wpAny_letGo ?_)
 first
  |exact wpAny_bind (wpAny_pure (wpAny_pure ⟨.none,rfl,h⟩))
  |exact wpAny_pure ⟨.none,rfl,wpAny_pure h⟩
  |exact wpAny_pure ⟨.none,rfl,h⟩
end
end L2
namespace Ev
open PySem L2
section
variable{X:Cx}{G:GX}{pos:Pos}
def x4s(to:TE)(tl th:TO):TS:=fun D σ H=>to σ H fun x H1=>tl σ H1 fun lo H2=>th σ H2 fun hi H3=>∃l xs,x=.ref l/\H3 l=some (.lst xs)/\HT.sIx xs.length 0 lo<=HT.sIx xs.length xs.length hi/\
 D.nx σ (upd H3 l (.lst (xs.take (HT.sIx xs.length 0 lo)++xs.drop (HT.sIx xs.length xs.length hi))))
theorem y6c{o:Expr}{lo hi:Option Expr}{p2 tpos:Pos}{to:TE}{tl th:TO}(ho:PE X o to)(hl:PO X lo tl)(hh:PO X hi th):PS X (.Delete [.Subscript o (.Slice lo hi none p2) tpos] pos) (x4s to tl th):=by
 intro pins s σ H D I h
 refine wpAny_Delete (wpAny_deleteEach_cons (wpAny_delete_Subscript (thn (ho pins s σ H _ I h) fun v s1 hh1=>?_)))
 obtain⟨x,H1,I1,r1,q1⟩:=hh1
 refine wpAny_Slice (thn (hl pins s1 σ H1 _ I1 q1) fun vl s2 ⟨l,H2,I2,pl,q2⟩=>thn (hh pins s2 σ H2 _ I2 q2) fun vu s3 hh2=>?_)
 obtain⟨u,H3,I3,pu,q3⟩:=hh2
 rw[evalPart_none]
 refine wpAny_pure ?_
 obtain⟨a,xs,rfl,ha,hac,q⟩:=q3
 cases r1
 have I4:=I3.kept (h':=s3.heap.push {cls:=.type "slice",data:=.fields #[vl,vu,.none]}) (t':=s3.toks) fun b ob q=>Heap.get?_push_of_some _ q
 obtain⟨z,its,n,r,hle,e⟩:=I4.lstM ha
 obtain⟨b1,b2,b3⟩:=q8t l u xs.length
 have hz:=r.length
 have hsz:its.toArray.size=xs.length:=by rw[List.size_toArray];exact hz.symm
 have hF:delF (HT.sIx xs.length 0 l) (HT.sIx xs.length xs.length u) its.toArray=(its.take (HT.sIx xs.length 0 l)++its.drop (HT.sIx xs.length xs.length u)).toArray:=by
  apply Array.toList_inj.mp
  rw[y3x _ _ hac]
 have hlen:(its.take (HT.sIx xs.length 0 l)++its.drop (HT.sIx xs.length xs.length u)).length<=its.length:=by
  rw[List.length_append,List.length_take,List.length_drop]
  omega
 refine z2y (a:=HT.sIx xs.length 0 l) (c:=HT.sIx xs.length xs.length u) e (Heap.IsSliceOf.new ..) pl pu (by rw[hsz];exact Prod.ext b1 (Prod.ext b2 b3)) (by rw[hsz];exact z) (by rw[hF,List.size_toArray];omega) ?_
 refine wpAny_deleteEach_nil ⟨σ,_,?_,q⟩
 exact I4.lset (its':=its.take (HT.sIx xs.length 0 l)++its.drop (HT.sIx xs.length xs.length u)) (t':=s3.toks) ha e hF ((r.take _).append (r.drop _)) (by rw[List.length_append,List.length_take,List.length_drop];omega)
def z7d(w:WE)(wl wh:WO):WS:=fun D E σ S=>w σ S E fun x S1=>wl σ S1 E fun lo S2=>wh σ S2 E fun hi S3=>match x with
 |.ref n=>match q5q S3 n with
  |some xs=>HT.sIx xs.length 0 lo<=HT.sIx xs.length xs.length hi/\D.nx σ (S3.set n (.lst (xs.take (HT.sIx xs.length 0 lo)++xs.drop (HT.sIx xs.length xs.length hi))))
  |none=>False
 |_=>False
theorem y0t{o:Expr}{lo hi:Option Expr}{p2 tpos:Pos}{w:WE}{wl wh:WO}(ho:SimE X G o w)(hl:SimO X G lo wl)(hh:SimO X G hi wh):SimS X G (.Delete [.Subscript o (.Slice lo hi none p2) tpos] pos) (z7d w wl wh):=
 (y6c ho hl hh).imp fun D σV H hh1=>by obtain⟨φ,σ,S,D0,L,R,h,k⟩:=hh1;exact(⟨φ,σ,S,_,L,R,h,fun v S1 φ1 H1 x q p1 m1 R1 r1=>
  ⟨φ1,σ,S1,_,L.mono m1 p1,R1,q,fun l S2 φ2 H2 q2 p2 m2 R2=>
   ⟨φ2,σ,S2,_,(L.mono m1 p1).mono m2 p2,R2,q2,fun u S3 φ3 H3 q3 p3 m3 R3=>by
    split at q3
    ·rename_i n
     split at q3
     ·rename_i xs e
      obtain ⟨a,rfl,qa⟩:=RV.mono m3 p3 _ _ (RV.mono m2 p2 _ _ r1)
      obtain ⟨vs,ea,ra⟩:=R3.lst qa e
      refine ⟨a,vs,rfl,ea,by rw [<-ra.length];exact q3.1,?_⟩
      refine k.nx σ _ φ3 _ σV q3.2 ((p1.trans p2).trans p3) (((m1.trans m2).trans m3).trans (.lst ea)) (R3.put (o:=.lst (xs.take (HT.sIx xs.length 0 l)++xs.drop (HT.sIx xs.length xs.length u))) qa (.lst ea) ⟨_,q2h,?_⟩) ((((L.mono m1 p1).mono m2 p2).mono m3 p3).mono (.lst ea) (List.prefix_refl _))
      rw [ra.length]
      exact RVs.mono (.lst ea) (List.prefix_refl _) _ _ ((ra.take _).append (ra.drop _))
     ·exact q3.elim
    ·exact q3.elim⟩⟩⟩)
def y8x(f g:F2)(wa wb wc:WE):WE:=fun σ S E Q=>wa σ S E fun x S1=>wb σ S1 E fun y S2=>f x y S2 fun z S3=>match z with
 |.bl c=>if c=true then wc σ S3 E fun u S4=>g y u S4 Q else Q (.bl false) S3
 |_=>False
abbrev WD:=Loc->q0i->EK->(List (Key×PV)->q0i->Prop)->Prop
def KD(K:Frag)(φ:List Addr)(H:Hp)(Q0:List (Key×PV)->q0i->Prop)(Q:List (V×V)->Hp->Prop):Prop:=∀kvs S' φ' H' ws,Q0 kvs S'->φ <+: φ'->Mono H H'->Rel K φ' S' H'->RKs K H' φ' kvs ws->Q (ws.map fun kv=>(kV kv.1,kv.2)) H'
def w0v(K:Frag)(G:GX)(w:WD)(σV:St)(H:Hp)(Q:List (V×V)->Hp->Prop):Prop:=∃φ σ S Q0,LRel K G H φ σ σV/\Rel K φ S H/\w σ S G.ek Q0/\KD K φ H Q0 Q
def SimD(X:Cx)(G:GX)(pos:Pos)(ks:List (Option Expr))(vs:List Expr)(w:WD):Prop:=∃trs,PPs X pos ks vs trs/\∀σV H Q,w0v X.K G w σV H Q->z7h trs σV H Q
def z9u:WD:=fun _ S _ Q=>Q [] S
def q5r(wk wv:WE)(w:WD):WD:=fun σ S E Q=>wk σ S E fun k S1=>wv σ S1 E fun v S2=>match q7v k with
 |some kk=>w σ S2 E fun kvs S3=>Q ((kk,v)::kvs) S3
 |none=>False
theorem z7k:SimD X G pos [] [] z9u:=⟨[],x1f,fun σV H Q hh1=>by obtain⟨φ,σ,S,Q0,L,R,h,k⟩:=hh1;exact(k [] S φ H [] h (List.prefix_refl _) (.refl _) R .nil)⟩
theorem q3n{k v:Expr}{ks:List (Option Expr)}{vs:List Expr}{wk wv:WE}{w:WD}(hk:SimE X G k wk)(hv:SimE X G v wv)(hr:SimD X G pos ks vs w):SimD X G pos (some k::ks) (v::vs) (q5r wk wv w):=by
 obtain⟨trs,hp,hi⟩:=hr
 refine⟨_,y6d hk hv hp,fun σV H Q hh1=>?_⟩
 obtain⟨φ,σ,S,Q0,L,R,h,kk⟩:=hh1
 refine⟨φ,σ,S,_,L,R,h,fun pk S1 φ1 H1 x q p1 m1 R1 r1=>⟨φ1,σ,S1,_,L.mono m1 p1,R1,q,fun pv S2 φ2 H2 y q2 p2 m2 R2 r2=>?_⟩⟩
 refine hi _ _ _ ?_
 split at q2
 ·rename_i key ek
  refine⟨φ2,σ,S2,_,(L.mono m1 p1).mono m2 p2,R2,q2,fun kvs S3 φ3 H3 ws q3 p3 m3 R3 r3=>?_⟩
  have:=kk ((key,pv)::kvs) S3 φ3 H3 ((key,y)::ws) q3 ((p1.trans p2).trans p3) ((m1.trans m2).trans m3) R3 (.cons ⟨rfl,RV.mono m3 p3 _ _ r2⟩ r3)
  rw[z6c r1 ek]
  exact this
 ·exact q2.elim
def z3v(kvs more:List (Key×PV)):List (Key×PV):=more.foldl (fun acc kv=>putP acc kv.1 kv.2) kvs
theorem RKs.merge{K:Frag}{H:Hp}{φ:List Addr}{more:List (Key×PV)}{rs:List (Key×V)}(r:RKs K H φ more rs):∀{kvs:List (Key×PV)}{vs:List (Key×V)},RKs K H φ kvs vs->RKs K H φ (z3v kvs more) (z1h vs rs):=by
 unfold RKs at r
 induction r with
 |nil=>intro kvs vs q;exact q
 |@cons p q ps qs h t ih=>
  intro kvs vs r0
  have e:RKs K H φ (putP kvs p.1 p.2) (putK vs q.1 q.2):=by
   have:=r0.put p.1 h.2
   rw[<-h.1];exact this
  exact ih e
def z9y(w:WD):WE:=fun σ S E Q=>w σ (S++[.dK []]) E fun kvs S1=>(S1[S.length]?=some (.dK [])/\kvs.length<=15)/\Q (.ref S.length) (S1.set S.length (.dK (z3v [] kvs)))
theorem z7j{keys:List (Option Expr)}{values:List Expr}{w:WD}(h:SimD X G pos keys values w)(hall:keys.all (·.isSome)=true:=by rfl)(hl:keys.length=values.length:=by rfl)(h0:keys≠[]:=by simp)(h15:keys.length<=15:=by decide):SimE X G (.Dict keys values pos) (z9y w):=by
 obtain⟨trs,hp,hi⟩:=h
 refine(x1l hp hall hl h0 h15).imp fun σV H Q hh1=>?_
 obtain⟨φ,σ,S,Q0,L,R,h,k⟩:=hh1
 intro p hp
 refine hi _ _ _ ?_
 have R1:Rel X.K (φ++[p]) (S++[.dK []]) (upd H p (.dK [])):=R.new (o:=.dK []) hp ⟨[],q2h,.nil⟩
 refine⟨φ++[p],σ,_,_,L.mono (.new _ hp) (List.prefix_append _ _),R1,h,fun kvs S' φ' H' ws q p' m' R' r'=>?_⟩
 obtain⟨⟨e,hl⟩,q⟩:=q
 have ep:φ'[S.length]?=some p:=q9w p' (by rw[<-R.len];simp)
 obtain⟨vs,ev,rv⟩:=R'.obj _ _ _ ep e
 have:vs=[]:=List.length_eq_zero_iff.mp (by rw[<-RKs.length rv];rfl)
 subst this
 refine⟨ev,ws,rfl,by rw[<-RKs.length r'];exact hl,?_⟩
 refine k _ _ φ' _ _ q ((List.prefix_append _ _).trans p') (((Mono.new _ hp).trans m').trans (.dict ev)) (R'.put (o:=.dK (z3v [] kvs)) ep (.dict ev) ⟨_,q2h,?_⟩) ⟨p,rfl,ep⟩
 exact RKs.mono (.dict ev) (List.prefix_refl _) (RKs.merge r' .nil)
end
section
variable{X:Cx}{G:GX}{pos:Pos}
theorem q7c{K:Frag}{w:WI}(σ:St)(H:Hp)(R R':It->Hp->Prop)(h:∀J H1,R J H1->R' J H1)(q:y7a K G w σ H R):y7a K G w σ H R':=by
 obtain⟨φ,σ,S,Q0,L,R,hw,k⟩:=q
 exact⟨φ,σ,S,Q0,L,R,hw,fun it S' φ' H' J q p m R hj=>h _ _ (k it S' φ' H' J q p m R hj)⟩
theorem q7x{tg iter elt c:Expr}{scope:Scope}{wi:WI}{g:WG}{wc:WT}{we:WE}{ix:List (Option Nat)}{σV:St}{H:Hp}{Q:VK}(h:q8i X.K G (q7e wi ix g wc we) σV H Q):z5p (y7a X.K G wi) ix (z9a X.K NoG g) (z2o X.K NoG wc) (q8i X.K NoG we) σV H Q:=by
 obtain⟨φ,σ,S,Q0,L,R,h,k⟩:=h
 refine⟨φ,σ,S,_,L,R,h,fun it S1 φ1 H1 J hh1 p1 m1 R1 hj=>?_⟩
 obtain⟨hz,q⟩:=hh1
 refine⟨fun i ys σV' H'=>∃φ' σ' S' pys,φ1 <+: φ'/\Mono H1 H'/\LRel X.K NoG H' φ' σ' σV'/\Rel X.K φ' S' H'/\RVs X.K H' φ' pys ys/\z8a it.chk g wc we Q0 (it.xs.drop i) pys σ' S',it.xs.length,hz,⟨φ1,_,S1,[],List.prefix_refl _,.refl _,y2y ix (L.mono m1 p1),R1,rfl,by simpa using q⟩,?_⟩
 rintro i ys σV' H' hi ⟨φ',σ',S',pys,p',m',L',R',rys,hf⟩
 by_cases hlt:i<it.xs.length
 ·rw[List.drop_eq_getElem_cons hlt]at hf
  obtain⟨hch,N,hN,hb⟩:=hf
  obtain⟨jg,jy⟩:=hj.go φ' H' S' p' m' R' hch i _ (List.getElem?_eq_getElem hlt)
  refine .inr ⟨hlt,jg,fun y H2 hy=>?_⟩
  obtain⟨φ2,p2,m2,R2,r2⟩:=jy y H2 hy
  refine⟨φ2,_,σ',S',_,L'.mono m2 p2,R2,r2,hb,fun σ3 S3 φ3 H3 σ3V q3 p3 m3 R3 L3=>?_⟩
  refine⟨φ3,σ3,S3,_,L3,R3,q3,fun b S4 φ4 H4 q4 p4 m4 R4=>?_⟩
  cases b with
  |true=>
   have hw:we σ3 S4 NoX (fun y S4=>N (pys++[y]) σ3 S4):=q4
   refine⟨φ4,σ3,S4,_,L3.mono m4 p4,R4,hw,fun z S5 φ5 H5 z' q5 p5 m5 R5 r5=>?_⟩
   exact⟨φ5,σ3,S5,pys++[z],(((p'.trans p2).trans p3).trans p4).trans p5,(((m'.trans m2).trans m3).trans m4).trans m5,(L3.mono m4 p4).mono m5 p5,R5,(RVs.mono (((m2.trans m3).trans m4).trans m5) (((p2.trans p3).trans p4).trans p5) _ _ rys).append (.one r5),hN _ _ _ q5⟩
  |false=>exact⟨φ4,σ3,S4,pys,((p'.trans p2).trans p3).trans p4,((m'.trans m2).trans m3).trans m4,L3.mono m4 p4,R4,RVs.mono ((m2.trans m3).trans m4) ((p2.trans p3).trans p4) _ _ rys,hN _ _ _ q4⟩
 ·have e:i=it.xs.length:=by omega
  subst e
  rw[List.drop_length]at hf
  exact .inl ⟨hj.stop φ' H' S' p' m' R' hf.1 _ (Nat.le_refl _),(k.up (p1.trans p') (m1.trans m')).lst hf.2 R' rys⟩
theorem z7l{D:Ends}{σV:St}{H:Hp}{i:Nat}{w:WE}(h:y2j X.K G (wSet i w) D σV H):q8i X.K G w σV H fun v H1=>D.nx (σV.set i (some v)) H1:=by
 obtain⟨φ,σ,S,D0,L,R,h,k⟩:=h
 exact⟨φ,σ,S,_,L,R,h,fun v S1 φ1 H1 x q p1 m1 R1 r1=>k.nx _ S1 φ1 H1 _ q p1 m1 R1 ((L.mono m1 p1).set i r1)⟩
theorem z3i{K:Frag}(σ:St)(H:Hp)(Q:Bool->Hp->Prop)(h:z2o K NoG q6h σ H Q):Q true H:=by
 obtain⟨φ,σ,S,Q0,L,R,h,k⟩:=h
 exact k true S φ H h (List.prefix_refl _) (.refl _) R
theorem z1z{tg iter elt:Expr}{scope:Scope}{wi:WI}{g:WG}{we:WE}(N':List Str)(ix:List (Option Nat))(hc:X.calm=true)(co:CompOk X scope N' ix)(hi:SimI X G tg iter wi)(hg:∀cl C s H fp,SimG (X.comp scope N' cl C s H fp) NoG tg g)(he:∀cl C s H fp,SimE (X.comp scope N' cl C s H fp) NoG elt we)
  (hs:∀x,foldedSetIterable iter X.env x=pure x:=by intro _;rfl):SimE X G (.ListComp elt [⟨tg,iter,[],0⟩] scope pos) (q7e wi ix g q6h we):=
 (z7n (g:=z9a X.K NoG g) (tc:=z2o X.K NoG q6h) (te:=q8i X.K NoG we) hc co hi q7c hg (fun _ _ _ _ _=>y1c z3i) he hs).imp fun σV H Q h=>q7x (tg:=tg) (iter:=iter) (elt:=elt) (c:=elt) (scope:=scope) h
theorem q8a{tg iter elt c:Expr}{scope:Scope}{wi:WI}{g:WG}{wc:WT}{we:WE}(N':List Str)(ix:List (Option Nat))(hc:X.calm=true)(co:CompOk X scope N' ix)(hi:SimI X G tg iter wi)(hg:∀cl C s H fp,SimG (X.comp scope N' cl C s H fp) NoG tg g)(ht:∀cl C s H fp,SimT (X.comp scope N' cl C s H fp) NoG c wc)(he:∀cl C s H fp,SimE (X.comp scope N' cl C s H fp) NoG elt we)
  (hs:∀x,foldedSetIterable iter X.env x=pure x:=by intro _;rfl):SimE X G (.ListComp elt [⟨tg,iter,[c],0⟩] scope pos) (q7e wi ix g wc we):=
 (z7n (g:=z9a X.K NoG g) (tc:=z2o X.K NoG wc) (te:=q8i X.K NoG we) hc co hi q7c hg (fun cl C s H fp=>y1b (ht cl C s H fp)) he hs).imp fun σV H Q h=>q7x (tg:=tg) (iter:=iter) (elt:=elt) (c:=c) (scope:=scope) h
theorem z5q(i:Nat){x:Str}{px sp:Pos}{tg iter elt:Expr}{scope:Scope}{wi:WI}{g:WG}{we:WE}(N':List Str)(ix:List (Option Nat))(hN:X.N.Nodup)(hc:X.calm=true)(co:CompOk X scope N' ix)(hi:SimI X G tg iter wi)(hg:∀cl C s H fp,SimG (X.comp scope N' cl C s H fp) NoG tg g)(he:∀cl C s H fp,SimE (X.comp scope N' cl C s H fp) NoG elt we)
  (hsw:swapsWith (.ListComp elt [⟨tg,iter,[],0⟩] scope pos) (some (.Name x px)) sp.line X.env=pure true:=by rfl) (hii:X.N[i]?=some x:=by rfl) (hx:L2.Loc X.env.scope x:=by first|exact Or.inl rfl|exact Or.inr rfl)
  (hs:∀x,foldedSetIterable iter X.env x=pure x:=by intro _;rfl) (hf:X.fn x=true\/X.env.scope.names.lookup x=some .local:=by first|exact .inl rfl|exact .inr rfl|assumption) :
  SimS X G (.Assign [.Name x px] (.ListComp elt [⟨tg,iter,[],0⟩] scope pos) sp) (wSet i (q7e wi ix g q6h we)):=
 (q9v (g:=z9a X.K NoG g) (tc:=z2o X.K NoG q6h) (te:=q8i X.K NoG we) hsw hN hii hx hc co hi q7c hg (fun _ _ _ _ _=>y1c z3i) he hs hf).imp fun D σV H h=>q7x (tg:=tg) (iter:=iter) (elt:=elt) (c:=elt) (scope:=scope) (z7l h)
theorem z1y(i:Nat){x:Str}{px sp:Pos}{tg iter elt c:Expr}{scope:Scope}{wi:WI}{g:WG}{wc:WT}{we:WE}(N':List Str)(ix:List (Option Nat))(hN:X.N.Nodup)(hc:X.calm=true)(co:CompOk X scope N' ix)(hi:SimI X G tg iter wi)(hg:∀cl C s H fp,SimG (X.comp scope N' cl C s H fp) NoG tg g)(ht:∀cl C s H fp,SimT (X.comp scope N' cl C s H fp) NoG c wc)(he:∀cl C s H fp,SimE (X.comp scope N' cl C s H fp) NoG elt we)
  (hsw:swapsWith (.ListComp elt [⟨tg,iter,[c],0⟩] scope pos) (some (.Name x px)) sp.line X.env=pure true:=by rfl) (hii:X.N[i]?=some x:=by rfl) (hx:L2.Loc X.env.scope x:=by first|exact Or.inl rfl|exact Or.inr rfl)
  (hs:∀x,foldedSetIterable iter X.env x=pure x:=by intro _;rfl) (hf:X.fn x=true\/X.env.scope.names.lookup x=some .local:=by first|exact .inl rfl|exact .inr rfl|assumption) :
  SimS X G (.Assign [.Name x px] (.ListComp elt [⟨tg,iter,[c],0⟩] scope pos) sp) (wSet i (q7e wi ix g wc we)):=
 (q9v (g:=z9a X.K NoG g) (tc:=z2o X.K NoG wc) (te:=q8i X.K NoG we) hsw hN hii hx hc co hi q7c hg (fun cl C s H fp=>y1b (ht cl C s H fp)) he hs hf).imp fun D σV H h=>q7x (tg:=tg) (iter:=iter) (elt:=elt) (c:=c) (scope:=scope) (z7l h)
end
end Ev
namespace My
open PySem L2 Ev
def Ex(D:List Nat)(S S':q0i):Prop:=S.length<=S'.length/\∀i,i<S.length->i∉D->S'[i]?=S[i]?
theorem Ex.refl(D:List Nat)(S:q0i):Ex D S S:=⟨Nat.le_refl _,fun _ _ _=>rfl⟩
theorem Ex.trans{D:List Nat}{S S1 S2:q0i}(a:Ex D S S1)(b:Ex D S1 S2):Ex D S S2:=⟨Nat.le_trans a.1 b.1,fun i h n=>(b.2 i (Nat.lt_of_lt_of_le h a.1) n).trans (a.2 i h n)⟩
theorem Ex.weak{D D':List Nat}{S S':q0i}(a:Ex D S S')(h:∀i∈D,i∈D'):Ex D' S S':=⟨a.1,fun i l n=>a.2 i l fun z=>n (h i z)⟩
theorem Ex.nil{D:List Nat}{S S':q0i}(a:Ex [] S S'):Ex D S S':=a.weak fun i h=>by cases h
theorem Ex.app{D:List Nat}{S S':q0i}(a:Ex D S S')(xs:List SO):Ex D S (S'++xs):=⟨by rw[List.length_append];exact Nat.le_trans a.1 (Nat.le_add_right _ _),fun i h n=>by rw[List.getElem?_append_left (Nat.lt_of_lt_of_le h a.1)];exact a.2 i h n⟩
theorem Ex.set{D:List Nat}{S S':q0i}(a:Ex D S S'){i:Nat}{o:SO}(hi:i∈D\/S.length<=i):Ex D S (S'.set i o):=⟨by rw[List.length_set];exact a.1,fun j h n=>by
 rw [List.getElem?_set_ne]
 ·exact a.2 j h n
 ·rintro rfl
  rcases hi with z|z
  ·exact n z
  ·omega⟩
theorem Ex.get{D:List Nat}{S S':q0i}(a:Ex D S S'){i:Nat}{o:SO}(e:S[i]?=some o)(n:i∉D):S'[i]?=some o:=by
 rw[a.2 i (List.getElem?_eq_some_iff.mp e).1 n];exact e
theorem Ex.new(D:List Nat)(S:q0i)(xs:List SO):Ex D S (S++xs):=(Ex.refl D S).app xs
theorem q1t(S:q0i)(o:SO):(S++[o])[S.length]?=some o:=by simp
theorem q1x{S:q0i}{i:Nat}{o:SO}(e:S[i]?=some o)(xs:List SO):(S++xs)[i]?=some o:=by
 rw[List.getElem?_append_left (List.getElem?_eq_some_iff.mp e).1];exact e
theorem q1j{S:q0i}{i:Nat}{o:SO}(u:SO)(e:S[i]?=some o):(S.set i u)[i]?=some u:=List.getElem?_set_self (List.getElem?_eq_some_iff.mp e).1
theorem q2v{S:q0i}{i j:Nat}{o:SO}(u:SO)(e:S[i]?=some o)(h:j≠i):(S.set j u)[i]?=some o:=by rw[List.getElem?_set_ne h];exact e
theorem q1e{S:q0i}{i:Nat}{o:SO}(e:S[i]?=some o):i<S.length:=(List.getElem?_eq_some_iff.mp e).1
theorem q1l{S:q0i}{n:Nat}{xs:List PV}(e:S[n]?=some (.lst xs)):q5q S n=some xs:=by unfold q5q;rw[e]
theorem q0x{S:q0i}{n:Nat}{xs:List PV}(e:S[n]?=some (.lst xs)):q3c S n=some xs:=by unfold q3c;rw[e]
theorem x0r(S:q0i)(xs:List PV):q3c (S++[.lst xs]) S.length=some xs:=q0x (q1t _ _)
theorem x2b(S:q0i)(xs:List PV):q5q (S++[.lst xs]) S.length=some xs:=q1l (q1t _ _)
theorem seqI{a b:WS}{D:PEnds}{E:EK}{σ:Ev.Loc}{S:q0i}(h:∀K:Ev.Loc->q0i->Prop,(∀σ S,b D E σ S->K σ S)->a {D with nx:=K} E σ S):wSeq a b D E σ S:=h _ fun _ _ z=>z
theorem forI{chk:q0i->Prop}{g:WG}{wb:WS}{D:PEnds}{E:EK}(P:List PV->Ev.Loc->q0i->Prop)(hn:∀σ S,P [] σ S->chk S/\D.nx σ S)
  (hc:∀x r σ S,P (x::r) σ S->∀N:Ev.Loc->q0i->Prop,(∀σ S,P r σ S->N σ S)->chk S/\g x σ S E fun σ2 S2=>wb {nx:=N,rt:=D.rt,ct:=N,bk:=D.nx} E σ2 S2):∀(xs:List PV)(σ:Ev.Loc)(S:q0i),P xs σ S->q8m chk g wb D E xs σ S
 |[],σ,S,h=>hn σ S h
 |x::r,σ,S,h=>⟨(hc x r σ S h (P r) fun _ _ z=>z).1,P r,fun σ' S' q=>forI P hn hc r σ' S' q,(hc x r σ S h (P r) fun _ _ z=>z).2⟩
theorem z4z{chk:q0i->Prop}{g:WG}{wc:WT}{we:WE}{Q:VC}(P:List PV->List PV->Ev.Loc->q0i->Prop)(hn:∀ys σ S,P [] ys σ S->chk S/\Q (.ref S.length) (S++[.lst ys]))
  (hc:∀x r ys σ S,P (x::r) ys σ S->∀N:List PV->Ev.Loc->q0i->Prop,(∀ys σ S,P r ys σ S->N ys σ S)->chk S/\g x σ S NoX fun σ2 S2=>wc σ2 S2 NoX fun b S3=>if b=true then we σ2 S3 NoX (fun y S4=>N (ys++[y]) σ2 S4)else N ys σ2 S3):∀(xs ys:List PV)(σ:Ev.Loc)(S:q0i),P xs ys σ S->z8a chk g wc we Q xs ys σ S
 |[],ys,σ,S,h=>hn ys σ S h
 |x::r,ys,σ,S,h=>⟨(hc x r ys σ S h (P r) fun _ _ _ z=>z).1,P r,fun ys' σ' S' q=>z4z P hn hc r ys' σ' S' q,(hc x r ys σ S h (P r) fun _ _ _ z=>z).2⟩
theorem q8q{c:WT}{b:WS}{D:PEnds}{E:EK}{σ:Ev.Loc}{S:q0i}(P:Nat->Ev.Loc->q0i->Prop)(m:Nat)(h0:P m σ S)
  (hs:∀m σ S,P m σ S->∀T F:Ev.Loc->q0i->Prop,(∀S1,(∀N:Ev.Loc->q0i->Prop,(∀m' σ' S',m'<m->P m' σ' S'->N σ' S')->b {D with nx:=N,ct:=N,bk:=D.nx} E σ S1)->T σ S1)->(∀S1,D.nx σ S1->F σ S1)->c σ S E fun bo S1=>if bo=true then T σ S1 else F σ S1):q6k c b D E σ S:=by
 refine⟨P,⟨m,h0⟩,fun m σ S p=>?_⟩
 exact hs m σ S p (fun σ S1=>∃N:Ev.Loc->q0i->Prop,(∀σ' S',N σ' S'->∃m',m'<m/\P m' σ' S')/\b {D with nx:=N,ct:=N,bk:=D.nx} E σ S1) D.nx (fun S1 h=>⟨fun σ' S'=>∃m',m'<m/\P m' σ' S',fun σ' S' n=>n,h _ fun m' σ' S' a b=>⟨m',a,b⟩⟩) fun S1 h=>h
theorem x2e:("list" ∈q4t)=True:=by simp[q4t]
theorem y7g:("tuple" ∈q4t)=True:=by simp[q4t]
theorem x7c:("str" ∈q4t)=True:=by simp[q4t]
theorem x7d:("int" ∈q4t)=True:=by simp[q4t]
theorem x2g:("bool" ∈q4t)=True:=by simp[q4t]
theorem x2f:("dict" ∈q4t)=True:=by simp[q4t]
theorem q8x:isT "NoneType" "list" = false:=rfl
theorem q8l:isT "NoneType" "tuple" = false:=rfl
theorem z0g:isT "NoneType" "str" = false:=rfl
theorem z0h:isT "NoneType" "int" = false:=rfl
theorem q8z:isT "NoneType" "bool" = false:=rfl
theorem q8y:isT "NoneType" "dict" = false:=rfl
theorem z4l:isT "bool" "list" = false:=rfl
theorem z2v:isT "bool" "tuple" = false:=rfl
theorem z6p:isT "bool" "str" = false:=rfl
theorem z6q:isT "bool" "int" = true:=rfl
theorem z4n:isT "bool" "bool" = true:=rfl
theorem z4m:isT "bool" "dict" = false:=rfl
theorem z6k:isT "int" "list" = false:=rfl
theorem z4h:isT "int" "tuple" = false:=rfl
theorem z9h:isT "int" "str" = false:=rfl
theorem z9i:isT "int" "int" = true:=rfl
theorem z6m:isT "int" "bool" = false:=rfl
theorem z6l:isT "int" "dict" = false:=rfl
theorem z6f:isT "str" "list" = false:=rfl
theorem z4d:isT "str" "tuple" = false:=rfl
theorem z9f:isT "str" "str" = true:=rfl
theorem z9g:isT "str" "int" = false:=rfl
theorem z6h:isT "str" "bool" = false:=rfl
theorem z6g:isT "str" "dict" = false:=rfl
theorem z2q:isT "tuple" "list" = false:=rfl
theorem z0w:isT "tuple" "tuple" = true:=rfl
theorem z4b:isT "tuple" "str" = false:=rfl
theorem z4c:isT "tuple" "int" = false:=rfl
theorem z2s:isT "tuple" "bool" = false:=rfl
theorem z2r:isT "tuple" "dict" = false:=rfl
theorem z4e:isT "list" "list" = true:=rfl
theorem z2t:isT "list" "tuple" = false:=rfl
theorem z6i:isT "list" "str" = false:=rfl
theorem z6j:isT "list" "int" = false:=rfl
theorem z4g:isT "list" "bool" = false:=rfl
theorem z4f:isT "list" "dict" = false:=rfl
theorem z4i:isT "dict" "list" = false:=rfl
theorem z2u:isT "dict" "tuple" = false:=rfl
theorem z6n:isT "dict" "str" = false:=rfl
theorem z6o:isT "dict" "int" = false:=rfl
theorem z4k:isT "dict" "bool" = false:=rfl
theorem z4j:isT "dict" "dict" = true:=rfl
theorem x1v:nrf .non=true:=rfl
theorem x6n(b:Bool):nrf (.bl b)=true:=rfl
theorem x1w(b:Int):nrf (.int b)=true:=rfl
theorem z5y(b:Str):nrf (.str b)=true:=rfl
theorem z5x(b:List PV):nrf (.tup b)=nrfs b:=by simp only[nrf]
theorem y3q(a b:Int):eqB (.int a) (.int b)=decide (a=b):=by simp only[eqB];exact Bool.beq_eq_decide_eq a b
theorem y3r(a b:Bool):eqB (.bl a) (.bl b)=decide (a=b):=by simp only[eqB];exact Bool.beq_eq_decide_eq a b
theorem q6s(a b:Str):eqB (.str a) (.str b)=decide (a=b):=by
 simp only[eqB]
 by_cases h:a=b
 ·subst h;simp
 ·rw[decide_eq_false h];exact beq_eq_false_iff_ne.mpr h
theorem y3p(a:Str)(b:List PV):eqB (.str a) (.tup b)=false:=by simp only[eqB]
theorem z4v(a:List PV)(b:Str):eqB (.tup a) (.str b)=false:=by simp only[eqB]
theorem x8a(a b:List PV):eqB (.tup a) (.tup b)=eqBs a b:=by simp only[eqB]
theorem x8c(a:Int)(b:Str):eqB (.int a) (.str b)=false:=by simp only[eqB]
theorem x8b(a:Str)(b:Int):eqB (.str a) (.int b)=false:=by simp only[eqB]
theorem y6p(a:Str):okEq (.str a)=True:=by simp[okEq,nrf,dep]
theorem y6r(a:Int):okEq (.int a)=True:=by simp[okEq,nrf,dep]
theorem q8g(l:List Str):q5p (l.map PV.str):=by
 refine⟨?_,?_⟩
 ·induction l with
  |nil=>rfl
  |cons a r ih=>simp only[List.map_cons,nrfs,nrf,ih,Bool.and_self]
 ·induction l with
  |nil=>simp[deps]
  |cons a r ih=>simp only[List.map_cons,deps,dep];omega
theorem z0a:q5p []=True:=by simp[q5p,nrfs,deps]
theorem x8z(a b:Int)(S:q0i)(Q:VC):cEq (.int a) (.int b) S Q=(Q (.bl (decide (a=b))) S):=by simp only[cEq,cEqG,nrf,y3q,q2x,q2w,true_and,and_self]
theorem x8y(a:Int)(b:Str)(S:q0i)(Q:VC):cEq (.int a) (.str b) S Q=(Q (.bl false) S):=by simp only[cEq,cEqG,nrf,eqB,q2x,q2w,true_and,and_true,Bool.not_false]
theorem x8x(a:Int)(b:List PV)(S:q0i)(Q:VC):cEq (.int a) (.tup b) S Q=(nrfs b=true/\Q (.bl false) S):=by simp only[cEq,cEqG,nrf,eqB,q2x,q2w,true_and,and_true,Bool.not_false]
theorem x8v(a:Str)(b:Int)(S:q0i)(Q:VC):cEq (.str a) (.int b) S Q=(Q (.bl false) S):=by simp only[cEq,cEqG,nrf,eqB,q2x,q2w,true_and,and_true,Bool.not_false]
theorem y9v(a b:Str)(S:q0i)(Q:VC):cEq (.str a) (.str b) S Q=(Q (.bl (decide (a=b))) S):=by simp only[cEq,cEqG,nrf,q6s,q2x,q2w,true_and,and_self]
theorem y9u(a:Str)(b:List PV)(S:q0i)(Q:VC):cEq (.str a) (.tup b) S Q=(nrfs b=true/\Q (.bl false) S):=by simp only[cEq,cEqG,nrf,eqB,q2x,q2w,true_and,and_true,Bool.not_false]
theorem x9a(a b:Bool)(S:q0i)(Q:VC):cEq (.bl a) (.bl b) S Q=(Q (.bl (decide (a=b))) S):=by simp only[cEq,cEqG,nrf,y3r,q2x,q2w,true_and,and_self]
theorem x8u(a:List PV)(b:Int)(S:q0i)(Q:VC):cEq (.tup a) (.int b) S Q=(nrfs a=true/\Q (.bl false) S):=by simp only[cEq,cEqG,nrf,eqB,q2x,q2w,true_and,and_true,Bool.not_false]
theorem y9t(a:List PV)(b:Str)(S:q0i)(Q:VC):cEq (.tup a) (.str b) S Q=(nrfs a=true/\Q (.bl false) S):=by simp only[cEq,cEqG,nrf,eqB,q2x,q2w,true_and,and_true,Bool.not_false]
theorem y9s(a b:List PV)(S:q0i)(Q:VC):cEq (.tup a) (.tup b) S Q=((okEq (.tup a)/\okEq (.tup b))/\Q (.bl (eqBs a b)) S):=by simp only[cEq,cEqG,q2x,q2w]
theorem x8w(m n:Nat)(S:q0i)(Q:VC):cEq (.ref m) (.ref n) S Q=(match q3c S m,q3c S n with
  |some xs,some ys=>(q5p xs/\q5p ys)/\Q (.bl (eqBs xs ys)) S
  |_,_=>False):=by simp only [cEq,cEqG,q2x,q2w];try rfl
theorem y9r{x:PV}(h:nrf x=true)(b:Str)(S:q0i)(Q:VC):cEq x (.str b) S Q=(Q (.bl (eqB x (.str b))) S):=by cases x<;>first|(simp[nrf]at h;done)|(simp only[cEq,cEqG,q2x,q2w,h,z5y,and_self,true_and])
theorem x8r(a b:Int)(S:q0i)(Q:VC):cNe (.int a) (.int b) S Q=(Q (.bl (!decide (a=b))) S):=by simp only[cNe,cEqG,nrf,y3q,q2x,q2w,true_and,and_self]
theorem x8q(a:Int)(b:Str)(S:q0i)(Q:VC):cNe (.int a) (.str b) S Q=(Q (.bl true) S):=by simp only[cNe,cEqG,nrf,eqB,q2x,q2w,true_and,and_true,Bool.not_false]
theorem x8p(a:Int)(b:List PV)(S:q0i)(Q:VC):cNe (.int a) (.tup b) S Q=(nrfs b=true/\Q (.bl true) S):=by simp only[cNe,cEqG,nrf,eqB,q2x,q2w,true_and,and_true,Bool.not_false]
theorem x8n(a:Str)(b:Int)(S:q0i)(Q:VC):cNe (.str a) (.int b) S Q=(Q (.bl true) S):=by simp only[cNe,cEqG,nrf,eqB,q2x,q2w,true_and,and_true,Bool.not_false]
theorem x8m(a b:Str)(S:q0i)(Q:VC):cNe (.str a) (.str b) S Q=(Q (.bl (!decide (a=b))) S):=by simp only[cNe,cEqG,nrf,q6s,q2x,q2w,true_and,and_self]
theorem x8l(a:Str)(b:List PV)(S:q0i)(Q:VC):cNe (.str a) (.tup b) S Q=(nrfs b=true/\Q (.bl true) S):=by simp only[cNe,cEqG,nrf,eqB,q2x,q2w,true_and,and_true,Bool.not_false]
theorem x8s(a b:Bool)(S:q0i)(Q:VC):cNe (.bl a) (.bl b) S Q=(Q (.bl (!decide (a=b))) S):=by simp only[cNe,cEqG,nrf,y3r,q2x,q2w,true_and,and_self]
theorem x8k(a:List PV)(b:Int)(S:q0i)(Q:VC):cNe (.tup a) (.int b) S Q=(nrfs a=true/\Q (.bl true) S):=by simp only[cNe,cEqG,nrf,eqB,q2x,q2w,true_and,and_true,Bool.not_false]
theorem x8j(a:List PV)(b:Str)(S:q0i)(Q:VC):cNe (.tup a) (.str b) S Q=(nrfs a=true/\Q (.bl true) S):=by simp only[cNe,cEqG,nrf,eqB,q2x,q2w,true_and,and_true,Bool.not_false]
theorem x8i(a b:List PV)(S:q0i)(Q:VC):cNe (.tup a) (.tup b) S Q=((okEq (.tup a)/\okEq (.tup b))/\Q (.bl (!eqBs a b)) S):=by simp only[cNe,cEqG,q2x,q2w]
theorem x8o(m n:Nat)(S:q0i)(Q:VC):cNe (.ref m) (.ref n) S Q=(match q3c S m,q3c S n with
  |some xs,some ys=>(q5p xs/\q5p ys)/\Q (.bl (!eqBs xs ys)) S
  |_,_=>False):=by simp only [cNe,cEqG,q2x,q2w];try rfl
theorem y9q{x:PV}(h:nrf x=true)(b:Str)(S:q0i)(Q:VC):cNe x (.str b) S Q=(Q (.bl (!eqB x (.str b))) S):=by cases x<;>first|(simp[nrf]at h;done)|(simp only[cNe,cEqG,q2x,q2w,h,z5y,and_self,true_and])
theorem x8t(a b:Str)(S:q0i)(Q:VC):cIn (.str a) (.str b) S Q=(Q (.bl (inS a b)) S):=by simp only[cIn,cInG,q2x,q2w]
theorem w1n(x:PV)(b:List PV)(S:q0i)(Q:VC):cIn x (.tup b) S Q=((okEq x/\q5p b)/\Q (.bl (b.any fun y=>eqB y x)) S):=by cases x<;>simp only[cIn,cInG,q2x,q2w]
theorem w1o(x:PV)(n:Nat)(S:q0i)(Q:VC):cIn x (.ref n) S Q=(match q3c S n with
  |some ys=>(okEq x/\q5p ys)/\Q (.bl (ys.any fun y=>eqB y x)) S
  |none=>False):=by cases x<;>(simp only [cIn,cInG,q2x,q2w];try rfl)
theorem y4g(a b:Str)(S:q0i)(Q:VC):q7h (.str a) (.str b) S Q=(Q (.bl (!inS a b)) S):=by simp only[q7h,cInG,q2x,q2w]
theorem y8d(x:PV)(b:List PV)(S:q0i)(Q:VC):q7h x (.tup b) S Q=((okEq x/\q5p b)/\Q (.bl (!b.any fun y=>eqB y x)) S):=by cases x<;>simp only[q7h,cInG,q2x,q2w]
theorem y8e(x:PV)(n:Nat)(S:q0i)(Q:VC):q7h x (.ref n) S Q=(match q3c S n with
  |some ys=>(okEq x/\q5p ys)/\Q (.bl (!ys.any fun y=>eqB y x)) S
  |none=>False):=by cases x<;>(simp only [q7h,cInG,q2x,q2w];try rfl)
theorem big{n:Nat}(h:n<=1000000):n<=sizeLine:=Nat.le_trans h (by decide)
theorem bigl{n:Nat}(h:n<=1000000):n<sizeLine:=Nat.lt_of_le_of_lt h (by decide)
end My
namespace Ev
open PySem PySem.Spec PyProof.Rows L2
section
variable{X:Cx}{G:GX}{pos:Pos}
end
section
variable{X:Cx}{G:GX}{pos:Pos}
def Itv(K:Frag)(a:Addr)(n:Nat):It:=
 ⟨fun i H=>∃xs x,SqL K H a xs/\i<n/\xs[n-1-i]?=some x,fun i H x H'=>H'=H/\∀xs,SqL K H a xs->xs[n-1-i]?=some x,fun i _=>n<=i⟩
theorem y5e{P:Program}{w:World}{K:Frag}{tg:Expr}(a it:Addr)(n:Nat):Turn P w K tg (Itv K a n) [it] it (fun i h=>i<=n/\h.IsRevIter it a ((n:Int)-1-i)) where
 mem:=by simp
 obj:=fun i h st b hb=>by
  have e:b=it:=by simpa using hb
  subst e
  obtain⟨_,o,e,c,d⟩:=st
  exact⟨o,e,fun v z=>by rw[d]at z;cases z⟩
 keep:=fun i h h' st k=>⟨st.1,st.2.at fun o e=>k it (by simp) o e⟩
 item:=by
  intro X hP hw hK hc i pins s σ H E I hf st hg
  subst hP hw hK
  obtain⟨xs,x,hq,hi,hx⟩:=hg
  obtain⟨its,rv,p,hz⟩:=I.list hq
  obtain⟨u,hu,ru⟩:=rv.get hx
  obtain⟨f0,f1,f2,f3,f4,f5⟩:=hf it (by simp)
  have st2:=st.2
  rw[show(n:Int)-1-i=((n-1-i:Nat):Int) by omega]at st2
  refine wpAny_pyNext_rev_item st2 p.isList (x:=u) (by simpa using hu) fun h' st' sb=>?_
  have I1:Inv X pins σ H {s with heap:=h' }:=I.turned (t':=s.toks) (fun b o hb e=>(sb.2 b hb).trans e) f0 f1 f3 f4 f5
  rw[show((n-1-i:Nat):Int)-1=(n:Int)-1-((i+1:Nat):Int) by omega]at st'
  obtain⟨o,e,c,d⟩:=id st'
  exact⟨u,rfl,y3a (s:={s with heap:=h' }) e c d (by decide) ⟨x,H,I1,ru,⟨rfl,fun ys hy=>by rw[I.list_inj hy hq];exact hx⟩,⟨hi,st'⟩,fun b hb=>(hf b hb).1⟩⟩
 done:=by
  intro X hP hw hK hc i pins s σ H E I hf st hg
  subst hP hw hK
  obtain⟨f0,f1,f2,f3,f4,f5⟩:=hf it (by simp)
  have hg:n<=i:=hg
  have st2:=st.2
  have h1:=st.1
  rw[show(n:Int)-1-i=-1 by omega]at st2
  exact wpAny_pyNext_rev_end (I.ok.hd hc) st2 fun h' eb=>⟨rfl,I.turned (t':=s.toks) (fun b o hb e=>eb b o hb e) f0 f1 f3 f4 f5⟩
 self:=fun _ _ _ _ _ st h=>wpAny_pyIter_revIter st.2 h
def iRev(K:Frag)(tl:TE):TI:=fun σ H R=>tl σ H fun x H1=>∃a xs,x=.ref a/\SqL K H1 a xs/\R (Itv K a xs.length) H1
theorem y8i:bootBuiltins (Str.ofString "reversed")=some (.type "reversed"):=by with_unfolding_all rfl
theorem x5m{tg l:Expr}{tl:TE}{p:Pos}(hl:PE X l tl)(hm:X.mg "reversed" = none)(hg:Gl X "reversed" :=by rfl)(he:starEach [l] X.env=(false,eval l X.env)::starEach [] X.env:=by rfl):PI X tg (.Call (.Name "reversed" p) [l] [] pos) (iRev X.K tl):=by
 intro pins s σ H R I h
 refine wpAny_Call_Name_kw (z1j I hg hm y8i ?_)
 refine PyProof.Rows.callWith_type1 ?_ he rfl
 rw[he]
 show wpAny _ _ (spliced ((false,eval l X.env)::backTo pos (starEach [] X.env))) _ _ s
 refine Calls.spliced_cons (thn (hl pins s σ H _ I h) ?_)
 rintro v s1 ⟨x,H1,I1,r1,a,xs,rfl,hq,q⟩
 refine Calls.spliced_nil ?_
 cases r1
 obtain⟨its,rv,p,hz⟩:=I1.list hq
 refine call_reversed_list p.isList ?_
 have e0:(its.toArray.size:Int)-1=(xs.length:Int)-1-((0:Nat):Int):=by have:=rv.length;simp;omega
 refine wpAny_pyIter_revIter (l:=a) (i:=(its.toArray.size:Int)-1) ⟨_,Heap.get?_push_size _ rfl,rfl,rfl⟩ ?_
 refine⟨s1.heap.objs.size,[s1.heap.objs.size],_,_,H1,rfl,I1.kept (t':=s1.toks) fun b o e=>Heap.get?_push_of_some _ e,y5e a _ xs.length,⟨Nat.zero_le _,_,Heap.get?_push_size _ rfl,rfl,by rw[e0];rfl⟩,fun b hb=>?_,q⟩
 have e:b=s1.heap.objs.size:=by simpa using hb
 subst e
 exact I1.fpOk (Nat.le_refl _) (I1.hok.fresh (Nat.le_refl _))
theorem x2p{K:Frag}{φ:List Addr}{H:Hp}{n k:Nat}{a:Addr}{xs:List PV}(qa:φ[n]?=some a)(hk:k=xs.length):ItR K φ H (Itv K a k) ⟨xs.reverse,fun S=>q3c S n=some xs⟩ where
 go:=fun φ1 H1 S1 p m R e i x hx=>by
  subst hk
  obtain⟨vs,sa,ra⟩:=R.seq (q9w p qa) e
  have hi:i<xs.length:=by have:=(List.getElem?_eq_some_iff.mp hx).1;simpa using this
  have hx':xs[xs.length-1-i]?=some x:=by rw[<-List.getElem?_reverse hi];exact hx
  obtain⟨y,ey,ry⟩:=ra.get hx'
  refine⟨⟨vs,y,sa,hi,ey⟩,fun y' H' hh1=>?_⟩
  obtain⟨e1,e2⟩:=hh1
  subst e1
  have:=e2 vs sa
  rw[ey]at this
  cases this
  exact⟨φ1,List.prefix_refl _,.refl _,R,ry⟩
 stop:=fun φ1 H1 S1 p m R e i hi=>by
  subst hk
  have:xs.reverse.length<=i:=hi
  rw[List.length_reverse]at this
  exact this
def y4x(w:WE):WI:=fun σ S E Q=>w σ S E fun x S1=>match x with
 |.ref n=>match q3c S1 n with
  |some xs=>Q ⟨xs.reverse,fun S=>q3c S n=some xs⟩ S1
  |none=>False
 |_=>False
theorem y5q{tg l:Expr}{w:WE}{p:Pos}(hm:X.mg "reversed" = none)(hl:SimE X G l w)(hg:Gl X "reversed" :=by rfl)(he:starEach [l] X.env=(false,eval l X.env)::starEach [] X.env:=by rfl):SimI X G tg (.Call (.Name "reversed" p) [l] [] pos) (y4x w):=
 PI.imp (x5m hl hm hg he) fun σV H Q hh1=>by obtain⟨φ,σ,S,Q0,L,R,h,k⟩:=hh1;exact(⟨φ,σ,S,_,L,R,h,fun v S1 φ1 H1 x q p1 m1 R1 r1=>by
  split at q
  ·rename_i n
   split at q
   ·rename_i xs e
    obtain ⟨a,rfl,qa⟩:=r1
    obtain ⟨vs,sa,ra⟩:=R1.seq qa e
    exact ⟨a,vs,rfl,sa,k _ S1 φ1 H1 _ q p1 m1 R1 (x2p qa ra.length.symm)⟩
   ·exact q.elim
  ·exact q.elim⟩)
end
section
variable{X:Cx}{G:GX}{pos:Pos}
def x4b(n:Nat)(ws:WGs):WG:=fun v σ S E Q=>match v with
 |.ref m=>match q5q S m with
  |some xs=>xs.length=n/\ws xs σ S E Q
  |none=>False
 |_=>False
def x4d(w:WE):WE:=fun σ S E Q=>w σ S E fun x S1=>match x with
 |.ref n=>match q5q S1 n with
  |some xs=>Q (.ref S1.length) (S1++[.lst xs.reverse])
  |none=>False
 |_=>False
def x9b:F2:=bI IntMulOk fun i j=>.int (i*j)
end
end Ev
namespace My
open PySem L2 Ev
theorem ix_t(xs:List PV)(i:Int)(S:q0i)(Q:VC):bIx (.tup xs) (.int i) S Q=match atI xs i with
  |some v=>Q v S
  |none=>False:=rfl
theorem ix_s(z:Str)(i:Int)(S:q0i)(Q:VC):bIx (.str z) (.int i) S Q=(z.length<=sizeLine/\match atI z.cps.toList i with
  |some c=>Q (.str ⟨#[c]⟩) S
  |none=>False):=rfl
theorem ix_f(xs:List PV)(i:Int)(S:q0i)(Q:VC):bIx (.frl xs) (.int i) S Q=match atI xs i with
  |some v=>Q v S
  |none=>False:=rfl
theorem ix_r(n:Nat)(y:PV)(S:q0i)(Q:VC):bIx (.ref n) y S Q=match S[n]? with
  |some (.lst xs)=>match y with
   |.int i=>match atI xs i with
    |some v=>Q v S
    |none=>False
   |_=>False
  |some (.dK kvs)=>match q7v y with
   |some k=>match valP kvs k with
    |some v=>Q v S
    |none=>False
   |none=>False
  |_=>False:=rfl
theorem z0l{chk:q0i->Prop}{g:WG}{wb:WS}{D:PEnds}{E:EK}{x:PV}{r:List PV}{σ:Ev.Loc}{S:q0i}(h1:chk S)
  (h:∀N:Ev.Loc->q0i->Prop,(∀σ S,q8m chk g wb D E r σ S->N σ S)->g x σ S E fun σ2 S2=>wb {nx:=N,rt:=D.rt,ct:=N,bk:=D.nx} E σ2 S2):q8m chk g wb D E (x::r) σ S:=
 ⟨h1,_,fun _ _ z=>z,h _ fun _ _ z=>z⟩
theorem y3b{chk:q0i->Prop}{g:WG}{wb:WS}{D:PEnds}{E:EK}{σ:Ev.Loc}{S:q0i}(h1:chk S)(h:D.nx σ S):q8m chk g wb D E [] σ S:=⟨h1,h⟩
end My
namespace L2
open PySem PySem.Spec PyProof.Rows
def Cx.nx(X:Cx):Cx:={X with xe:=fun _ _=>False}
def Cx.hd(X:Cx)(e:Addr):Cx:={X with A:=X.A.mark (some (.ref e)),calm:=false,xe:=fun _ _=>False}
section
variable{X:Cx}{pins:List (Addr×Obj)}{σ:St}{H H':Hp}{s:Shared}
theorem Inv.nx(I:Inv X pins σ H s):Inv X.nx pins σ H s:=
 ⟨⟨I.ok.mod,I.ok.kind,I.ok.glob,I.ok.blt,I.ok.above,I.ok.inj,I.ok.has,I.ok.cab,I.ok.hd,I.ok.frames,I.ok.stk,I.ok.exf,I.ok.bs,I.ok.bsz,I.ok.noex,I.ok.exfs,I.ok.funs,I.ok.frf⟩,I.os,I.bare,I.base,I.loc,I.cell,I.free,I.freeC,I.pin,I.hok,I.len⟩
theorem Inv.ofnx(o:X.Ok)(I:Inv X.nx pins σ H s):Inv X pins σ H s:=⟨o,I.os,I.bare,I.base,I.loc,I.cell,I.free,I.freeC,I.pin,I.hok,I.len⟩
theorem Inv.hd{e:Addr}(I:Inv X pins σ H s):Inv (X.hd e) pins σ H s:=
 ⟨⟨I.ok.mod,I.ok.kind,I.ok.glob,I.ok.blt,I.ok.above,I.ok.inj,I.ok.has,I.ok.cab,fun z=>(Bool.false_ne_true z).elim,I.ok.frames,I.ok.stk,I.ok.exf,I.ok.bs,I.ok.bsz,I.ok.noex,I.ok.exfs,I.ok.funs,I.ok.frf⟩,I.os,I.bare,I.base,I.loc,I.cell,I.free,I.freeC,I.pin,I.hok,I.len⟩
theorem Inv.ofhd{e:Addr}(o:X.Ok)(I:Inv (X.hd e) pins σ H s):Inv X pins σ H s:=⟨o,I.os,I.bare,I.base,I.loc,I.cell,I.free,I.freeC,I.pin,I.hok,I.len⟩
theorem SP.imp{Y:Cx}{D:Ends}{f:Flow}(i:∀σ H s,Inv Y pins σ H s->Inv X pins σ H s)(h:SP Y pins D f s):SP X pins D f s:=by
 unfold SP at *
 cases f with
 |next=>obtain⟨a,b,c,d⟩:=h;exact⟨a,b,i _ _ _ c,d⟩
 |brk=>obtain⟨a,b,c,d⟩:=h;exact⟨a,b,i _ _ _ c,d⟩
 |cont=>obtain⟨a,b,c,d⟩:=h;exact⟨a,b,i _ _ _ c,d⟩
 |ret u=>obtain⟨v,a,b,c,d⟩:=h;exact⟨v,a,b,i _ _ _ c,d⟩
end
def EXE(X:Cx)(pins:List (Addr×Obj))(σ:St)(E:XK):Value->Shared->Prop:=fun e s'=>∃H1 s1,Inv X pins σ H1 s1/\CXE X.prog X.w X.stack H1 s1 E e s'
abbrev TEX:=St->Hp->VK->XK->Prop
def PEX(X:Cx)(e:Expr)(t:TEX):Prop:=
 ∀(pins:List (Addr×Obj))(s:Shared)(σ:St)(H:Hp)(Q:VK)(E:XK),Inv X pins σ H s->t σ H Q E->wpAny (model X.prog X.w) X.A (eval e X.env) (EP X pins σ Q) (EXE X pins σ E) s
abbrev XC:=Value->St->Hp->Prop
abbrev TSX:=Ends->XC->St->Hp->Prop
def XEnd(X:Cx)(pins:List (Addr×Obj))(E:XC):Value->Shared->Prop:=fun e s'=>∃σ,EXE X pins σ (fun cls _ H'=>E cls σ H') e s'
def PSX(X:Cx)(st:Stmt)(t:TSX):Prop:=
 ∀(pins:List (Addr×Obj))(s:Shared)(σ:St)(H:Hp)(D:Ends)(E:XC),Inv X pins σ H s->t D E σ H->wpAny (model X.prog X.w) X.A (exec st X.env) (SP X pins D) (XEnd X pins E) s
def PSXs(X:Cx)(st:List Stmt)(t:TSX):Prop:=
 ∀(pins:List (Addr×Obj))(s:Shared)(σ:St)(H:Hp)(D:Ends)(E:XC),Inv X pins σ H s->t D E σ H->wpAny (model X.prog X.w) X.A (execs st X.env) (SP X pins D) (XEnd X pins E) s
section
variable{X:Cx}{k:Nat}{f:Addr}{fd:FuncData}{ps:List Str}{sp:Sp}{dvs:List V}{ds:List Value}{x:Str}{p pos:Pos}{e:Expr}{es:List Expr}{t:TA}
theorem x0t{pins:List (Addr×Obj)}{σ:St}{H:Hp}{s:Shared}{Q:VK}{E:XK}{us:List Value}{vs:List V}(F:FnOk X.prog X.w X.K X.mg X.base (CXE X.prog X.w) k f fd ps sp)(hr:Room k X.A)(hb:z3e X.K fd ps ds)(hd:Vals dvs ds)
  (I:Inv X pins σ H s) (r:Vals vs us) (h:sp (vs++dvs) H Q E):wpAny (model X.prog X.w) X.A (call (.ref f) us) (EP X pins σ Q) (EXE X pins σ E) s:=by
 have r2:Vals (vs++dvs) (us++ds):=r.append hd
 have hl:(us++ds).length=ps.length:=by rw[<-r2.length];exact F.len _ _ _ _ h
 refine wpAny_call (codeAny_mono (F.run X.A X.stack s H ⟨us,[]⟩ (us++ds) (vs++dvs) Q E hr I.env0 (hb s us I.kIn hl) r2 h) fun r s' hq=>?_)
 cases r with
 |error e=>exact⟨H,s,I,hq⟩
 |ok fl=>
  cases fl with
  |ret u=>exact I.after hq
  |next=>exact False.elim hq
  |brk=>exact False.elim hq
  |cont=>exact False.elim hq
theorem y6h(F:FnOk X.prog X.w X.K X.mg X.base (CXE X.prog X.w) k f fd ps sp)(hr:Room k X.A)(hg:Gl X x)(hm:X.mg x=some (.ref f))(hk:PySem.W.keepIn X.K (.ref f)=true)(hb:z3e X.K fd ps ds)(hd:Vals dvs ds)
  (ha:PA X.nx (e::es) t) (hdb:(x==("__debug__" : Str))=false:=by decide) (he:starEach (e::es) X.env=(false,eval e X.env)::starEach es X.env:=by rfl) (hpl:(backTo pos (starEach es X.env)).any (·.1)=false:=by rfl) :
  PEX X (.Call (.Name x p) (e::es) [] pos) (fun σ H Q E=>t σ H fun vs H1=>sp (vs++dvs) H1 Q E):=by
 intro pins s σ H Q E I h
 refine wpAny_Call_Name_kw (q8j I hg hm ?_ hdb)
 refine PySem.W.callWith_K (h₀:=X.base) I.ok.mod.kin hk (wpAny_mono (ha pos pins s σ H _ I.nx h) (fun us s1 ⟨vs,H1,I1,r,q⟩=>⟨(I1.ofnx I.ok).kIn,?_⟩) fun _ _ z=>z.elim) he hpl
 exact x0t F hr hb hd (I1.ofnx I.ok) r q
end
section
variable{X:Cx}{e:Expr}{te:TEX}{pos:Pos}
theorem y5x(he:PEX X e te)(hs:swapsWith e none pos.line X.env=pure false:=by rfl):PSX X (.Expr e pos) (fun D E σ H=>te σ H (fun _ H1=>D.nx σ H1) fun cls _ H'=>E cls σ H'):=by
 intro pins s σ H D E I h
 exact wpAny_Expr_any (wpAny_mono (he pins s σ H _ _ I h) (fun v s1 hh1=>by obtain⟨x,H1,I1,r1,q1⟩:=hh1;exact(⟨σ,H1,I1,q1⟩)) fun _ _ z=>⟨σ,z⟩) I.quiet hs
theorem x1a(he:PEX X e te):PSX X (.Return (some e) pos) (fun D E σ H=>te σ H D.rt fun cls _ H'=>E cls σ H'):=by
 intro pins s σ H D E I h
 exact wpAny_Return_some (wpAny_mono (he pins s σ H _ _ I h) (fun v s1 hh1=>by obtain⟨x,H1,I1,r1,q1⟩:=hh1;exact(⟨x,σ,H1,I1,r1,q1⟩)) fun _ _ z=>⟨σ,z⟩)
theorem y5w:PSXs X [] (fun D _ σ H=>D.nx σ H):=by
 intro pins s σ H D E I h
 exact wpAny_execs_nil ⟨σ,H,I,h⟩
theorem y1d{st:Stmt}{sts:List Stmt}{t u:TSX}(a:PSX X st t)(b:PSXs X sts u):PSXs X (st::sts) (fun D E σ H=>t {D with nx:=fun σ1 H1=>u D E σ1 H1} E σ H):=by
 intro pins s σ H D E I h
 refine wpAny_execs_cons (wpAny_mono (a pins s σ H _ E I h) (fun f s1 q=>?_) fun _ _ z=>z)
 cases f with
 |next=>obtain⟨σ1,H1,I1,q1⟩:=q;exact b pins s1 σ1 H1 D E I1 q1
 |ret u=>exact q
 |brk=>exact q
 |cont=>exact q
end
section
variable{X:Cx}{pins:List (Addr×Obj)}{σ:St}{H H':Hp}{s:Shared}
theorem Inv.gone{i:Nat}{x:Str}{h':Heap}{t':Nat}{m:Str->Option Value}{v:Option Value}(I:Inv X pins σ H s)(hN:X.N.Nodup)(hi:X.N[i]?=some x)(hm:s.heap.Ns X.env.locals m)(hn':h'.Ns X.env.locals (fun y=>if y=x then v else m y))(hs:Heap.SameBut X.env.locals s.heap h') :
  Inv X pins (σ.set i none) H {s with heap:=h',toks:=t' }:=by
 obtain⟨m0,hn,hl⟩:=id I.loc
 have em:m0=m:=by rw[hn.eq_nsMap,hm.eq_nsMap]
 subst em
 have cne:=I.cne
 have tracked:HOk X.prog X.w H h':=fun b ob e=>by
  refine(I.hok b ob e).stay (fun c w' hc q=>(hs.2 c ?_).trans q) (fun _ q=>q) fun _ _ q=>q
  rintro rfl
  rcases hc with rfl|hc
  ·rw[I.free]at e;cases e
  ·rw[I.free]at hc;cases hc
 refine⟨I.ok,I.os,I.bare,⟨fun b o e n hb hx=>?_,fun b o e n hb hx=>?_,I.base.free,fun b o e hx=>?_,I.base.tups,I.base.frzs,I.base.tbls⟩,⟨_,hn',fun j y v' e1 e2 e3=>?_⟩,fun y c e=>?_,I.free,I.freeC,fun p hp=>?_,tracked,by simpa using I.len⟩
 ·exact(hs.2 b (Nat.ne_of_lt (Nat.lt_of_lt_of_le (Heap.lt_size e) I.ok.above))).trans (I.base.keep b o e n hb hx)
 ·obtain⟨sl,e1⟩:=I.base.slot b o e n hb hx
  exact⟨sl,(hs.2 b (Nat.ne_of_lt (Nat.lt_of_lt_of_le (Heap.lt_size e) I.ok.above))).trans e1⟩
 ·obtain⟨o',e1⟩:=I.base.there b o e hx
  exact⟨o',(hs.2 b (Nat.ne_of_lt (Nat.lt_of_lt_of_le (Heap.lt_size e) I.ok.above))).trans e1⟩
 ·have hj:j≠i:=by
   rintro rfl
   by_cases hlt:j<σ.length
   ·rw[List.getElem?_set_self hlt]at e2;cases e2
   ·rw[List.getElem?_eq_none (by simpa using hlt)]at e2;cases e2
  rw[List.getElem?_set_ne (Ne.symm hj)]at e2
  obtain⟨u',r',q⟩:=hl j y v' e1 e2 e3
  refine⟨u',r',?_⟩
  rcases q with⟨k,e⟩|⟨k,c,e,z⟩
  ·refine .inl ⟨k,?_⟩
   have:y≠x:=fun e=>hj (z2k hN e1 (e▸hi))
   simp[this,e]
  ·exact .inr ⟨k,c,e,z.sameBut hs (cne y c e)⟩
 ·obtain⟨w',z⟩:=I.cell y c e
  exact⟨w',z.sameBut hs (cne y c e)⟩
 ·obtain⟨e,n,ne,nf,d⟩:=I.pin p hp
  exact⟨(hs.2 p.1 ne).trans e,n,ne,nf,d⟩
theorem Inv.news{b:Addr}(I:Inv X pins σ H s)(n:s.heap.get? b=none):(b∈X.ex\/X.s₀.heap.get? b=none)/\b≠X.env.locals/\(∀x c,X.env.cells.lookup x=some c->c≠b)/\∀p∈X.pn++pins,p.1≠b:=by
 refine⟨?_,?_,fun x c e z=>?_,fun p hp z=>?_⟩
 ·by_cases hb:b∈X.ex
  ·exact .inl hb
  ·refine .inr ?_
   cases q:X.s₀.heap.get? b with
   |none=>rfl
   |some o=>
    obtain⟨o',e1⟩:=I.base.there b o q hb
    rw[n]at e1;cases e1
 ·rintro rfl
  obtain⟨m,⟨o,_,_,ho,_⟩,_⟩:=I.loc
  rw[n]at ho;cases ho
 ·subst z
  obtain⟨v,o,ho,_⟩:=I.cell x c e
  rw[n]at ho;cases ho
 ·subst z
  obtain⟨e,_⟩:=I.pin p hp
  rw[n]at e;cases e
theorem y6u{h h':Heap}{L:Addr}{m:Str->Option Value}(hn:h.Ns L m)(k:∀o,h.get? L=some o->∃sl,h'.get? L=some {o with slots:=sl}):h'.Ns L m:=by
 obtain⟨o,es,ep,ho,r⟩:=hn
 obtain⟨sl,e⟩:=k o ho
 exact⟨_,es,ep,e,r⟩
theorem Inv.past{h':Heap}{own:List Addr}(I:Inv X pins σ H s)(hst:X.stack=X.env::X.outer)(hf:X.env.frame=some X.env.locals)(nw:∀b∈own,((b∈X.ex\/X.s₀.heap.get? b=none)/\b≠X.env.locals/\(∀x c,X.env.cells.lookup x=some c->c≠b)/\∀p∈X.pn++pins,p.1≠b)/\H b=none)
  (p:Past (frs X.stack) own s.heap h'):Inv X pins σ H {s with heap:=h' }:=by
 have efs:frs X.stack=X.env.locals::X.fs:=by rw[hst];show frs (X.env::X.outer)=_;unfold frs;rw[List.filterMap_cons,hf];rfl
 refine I.stepX (ch:=own) (g':=s.gens) (d':=s.drawn) (t':=s.toks) (fun b hb=>(nw b hb).1) (fun b o n1 n2 n3 e _=>?_) (fun b o n1 n2 n3 e _=>?_) (fun b o _ _ z=>z) (fun b o _ e=>p.there b o e) (fun b xs z=>z) (fun b o u z=>z) (fun b ps z=>⟨#[],by rw[Array.append_empty];exact z⟩) (fun m hn=>?_) (HOk.past I.hok p I.stkFree fun b hb=>(nw b hb).2) I.bare
 ·exact p.keep b o e n3 (by rw[efs];exact fun z=>(List.mem_cons.mp z).elim n1 n2)
 ·exact p.slot b o e n3 (by rw[efs];exact List.mem_cons_of_mem _ n2)
 ·refine y6u hn fun o ho=>p.slot _ o ho (fun z=>(nw _ z).1.2.1 rfl) (by rw[efs];exact List.mem_cons_self)
theorem Inv.trackX{a:Addr}{φ:Heap->Prop}(I:Inv X pins σ H s)(nw:(a∈X.ex\/X.s₀.heap.get? a=none)/\a≠X.env.locals/\(∀x c,X.env.cells.lookup x=some c->c≠a)/\∀p∈X.pn++pins,p.1≠a)(na:H a=none)(x:q3m X.prog X.w (upd H a (.ext φ)) s.heap a (.ext φ)):Inv X pins σ (upd H a (.ext φ)) s:=by
 have up:∀b u,H b=some u->upd H a (.ext φ) b=some u:=fun b u z=>by
  rw[q0z (fun w=>by subst w;rw[na]at z;cases z)];exact z
 refine I.stepX (ch:=[a]) (h':=s.heap) (g':=s.gens) (d':=s.drawn) (t':=s.toks) (fun b hb=>by simp only[List.mem_singleton]at hb;subst hb;exact nw) (fun b o n1 n2 n3 e _=>e) (fun b o n1 n2 n3 e _=>⟨o.slots,e⟩) (fun b o n _ z=>by rw[q0z (by simpa using n)];exact z) (fun b o _ e=>⟨o,e⟩) (fun b xs z=>up b _ z) (fun b o u z=>up b _ z) (fun b ps z=>⟨#[],by rw[Array.append_empty];exact up b _ z⟩) (fun m hn=>hn) (fun b u e=>?_) I.bare
 by_cases hb:b=a
 ·subst hb
  rw[q2h]at e;cases e
  exact x
 ·rw[q0z hb]at e
  exact(I.hok b u e).stay (fun _ _ _ q=>q) (fun c q=>up c _ q) fun c xs q=>up c _ q
end
def w1h(i:Nat)(D:Ends):Ends:={nx:=fun σ H=>D.nx (σ.set i none) H,rt:=D.rt,bk:=fun σ H=>D.bk (σ.set i none) H,ct:=fun σ H=>D.ct (σ.set i none) H}
def q8v(a:Addr)(cls:Value)(h:Heap):Prop:=∃o vs,h.get? a=some o/\o.cls=cls/\o.data=.fields vs
theorem q8v.ok{P:Program}{w:World}{H:Hp}{a T:Addr}{cls:Value}{h:Heap}(F:Fly a cls [T] h):q3m P w H h a (.ext (q8v a cls)):=by
 obtain⟨oe,vs,hd,he,hc,hdt,h1,hh⟩:=F.is
 refine⟨⟨oe,vs,he,hc,hdt⟩,⟨oe,he⟩,fun h1 h2 hh1 k=>by obtain⟨o,vs,q,c,d⟩:=hh1;exact(⟨o,vs,k o q,c,d⟩)⟩
section
variable{X:Cx}{i:Nat}{y n:Str}{yp hpos pos:Pos}{cv:Value}{body suite:List Stmt}{b₀:Stmt}{tb:TSX}{ts:TS}
theorem y9p{pins:List (Addr×Obj)}{E:XC}{e:Value}{s':Shared}{Q:Flow->Shared->Prop}{hs:List ExceptHandler}(hst:X.stack=X.env::X.outer)(hf:X.env.frame=some X.env.locals)(h:XEnd X pins E e s')
  (go:∀a T cls σ H h',e=.ref a->Inv X pins σ H {s' with heap:=h' }->Fly a cls [T] h'->(∀b∈[a,T],((b∈X.ex\/X.s₀.heap.get? b=none)/\b≠X.env.locals/\(∀x c,X.env.cells.lookup x=some c->c≠b)/\∀p∈X.pn++pins,p.1≠b)/\H b=none)->E cls σ H->wpAny (model X.prog X.w) X.A (handleBy (.ref a) X.env hs) Q X.xe {s' with heap:=h' }) :
  wpAny (model X.prog X.w) X.A (noteFrame e X.env) (fun _ s₂=>wpAny (model X.prog X.w) X.A (setFlight e none) (fun _ s₃=>wpAny (model X.prog X.w) X.A (handleBy e X.env hs) Q X.xe s₃) X.xe s₂) X.xe s':=by
 obtain⟨σ,H1,s1,I1,a,cls,own,H2,rfl,os,bare,un,hok,F,new,q⟩:=h
 have I2:Inv X pins σ H2 s':=I1.call' os un hok bare (fun b z=>absurd z (by simp))
 refine z7r (base:=X.base) (outer:=X.outer) (by rw[I2.ok.frames,hst]) (by have:=I2.stack;rw[hst]at this;exact this) hf F fun h' T nT P' F'=>?_
 have nw:∀b∈a::own,((b∈X.ex\/X.s₀.heap.get? b=none)/\b≠X.env.locals/\(∀x c,X.env.cells.lookup x=some c->c≠b)/\∀p∈X.pn++pins,p.1≠b)/\H2 b=none:=fun b hb=>⟨I1.news (new b hb).1,(new b hb).2⟩
 refine go a T cls σ H2 h' rfl (I2.past hst hf nw (by rw[hst];exact P')) F' (fun b hb=>?_) q
 simp only[List.mem_cons,List.not_mem_nil,or_false]at hb
 rcases hb with rfl|rfl
 ·exact nw b (by simp)
 ·exact⟨I2.news nT,HOk.none_of I2.hok nT⟩
theorem x5f(hst:X.stack=X.env::X.outer)(hf:X.env.frame=some X.env.locals)(hB:PSXs X body tb)(hg:Gl X y)(hm:X.mg y=some cv)(hN:X.N.Nodup)(hi:X.N[i]?=some n)(hl:X.env.scope.names.lookup n=some .local)(hS:∀a,PSs (X.hd a) (b₀::suite) ts)
  (hk:X.env.kindOf n=some .local) (hd:(y==("__debug__" : Str))=false:=by decide) :
  PS X (.Try body [.ExceptHandler (some (.Name y yp)) (some n) (b₀::suite) hpos] [] [] pos)
   (fun D σ H=>tb D (fun cls σ' H'=>PySem.W.exmOne X.K cls cv=some true/\∀a,H' a=none->ts (w1h i D) (σ'.set i (some (.ref a))) (upd H' a (.ext (q8v a cls)))) σ H):=by
 intro pins s σ H D I h
 have ok:=I.ok
 refine wpAny_Try_except (wpAny_mono (hB pins s σ H _ _ I h) (fun f s1 q=>?_) fun e s1 q=>?_)
 ·cases f with
  |next=>exact wpAny_execs_nil q
  |ret u=>exact q
  |brk=>exact q
  |cont=>exact q
 ·refine y9p hst hf q fun a T cls σ1 H1 h1 _ I1 F1 nw hh1=>?_
  obtain⟨em,hq⟩:=hh1
  refine wpAny_handleBy_cons (codeAny_handlers_test ?_) (by intro z;cases z)
  refine q8j (X:=X.hd a) (I1.hd (e:=a)) hg hm ?_ hd
  obtain⟨oe,vs,hdv,he,hc,hdt,h1',hh⟩:=id F1.is
  subst hc
  have LT:PySem.W.Looks (model X.prog X.w) h1 (typeOf (.ref a)) oe.cls:=by
   unfold typeOf
   exact(PySem.W.Looks.ld he).andThen .now
  refine PySem.W.exm_one I1.kIn LT em _ _ _ _ (fun _ _ z=>z) ?_
  show codeAny _ _ _ _ _
  refine codeAny_handlers_suite_as ?_
  refine z7u (fs:=frs X.stack) F1 fun h2 P2 F2=>?_
  have I2:Inv X pins σ1 H1 {s1 with heap:=h2}:=I1.past (s:={s1 with heap:=h1}) (h':=h2) hst hf (own:=[T]) (fun b hb=>nw b (by simp only[List.mem_singleton]at hb;subst hb;simp)) P2
  have I3:=I2.trackX (φ:=q8v a oe.cls) (nw a (by simp)).1 (nw a (by simp)).2 (q8v.ok F2)
  refine q9h (X:=X.hd a) (v:=.ref a) (u:=.ref a) (I3.hd (e:=a)) hN hi (.inl hl) rfl (fun s3 I4=>?_) (.inr hl)
  refine wpAny_mono (hS a pins s3 _ _ _ I4 (hq a (nw a (by simp)).2)) (fun f s4 q4=>?_) fun _ _ z=>z.elim
  show wpAny _ _ _ _ _ _
  have gone:∀σ' H',Inv (X.hd a) pins σ' H' s4->∀{Q:Flow->Shared->Prop},(∀s5,Inv X pins (σ'.set i none) H' s5->Q f s5)->wpAny (model X.prog X.w) X.A (do bindName X.env n .none;unbindBehindTheSuite X.env n hpos) (fun _ s₃=>Q f s₃) X.xe s4:=fun σ' H' I5 Q k=>by
   have I6:Inv X pins σ' H' s4:=I5.ofhd ok
   obtain⟨m,hn,_⟩:=id I6.loc
   refine wpAny_nameGoes_keeps hk hn (by rw[ok.kind];rfl) fun h' v hn' hs=>k _ (I6.gone hN hi hn hn' hs)
  cases f with
  |next=>obtain⟨σ',H',I5,q5⟩:=q4;exact gone σ' H' I5 fun s5 I6=>⟨_,H',I6,q5⟩
  |brk=>obtain⟨σ',H',I5,q5⟩:=q4;exact gone σ' H' I5 fun s5 I6=>⟨_,H',I6,q5⟩
  |cont=>obtain⟨σ',H',I5,q5⟩:=q4;exact gone σ' H' I5 fun s5 I6=>⟨_,H',I6,q5⟩
  |ret u=>obtain⟨v,σ',H',I5,r,q5⟩:=q4;exact gone σ' H' I5 fun s5 I6=>⟨v,_,H',I6,r,q5⟩
end
theorem x1d{X:Cx}{y:Str}{yp hpos pos:Pos}{cv:Value}{body suite:List Stmt}{b₀:Stmt}{tb:TSX}{ts:TS}(hst:X.stack=X.env::X.outer)(hf:X.env.frame=some X.env.locals)(hB:PSXs X body tb)(hg:Gl X y)(hm:X.mg y=some cv)(hS:∀a,PSs (X.hd a) (b₀::suite) ts)
  (hd:(y==("__debug__" : Str))=false:=by decide) :
  PS X (.Try body [.ExceptHandler (some (.Name y yp)) none (b₀::suite) hpos] [] [] pos) (fun D σ H=>tb D (fun cls σ' H'=>PySem.W.exmOne X.K cls cv=some true/\ts D σ' H') σ H):=by
 intro pins s σ H D I h
 have ok:=I.ok
 refine wpAny_Try_except (wpAny_mono (hB pins s σ H _ _ I h) (fun f s1 q=>?_) fun e s1 q=>?_)
 ·cases f with
  |next=>exact wpAny_execs_nil q
  |ret u=>exact q
  |brk=>exact q
  |cont=>exact q
 ·refine y9p hst hf q fun a T cls σ1 H1 h1 _ I1 F1 nw hh1=>?_
  obtain⟨em,hq⟩:=hh1
  refine wpAny_handleBy_cons (codeAny_handlers_test ?_) (by intro z;cases z)
  refine q8j (X:=X.hd a) (I1.hd (e:=a)) hg hm ?_ hd
  obtain⟨oe,vs,hdv,he,hc,hdt,h1',hh⟩:=id F1.is
  subst hc
  have LT:PySem.W.Looks (model X.prog X.w) h1 (typeOf (.ref a)) oe.cls:=by
   unfold typeOf
   exact(PySem.W.Looks.ld he).andThen .now
  refine PySem.W.exm_one I1.kIn LT em _ _ _ _ (fun _ _ z=>z) ?_
  show codeAny _ _ _ _ _
  refine codeAny_handlers_suite ?_
  refine z7u (fs:=frs X.stack) F1 fun h2 P2 F2=>?_
  have I2:Inv X pins σ1 H1 {s1 with heap:=h2}:=I1.past (s:={s1 with heap:=h1}) (h':=h2) hst hf (own:=[T]) (fun b hb=>nw b (by simp only[List.mem_singleton]at hb;subst hb;simp)) P2
  refine wpAny_mono (hS a pins _ _ _ _ (I2.hd (e:=a)) hq) (fun f s4 q4=>?_) fun _ _ z=>z.elim
  exact q4.imp fun _ _ _=>Inv.ofhd ok
end L2
namespace L2
open PySem PySem.Spec PySem.W PySem.Calls PyProof.Rows Builtin Builtin.ObjectAttr Builtin.Getset_descriptor
structure ExcK(K:Frag)(D:Addr):Prop where
 c:(clsIn K D).isSome=true
 ga:findIn K (.ref D) "__getattribute__" = some (some (.builtin "BaseException.__getattribute__"))
 nga:findIn K (.ref D) "__getattr__" = some none
 cl:findIn K (.ref D) "__class__" = some (some (.builtin "object.__class__"))
 gt:specialIn K (.builtin "object.__class__") "__get__" = some (some (.builtin "getset_descriptor.__get__"))
 tk:takesIn K (.builtin "object.__class__")=some true
 mo:mroIn K D (.type "object")=some true
 mb:mroIn K D (.type "BaseException")=some true
section
variable{K:Frag}{D x:Addr}{prog:Program}{w:World}{A:Around}{E:Value->Shared->Prop}{s:Shared}
theorem y7p{M:Model}{h:Heap}(X:K.In h)(e:ExcK K D):Looks M h (find (.ref x) (.ref D) "__class__") (.bind (.builtin "getset_descriptor.__get__") (.builtin "object.__class__")):=by
 have L1:=looks_findIn (M:=M) X e.cl
 have L2:Looks M h (getOf (some (.builtin "object.__class__"))) _:=looks_specialIn X e.gt
 have L3:=looks_takesIn (M:=M) X e.tk
 refine L1.andThen (L2.andThen ?_)
 exact(show Looks M h (dataDescriptor? (some (.builtin "object.__class__")) (some (.builtin "getset_descriptor.__get__"))) (some (_,_))from L3.andThen .now).andThen (Looks.tag .now)
theorem z2x{tp:Value}{R:Result->Shared->Prop}(X:K.In s.heap)(L0:Looks (model prog w) s.heap (typeOf (.ref x)) (.ref D))(hm:mroIn K D (.type "object")=some true)
  (h:R (.ok (.ret (.ref D))) s):codeAny (model prog w) A (.call (.builtin "getset_descriptor.__get__") ⟨[.builtin "object.__class__",.ref x,tp],[]⟩) R s:=by
 obtain⟨hh,g,dr,t,os⟩:=s
 have L1:=looks_mroIn (M:=model prog w) X hm
 refine codeAny_call_builtin KF.slot_gs.plain KF.entry_gs (KF.slot_gs.check _ _ _ _ _ _ _ _ KF.type_class (KF.args_gs _ _ _) ?_)
 unfold Builtin.«getset_descriptor.__get__» descrGet
 rw[dga_obj]
 refine wpAny_bind (wpAny_pure ?_)
 unfold descrGetter descrCheckInstance descrNameAndClass isInstance
 simp only[KF.owner_class]
 repeat lk
 refine⟨Code.quiet_builtin _ (by decide +kernel),codeAny_builtin KF.entry_class ?_⟩
 unfold Builtin.«object.__class__» shownTypeOf
 repeat lk
 exact h
theorem y3k{nameV:Value}{Q:Unit->Shared->Prop}{M:Model}(X:K.In s.heap)(L0:Looks M s.heap (typeOf (.ref x)) (.ref D))(e:ExcK K D)(hq:Q () s):wpAny M A (checkBuiltinCall "BaseException.__getattribute__" ⟨[.ref x,nameV],[]⟩) Q E s:=by
 obtain⟨hh,g,dr,t,os⟩:=s
 have hk:builtinKind "BaseException.__getattribute__" = some .slot:=by decide +kernel
 have hsplit:splitId "BaseException.__getattribute__" = some ("BaseException", "__getattribute__"):=by decide +kernel
 have ha:=F.args_bexc_ga (.ref x) nameV
 have LI:Looks M hh (isInstance (.ref x) (.type "BaseException")) true:=L0.andThen (looks_mroIn X e.mb)
 simp only[checkBuiltinCall,hk,hsplit]
 refine wpAny_bind ?_
 refine wpAny_bind (L0.at ((looks_mroIn X e.mb).at ?_))
 repeat (first|assumption|wp_step)
theorem y3j{tk:Tok}{Q:Fin->Shared->Prop}(X:K.In s.heap)(L0:Looks (model prog w) s.heap (typeOf (.ref x)) (.ref D))(e:ExcK K D)(hq:Q (.done (.ret (.ref D))) s) :
  wpAny (model prog w) A (Builtin.«object.__getattribute__» ⟨[.ref x,.str "__class__" tk],[]⟩) Q E s:=by
 obtain⟨hh,g,dr,t,os⟩:=s
 have LF:=y7p (M:=model prog w) (x:=x) X e
 unfold Builtin.«object.__getattribute__»
 refine wpAny_bind (wpAny_pure ?_)
 refine wpAny_bind (wpAny_pure ?_)
 refine wpAny_bind (L0.at (wpAny_bind (LF.at ?_)))
 show wpAny _ _ (bindTo _ _ _ _) _ _ _
 unfold bindTo
 show wpAny _ _ (holding [_] (call _ [_,_,_]) >>= ret) _ _ _
 exact wpAny_bind (wpAny_holding (wpAny_call (z2x (s:=⟨hh,g,dr,t,os⟩) X L0 e.mo (wpAny_pure hq))))
theorem x7y{Q:Option Value->Shared->Prop}(X:K.In s.heap)(L0:Looks (model prog w) s.heap (typeOf (.ref x)) (.ref D))(e:ExcK K D)(hq:Q (some (.ref D)) {s with toks:=s.toks+1}):wpAny (model prog w) A (getAttr? (.ref x) "__class__") Q E s:=by
 obtain⟨hh,g,dr,t,os⟩:=s
 have FB:=F.attrBase_ValueError
 have L1:=looks_findIn (M:=model prog w) X e.ga
 have L2:=looks_findIn (M:=model prog w) X e.nga
 unfold getAttr? getAttrBy? getAttrBy
 refine wpAny_bind (wpAny_mkText (wpAny_bind (wpAny_attempt (wpAny_holding (wpAny_bind (L0.at (wpAny_bind (L1.at ?_))))))))
 show wpAny _ _ (getAttrByItsOwn _ _ _ _ _ _) _ _ _
 unfold getAttrByItsOwn
 refine wpAny_bind ?_
 show wpAny _ _ (typeLookup _ _) _ _ _
 refine L2.at (wpAny_bind (wpAny_attempt (wpAny_holding ?_)))
 show wpAny _ _ (boundAndCalled _ _ _) _ _ _
 unfold boundAndCalled
 rw[FB.ga.bind (.ref x)]
 refine wpAny_bind (wpAny_pure ?_)
 refine wpAny_call (codeAny_call_builtin FB.ga.plain F.entry_bexc_ga (y3k (s:=⟨hh,g,dr,t+1,os⟩) X L0 e (y3j (s:=⟨hh,g,dr,t+1,os⟩) X L0 e ?_)))
 exact handed_on rfl (wpAny_pure hq)
theorem z7v(e:ExcK K D):KitX K (.ref x) (.ref D) (fun h=>∃o,h.get? x=some o/\o.cls=.ref D) where
 ty:=fun M h _ ⟨o,q,c⟩=>c▸(Looks.ld q).andThen .now
 it:=fun _ _ X _=>by
  obtain⟨cdD,hcD⟩:=Option.isSome_iff_exists.mp e.c
  unfold clsIn at hcD
  split at hcD
  ·rename_i c' d' cd' sl' ho
   intro A' Q' E' s' k q
   unfold isType loadHead
   exact wpAny_bind (wpAny_loadPart (k _ _ (X _ _ ho)) (wpAny_pure q))
  ·cases hcD
 ne:=fun h tp dd its n sl X htp=>by
  obtain⟨cdD,hcD⟩:=Option.isSome_iff_exists.mp e.c
  refine Bool.eq_false_iff.mpr fun q=>?_
  have e:D=tp:=Value.ref.inj (beq_iff_eq.mp q)
  subst e
  unfold clsIn at hcD
  split at hcD
  ·rename_i c' d' cd' sl' ho
   have z:=(X _ _ ho).symm.trans htp
   cases z
  ·cases hcD
 ca:=fun X ⟨o,q,c⟩ k=>x7y X (c▸(Looks.ld q).andThen .now) e k
end
end L2
namespace Ev
open PySem L2 PySem.Spec PyProof.Rows
theorem LRel.nog{K:Frag}{G:GX}{H:Hp}{φ:List Addr}{σ:Loc}{σV:L2.St}(L:LRel K G H φ σ σV):LRel K NoG H φ σ σV:=⟨L.len,L.at',fun _ _ _ _ q=>q.elim⟩
theorem LRel.forget{K:Frag}{G:GX}{H:Hp}{φ:List Addr}{σ:Loc}{σV:L2.St}(L:LRel K G H φ σ σV)(i:Nat):LRel K G H φ (σ.set i none) (σV.set i none):=by
 refine⟨by simp[L.len],fun j v e=>?_,L.kx⟩
 have hj:j≠i:=by
  rintro rfl
  by_cases hlt:j<σ.length
  ·rw[List.getElem?_set_self hlt]at e;cases e
  ·rw[List.getElem?_eq_none (by simpa using hlt)]at e;cases e
 rw[List.getElem?_set_ne (Ne.symm hj)]at e ⊢
 exact L.at' j v e
structure ExcC(K:Frag)(mg:Str->Option Value)(c:String):Prop where
 is:∃C,PySem.W.nsIn K mainGlobals (Str.ofString c)=some (some (.ref C))/\mg (Str.ofString c)=some (.ref C)/\PySem.W.excIn K C vErr "ValueError.__new__" = true
def q3j(c:String)(wa:WA):WS:=fun _ E σ S=>wa σ S E fun xs S1=>xs.length<=sizeLine/\E (.exc c) S1
section
variable{X:Cx}{G:GX}{pos:Pos}
theorem q1s{c:String}{x:Str}{np cpos:Pos}{e0:Expr}{wa:WA}(C:ExcC X.K X.mg c)(hx:q5y (CXE X.prog X.w) X (xkOf X.K G.xh))(hc:X.calm=true)(ha:SimA X G [e0] wa)(ex:x=Str.ofString c:=by rfl)(hg:Gl X x:=by rfl)
  (hd:(x==("__debug__" : Str))=false:=by decide) (he:starEach [e0] X.env=(false,eval e0 X.env)::starEach [] X.env:=by rfl):SimS X G (.Raise (some (.Call (.Name x np) [e0] [] cpos)) none pos) (q3j c wa):=by
 obtain⟨C,h1,h2,h3⟩:=C.is
 subst ex
 exact(y6a hx hc hg h2 h3 ha hd he).imp fun D σV H hh1=>by obtain⟨φ,σ,S,D0,L,R,h,k⟩:=hh1;exact(⟨φ,σ,S,_,L,R,h,fun v S1 φ1 H1 x hh2 p1 m1 R1 r1=>by obtain⟨hl,q⟩:=hh2;exact(⟨by rw[<-r1.length];exact hl,.exc c,⟨c,C,rfl,rfl,h1⟩,(L.mono m1 p1).kx _ S1 φ1 H1 q (List.prefix_refl _) (.refl _) R1⟩)⟩)
end
abbrev XEK:=PV->Loc->q0i->Prop
abbrev WSX:=PEnds->XEK->Loc->q0i->Prop
def KXS(K:Frag)(G:GX)(φ:List Addr)(H:Hp)(E0:XEK)(E:XC):Prop:=∀v σ' S' φ' H' σV' cls,E0 v σ' S'->φ <+: φ'->Mono H H'->Rel K φ' S' H'->LRel K G H' φ' σ' σV'->ClsP K v cls->E cls σV' H'
theorem KXS.up{K:Frag}{G:GX}{φ φ1:List Addr}{H H1:Hp}{E0:XEK}{E:XC}(k:KXS K G φ H E0 E)(p:φ <+: φ1)(m:Mono H H1):KXS K G φ1 H1 E0 E:=fun v σ' S' φ' H' σV' cls q p' m'=>k v σ' S' φ' H' σV' cls q (p.trans p') (m.trans m')
def y9g(K:Frag)(G:GX)(w:WSX):TSX:=fun D E σV H=>∃φ σ S D0 E0,LRel K G H φ σ σV/\Rel K φ S H/\w D0 E0 σ S/\KS K G φ H D0 D/\KXS K G φ H E0 E
def y8o(X:Cx)(G:GX)(st:Stmt)(w:WSX):Prop:=PSX X st (y9g X.K G w)
def z1p(X:Cx)(G:GX)(st:List Stmt)(w:WSX):Prop:=PSXs X st (y9g X.K G w)
def x6v(K:Frag)(G:GX)(w:WE):TEX:=fun σV H Q E=>∃φ σ S Q0 E0,LRel K G H φ σ σV/\Rel K φ S H/\w σ S E0 Q0/\KE K φ H Q0 Q/\∀v S' φ' H' cls d,E0 v S'->φ <+: φ'->Mono H H'->Rel K φ' S' H'->ClsP K v cls->E cls d H'
def x3q(X:Cx)(G:GX)(e:Expr)(w:WE):Prop:=PEX X e (x6v X.K G w)
theorem _root_.L2.PEX.imp{X:Cx}{e:Expr}{t t':TEX}(h:PEX X e t)(i:∀σ H Q E,t' σ H Q E->t σ H Q E):PEX X e t':=fun pins s σ H Q E I q=>h pins s σ H Q E I (i σ H Q E q)
theorem _root_.L2.PSX.imp{X:Cx}{e:Stmt}{t t':TSX}(h:PSX X e t)(i:∀D E σ H,t' D E σ H->t D E σ H):PSX X e t':=fun pins s σ H D E I q=>h pins s σ H D E I (i D E σ H q)
theorem _root_.L2.PSXs.imp{X:Cx}{e:List Stmt}{t t':TSX}(h:PSXs X e t)(i:∀D E σ H,t' D E σ H->t D E σ H):PSXs X e t':=fun pins s σ H D E I q=>h pins s σ H D E I (i D E σ H q)
def z3h(sp:Den)(wa:WA):WE:=fun σ S E Q=>wa σ S NoX fun xs S1=>sp xs S1 E Q
def z7b(w:WE):WSX:=fun D E σ S=>w σ S (fun v S'=>E v σ S') fun _ S1=>D.nx σ S1
def x3v(i:Nat)(w:WE):WSX:=fun D E σ S=>w σ S (fun v S'=>E v σ S') fun v S1=>D.nx (σ.set i (some v)) S1
def y4q(w:WE):WSX:=fun D E σ S=>w σ S (fun v S'=>E v σ S') D.rt
def x0c:WSX:=fun D _ σ S=>D.nx σ S
def x0b(w1 w2:WSX):WSX:=fun D E σ S=>w1 {D with nx:=w2 D E} E σ S
def wxOf(w:WS):WSX:=fun D _ σ S=>w D NoX σ S
def wxIf(c:WT)(t u:WSX):WSX:=fun D E σ S=>c σ S NoX fun b S1=>if b=true then t D E σ S1 else u D E σ S1
section
variable{X:Cx}{G:GX}{pos:Pos}
theorem z3m{k:Nat}{f:Addr}{fd:FuncData}{ps:List Str}{sp:Den}{x:Str}{p:Pos}{e:Expr}{es:List Expr}{wa:WA}(C:Cal X.prog X.w X.K X.mg X.base k x ps (q1a X.K sp) f fd)(hr:Room k X.A)(ha:SimA X.nx NoG (e::es) wa)(hg:Gl X x:=by rfl)
  (hdb:(x==("__debug__" : Str))=false:=by decide) (he:starEach (e::es) X.env=(false,eval e X.env)::starEach es X.env:=by rfl) (hpl:(backTo pos (starEach es X.env)).any (·.1)=false:=by rfl) :
  x3q X G (.Call (.Name x p) (e::es) [] pos) (z3h sp wa):=
 (y6h (dvs:=[]) C.G hr hg C.m C.kp C.b .nil ha hdb he hpl).imp fun σV H Q E hh1=>by obtain⟨φ,σ,S,Q0,E0,L,R,h,k,kx⟩:=hh1;exact(⟨φ,σ,S,_,L.nog,R,h,fun v S1 φ1 H1 x q p1 m1 R1 r1=>
  ⟨φ1,v,S1,Q0,E0,fun v' H'=>∀cls d,ClsP X.K v' cls->E cls d H',by rw [List.append_nil];exact r1,R1,q,k.up p1 m1,fun v' S' φ' H' q' p' m' R' cls d hc=>kx v' S' φ' H' cls d q' (p1.trans p') (m1.trans m') R' hc,fun cls d H' hh2=>by obtain ⟨v',hc,q'⟩:=hh2;exact (q' cls d hc)⟩⟩)
theorem y0m{e:Expr}{w:WE}(he:x3q X G e w)(hs:swapsWith e none pos.line X.env=pure false:=by rfl):y8o X G (.Expr e pos) (z7b w):=
 (y5x he hs).imp fun D E σV H hh1=>by obtain⟨φ,σ,S,D0,E0,L,R,h,k,kx⟩:=hh1;exact(⟨φ,σ,S,_,_,L,R,h,fun v S1 φ1 H1 x q p1 m1 R1 r1=>k.nx σ S1 φ1 H1 σV q p1 m1 R1 (L.mono m1 p1),fun v S' φ' H' cls d q p m R' hc=>kx v σ S' φ' H' σV cls q p m R' (L.mono m p) hc⟩)
theorem y5k{e:Expr}{w:WE}(he:x3q X G e w):y8o X G (.Return (some e) pos) (y4q w):=
 (x1a he).imp fun D E σV H hh1=>by obtain⟨φ,σ,S,D0,E0,L,R,h,k,kx⟩:=hh1;exact(⟨φ,σ,S,_,_,L,R,h,k.rt,fun v S' φ' H' cls d q p m R' hc=>kx v σ S' φ' H' σV cls q p m R' (L.mono m p) hc⟩)
theorem y5l:z1p X G [] x0c:=y5w.imp fun D E σV H hh1=>by obtain⟨φ,σ,S,D0,E0,L,R,h,k,kx⟩:=hh1;exact(k.nx σ S φ H σV h (List.prefix_refl _) (.refl _) R L)
theorem y0n{st:Stmt}{rest:List Stmt}{w1 w2:WSX}(h1:y8o X G st w1)(h2:z1p X G rest w2):z1p X G (st::rest) (x0b w1 w2):=
 (y1d h1 h2).imp fun D E σV H hh1=>by obtain⟨φ,σ,S,D0,E0,L,R,h,k,kx⟩:=hh1;exact(⟨φ,σ,S,_,_,L,R,h,⟨fun σ' S' φ' H' σV' q p m R' L'=>⟨φ',σ',S',D0,E0,L',R',q,k.up p m,kx.up p m⟩,k.rt,k.bk,k.ct⟩,kx⟩)
theorem z7i{st:Stmt}{w:WSX}(h:y8o X G st w):z1p X G [st] w:=(y0n h y5l).imp fun D E σV H hh1=>by obtain⟨φ,σ,S,D0,E0,L,R,h,k,kx⟩:=hh1;exact(⟨φ,σ,S,D0,E0,L,R,h,k,kx⟩)
end
def x1o(i:Nat)(D:PEnds):PEnds:={nx:=fun σ S=>D.nx (σ.set i none) S,rt:=D.rt,bk:=fun σ S=>D.bk (σ.set i none) S,ct:=fun σ S=>D.ct (σ.set i none) S}
structure Cau(K:Frag)(mg:Str->Option Value)(y:Str)(cs:List String):Prop where
 is:∃cv,mg y=some cv/\∀c∈cs,∃C,PySem.W.nsIn K mainGlobals (Str.ofString c)=some (some (.ref C))/\PySem.W.exmOne K (.ref C) cv=some true
def wTry(i:Nat)(cs:List String)(wb:WSX)(ws:WS):WS:=fun D _ σ S=>wb D (fun v σ' S'=>match v with
 |.exc c=>c∈cs/\ws (x1o i D) NoX (σ'.set i (some v)) S'
 |_=>False) σ S
theorem x7z{K:Frag}{H:Hp}{a C:Addr}{c:String}{φ:List Addr}(h:PySem.W.nsIn K mainGlobals (Str.ofString c)=some (some (.ref C))):RV K (upd H a (.ext (q8v a (.ref C)))) φ (.exc c) (.ref a):=
 ⟨a,rfl,_,C,q2h,h,fun h hh1=>by obtain⟨o,vs,q,c,d⟩:=hh1;exact(⟨o,q,c⟩)⟩
section
variable{X:Cx}{G:GX}{pos:Pos}
theorem x0p(i:Nat){y n:Str}{yp hpos:Pos}{body suite:List Stmt}{b₀:Stmt}{wb:WSX}{ws:WS}{cs:List String}(C:Cau X.K X.mg y cs)(hB:z1p X G body wb)(hN:X.N.Nodup)(hS:∀a,q9c (X.hd a) NoG (b₀::suite) ws)(hst:X.stack=X.env::X.outer:=by rfl)(hf:X.env.frame=some X.env.locals:=by rfl)
  (hi:X.N[i]?=some n:=by rfl) (hg:Gl X y:=by rfl) (hl:X.env.scope.names.lookup n=some .local:=by rfl) (hk:X.env.kindOf n=some .local:=by rfl) (hd:(y==("__debug__" : Str))=false:=by decide) :
  SimS X G (.Try body [.ExceptHandler (some (.Name y yp)) (some n) (b₀::suite) hpos] [] [] pos) (wTry i cs wb ws):=by
 obtain⟨cv,hm,hc⟩:=C.is
 refine(x5f (ts:=y2j X.K NoG ws) hst hf hB hg hm hN hi hl hS hk hd).imp fun D σV H ⟨φ,σ,S,D0,L,R,h,k⟩=>⟨φ,σ,S,D0,_,L,R,h,k,fun v σ' S' φ' H' σV' cls q p m R' L' hcl=>?_⟩
 obtain⟨c,C',rfl,rfl,hn⟩:=hcl
 obtain⟨hcs,hw⟩:=q
 obtain⟨C2,hn2,hx⟩:=hc c hcs
 rw[hn]at hn2
 cases hn2
 refine⟨hx,fun a ha=>?_⟩
 have mn:Mono H' (upd H' a (.ext (q8v a (.ref C')))):=.new _ ha
 refine⟨φ',_,S',_,((L'.mono mn (List.prefix_refl _)).nog).set i (x7z hn),R'.frame _ ha,hw,?_⟩
 have kk:=(k.up p m).up (List.prefix_refl φ') mn
 have kx:=((L'.mono mn (List.prefix_refl φ'))).kx
 have up:∀{σ1 φ1 H1 σV1},φ' <+: φ1->Mono (upd H' a (.ext (q8v a (.ref C')))) H1->LRel X.K NoG H1 φ1 σ1 σV1->LRel X.K G H1 φ1 (σ1.set i none) (σV1.set i none):=fun {σ1 φ1 H1 σV1} p1 m1 L1=>
  LRel.forget ⟨L1.len,L1.at',((L'.mono mn (List.prefix_refl φ')).mono m1 p1).kx⟩ i
 exact⟨fun σ1 S1 φ1 H1 σV1 q1 p1 m1 R1 L1=>kk.nx _ S1 φ1 H1 _ q1 p1 m1 R1 (up p1 m1 L1),kk.rt,fun σ1 S1 φ1 H1 σV1 q1 p1 m1 R1 L1=>kk.bk _ S1 φ1 H1 _ q1 p1 m1 R1 (up p1 m1 L1),fun σ1 S1 φ1 H1 σV1 q1 p1 m1 R1 L1=>kk.ct _ S1 φ1 H1 _ q1 p1 m1 R1 (up p1 m1 L1)⟩
end
def cV:V->Value
 |.ref a=>.ref a
 |.ty T=>.type T
 |_=>.none
def IsCV(v:V):Prop:=(∃a,v=.ref a)\/∃T,v=.ty T
theorem IsCV.eq{v:V}{u:Value}(h:IsCV v)(r:RelV v u):u=cV v:=by
 rcases h with⟨a,rfl⟩|⟨T,rfl⟩
 ·exact r
 ·exact r
theorem x8f{vs:List V}{us:List Value}(h:∀v∈vs,IsCV v)(r:Vals vs us):us=vs.map cV:=by
 induction r with
 |nil=>rfl
 |cons a b ih=>rw[List.map_cons,(h _ (by simp)).eq a,ih fun v hv=>h v (by simp[hv])]
def x3r(X:Cx)(y:Str)(v:V):Prop:=IsCV v/\∃u,RelV v u/\((X.mg y=some u)\/(X.mg y=none/\bootBuiltins y=some u/\y≠ "__name__"))
section
variable{X:Cx}{G:GX}{pos:Pos}
theorem x5x{y:Str}{v:V}(h:x3r X y v)(hg:Gl X y)(hd:(y==("__debug__" : Str))=false):PE X (.Name y pos) (tC v):=by
 obtain⟨_,u,r,h|⟨h1,h2,h3⟩⟩:=h
 ·exact y1k hg h r hd
 ·exact y1m hg h1 h2 r h3 hd
def x9p(vs:List V):TA:=fun _ H Q=>Q vs H
inductive Names(X:Cx):List Expr->List V->Prop
 |nil:Names X [] []
 |cons {y:Str} {p:Pos} {v:V} {es:List Expr} {vs:List V} (h:x3r X y v) (hg:Gl X y) (hd:(y==("__debug__" : Str))=false) (r:Names X es vs):Names X (.Name y p::es) (v::vs)
theorem Names.pa{es:List Expr}{vs:List V}(h:Names X es vs):PA X es (x9p vs):=by
 induction h with
 |nil=>exact y1p
 |cons h hg hd r ih=>exact q9x (x5x h hg hd) ih
theorem Names.cv{es:List Expr}{vs:List V}(h:Names X es vs):∀v∈vs,IsCV v:=by
 induction h with
 |nil=>simp
 |cons h hg hd r ih=>intro v hv;rcases List.mem_cons.mp hv with rfl|hv;exact h.1;exact ih v hv
def ExcH(H:Hp)(a C:Addr):Prop:=∃f:Heap->Prop,H a=some (.ext f)/\∀h,f h->∃o,h.get? a=some o/\o.cls=.ref C
theorem ExcH.rec{pins:List (Addr×Obj)}{s:Shared}{σ:L2.St}{H:Hp}{a C:Addr}(x:ExcH H a C)(I:Inv X pins σ H s):∃o,s.heap.get? a=some o/\o.cls=.ref C:=by
 obtain⟨f,e,k⟩:=x
 exact k _ (I.hok a _ e).1
def rX1(K:Frag):List V->Hp->VK->Prop:=fun vs H Q=>∃a C v b,vs=[.ref a,v]/\IsCV v/\ExcH H a C/\ExcK K C/\PySem.W.kitOne K (.ref C) (cV v)=some b/\Q (.bl b) H
theorem y8b:q6g X (.builtin "isinstance") (rX1 X.K):=by
 rintro pins s σ H xs us Q I r ⟨a,C,v,b,rfl,hv,hx,hk,e,q⟩
 obtain⟨u,c,rfl,ru,rc⟩:=z5l r
 cases(show u=Value.ref a from ru)
 cases hv.eq rc
 exact PySem.W.kia_one (z7v hk) I.kIn (hx.rec I) e (fun z=>nomatch z) fun tk=>⟨.bl _,H,I.tok tk,rfl,q⟩
def rXT(K:Frag):List V->Hp->VK->Prop:=fun vs H Q=>∃a C p its b,vs=[.ref a,.ref p]/\(∀v∈its,IsCV v)/\H p=some (.tup its)/\ExcH H a C/\ExcK K C/\PySem.W.kitAny K (.ref C) (its.map cV)=some b/\Q (.bl b) H
theorem y8a:q6g X (.builtin "isinstance") (rXT X.K):=by
 rintro pins s σ H xs us Q I r ⟨a,C,p,its,b,rfl,hv,hp,hx,hk,e,q⟩
 obtain⟨u,c,rfl,ru,rc⟩:=z5l r
 cases(show u=Value.ref a from ru)
 cases(show c=Value.ref p from rc)
 obtain⟨us,rv,pp,_⟩:=I.tuple (SqT.of hp)
 rw[x8f hv rv]at pp
 obtain⟨⟨cls,dd,dat,sl⟩,ho,hc,n,hd⟩:=pp
 simp only at hc hd
 subst hc hd
 exact PySem.W.kia_tup (z7v hk) I.kIn (hx.rec I) ho e (fun z=>nomatch z) fun tk=>⟨.bl _,H,I.tok tk,rfl,q⟩
def wIsX(w:WE)(tab:List (String×Bool)):WE:=fun σ S E Q=>w σ S E fun v S1=>match v with
 |.exc c=>(match tab.lookup c with
  |some b=>Q (.bl b) S1
  |none=>False)
 |_=>False
structure TabX1(K:Frag)(cv:Value)(tab:List (String×Bool)):Prop where
 is:∀c b,tab.lookup c=some b->∃C,PySem.W.nsIn K mainGlobals (Str.ofString c)=some (some (.ref C))/\ExcK K C/\PySem.W.kitOne K (.ref C) cv=some b
structure TabXT(K:Frag)(cvs:List Value)(tab:List (String×Bool)):Prop where
 is:∀c b,tab.lookup c=some b->∃C,PySem.W.nsIn K mainGlobals (Str.ofString c)=some (some (.ref C))/\ExcK K C/\PySem.W.kitAny K (.ref C) cvs=some b
theorem y3l{K:Frag}{H:Hp}{φ:List Addr}{c:String}{x:V}{C:Addr}(r:RV K H φ (.exc c) x)(h:PySem.W.nsIn K mainGlobals (Str.ofString c)=some (some (.ref C))):∃a,x=.ref a/\ExcH H a C:=by
 obtain⟨a,rfl,f,C',e,h',k⟩:=r
 rw[h]at h'
 cases h'
 exact⟨a,rfl,f,e,k⟩
theorem y5o{e:Expr}{w:WE}{y:Str}{v:V}{p yp:Pos}{tab:List (String×Bool)}(hm:X.mg "isinstance" = none)(he:SimE X G e w)(hv:x3r X y v)(T:TabX1 X.K (cV v) tab)(hg:Gl X y:=by rfl)(hd:(y==("__debug__" : Str))=false:=by decide)(hgi:Gl X "isinstance" :=by rfl)
  (hs:starEach [e,.Name y yp] X.env=(false,eval e X.env)::starEach [.Name y yp] X.env:=by rfl) (hpl:(backTo pos (starEach [.Name y yp] X.env)).any (·.1)=false:=by rfl):SimE X G (.Call (.Name "isinstance" p) [e,.Name y yp] [] pos) (wIsX w tab):=
 (z2b (y8b (X:=X)) hgi hm rfl (q9x he (Names.cons (p:=yp) hv hg hd .nil).pa hs) (by decide) (by decide) hs hpl).imp fun σV H Q hh1=>by obtain⟨φ,σ,S,Q0,L,R,h,k⟩:=hh1;exact(⟨φ,σ,S,_,L,R,h,fun u S1 φ1 H1 x q p1 m1 R1 r1=>by
  cases u with
  |exc c=>
   dsimp only at q
   split at q
   ·rename_i b hb
    obtain ⟨C,h1,h2,h3⟩:=T.is c b hb
    obtain ⟨a,rfl,hx⟩:=y3l r1 h1
    exact ⟨a,C,v,b,rfl,hv.1,hx,h2,h3,k _ S1 φ1 H1 _ q p1 m1 R1 rfl⟩
   ·exact q.elim
  |_=>exact q.elim⟩)
theorem ExcH.upd{H:Hp}{a C p:Addr}{o:HO}(x:ExcH H a C)(hp:H p=none):ExcH (upd H p o) a C:=by
 obtain⟨f,e,k⟩:=x
 exact⟨f,by rw[q0z (fun z=>by subst z;rw[hp]at e;cases e)];exact e,k⟩
theorem y5n{e:Expr}{w:WE}{ys:List Expr}{vs:List V}{p tp:Pos}{kk:Nat}{tab:List (String×Bool)}(hm:X.mg "isinstance" = none)(he:SimE X G e w)(hv:Names X ys vs)(T:TabXT X.K (vs.map cV) tab)(hl:vs.length<=60)(hgi:Gl X "isinstance" :=by rfl)
  (hs:starEach [e,.Tuple ys kk tp] X.env=(false,eval e X.env)::starEach [.Tuple ys kk tp] X.env:=by rfl) (hpl:(backTo pos (starEach [.Tuple ys kk tp] X.env)).any (·.1)=false:=by rfl):SimE X G (.Call (.Name "isinstance" p) [e,.Tuple ys kk tp] [] pos) (wIsX w tab):=
 (z2b (y8a (X:=X)) hgi hm rfl (q9x he (q9x (y9c hv.pa) y1p) hs) (by decide) (by decide) hs hpl).imp fun σV H Q hh1=>by obtain⟨φ,σ,S,Q0,L,R,h,k⟩:=hh1;exact(⟨φ,σ,S,_,L,R,h,fun u S1 φ1 H1 x q p1 m1 R1 r1=>by
  cases u with
  |exc c=>
   dsimp only at q
   split at q
   ·rename_i b hb
    obtain ⟨C,h1,h2,h3⟩:=T.is c b hb
    obtain ⟨a,rfl,hx⟩:=y3l r1 h1
    refine ⟨Nat.le_trans hl (by unfold sizeLine;decide),fun q' hq'=>⟨a,C,q',vs,b,rfl,hv.cv,q2h,hx.upd hq',h2,h3,?_⟩⟩
    exact k _ S1 φ1 _ _ q p1 (m1.trans (.new _ hq')) (R1.frame _ hq') rfl
   ·exact q.elim
  |_=>exact q.elim⟩)
end
def YV(mg:Str->Option Value)(y:Str)(v:V):Prop:=IsCV v/\∃u,RelV v u/\((mg y=some u)\/(mg y=none/\bootBuiltins y=some u/\y≠ "__name__"))
theorem YV.own{mg:Str->Option Value}{y:Str}{C:Addr}(h:mg y=some (.ref C)):YV mg y (.ref C):=⟨.inl ⟨C,rfl⟩,_,rfl,.inl h⟩
theorem YV.ty{mg:Str->Option Value}{y:Str}{T:String}(h:mg y=none)(b:bootBuiltins y=some (.type T))(n:y≠ "__name__" :=by decide):YV mg y (.ty T):=⟨.inr ⟨T,rfl⟩,_,rfl,.inr ⟨h,b,n⟩⟩
structure HIs1(K:Frag)(mg:Str->Option Value)(y:Str)(tab:List (String×Bool)):Prop where
 is:∃v,YV mg y v/\TabX1 K (cV v) tab
def y4o(mg:Str->Option Value):List Str->List V->Prop
 |[],[]=>True
 |y::ys,v::vs=>YV mg y v/\y4o mg ys vs
 |_,_=>False
structure HIsT(K:Frag)(mg:Str->Option Value)(ys:List Str)(tab:List (String×Bool)):Prop where
 is:∃vs,y4o mg ys vs/\TabXT K (vs.map cV) tab
def y4p(X:Cx):List Str->List Expr->Prop
 |[],[]=>True
 |y::ys,.Name y' _::es=>y'=y/\Gl X y/\(y==("__debug__" : Str))=false/\y4p X ys es
 |_,_=>False
theorem y6w{X:Cx}:∀(ys:List Str)(es:List Expr)(vs:List V),y4o X.mg ys vs->y4p X ys es->Names X es vs/\vs.length=ys.length:=by
 intro ys
 induction ys with
 |nil=>
  intro es vs h r
  cases vs with
  |nil=>cases es with
   |nil=>exact⟨.nil,rfl⟩
   |cons _ _=>exact(show False from r).elim
  |cons _ _=>exact(show False from h).elim
 |cons y ys ih=>
  intro es vs h r
  cases vs with
  |nil=>exact(show False from h).elim
  |cons v vs=>cases es with
   |nil=>exact(show False from r).elim
   |cons e es=>cases e with
    |Name y' p=>
     obtain⟨e,g,d,r⟩:=r
     subst e
     obtain⟨a,b⟩:=ih es vs h.2 r
     exact⟨.cons h.1 g d a,by simp[b]⟩
    |_=>exact(show False from r).elim
theorem TabX1.nil{K:Frag}{cv:Value}:TabX1 K cv []:=⟨fun _ _ h=>by cases h⟩
theorem TabX1.cons{K:Frag}{cv:Value}{c:String}{C:Addr}{b:Bool}{tab:List (String×Bool)}(h:PySem.W.nsIn K mainGlobals (Str.ofString c)=some (some (.ref C)))(k:ExcK K C)(e:PySem.W.kitOne K (.ref C) cv=some b)(r:TabX1 K cv tab):TabX1 K cv ((c,b)::tab):=⟨fun c' b' q=>by
 rw [List.lookup_cons]at q
 split at q
 ·rename_i z
  have z:=eq_of_beq z
  subst z
  cases q
  exact ⟨C,h,k,e⟩
 ·exact r.is c' b' q⟩
theorem TabXT.nil{K:Frag}{cv:List Value}:TabXT K cv []:=⟨fun _ _ h=>by cases h⟩
theorem TabXT.cons{K:Frag}{cv:List Value}{c:String}{C:Addr}{b:Bool}{tab:List (String×Bool)}(h:PySem.W.nsIn K mainGlobals (Str.ofString c)=some (some (.ref C)))(k:ExcK K C)(e:PySem.W.kitAny K (.ref C) cv=some b)(r:TabXT K cv tab):TabXT K cv ((c,b)::tab):=⟨fun c' b' q=>by
 rw [List.lookup_cons]at q
 split at q
 ·rename_i z
  have z:=eq_of_beq z
  subst z
  cases q
  exact ⟨C,h,k,e⟩
 ·exact r.is c' b' q⟩
def CauL(K:Frag)(cv:Value)(cs:List String):Prop:=∀c∈cs,∃C,PySem.W.nsIn K mainGlobals (Str.ofString c)=some (some (.ref C))/\PySem.W.exmOne K (.ref C) cv=some true
theorem CauL.nil{K:Frag}{cv:Value}:CauL K cv []:=fun _ h=>by cases h
theorem CauL.cons{K:Frag}{cv:Value}{c:String}{C:Addr}{cs:List String}(h:PySem.W.nsIn K mainGlobals (Str.ofString c)=some (some (.ref C)))(e:PySem.W.exmOne K (.ref C) cv=some true)(r:CauL K cv cs):CauL K cv (c::cs):=fun c' hc=>by
 rcases List.mem_cons.mp hc with rfl|hc
 ·exact⟨C,h,e⟩
 ·exact r c' hc
section
variable{X:Cx}{G:GX}{pos:Pos}
theorem y0r{e:Expr}{w:WE}{y:Str}{p yp:Pos}{tab:List (String×Bool)}(hm:X.mg "isinstance" = none)(he:SimE X G e w)(T:HIs1 X.K X.mg y tab)(hg:Gl X y:=by rfl)(hd:(y==("__debug__" : Str))=false:=by decide)(hgi:Gl X "isinstance" :=by rfl)
  (hs:starEach [e,.Name y yp] X.env=(false,eval e X.env)::starEach [.Name y yp] X.env:=by rfl) (hpl:(backTo pos (starEach [.Name y yp] X.env)).any (·.1)=false:=by rfl):SimE X G (.Call (.Name "isinstance" p) [e,.Name y yp] [] pos) (wIsX w tab):=by
 obtain⟨v,h1,h2⟩:=T.is
 exact y5o hm he h1 h2 hg hd hgi hs hpl
theorem y0q(ys:List Str){e:Expr}{w:WE}{es:List Expr}{p tp:Pos}{kk:Nat}{tab:List (String×Bool)}(hm:X.mg "isinstance" = none)(he:SimE X G e w)(T:HIsT X.K X.mg ys tab)(hE:y4p X ys es)(hl:ys.length<=60:=by decide)(hgi:Gl X "isinstance" :=by rfl)
  (hs:starEach [e,.Tuple es kk tp] X.env=(false,eval e X.env)::starEach [.Tuple es kk tp] X.env:=by rfl) (hpl:(backTo pos (starEach [.Tuple es kk tp] X.env)).any (·.1)=false:=by rfl):SimE X G (.Call (.Name "isinstance" p) [e,.Tuple es kk tp] [] pos) (wIsX w tab):=by
 obtain⟨vs,h1,h2⟩:=T.is
 obtain⟨n,l⟩:=y6w ys es vs h1 hE
 exact y5n hm he n h2 (by rw[l];exact hl) hgi hs hpl
end
section
variable{X:Cx}{G:GX}{pos:Pos}
def y4y(cs:List String)(wb:WSX)(ws:WS):WS:=fun D _ σ S=>wb D (fun v σ' S'=>match v with
 |.exc c=>c∈cs/\ws D NoX σ' S'
 |_=>False) σ S
theorem y5m{y:Str}{yp hpos:Pos}{body suite:List Stmt}{b₀:Stmt}{wb:WSX}{ws:WS}{cs:List String}(C:Cau X.K X.mg y cs)(hB:z1p X G body wb)(hS:∀a,q9c (X.hd a) NoG (b₀::suite) ws)(hst:X.stack=X.env::X.outer:=by rfl)(hf:X.env.frame=some X.env.locals:=by rfl)
  (hg:Gl X y:=by rfl) (hd:(y==("__debug__" : Str))=false:=by decide) :
  SimS X G (.Try body [.ExceptHandler (some (.Name y yp)) none (b₀::suite) hpos] [] [] pos) (y4y cs wb ws):=by
 obtain⟨cv,hm,hc⟩:=C.is
 refine(x1d (ts:=y2j X.K NoG ws) hst hf hB hg hm hS hd).imp fun D σV H ⟨φ,σ,S,D0,L,R,h,k⟩=>⟨φ,σ,S,D0,_,L,R,h,k,fun v σ' S' φ' H' σV' cls q p m R' L' hcl=>?_⟩
 obtain⟨c,C',rfl,rfl,hn⟩:=hcl
 obtain⟨hcs,hw⟩:=q
 obtain⟨C2,hn2,hx⟩:=hc c hcs
 rw[hn]at hn2
 cases hn2
 refine⟨hx,φ',_,S',_,L'.nog,R',hw,?_⟩
 have kk:=k.up p m
 have up:∀{σ1 φ1 H1 σV1},φ' <+: φ1->Mono H' H1->LRel X.K NoG H1 φ1 σ1 σV1->LRel X.K G H1 φ1 σ1 σV1:=fun {σ1 φ1 H1 σV1} p1 m1 L1=>⟨L1.len,L1.at',(L'.mono m1 p1).kx⟩
 exact⟨fun σ1 S1 φ1 H1 σV1 q1 p1 m1 R1 L1=>kk.nx _ S1 φ1 H1 _ q1 p1 m1 R1 (up p1 m1 L1),kk.rt,fun σ1 S1 φ1 H1 σV1 q1 p1 m1 R1 L1=>kk.bk _ S1 φ1 H1 _ q1 p1 m1 R1 (up p1 m1 L1),fun σ1 S1 φ1 H1 σV1 q1 p1 m1 R1 L1=>kk.ct _ S1 φ1 H1 _ q1 p1 m1 R1 (up p1 m1 L1)⟩
end
theorem z4p{K:Frag}{C:Addr}(h:PySem.W.hasDictIn K C=true):(PySem.W.clsIn K C).isSome=true:=by
 obtain⟨cd,h,_⟩:=PySem.W.any_some h
 rw[h];rfl
def repS(s:Str)(n:Nat):Str:=⟨((List.replicate n s.cps.toList).flatten).toArray⟩
theorem z2w{α:Type}(a:Array α):∀(n:Nat)(b:Array α),(List.replicate n a).foldl (·++·) b=b++((List.replicate n a.toList).flatten).toArray
 |0,b=>by simp
 |n+1,b=>by
  rw[List.replicate_succ,List.foldl_cons,z2w a n,List.replicate_succ,List.flatten_cons]
  apply Array.ext'
  simp
theorem y5s(s:Str)(n:Nat):(repS s n).length=s.length*n:=by
 show(((List.replicate n s.cps.toList).flatten).toArray).size=s.cps.size*n
 rw[List.size_toArray,List.length_flatten,List.map_replicate,List.sum_replicate_nat,Array.length_toList,Nat.mul_comm]
def y4k:F2:=fun x y S Q=>match x,y with
 |.str s,.int k=>((-(2 ^ 63)<=k/\k<2 ^ 63)/\s.length*k.toNat<=sizeLine)/\Q (.str (repS s k.toNat)) S
 |x,y=>bMul x y S Q
theorem y6m{X:Cx}:OpR X (binaryOp .Mult) (q5e X.K y4k):=by
 rintro pins s σ H x y v u Q I rx ry ⟨φ,S,px,py,Q0,R,hx,hy,h,k⟩
 unfold y4k at h
 split at h
 ·rename_i z n
  obtain⟨⟨⟨h1,h2⟩,h3⟩,h⟩:=h
  cases hx
  cases hy
  obtain⟨t,rfl⟩:=rx
  obtain⟨t',rfl⟩:=ry
  have fin:∀w tk,w=repS z n.toNat->EP X pins σ Q (.str w tk) {s with toks:=s.toks+1}:=fun w tk e=>by
   subst e
   exact⟨.str _,H,I.tok _,⟨_,rfl⟩,k _ S φ H _ h (List.prefix_refl _) (.refl _) R rfl⟩
  have fin0:∀w tk,w=repS z n.toNat->EP X pins σ Q (.str w tk) s:=fun w tk e=>by
   subst e
   exact⟨.str _,H,I,⟨_,rfl⟩,k _ S φ H _ h (List.prefix_refl _) (.refl _) R rfl⟩
  have sz:∀n',n'=n.toNat->z.length*n'<=sizeLine:=fun n' e=>by rw[e];exact h3
  refine P.mul_str (by simp;omega) (fun a b=>?_) (fun a b=>?_) ?_
  ·have hn:1<=n:=by omega
   have e:(z.length:Int)*n<=2 ^ 63-1:=by
    have:((z.length*n.toNat:Nat):Int)<=(sizeLine:Int):=by exact_mod_cast h3
    rw[Int.natCast_mul,Int.toNat_of_nonneg (by omega)]at this
    exact Int.le_trans this (by unfold sizeLine;decide)
   have:(z.length:Int)<=(2 ^ 63-1) / n:=Int.le_ediv_of_mul_le (by omega) e
   omega
  ·unfold Builtin.Str.tooLong
   simp only[gt_iff_lt,decide_eq_false_iff_not,Nat.not_lt]
   exact h3
  ·split
   ·rename_i hn
    have e0:n.toNat=0:=by omega
    refine⟨by decide,fin _ _ ?_⟩
    rw[e0];rfl
   ·split
    ·rename_i hn h1
     refine fin0 _ _ ?_
     simp only[Bool.or_eq_true,beq_iff_eq]at h1
     rcases h1 with h1|h1
     ·subst h1
      show z=⟨((List.replicate 1 z.cps.toList).flatten).toArray⟩
      simp
     ·have e:z.cps=#[]:=Array.eq_empty_of_size_eq_zero h1
      cases z with
      |mk c=>
       simp only at e
       subst e
       simp[repS]
    ·refine⟨?_,fin _ _ ?_⟩
     ·show((List.replicate n.toNat z.cps).foldl (·++·) #[]).size<=sizeLine
      rw[z2w]
      have:=y5s z n.toNat
      have e:(#[]++((List.replicate n.toNat z.cps.toList).flatten).toArray).size=(repS z n.toNat).length:=by
       rw[Array.empty_append];rfl
      rw[e,this];exact h3
     ·rw[z2w,Array.empty_append];rfl
 ·exact q8f pins s σ H x y v u Q I rx ry ⟨φ,S,px,py,Q0,R,hx,hy,h,k⟩
end Ev
namespace Ev
open PySem PySem.Spec PyProof.Rows L2
open PySem.AutoSeq1 (wpAny_loadPart')
section
variable{X:Cx}
end
section
variable{prog:Program}{w:World}{A:Around}{E:Value->Shared->Prop}{s:Shared}{r:Addr}{n:Int}{t u v:Tok}{Q:Value->Shared->Prop}
end
section
variable{X:Cx}{G:GX}{pos:Pos}
def z0y(wa:WA):WI:=fun σ S E Q=>wa σ S E fun xs S1=>match xs with
 |[.int j]=>(0<=j/\j<2 ^ 62)/\Q ⟨(rngP 0 j.toNat).reverse,fun _=>True⟩ S1
 |_=>False
end
section
variable{X:Cx}{G:GX}{pos:Pos}{a:Expr}{ta:TE}{wa:WE}
def x4g(wa:WE):WE:=fun σ S E Q=>wa σ S E fun x S1=>truK x S1 fun b S2=>Q (.bl (!b)) S2
end
section
variable{X:Cx}
end
section
variable{X:Cx}
end
section
variable{X:Cx}{G:GX}{pos:Pos}
structure EAt(e it a:Addr)(i:Nat)(h:Heap):Prop where
 ge:∃old,IsEnum h e it i old
 gi:h.IsListIter it a i
def enmP(k:Int):List PV->List PV
 |[]=>[]
 |x::xs=>.tup [.int k,x]::enmP (k+1) xs
def y8r(w:WE):WI:=fun σ S E Q=>w σ S E fun x S1=>match x with
 |.ref n=>match q3c S1 n with
  |some xs=>Q ⟨enmP 0 xs,fun S=>q3c S n=some xs⟩ S1
  |none=>False
 |_=>False
end
end Ev
namespace L2
open PySem PySem.Spec PyProof.Rows
section
variable{X:Cx}{tg iter kx vx:Expr}{scope:Scope}{pos:Pos}{N':List Str}{ix:List (Option Nat)}{wi:TI}
end
end L2
namespace Ev
open PySem PySem.Spec PyProof.Rows L2
section
variable{X:Cx}{G:GX}{pos:Pos}
def wDC0(wi:WI):WE:=fun σ S E Q=>wi σ S E fun it S1=>(it.xs=[]/\it.chk S1)/\Q (.ref S1.length) (S1++[.dK []])
end
section
variable{X:Cx}
def x9c:F2:=fun x y S Q=>match x,y with
 |.frl xs,.ref m=>match q5q S m with
  |some ys=>xs.length+ys.length<=sizeLine/\Q (.ref S.length) (S++[.lst (xs++ys)])
  |none=>False
 |_,_=>False
end
section
variable{P:Program}{w:World}{κ:Type} [DecidableEq κ] {knd:HeapKind P w κ} {A:Around} {E:Value->Shared->Prop} {s:Shared}
end
section
variable{X:Cx}{G:GX}{pos:Pos}{pins:List (Addr×Obj)}{σ:L2.St}{H:Hp}{s:Shared}{φ:List Addr}
theorem Paired.app{α β:Type}{F:α->β->Prop}{l:List α}{m:List β}{a:α}{b:β}(h:Paired F l m)(r:F a b):Paired F (l++[a]) (m++[b]):=by
 induction h with
 |nil=>exact .cons r .nil
 |cons r' _ ih=>exact .cons r' ih
end
end Ev
namespace L2
open PySem PySem.Spec PyProof.Rows
section
variable{X:Cx}{tg iter kx vx:Expr}{scope:Scope}{pos:Pos}{N':List Str}{ix:List (Option Nat)}{wi:TI}{g:TG}{tk tv:TE}
end
end L2
namespace Ev
open PySem PySem.Spec PyProof.Rows L2
section
variable{X:Cx}{G:GX}{pos:Pos}
def dcGo(chk:q0i->Prop)(g:WG)(wk wv:WE)(d:Nat)(Q:VC):List PV->Ev.Loc->q0i->Prop
 |[],_,S=>chk S/\Q (.ref d) S
 |x::r,σ,S=>chk S/\∃N:Ev.Loc->q0i->Prop,(∀σ' S',N σ' S'->dcGo chk g wk wv d Q r σ' S')/\g x σ S NoX fun σ2 S2=>wk σ2 S2 NoX fun k S3=>wv σ2 S3 NoX fun v S4=>∃kvs kk,S4[d]?=some (.dK kvs)/\q7v k=some kk/\kvs.length<sizeLine/\N σ2 (S4.set d (.dK (putP kvs kk v)))
def y8w(wi:WI)(ix:List (Option Nat))(g:WG)(wk wv:WE):WE:=fun σ S E Q=>wi σ S E fun it S1=>dcGo it.chk g wk wv S1.length Q it.xs (z0k ix σ) (S1++[.dK []])
end
section
variable{X:Cx}{G:GX}{pos:Pos}
def x4h:WE:=fun _ S _ Q=>Q (.ref S.length) (S++[.dK []])
def wPar(i j:Nat)(wa:WA):WS:=fun D E σ S=>wa σ S E fun xs S1=>∃v w,xs=[v,w]/\D.nx ((σ.set i (some v)).set j (some w)) S1
end
end Ev
namespace L2
open PySem PySem.Spec PyProof.Rows
section
variable{X:Cx}{tg iter kx vx:Expr}{scope:Scope}{pos:Pos}{N':List Str}{ix:List (Option Nat)}{wi:TI}{g:TG}{tk tv:TE}
end
end L2
namespace Ev
open PySem PySem.Spec PyProof.Rows L2
section
variable{X:Cx}{G:GX}{pos:Pos}
end
section
variable{X:Cx}{G:GX}{pos:Pos}
def mGet:FM:=fun x xs S Q=>match x,xs with
 |.ref n,[y]=>match S[n]? with
  |some (.dK kvs)=>match q7v y with
   |some k=>Q ((valP kvs k).getD .non) S
   |none=>False
  |_=>False
 |_,_=>False
def cInD:F2:=fun x y S Q=>match y with
 |.ref n=>match S[n]? with
  |some (.dK kvs)=>match q7v x with
   |some k=>Q (.bl (valP kvs k).isSome) S
   |none=>False
  |_=>False
 |_=>False
def x3j:F2:=fun x y S Q=>match y with
 |.ref n=>match S[n]? with
  |some (.dK kvs)=>match q7v x with
   |some k=>Q (.bl (!(valP kvs k).isSome)) S
   |none=>False
  |_=>False
 |_=>False
end
section
variable{X:Cx}{G:GX}{pos:Pos}
theorem q7q:∀{its:List Value}{ns:List Int},IntsAre its ns->Vals (ns.map V.int) its
 |_,_,.nil=>.nil
 |_,_,.cons n t h=>.cons ⟨t,rfl⟩ (q7q h)
end
section
variable{P:Program}{w:World}{A:Around}{E:Value->Shared->Prop}{s:Shared}{it d:Addr}{i ep:Nat}{od:Obj}{es:Array DictEntry}
end
section
variable{X:Cx}{G:GX}{pos:Pos}
def x4a(w:WE):WI:=fun σ S E Q=>w σ S E fun x S1=>∃n kvs,x=.ref n/\S1[n]?=some (.dN kvs)/\Q ⟨kvs.map fun p=>ktP p.1,fun S=>∃ys,S[n]?=some (.dN ys)/\ys.map (·.1)=kvs.map (·.1)⟩ S1
end
end Ev
namespace L2
open PySem PySem.Spec PyProof.Rows
section
variable{X:Cx}{pins:List (Addr×Obj)}{σ:St}{H:Hp}{s:Shared}
end
end L2
namespace Ev
open PySem PySem.Spec PyProof.Rows L2
section
variable{X:Cx}{pins:List (Addr×Obj)}{σ:L2.St}{H:Hp}{s:Shared}
end
def upP(ps:List (Str×PV)):Prop:=ps.Pairwise fun p q=>¬q.1.cps.toList<p.1.cps.toList
def y8v(sp:Den)(we:WE):WE:=fun σ S E Q=>we σ S E fun x S1=>∃(n:Nat)(xs:List PV)(ks:List Str),x=.ref n/\q3c S1 n=some xs/\xs.length<64/\ks.length=xs.length/\
 (∀(i:Nat)(v:PV)(k:Str),xs[i]?=some v->ks[i]?=some k->sp [v] S1 NoX fun u S2=>u=.str k/\S2=S1)/\∀ps:List (Str×PV),ps.Perm (ks.zip xs)->upP ps->Q (.ref S1.length) (S1++[.lst (ps.map (·.2))])
section
variable{X:Cx}{G:GX}{pos:Pos}
end
section
variable{X:Cx}{G:GX}{pos:Pos}
def bIxD:F2:=fun x y S Q=>∃n kvs k v,x=.ref n/\(S[n]?=some (.dK kvs)\/S[n]?=some (.dF kvs))/\q7v y=some k/\valP kvs k=some v/\Q v S
def x6p:FM:=fun x xs S Q=>∃n y d kvs k,x=.ref n/\xs=[y,d]/\(S[n]?=some (.dK kvs)\/S[n]?=some (.dF kvs))/\q7v y=some k/\Q ((valP kvs k).getD d) S
def y2b:FM:=fun x xs S Q=>∃n y d kvs k,x=.ref n/\xs=[y,d]/\S[n]?=some (.dK kvs)/\q7v y=some k/\kvs.length<sizeLine/\(∀v,valP kvs k=some v->Q v S)/\(valP kvs k=none->Q d (S.set n (.dK (putP kvs k d))))
def x7w:FL:=fun xs S Q=>∃i j,xs=[.int i,.int j]/\Q (.int (if j<i then j else i)) S
end
section
variable{X:Cx}{G:GX}{pos:Pos}
def keyP:Key->PV
 |.inl i=>.int i
 |.inr x=>.str x
def y8s(w:WE):WI:=fun σ S E Q=>w σ S E fun x S1=>∃n kvs,x=.ref n/\(S1[n]?=some (.dK kvs)\/S1[n]?=some (.dF kvs))/\Q ⟨kvs.map fun p=>keyP p.1,fun S=>S[n]?=some (.dF kvs)⟩ (S1.set n (.dF kvs))
end
section
variable{X:Cx}{G:GX}{pos:Pos}
open Classical in
end
section
variable{X:Cx}{G:GX}{pos:Pos}
def z3x:FM:=fun x xs S Q=>match x,xs with
 |.str z,[.str y,.int i]=>Q (.int (Txt.find3 z y i)) S
 |_,_=>False
theorem y1y:MtR X "str.find" (z3y X.K z3x):=by
 rintro pins s σ H x xs v us Q I rx rs ⟨φ,S,px,pxs,Q0,R,hx,hxs,h,k⟩
 unfold z3x at h
 split at h
 ·rename_i z y i
  cases hx
  obtain⟨y',i',rfl,ry,ri⟩:=q7y hxs
  cases ry
  cases ri
  obtain⟨t,rfl⟩:=rx
  obtain⟨u,u',rfl,ru,ru'⟩:=z5l rs
  obtain⟨t',rfl⟩:=ru
  obtain⟨t2,rfl⟩:=ru'
  exact SC.find3 ⟨.int _,H,I.tok _,⟨_,rfl⟩,k _ S φ H _ h (List.prefix_refl _) (.refl _) R rfl⟩
 ·exact h.elim
def y7o:FL:=fun xs S Q=>match xs with
 |[.str z]=>∃n,PySem.intText? z=some n/\z.length<=640/\Q (.int n) S
 |_=>False
theorem z9q:q6g X (.type "int") (z0u X.K y7o):=by
 rintro pins s σ H xs us Q I r ⟨φ,S,pxs,Q0,R,hx,h,k⟩
 unfold y7o at h
 split at h
 ·obtain⟨n,h1,h2,h⟩:=h
  obtain⟨v,rfl,r1⟩:=q3l hx
  cases r1
  obtain⟨u,rfl,ru⟩:=z5m r
  obtain⟨t,rfl⟩:=ru
  exact PySem.W.KIN.call_text h1 h2 ⟨.int _,H,I.tok _,⟨_,rfl⟩,k _ S φ H _ h (List.prefix_refl _) (.refl _) R rfl⟩
 ·exact h.elim
end
abbrev SimF(P:Program)(w:World)(K:Frag)(mg:Str->Option Value)(base:Heap)(k:Nat)(x:Str)(N:List Str)(st:Stmt)(W:WS)(f:Addr):Prop:=∀{cdv:Value}{A:Around}{outer:List Env}{s:Shared}{H:Hp}{E:XK}{G:GX},RoomW k (A.deeper (envOfC x (q1w st) s.heap.objs.size f cdv))->Room k (A.deeper (envOfC x (q1w st) s.heap.objs.size f cdv))->q5y (CXE P w) (cxOf (CXE P w) P w K mg base N x (q1w st) f cdv A outer s H E) (xkOf K G.xh)->(A.deeper (envOfC x (q1w st) s.heap.objs.size f cdv)).units+200<cLine->N.Nodup->q9c (cxOf (CXE P w) P w K mg base N x (q1w st) f cdv A outer s H E) G (q6e st) W
section
variable{P:Program}{w:World}{K:Frag}{mg:Str->Option Value}{base h:Heap}{k:Nat}{x:Str}{N ps:List Str}{st:Stmt}{W:WS}{f:Addr}{fd:FuncData}
theorem sco{sc:Scope}(h1:sc.kind=.function)(h2:sc.isCoroutine=false)(h3:sc.isGenerator=false)(h:N.Nodup/\N.take ps.length=ps/\(∀x∈ps,sc.names.lookup x=some .local\/sc.names.lookup x=some .cell)/\∀y∈sc.names,y.2≠.free):FnScope N ps sc:=⟨h1,h2,h3,h.1,h.2.1,h.2.2.1,h.2.2.2⟩
theorem _root_.L2.Loc2.sim(l:Loc2 K mg x st ps f fd)(h:SimF P w K mg base k x N st W f)(sc:FnScope N ps (q1w st):=by exact sco rfl rfl rfl (by decide +kernel)):Cal P w K mg base (k+1) x ps (q1a K (fnP ps.length N.length W)) f fd:=
 l.cal (x7s l.F sc fun _ _ _ _ _ _ _ hr hx=>h hr hr.toRoom hx (by have:=hr.un;omega) sc.nd)
def FnIn(K:Frag)(x:Str)(st:Stmt)(f:Addr):Prop:=PySem.W.nsIn K mainGlobals x=some (some (.ref f))/\∃fd,Fun K x x st f fd
theorem FnIn.mk{oc:Value}{od an:Option Addr}{osl:Array (Option Value)}{kV doc pm cdv ct:Value}(a:PySem.W.nsIn K mainGlobals x=some (some (.ref f)))(l:K.lookup f=some ⟨oc,od,.func (PySem.W.fnOf x x (q8n st) (q6e st) (q1w st) .none kV doc pm an cdv ct),osl⟩)
  (c:PySem.W.codeIn K cdv x=true) (k:PySem.W.keepIn K (.ref f)=true):FnIn K x st f:=⟨a,_,x7r l c k⟩
theorem FnIn.gl(i:FnIn K x st f)(X:K.In h)(G:h.Ns mainGlobals mg):mg x=some (.ref f):=PySem.W.mg_of X G i.1
theorem FnIn.loc(i:FnIn K x st f)(X:K.In h)(G:h.Ns mainGlobals mg)
  (b:∀(kV doc pm:Value)(an:Option Addr)(cdv ct:Value)(us:List Value),us.length=ps.length->bindArgs (PySem.W.fnOf x x (q8n st) (q6e st) (q1w st) .none kV doc pm an cdv ct) ⟨us,[]⟩=pure (ps.zip us)) :
  ∃fd,Loc2 K mg x st ps f fd/\∀us,us.length=ps.length->bindArgs fd ⟨us,[]⟩=pure (ps.zip us):=by
 obtain⟨a,fd,F⟩:=i
 obtain⟨oc,od,kV,doc,pm,an,cdv,ct,osl,rfl,lk,hcd⟩:=id F.ex
 exact⟨_,⟨F,PySem.W.mg_of X G a,F.binds b⟩,b kV doc pm an cdv ct⟩
end
end Ev
namespace My
open PySem L2 Ev
def q5m:WS:=
 (wSeq (wSet 1 (wBin bAdd (wSl (wVar 0) q5d (q7k (wC (.int 63)))) (wLst (q0e (wC (.int 0)) wNil))))
 (wSeq (wSet 2 (wBin cEq (wBin bMod (wBin bIx (wVar 1) (wC (.int 0))) (wC (.int 2))) (wC (.int 1))))
 (wSeq (wAsg (wBin q5h (wBin bIx (wVar 1) (wC (.int 0))) (wC (.int 2))) (q9o (wVar 1) (wC (.int 0)) sSet))
 (wRet (z9y (q5r (wC (.str "cells")) (wVar 1) (q5r (wC (.str "left")) (wC (.int 12)) (q5r (wC (.str "at")) (wC (.int 0)) (q5r (wC (.str "seed")) (wBin bAdd (wC (.int 1)) (wBin bMod (wCB fSum (q0e (wVar 1) wNil)) (wC (.int 2147483646)))) (q5r (wC (.str "mixed")) (wVar 2) z9u))))))))))
def q5k:WS:=
 (wSeq (wSet 1 (wBin bIx (wVar 0) (wC (.str "cells"))))
 (wSeq (wIfS (wTru (wBin bIx (wVar 0) (wC (.str "mixed"))))
 (wSeq (wAsg (wBin bAdd (wBin bIx (wVar 0) (wC (.str "at"))) (wC (.int 1))) (q9o (wVar 0) (wC (.str "at")) sSet))
 (wSeq (wSet 2 (wBin bIx (wVar 1) (wBin bMod (wBin bIx (wVar 0) (wC (.str "at"))) (wCB fLen (q0e (wVar 1) wNil)))))
 (wSeq (wAsg (wBin bMod (wBin bAdd (wBin bAdd (wBin bMul (wBin bIx (wVar 0) (wC (.str "seed"))) (wC (.int 48271))) (wVar 2)) (wBin bIx (wVar 0) (wC (.str "at")))) (wC (.int 2147483647))) (q9o (wVar 0) (wC (.str "seed")) sSet))
 (wSeq (wSet 3 (wBin bMod (wBin bAdd (wBin bMul (wBin bIx (wVar 0) (wC (.str "seed"))) (wBin bIx (wVar 0) (wC (.str "seed")))) (wBin bMul (wC (.int 7919)) (wBin bIx (wVar 0) (wC (.str "at"))))) (wC (.int 2147483629))))
 (wRet (wBin bMod (wBin bMul (wVar 3) (wBin bAdd (wVar 3) (wC (.int 69621)))) (wC (.int 999999999989))))))))
 q1k)
 (wSeq (wSet 3 (wBin bMod (wBin bIx (wVar 1) (wC (.int 0))) (wBin bPow (wC (.int 10)) (wC (.int 12)))))
 (wSeq (wAsg (wBin q5h (wBin bIx (wVar 1) (wC (.int 0))) (wBin bPow (wC (.int 10)) (wC (.int 12)))) (q9o (wVar 1) (wC (.int 0)) sSet))
 (wSeq (wAsg (wBin bSub (wBin bIx (wVar 0) (wC (.str "left"))) (wC (.int 1))) (q9o (wVar 0) (wC (.str "left")) sSet))
 (wSeq (wIfS (wAnd (q0u (wBin cEq (wBin bIx (wVar 0) (wC (.str "left"))) (wC (.int 0)))) (q0u (wBin cGt (wCB fLen (q0e (wVar 1) wNil)) (wC (.int 1)))))
 (wSeq (q2e (wBM "list" z3w (wVar 1) (q0e (wC (.int 0)) wNil)))
 (wAsg (wC (.int 12)) (q9o (wVar 0) (wC (.str "left")) sSet)))
 q1k)
 (wRet (wVar 3))))))))
def q6j:WS:=
 (wSeq (wSet 2 (wC (.str "")))
 (wSeq (wFor (q5c (q0e (wVar 1) wNil)) (q1o 3) (wSeq (wSet 2 (wBin bAdd (wVar 2) (wBin bIx (wC (.str "abcdefghijklmnopqrstuvwxyz")) (wBin bMod (wVar 0) (wC (.int 26))))))
 (wSet 0 (wBin q5h (wVar 0) (wC (.int 26))))))
 (wRet (wVar 2))))
def q4x(spLword:Den):WS:=
 (wSeq (wSet 2 (wLst wNil))
 (wSeq (wFor (q5c (q0e (wVar 1) wNil)) (q1o 3) (q2e (wBM "list" q1i (wVar 2) (q0e (q0v spLword (q0e (wVar 0) (q0e (wVar 2) wNil))) wNil))))
 (wRet (wVar 2))))
def q3a(spLwords:Den)(spLnext:Den):WS:=
 (wSeq (wSet 2 (q0v spLwords (q0e (wVar 0) (q0e (wBin bAdd (wC (.int 1)) (wBin bMod (q0v spLnext (q0e (wVar 0) wNil)) (wVar 1))) wNil))))
 (wSeq (wSet 3 (q7e (q5c (q0e (wVar 1) wNil)) [none,some 2,some 0] (q1o 0) q6h (wBin bIx (wVar 1) (wBin bMod (q0v spLnext (q0e (wVar 2) wNil)) (wCB fLen (q0e (wVar 1) wNil))))))
 (wSeq (q6k (q0u (wBin cGt (wCB fLen (q0e (wVar 3) wNil)) (wC (.int 1)))) (wSeq (wSet 4 (wBin bMod (q0v spLnext (q0e (wVar 0) wNil)) (wBin bSub (wCB fLen (q0e (wVar 3) wNil)) (wC (.int 1)))))
 (wSet 3 (wBin bAdd (wBin bAdd (wSl (wVar 3) q5d (q7k (wVar 4))) (wLst (q0e (wTup (q0e (wBin bIx (wVar 3) (wVar 4)) (q0e (wBin bIx (wVar 3) (wBin bAdd (wVar 4) (wC (.int 1)))) wNil))) wNil))) (wSl (wVar 3) (q7k (wBin bAdd (wVar 4) (wC (.int 2)))) q5d)))))
 (wRet (wBin bIx (wVar 3) (wC (.int 0)))))))
def q3t:WS:=
 (wSeq (wSet 1 (wLst (q0e (wVar 0) wNil)))
 (wSeq (wSet 2 (wLst wNil))
 (wSeq (q6k (wTru (wVar 1)) (wSeq (wSet 3 (wBM0 "list" mPop (wVar 1)))
 (wIfS (wTru (wCB fIsi (q0e (wVar 3) (q0e (wC (.ty "str")) wNil))))
 (q2e (wBM "list" q1i (wVar 2) (q0e (wVar 3) wNil)))
 (q2e (wBM "list" q6o (wVar 1) (q0e (wLst (q0e (wC (.str ")")) (q0e (wBin bIx (wVar 3) (wC (.int 1))) (q0e (wC (.str ">")) (q0e (wBin bIx (wVar 3) (wC (.int 0))) (q0e (wC (.str "(")) wNil)))))) wNil))))))
 (wRet (wBM "str" z8z (wC (.str "")) (q0e (wVar 2) wNil))))))
def q3w:WS:=
 (wSeq (wSet 1 (wLst wNil))
 (wSeq (wSet 2 (wC (.str "")))
 (wSeq (wFor (q7o (wVar 0)) (q1o 3) (wSeq (wIfS (q0u (wBin cIn (wVar 3) (wC (.str "abcdefghijklmnopqrstuvwxyz"))))
 (wSeq (wAug 2 z6w (wVar 3))
 y4z)
 q1k)
 (wSeq (wIfS (q0u (wBin cNe (wVar 2) (wC (.str ""))))
 (wSeq (q2e (wBM "list" q1i (wVar 1) (q0e (wVar 2) wNil)))
 (wSet 2 (wC (.str ""))))
 q1k)
 (q2e (wBM "list" q1i (wVar 1) (q0e (wVar 3) wNil))))))
 (wSeq (wIfS (q0u (wBin cNe (wVar 2) (wC (.str ""))))
 (q2e (wBM "list" q1i (wVar 1) (q0e (wVar 2) wNil)))
 q1k)
 (wRet (wVar 1))))))
def q4o:WS:=
 (wSeq (wIfS (wOr (wNot (wTru (wCB fIsi (q0e (wVar 0) (q0e (wC (.ty "str")) wNil))))) (wOr (q0u (wBin cEq (wCB fLen (q0e (wVar 0) wNil)) (wC (.int 0)))) (q0u (wBin cGt (wCB fLen (q0e (wVar 0) wNil)) (wC (.int 8))))))
 (wRet (wC (.bl false)))
 q1k)
 (wRet (wCB fAll (q0e (q7e (q7o (wVar 0)) [none] (q1o 0) q6h (wBin cIn (wVar 0) (wC (.str "abcdefghijklmnopqrstuvwxyz")))) wNil))))
def q3f(spis_name:Den):WS:=
 (wRet (wCB fLen (q0e (q7e (q7o (wVar 0)) [none] (q1o 0) (wTru (q0v spis_name (q0e (wVar 0) wNil))) (wVar 0)) wNil)))
def q3g:WS:=
 (wSeq (wSet 1 (wSl (wVar 0) (q7k (wNeg (wC (.int 4)))) q5d))
 (wSeq (wIfS (wOr (q0u (wBin cNe (wCB fLen (q0e (wVar 1) wNil)) (wC (.int 4)))) (wOr (q0u (wBin cNe (wBin bIx (wVar 1) (wC (.int 0))) (wC (.str "(")))) (wOr (q0u (wBin cNe (wBin bIx (wVar 1) (wC (.int 2))) (wC (.str ">")))) (wOr (q0u (wBin cIn (wBin bIx (wVar 1) (wC (.int 1))) (wC (.tup [(.str "("),(.str ">")])))) (q0u (wBin cIn (wBin bIx (wVar 1) (wC (.int 3))) (wC (.tup [(.str "("),(.str ">")]))))))))
 (q3j "NoKind" (q0e (wC (.str "a pair is written (FROM>TO)")) wNil))
 q1k)
 (wSeq (z7d (wVar 0) (q7k (wNeg (wC (.int 4)))) q5d)
 (q2e (wBM "list" q1i (wVar 0) (q0e (wTup (q0e (wBin bIx (wVar 1) (wC (.int 1))) (q0e (wBin bIx (wVar 1) (wC (.int 3))) wNil))) wNil))))))
def q3v(sppieces_of:Den)(spmany_names:Den)(spclose_pair:Den)(spis_name:Den):WS:=
 (wSeq (wIfS (wNot (wTru (wCB fIsi (q0e (wVar 0) (q0e (wC (.ty "str")) wNil)))))
 (q3j "NoKind" (q0e (wC (.str "a kind is read of a text alone")) wNil))
 q1k)
 (wSeq (wSet 1 (q0v sppieces_of (q0e (wVar 0) wNil)))
 (wSeq (wIfS (q0u (wBin cGt (q0v spmany_names (q0e (wVar 1) wNil)) (wC (.int 12))))
 (q3j "NoKind" (q0e (wC (.str "a kind that is read has at most twelve texts")) wNil))
 q1k)
 (wSeq (wSet 2 (wLst wNil))
 (wSeq (wFor (q7o (wVar 1)) (q1o 3) (wIfS (q0u (wBin cEq (wVar 3) (wC (.str ")"))))
 (q2e (q0v spclose_pair (q0e (wVar 2) wNil)))
 (wIfS (wOr (q0u (wBin cIn (wVar 3) (wC (.tup [(.str "("),(.str ">")])))) (wTru (q0v spis_name (q0e (wVar 3) wNil))))
 (q2e (wBM "list" q1i (wVar 2) (q0e (wVar 3) wNil)))
 (q3j "NoKind" (q0e (wC (.str "a kind is written of names, brackets and > alone")) wNil)))))
 (wSeq (wIfS (wOr (q0u (wBin cNe (wCB fLen (q0e (wVar 2) wNil)) (wC (.int 1)))) (q0u (wBin cIn (wBin bIx (wVar 2) (wC (.int 0))) (wC (.tup [(.str "("),(.str ">")])))))
 (q3j "NoKind" (q0e (wC (.str "a kind is written as a name or as (FROM>TO)")) wNil))
 q1k)
 (wRet (wBin bIx (wVar 2) (wC (.int 0))))))))))
def q3e(spLsame:Den):WS:=
 (wSeq (wIfS (wTru (wCB fIsi (q0e (wVar 0) (q0e (wC (.ty "str")) wNil))))
 (wRet (z0r (wCB fIsi (q0e (wVar 1) (q0e (wC (.ty "str")) wNil))) (wBin cEq (wVar 0) (wVar 1))))
 q1k)
 (wSeq (wIfS (wNot (wTru (wCB fIsi (q0e (wVar 0) (q0e (wC (.ty "tuple")) wNil)))))
 (wRet (z0r (wCB fIsi (q0e (wVar 1) (q0e (wC (.ty "int")) wNil))) (z0r (z9w (wCB fIsi (q0e (wVar 1) (q0e (wC (.ty "bool")) wNil)))) (wBin cEq (wVar 0) (wVar 1)))))
 q1k)
 (wSeq (wIfS (wOr (wNot (wTru (wCB fIsi (q0e (wVar 1) (q0e (wC (.ty "tuple")) wNil))))) (q0u (wBin cNe (wCB fLen (q0e (wVar 0) wNil)) (wCB fLen (q0e (wVar 1) wNil)))))
 (wRet (wC (.bl false)))
 q1k)
 (wRet (wCB fAll (q0e (q7e (y4w (q0e (wVar 0) (q0e (wVar 1) wNil))) [none,none] (q7i 2 (q2l (q1o 0) (q2l (q1o 1) q7j))) q6h (q0v spLsame (q0e (wVar 0) (q0e (wVar 1) wNil)))) wNil))))))
local macro_rules | `(tactic| dsimp! [$xs,*]) => do
 let ns := (("wSet wAsg q1o q9o q7i q2l q7j sSet wIfS q0u wTru truK wAnd wOr wNot z0r wOrV z9w wIf wNeg wBin wVar wC wCB q0e wNil wTup wLst wRet x4e q2e q0v wBM wBM0 wSl bSl q7k q5d q1k x4f y4z y8y z7c wFor q7o q5c z0y y4x y8r x4a y8s y8v x6p y2b bIxD x7w wDC0 y8w wPar x4h x4g mGet cInD x3j y4w q7e q6h z0k wAug z6w bAdd bI bSub q5h bMod bPow bMul x9c cLt cLe cGt cGe x8z x8y x8x x8v y9v y9u x9a x8u y9t y9s x8w x8r x8q x8p x8n x8m x8l x8s x8k x8j x8i x8o x8t w1n w1o y4g y8d y8e cIs z0o y7l q3j wTry y4y z3h z7b x3v y4q x0c x0b wxOf wxIf x1o wIsX x4b x4d x9b y4k ix_t ix_s ix_f ix_r q1t q7v fLen fIsi tyP fSum fAll x7x y9n fInt fStr fMax q1i mPop z3w y9f q6o z8z y9e z9x x3z x3y x3x z9y q5r z9u z7d y8x List.getElem?_cons_zero List.getElem?_cons_succ List.set_cons_zero List.set_cons_succ List.map_cons List.map_nil List.replicate List.cons_append List.nil_append List.length_cons List.length_nil q2x q2w x0r x2b true_and if_true Bool.false_eq_true if_false Bool.not_true Bool.not_false x2e y7g x7c x7d x2g x2f q8x q8l z0g z0h q8z q8y z4l z2v z6p z6q z4n z4m z6k z4h z9h z9i z6m z6l z6f z4d z9f z9g z6h z6g z2q z0w z4b z4c z2s z2r z4e z2t z6i z6j z4g z4f z4i z2u z6n z6o z4k z4j x1v x6n x1w z5y z5x y3q y3r q6s y3p z4v x8a x8c x8b y6p y6r z0a decide_eq_true_eq and_self and_true decide_true decide_false not_true_eq_false not_false_eq_true Int.cast_ofNat_Int Int.reduceEq Int.reduceNeg Nat.reduceSub Nat.sub_self Bool.not_eq_true' decide_eq_false_iff_not Nat.reduceAdd".splitOn " ").map fun z => Lean.mkIdent z.toName).toArray
 let ds := (("wSet wAsg q1o q9o q7i q2l q7j sSet wIfS q0u wTru truK wAnd wOr wNot z0r wOrV z9w wIf wNeg wBin wVar wC wCB q0e wNil wTup wLst wRet x4e q2e q0v wBM wBM0 wSl bSl q7k q5d q1k x4f y4z y8y z7c wFor q7o q5c z0y y4x y8r x4a y8s y8v x6p y2b bIxD x7w wDC0 y8w wPar x4h x4g mGet y4w q7e q6h z0k wAug z6w bAdd bI bSub q5h bMod bPow bMul x9c cLt cLe cGt cGe cIs q3j wTry y4y z3h z7b x3v y4q x0c x0b wxOf wxIf x1o wIsX x4b x4d x9b y4k ix_t ix_s ix_f ix_r q7v fLen fIsi tyP fSum fAll x7x y9n fInt fStr fMax q1i mPop z3w y9f q6o z8z y9e z9x x3z x3y x3x z9y q5r z9u z7d y8x true_and List.getElem?_cons_zero List.getElem?_cons_succ List.set_cons_zero List.set_cons_succ List.map_cons List.map_nil List.cons_append List.nil_append".splitOn " ").map fun z => Lean.mkIdent z.toName).toArray
 `(tactic| first|(dsimp only[$[$ds:ident],*];first|simp only[$[$ns:ident],*, $xs,*]|skip)|simp only[$[$ns:ident],*, $xs,*])
def mk(l:List Nat):Str:=⟨l.toArray⟩
theorem q1d(l:List Nat):(mk l).cps.toList=l:=rfl
theorem q0y(l:List Nat):(mk l).length=l.length:=by simp[mk,Str.length]
theorem z8x(z:Str):mk z.cps.toList=z:=rfl
theorem q3z(a b:List Nat):mk a++mk b=mk (a++b):=by
 apply q7l
 rw[z3b,q1d,q1d,q1d]
theorem y9d{a b:List Nat}(h:mk a=mk b):a=b:=by rw[<-q1d a,h,q1d]
theorem q8h{a b:List Nat}:mk a=mk b↔a=b:=⟨y9d,fun h=>by rw[h]⟩
theorem q4z(z:Str):z.cps.toList.length=z.length:=by simp[Str.length]
theorem q7d:Str.ofString "" = mk []:=by decide +kernel
theorem q4j(c:Nat):(⟨#[c]⟩:Str)=mk [c]:=rfl
def y2k:Str:=Str.ofString "abcdefghijklmnopqrstuvwxyz"
def isL(c:Nat):Bool:=inS ⟨#[c]⟩ (Str.ofString "abcdefghijklmnopqrstuvwxyz")
def q1r(z:Str):Bool:=!decide (z.length=0)&&!decide (8<z.length)&&z.cps.toList.all isL
theorem z6r{z:Str}{S:q0i}{E:EK}{Q:VC}(hz:z.length<=1000000)(h:∀S',Ex [] S S'->Q (.bl (q1r z)) S'):fnP 1 1 q4o [.str z] S E Q:=by
 refine⟨rfl,?_⟩
 unfold q4o
 refine seqI fun K hK=>?_
 dsimp![true_and]
 refine⟨big hz,ite2 (fun c=>?_) (fun c=>⟨big hz,ite2 (fun d=>?_) (fun d=>?_)⟩)⟩
 ·have:=h S (Ex.refl _ _)
  rw[show q1r z=false by unfold q1r;rw[decide_eq_true (show z.length=0 by omega)];rfl]at this
  exact this
 ·have:=h S (Ex.refl _ _)
  rw[show q1r z=false by unfold q1r;rw[decide_eq_true (show 8<z.length by omega),Bool.not_true,Bool.and_false,Bool.false_and]]at this
  exact this
 refine hK _ _ ?_
 dsimp![true_and]
 refine⟨by rw[List.length_map,q4z];exact big hz,?_⟩
 refine z4z (fun rest ys σ S1=>S1=S/\(∃v,σ=[v])/\∃done cs,z.cps.toList=done++cs/\rest=cs.map chr1/\ys=(done.map isL).map PV.bl) ?_ ?_ _ _ _ _ ⟨rfl,⟨none,rfl⟩,[],z.cps.toList,rfl,rfl,rfl⟩
 ·rintro ys σ S1 ⟨rfl,-,done,cs,e1,e2,rfl⟩
  have:cs=[]:=by
   cases cs with
   |nil=>rfl
   |cons a b=>simp at e2
  subst this
  rw[List.append_nil]at e1
  refine⟨trivial,?_⟩
  dsimp![Option.bind_some,y4j]
  have:=h _ (Ex.new [] S1 [.lst ((done.map isL).map PV.bl)])
  have e:q1r z=(done.map isL).all id:=by
   unfold q1r
   rw[decide_eq_false (show ¬z.length=0 by omega),decide_eq_false (show ¬8<z.length by omega),e1,List.all_map]
   rfl
  rw[e]at this
  exact this
 ·rintro x r ys σ S1 ⟨rfl,⟨v,rfl⟩,done,cs,e1,e2,rfl⟩ N hN
  cases cs with
  |nil=>simp at e2
  |cons c cs=>
   simp only[List.map_cons,List.cons.injEq]at e2
   obtain⟨rfl,rfl⟩:=e2
   dsimp![chr1]
   exact hN _ _ _ ⟨rfl,⟨_,rfl⟩,done++[c],cs,by simp[e1],rfl,by simp[isL]⟩
def bit(run:List Nat):List Str:=if run=[]then[]else[mk run]
def q2c:List Nat->List Nat->List Str
 |[],run=>bit run
 |c::r,run=>if isL c=true then q2c r (run++[c])else bit run++mk [c]::q2c r []
theorem y1i{z:Str}{S:q0i}{E:EK}{Q:VC}(hz:z.length<=100000)(h:∀n S',Ex [] S S'->S.length<=n->S'[n]?=some (.lst ((q2c z.cps.toList []).map PV.str))->Q (.ref n) S'):fnP 1 4 q3w [.str z] S E Q:=by
 refine⟨rfl,?_⟩
 unfold q3w
 refine seqI fun K hK=>?_
 dsimp![true_and]
 refine⟨big (by decide),hK _ _ ?_⟩
 refine seqI fun K hK=>?_
 dsimp![true_and]
 refine hK _ _ ?_
 refine seqI fun K hK=>?_
 dsimp![true_and]
 have hl:=q4z z
 refine forI (fun rest σ S1=>∃cs acc run j,rest=cs.map chr1/\σ=[some (.str z),some (.ref S.length),some (.str (mk run)),j]/\S1[S.length]?=some (.lst (acc.map PV.str))/\Ex [] S S1/\acc++q2c cs run=q2c z.cps.toList []/\acc.length+2*cs.length+run.length<=300000/\acc.length+2*cs.length<=300000) ?_ ?_ _ _ _ ?_
 ·rintro σ S1 ⟨cs,acc,run,j,e,rfl,hs,hx,hp,hb,hb2⟩
  have:cs=[]:=by
   cases cs with
   |nil=>rfl
   |cons a b=>simp at e
  subst this
  refine⟨trivial,hK _ _ ?_⟩
  refine seqI fun K hK=>?_
  dsimp![q7d,q8h]
  refine ite2 (fun c=>?_) (fun c=>?_)
  ·dsimp![hs,q1l hs]
   refine⟨by rw[List.length_map];exact bigl (by omega),hK _ _ ?_⟩
   dsimp![true_and]
   refine h _ _ (hx.set (.inr (Nat.le_refl _))) (Nat.le_refl _) ?_
   rw[q1j _ hs,<-hp,q2c,bit,if_neg c]
   simp
  ·refine hK _ _ ?_
   dsimp![true_and]
   refine h _ _ hx (Nat.le_refl _) ?_
   have c':run=[]:=Classical.byContradiction c
   rw[hs,<-hp,q2c,bit,if_pos c',List.append_nil]
 ·rintro x r σ S1 ⟨cs,acc,run,j,e,rfl,hs,hx,hp,hb,hb2⟩ N hN
  cases cs with
  |nil=>simp at e
  |cons c cs=>
   simp only[List.map_cons,List.cons.injEq]at e
   obtain⟨rfl,rfl⟩:=e
   simp only[List.length_cons]at hb hb2
   refine⟨trivial,?_⟩
   dsimp![chr1]
   refine seqI fun K hK=>?_
   dsimp![true_and]
   rw[show inS ⟨#[c]⟩ (Str.ofString "abcdefghijklmnopqrstuvwxyz")=isL c from rfl]
   refine ite2 (fun l=>?_) (fun l=>?_)
   ·refine seqI fun K2 hK2=>?_
    dsimp![true_and]
    rw[q4j,q3z,q0y,q0y]
    refine⟨big (by simp;omega),hK2 _ _ ?_⟩
    dsimp![true_and]
    exact hN _ _ ⟨cs,acc,run++[c],_,rfl,rfl,hs,hx,by rw[<-hp,q2c,if_pos l],by simp;omega,by omega⟩
   ·refine hK _ _ ?_
    refine seqI fun K hK=>?_
    dsimp![q7d,q8h]
    refine ite2 (fun d=>?_) (fun d=>?_)
    ·refine seqI fun K2 hK2=>?_
     dsimp![hs,q1l hs]
     refine⟨by rw[List.length_map];exact bigl (by omega),hK2 _ _ ?_⟩
     dsimp![q7d]
     refine hK _ _ ?_
     have hs':=q1j (.lst (acc.map PV.str++[.str (mk run)])) hs
     dsimp![hs',q1l hs']
     refine⟨by simp;exact bigl (by omega),hN _ _ ⟨cs,acc++[mk run]++[mk [c]],[],_,rfl,rfl,?_,(hx.set (.inr (Nat.le_refl _))).set (.inr (Nat.le_refl _)),?_,by simp;omega,by simp;omega⟩⟩
     ·rw[q1j _ hs']
      simp[q4j]
     ·rw[<-hp,q2c,if_neg l,bit,if_neg d]
      simp
    ·refine hK _ _ ?_
     dsimp![hs,q1l hs]
     have d':run=[]:=Classical.byContradiction d
     subst d'
     refine⟨by simp;exact bigl (by omega),hN _ _ ⟨cs,acc++[mk [c]],[],_,rfl,rfl,?_,hx.set (.inr (Nat.le_refl _)),?_,by simp;omega,by simp;omega⟩⟩
     ·rw[q1j _ hs]
      simp[q4j]
     ·rw[<-hp,q2c,if_neg l,bit,if_pos rfl]
      simp
 ·exact⟨z.cps.toList,[],[],none,rfl,by rw[q7d],q1t _ _,Ex.new _ _ _,rfl,by simp only[List.length_nil];omega,by simp only[List.length_nil];omega⟩
def z0q(sp:Den):Prop:=∀(z:Str)(S:q0i)(E:EK)(Q:VC),z.length<=1000000->(∀S',Ex [] S S'->Q (.bl (q1r z)) S')->sp [.str z] S E Q
theorem x2a{sp:Den}(hsp:z0q sp){n:Nat}{zs:List Str}{S:q0i}{E:EK}{Q:VC}(hn:S[n]?=some (.lst (zs.map PV.str)))(hz:∀z∈zs,z.length<=1000000)(hl:zs.length<=1000000)(h:∀S',Ex [] S S'->Q (.int (zs.filter q1r).length) S'):fnP 1 1 (q3f sp) [.ref n] S E Q:=by
 refine⟨rfl,?_⟩
 unfold q3f
 dsimp![q0x hn]
 refine⟨by rw[List.length_map];exact big hl,?_⟩
 refine z4z (fun rest ys σ S1=>Ex [] S S1/\(∃v,σ=[v])/\∃done cs,zs=done++cs/\rest=cs.map PV.str/\ys=(done.filter q1r).map PV.str) ?_ ?_ _ _ _ _ ⟨Ex.refl _ _,⟨none,rfl⟩,[],zs,rfl,rfl,rfl⟩
 ·rintro ys σ S1 ⟨hx,-,done,cs,rfl,e2,rfl⟩
  have:cs=[]:=by
   cases cs with
   |nil=>rfl
   |cons a b=>simp at e2
  subst this
  refine⟨q0x (hx.get hn (by simp)),?_⟩
  dsimp![true_and]
  have:=h _ (hx.app [.lst ((done.filter q1r).map PV.str)])
  rw[List.append_nil]at this
  rw[List.length_map]
  exact this
 ·rintro x r ys σ S1 ⟨hx,⟨v,rfl⟩,done,cs,rfl,e2,rfl⟩ N hN
  cases cs with
  |nil=>simp at e2
  |cons c cs=>
   simp only[List.map_cons,List.cons.injEq]at e2
   obtain⟨rfl,rfl⟩:=e2
   refine⟨q0x (hx.get hn (by simp)),?_⟩
   dsimp![true_and]
   refine hsp c S1 _ _ (hz c (by simp)) fun S2 hx2=>?_
   dsimp![true_and]
   refine ite2 (fun b=>?_) (fun b=>?_)
   ·exact hN _ _ _ ⟨hx.trans hx2,⟨_,rfl⟩,done++[c],cs,by simp,rfl,by simp[b]⟩
   ·exact hN _ _ _ ⟨hx.trans hx2,⟨_,rfl⟩,done++[c],cs,by simp,rfl,by simp[b]⟩
inductive Kd where
 |a (s:Str)|p (f t:Kd)
def Kd.pv:Kd->PV
 |.a s=>.str s
 |.p f t=>.tup [f.pv,t.pv]
def Kd.txt:Kd->List Nat
 |.a s=>s.cps.toList
 |.p f t=>40::f.txt++62::t.txt++[41]
def Kd.lv:Kd->Nat
 |.a _=>1
 |.p f t=>f.lv+t.lv
def Kd.dp:Kd->Nat
 |.a _=>0
 |.p f t=>max f.dp t.dp+1
def Kd.sz:Kd->Nat
 |.a _=>1
 |.p f t=>f.sz+t.sz+4
def Kd.ok:Kd->Prop
 |.a s=>q1r s=true
 |.p f t=>f.ok/\t.ok
def Kd.sh:Kd->Prop
 |.a s=>s.length<=8
 |.p f t=>f.sh/\t.sh
theorem q4h{s:Str}(h:q1r s=true):1<=s.length/\s.length<=8/\s.cps.toList.all isL=true:=by
 unfold q1r at h
 simp only[Bool.and_eq_true,Bool.not_eq_true',decide_eq_false_iff_not]at h
 exact⟨by omega,by omega,h.2⟩
theorem Kd.ok_sh:∀{k:Kd},k.ok->k.sh
 |.a _,h=>(q4h h).2.1
 |.p _ _,h=>⟨Kd.ok_sh h.1,Kd.ok_sh h.2⟩
theorem Kd.lv_pos:∀k:Kd,1<=k.lv
 |.a _=>Nat.le_refl _
 |.p f t=>Nat.le_trans (Kd.lv_pos f) (Nat.le_add_right _ _)
theorem Kd.txt_len:∀{k:Kd},k.sh->k.txt.length+3<=11*k.lv
 |.a s,h=>by have:=q4z s;have h':s.length<=8:=h;simp only[Kd.txt,Kd.lv];omega
 |.p f t,h=>by
  have h1:=Kd.txt_len h.1
  have h2:=Kd.txt_len h.2
  simp only[Kd.txt,Kd.lv,List.length_cons,List.length_append,List.length_nil]
  omega
theorem Kd.dp_lv:∀k:Kd,k.dp+1<=k.lv
 |.a _=>Nat.le_refl _
 |.p f t=>by
  have h1:=Kd.dp_lv f
  have h2:=Kd.dp_lv t
  simp only[Kd.dp,Kd.lv]
  omega
theorem Kd.sz_lv:∀k:Kd,k.sz+4=5*k.lv
 |.a _=>rfl
 |.p f t=>by
  have h1:=Kd.sz_lv f
  have h2:=Kd.sz_lv t
  simp only[Kd.sz,Kd.lv]
  omega
theorem z1g:∀k:Kd,nrf k.pv=true
 |.a _=>rfl
 |.p f t=>by simp only[Kd.pv,nrf,nrfs,z1g f,z1g t,Bool.and_self]
theorem z7z:∀k:Kd,dep k.pv=k.dp
 |.a _=>rfl
 |.p f t=>by simp only[Kd.pv,dep,deps,z7z f,z7z t,Kd.dp];omega
theorem y2u(ss:List Str):Txt.join (Str.ofString "") ss=mk (ss.flatMap (·.cps.toList)):=q7l (by rw[z9e,q1d])
def szs(ks:List Kd):Nat:=(ks.map Kd.sz).sum
theorem q9g(ks:List Kd)(k:Kd):szs (ks++[k])=szs ks+k.sz:=by simp[szs]
theorem x0j (ks : List Kd) : ks.length <= szs ks := by
  induction ks with
  | nil => simp
  | cons a r ih => have : 1 <= a.sz := by cases a <;> simp [Kd.sz] <;> omega
                   simp only [szs, List.map_cons, List.sum_cons, List.length_cons] at ih ⊢; omega
def Shs(ks:List Kd):Prop:=∀k∈ks,k.sh
theorem z3o{k:Kd}{S:q0i}{E:EK}{Q:VC}(hs:k.sh)(hv:k.lv<=1000)(h:∀S',Ex [] S S'->Q (.str (mk k.txt)) S'):fnP 1 4 q3t [k.pv] S E Q:=by
 refine⟨rfl,?_⟩
 unfold q3t
 refine seqI fun K hK=>?_
 dsimp![true_and]
 refine⟨big (by decide),hK _ _ ?_⟩
 refine seqI fun K hK=>?_
 dsimp![true_and]
 refine⟨big (by decide),hK _ _ ?_⟩
 refine seqI fun K hK=>?_
 have hsz:=Kd.sz_lv k
 have hl1:(S++[SO.lst [k.pv]]).length=S.length+1:=by simp
 refine q8q (fun m σ S1=>∃(ks:List Kd)(acc:List Str)(j:Option PV),σ=[some k.pv,some (.ref S.length),some (.ref (S.length+1)),j]/\S1[S.length]?=some (.lst (ks.map Kd.pv))/\S1[S.length+1]?=some (.lst (acc.map PV.str))/\Ex [] S S1/\Shs ks/\(∀s∈acc,s.length<=8)/\
  (acc.flatMap (·.cps.toList))++ks.reverse.flatMap Kd.txt=k.txt/\acc.length+szs ks<=5000/\m=szs ks) (szs [k]) ?_ ?_
 ·exact⟨[k],[],none,by rw[hl1],q1x (q1t _ _) _,by rw[<-hl1];exact q1t _ _,(Ex.new _ _ _).app _,fun x hx=>by simp at hx;subst hx;exact hs,by simp,by simp,by simp[szs];omega,rfl⟩
 ·rintro m σ S1 ⟨ks,acc,j,rfl,h1,h2,hx,hk,ha,ht,hb,rfl⟩ T F hT hF
  have hlen:=x0j ks
  dsimp![h1]
  refine ite2 (fun c=>?_) (fun c=>?_)
  ·obtain⟨ks',x,rfl⟩:∃ks' x,ks=ks'++[x]:=⟨ks.dropLast,ks.getLast (by rintro rfl;simp at c),(List.dropLast_concat_getLast _).symm⟩
   rw[q9g]at hb hlen
   rw[List.length_append,List.length_singleton]at hlen
   have hks':Shs ks':=fun y hy=>hk y (List.mem_append_left _ hy)
   have hx':x.sh:=hk x (by simp)
   refine hT _ fun N hN=>?_
   refine seqI fun K2 hK2=>?_
   dsimp![h1,q1l h1,List.map_append,List.getLast?_append,List.getLast?_singleton,Option.or,Option.some_or,List.dropLast_concat]
   refine hK2 _ _ ?_
   have g1:=q1j (.lst (ks'.map Kd.pv)) h1
   have g2:=q2v (j:=S.length) (.lst (ks'.map Kd.pv)) h2 (by omega)
   have hx1:Ex [] S (S1.set S.length (.lst (ks'.map Kd.pv))):=hx.set (.inr (Nat.le_refl _))
   cases x with
   |a s=>
    dsimp![Kd.pv,g2,q1l g2]
    refine⟨by rw[List.length_map];exact bigl (by omega),hN (szs ks') _ _ ?_ ?_⟩
    ·rw[q9g];simp only[Kd.sz];omega
    refine⟨ks',acc++[s],_,rfl,q2v _ g1 (by omega),?_,hx1.set (.inr (by omega)),hks',?_,?_,?_,rfl⟩
    ·rw[q1j _ g2];simp
    ·intro y hy
     rcases List.mem_append.mp hy with z|z
     ·exact ha y z
     ·simp at z;subst z;exact hx'
    ·rw[<-ht];simp[Kd.txt]
    ·simp only[Kd.sz]at hb;simp only[List.length_append,List.length_singleton];omega
   |p f t=>
    dsimp![Kd.pv,g1,show atI [f.pv,t.pv] 0=some f.pv from rfl,show atI [f.pv,t.pv] 1=some t.pv from rfl]
    have g3:=q1x g1 [SO.lst [PV.str ")",t.pv,PV.str ">",f.pv,PV.str "("]]
    refine⟨big (by decide),?_⟩
    dsimp![q1l g3]
    refine⟨by rw[List.length_map];exact big (by omega),hN (szs (ks'++[.a (Str.ofString ")")]++[t]++[.a (Str.ofString ">")]++[f]++[.a (Str.ofString "(")])) _ _ ?_ ?_⟩
    ·simp only[q9g,Kd.sz];omega
    have sh1:∀c:String,(Str.ofString c).length<=8->(Kd.a (Str.ofString c)).sh:=fun c h=>h
    refine⟨ks'++[.a (Str.ofString ")")]++[t]++[.a (Str.ofString ">")]++[f]++[.a (Str.ofString "(")],acc,_,rfl,?_,q2v _ (q1x g2 _) (by omega),(hx1.app _).set (.inr (Nat.le_refl _)),?_,ha,?_,?_,rfl⟩
    ·rw[q1j _ g3];simp[Kd.pv]
    ·intro y hy
     simp only[List.append_assoc,List.mem_append,List.mem_singleton]at hy
     rcases hy with z|rfl|rfl|rfl|rfl|rfl
     ·exact hks' y z
     ·exact sh1 _ (by decide +kernel)
     ·exact hx'.2
     ·exact sh1 _ (by decide +kernel)
     ·exact hx'.1
     ·exact sh1 _ (by decide +kernel)
    ·rw[<-ht,show Str.ofString "(" = mk [40] by decide +kernel,show Str.ofString ">" = mk [62] by decide +kernel,show Str.ofString ")" = mk [41] by decide +kernel]
     simp[Kd.txt,q1d]
    ·simp only[q9g,Kd.sz]at hb ⊢;omega
  ·refine hF _ (hK _ _ ?_)
   have:ks=[]:=by
    cases ks with
    |nil=>rfl
    |cons a b=>simp at c
   subst this
   dsimp![q0x h2,Option.bind_some,z1a,y2u]
   have e:acc.flatMap (·.cps.toList)=k.txt:=by simpa using ht
   rw[e]
   refine⟨?_,h _ hx⟩
   rw[show(Str.ofString "").length=0 by decide +kernel,Nat.mul_zero,Nat.add_zero]
   have:=Kd.txt_len hs
   have e2:(acc.map (·.length)).sum=k.txt.length:=by rw[<-e,List.length_flatMap];congr 1
   omega
def sO:Str:=Str.ofString "("
def sG:Str:=Str.ofString ">"
def sC:Str:=Str.ofString ")"
def Kd.toks:Kd->List Str
 |.a s=>[s]
 |.p f t=>sO::f.toks++sG::t.toks++[sC]
theorem q6p:isL 40=false/\isL 62=false/\isL 41=false:=by decide +kernel
theorem w0a:sO=mk [40]:=by decide +kernel
theorem w0c:sG=mk [62]:=by decide +kernel
theorem w0d:sC=mk [41]:=by decide +kernel
theorem y1n:∀(ls rest run:List Nat),ls.all isL=true->q2c (ls++rest) run=q2c rest (run++ls)
 |[],rest,run,_=>by simp
 |c::ls,rest,run,h=>by
  simp only[List.all_cons,Bool.and_eq_true]at h
  rw[List.cons_append,q2c,if_pos h.1,y1n ls rest _ h.2]
  simp
def Cut(rest:List Nat):Prop:=∀c r,rest=c::r->isL c=false
theorem y6k{s:Str}(h:q1r s=true){rest:List Nat}(hc:Cut rest):q2c (s.cps.toList++rest) []=s::q2c rest []:=by
 obtain⟨h1,_,h3⟩:=q4h h
 rw[y1n _ _ _ h3,List.nil_append]
 have hne:s.cps.toList≠[]:=fun z=>by have:=q4z s;rw[z]at this;simp at this;omega
 cases rest with
 |nil=>rw[q2c,q2c,bit,bit,if_neg hne,if_pos rfl,z8x]
 |cons c r=>
  have:=hc c r rfl
  rw[q2c,q2c,this]
  simp only[Bool.false_eq_true,if_false,bit,hne,if_true]
  rfl
theorem z2c{c:Nat}(h:isL c=false)(rest:List Nat):q2c (c::rest) []=mk [c]::q2c rest []:=by
 rw[q2c,h]
 simp[bit]
theorem z5v:∀{k:Kd},k.ok->∀rest,Cut rest->q2c (k.txt++rest) []=k.toks++q2c rest []
 |.a s,h,rest,hc=>by rw[Kd.txt,Kd.toks,y6k h hc];rfl
 |.p f t,h,rest,hc=>by
  have e:(Kd.p f t).txt++rest=40::(f.txt++(62::(t.txt++(41::rest)))):=by simp[Kd.txt]
  rw[e,z2c q6p.1,z5v h.1 _ (by intro c r z;cases z;exact q6p.2.1),z2c q6p.2.1,z5v h.2 _ (by intro c r z;cases z;exact q6p.2.2),z2c q6p.2.2,<-w0a,<-w0c,<-w0d]
  simp[Kd.toks]
theorem z2e{k:Kd}(h:k.ok):q2c k.txt []=k.toks:=by
 have:=z5v h [] (by intro c r z;cases z)
 simpa[q2c,bit]using this
theorem q7a:q1r sO=false/\q1r sG=false/\q1r sC=false:=by decide +kernel
theorem q6l:∀{k:Kd},k.ok->(k.toks.filter q1r).length=k.lv
 |.a s,h=>by have h':q1r s=true:=h;simp[Kd.toks,h',Kd.lv]
 |.p f t,h=>by
  simp only[Kd.toks,List.cons_append,List.filter_cons,List.filter_append,List.filter_nil,q7a.1,q7a.2.1,q7a.2.2,Bool.false_eq_true,if_false,List.append_nil,List.length_append,q6l h.1,q6l h.2,Kd.lv]
theorem z1u:∀k:Kd,k.toks.length+3=4*k.lv
 |.a _=>rfl
 |.p f t=>by
  have h1:=z1u f
  have h2:=z1u t
  simp only[Kd.toks,Kd.lv,List.length_cons,List.length_append,List.length_nil]
  omega
theorem z0b{k:Kd}(h:k.dp<=190):okEq k.pv:=⟨z1g k,by rw[z7z];exact h⟩
theorem z3t(a b:Str):q5p [.str a,.str b]:=q8g [a,b]
theorem y4b(xs:List PV)(a b c d:PV):cutP (xs++[a,b,c,d]) (some (-4)) none=[a,b,c,d]:=by
 unfold cutP HT.sIx
 have e:((-4:Int)+((xs++[a,b,c,d]).length:Nat)).toNat=xs.length:=by simp;omega
 simp only[show((-4:Int)<0) by decide,if_true,e]
 rw[List.drop_left]
 simp
theorem Ex.weak'{S0 S:q0i}{n:Nat}(h:Ex [n] S0 S)(hn:S0.length<=n):Ex [] S0 S:=⟨h.1,fun i hi _=>h.2 i hi (by simp;omega)⟩
structure ReadAt(S0:q0i)(z:Str)(np ns:Nat)(pcs:List Str)(st:List Kd)(σ:Ev.Loc)(S:q0i):Prop where
 loc:∃j,σ=[some (.str z),some (.ref np),some (.ref ns),j]
 pcs:S[np]?=some (.lst (pcs.map PV.str))
 stk:S[ns]?=some (.lst (st.map Kd.pv))
 ext:Ex [] S0 S
section
variable{spc spi:Den}{S0:q0i}{z:Str}{np ns:Nat}{pcs:List Str}{D:PEnds}{E:EK}
end
theorem x3k(a:PV):atI [a] 0=some a:=rfl
def q5g(c:Nat)(l a s:Int)(m:Bool):List (Key×PV):=[(.inr (Str.ofString "cells"),.ref c),(.inr (Str.ofString "left"),.int l),(.inr (Str.ofString "at"),.int a),(.inr (Str.ofString "seed"),.int s),(.inr (Str.ofString "mixed"),.bl m)]
theorem y7t(c:Nat)(l a s:Int)(m:Bool):valP (q5g c l a s m) (.inr (Str.ofString "cells"))=some (.ref c):=rfl
theorem y3v(c:Nat)(l a s:Int)(m:Bool):valP (q5g c l a s m) (.inr (Str.ofString "left"))=some (.int l):=rfl
theorem y7u(c:Nat)(l a s:Int)(m:Bool):valP (q5g c l a s m) (.inr (Str.ofString "at"))=some (.int a):=rfl
theorem y3u(c:Nat)(l a s:Int)(m:Bool):valP (q5g c l a s m) (.inr (Str.ofString "seed"))=some (.int s):=rfl
theorem y7r(c:Nat)(l a s:Int)(m:Bool):valP (q5g c l a s m) (.inr (Str.ofString "mixed"))=some (.bl m):=rfl
theorem y3t(c:Nat)(l a s:Int)(m:Bool)(x:Int):putP (q5g c l a s m) (.inr (Str.ofString "left")) (.int x)=q5g c x a s m:=rfl
theorem w1i(c:Nat)(l a s:Int)(m:Bool)(x:Int):putP (q5g c l a s m) (.inr (Str.ofString "at")) (.int x)=q5g c l x s m:=rfl
theorem x3c(c:Nat)(l a s:Int)(m:Bool)(x:Int):putP (q5g c l a s m) (.inr (Str.ofString "seed")) (.int x)=q5g c l a x m:=rfl
theorem z7y(c:Nat)(l a s:Int)(m:Bool):(q5g c l a s m).length<sizeLine:=bigl (by show 5<=1000000;decide)
structure Deck(d c:Nat)(S:q0i):Prop where
 is:∃(l a s:Int)(m:Bool)(x:Int)(xs:List Int),S[d]?=some (.dK (q5g c l a s m))/\S[c]?=some (.lst ((x::xs).map PV.int))/\xs.length<=100/\0<=s/\s<2147483647
 ne:d≠c
theorem Deck.ex{d c:Nat}{S S':q0i}(h:Deck d c S){D:List Nat}(e:Ex D S S')(h1:d∉D)(h2:c∉D):Deck d c S':=by
 obtain⟨⟨l,a,s,m,x,xs,g1,g2,r⟩,ne⟩:=h
 exact⟨⟨l,a,s,m,x,xs,e.get g1 h1,e.get g2 h2,r⟩,ne⟩
def z7a(sp:Den):Prop:=∀(d c:Nat)(S:q0i)(E:EK)(Q:VC),Deck d c S->(∀(n:Int) S',0<=n->n<1000000000000->Deck d c S'->Ex [d,c] S S'->Q (.int n) S')->sp [.ref d] S E Q
theorem q9j(n:Nat):ixN (n+1) 0=some 0:=by
 unfold ixN
 rw[if_pos (by decide),if_pos (by omega)]
 rfl
theorem q0p(x:PV)(xs:List PV):atI (x::xs) 0=some x:=by
 unfold atI ixN
 simp only[List.length_cons]
 rw[if_pos (by decide),if_pos (by omega)]
 rfl
theorem x3m{xs:List Int}{i:Int}(h:xs≠[]):∃y,atI (xs.map PV.int) (i % (xs.length:Int))=some (.int y):=by
 have hp:0<xs.length:=List.length_pos_iff.mpr h
 have h0:0<=i % (xs.length:Int):=Int.emod_nonneg _ (by omega)
 have h1:i % (xs.length:Int)<xs.length:=Int.emod_lt_of_pos _ (by omega)
 unfold atI ixN
 rw[List.length_map,if_pos h0,if_pos h1]
 have:(i % (xs.length:Int)).toNat<xs.length:=by omega
 exact⟨xs[(i % (xs.length:Int)).toNat],by simp[this]⟩
theorem z8b{i j:Int}(h:-(2 ^ 64)<j)(h':j<2 ^ 64):CMul i j:=.inr ⟨h,h'⟩
theorem x8g{i j:Int}(h:-(2 ^ 64)<i)(h':i<2 ^ 64):CMul i j:=.inl ⟨h,h'⟩
theorem x1x:z7a (fnP 1 4 q5k):=by
 rintro d c S E Q ⟨⟨l,a,s,m,x,xs,g1,g2,hl,s0,s1⟩,ne⟩ h
 refine⟨rfl,?_⟩
 unfold q5k
 refine seqI fun K hK=>?_
 dsimp![g1,y7t]
 refine hK _ _ ?_
 refine seqI fun K hK=>?_
 dsimp![g1,y7r]
 refine ite2 (fun hm=>?_) (fun hm=>?_)
 ·refine seqI fun K2 hK2=>?_
  dsimp![g1,y7u,w1i]
  refine⟨z7y _ _ _ _ _,hK2 _ _ ?_⟩
  have a1:=q1j (.dK (q5g c l (a+1) s m)) g1
  have b1:=q2v (j:=d) (.dK (q5g c l (a+1) s m)) g2 ne
  refine seqI fun K2 hK2=>?_
  obtain⟨y,hy⟩:=x3m (xs:=x::xs) (i:=a+1) (by simp)
  dsimp![a1,b1,y7u,q0x b1,List.length_map]
  simp only[List.map_cons,List.length_cons]at hy
  rw[show((xs.length+1:Nat):Int)=((xs.length:Int)+1) by omega]at hy ⊢
  refine⟨by omega,?_⟩
  rw[hy]
  refine hK2 _ _ ?_
  refine seqI fun K2 hK2=>?_
  dsimp![a1,y7u,y3u,x3c]
  refine⟨z8b (by decide) (by decide),by decide,z7y _ _ _ _ _,hK2 _ _ ?_⟩
  have s2:∀z:Int,0<=z % 2147483647/\z % 2147483647<2147483647:=fun z=>⟨Int.emod_nonneg _ (by decide),Int.emod_lt_of_pos _ (by decide)⟩
  obtain⟨t0,t1⟩:=s2 (s*48271+y+(a+1))
  generalize hs':(s*48271+y+(a+1)) % 2147483647=s' at t0 t1 ⊢
  have a2:=q1j (.dK (q5g c l (a+1) s' m)) a1
  have b2:=q2v (j:=d) (.dK (q5g c l (a+1) s' m)) b1 ne
  refine seqI fun K2 hK2=>?_
  dsimp![a2,y7u,y3u]
  refine⟨z8b (by omega) (by omega),x8g (by decide) (by decide),by decide,hK2 _ _ ?_⟩
  have n0:0<=(s'*s'+7919*(a+1)) % 2147483629:=Int.emod_nonneg _ (by decide)
  have n1:(s'*s'+7919*(a+1)) % 2147483629<2147483629:=Int.emod_lt_of_pos _ (by decide)
  generalize (s'*s'+7919*(a+1)) % 2147483629=nn at n0 n1 ⊢
  dsimp![true_and]
  refine⟨z8b (by omega) (by omega),by decide,?_⟩
  refine h _ _ (Int.emod_nonneg _ (by decide)) (Int.lt_trans (Int.emod_lt_of_pos _ (by decide)) (by decide)) ⟨⟨l,a+1,s',m,x,xs,a2,b2,hl,t0,t1⟩,ne⟩ (((Ex.refl _ _).set (.inl (by simp))).set (.inl (by simp)))
 ·refine hK _ _ ?_
  refine seqI fun K hK=>?_
  dsimp![g2,q0p]
  refine⟨⟨by decide,by decide,by decide⟩,by decide,hK _ _ ?_⟩
  rw[show((10:Int) ^ (12:Int).toNat)=1000000000000 by decide]
  refine seqI fun K hK=>?_
  simp only[List.map_cons]at g2
  dsimp![g2,q0p,q9j]
  rw[show((10:Int) ^ (12:Int).toNat)=1000000000000 by decide]
  refine⟨⟨by decide,by decide,by decide⟩,⟨by decide,by decide⟩,hK _ _ ?_⟩
  have b1:=q1j (.lst (PV.int (x / 1000000000000)::xs.map PV.int)) g2
  have a1:=q2v (j:=c) (.lst (PV.int (x / 1000000000000)::xs.map PV.int)) g1 (Ne.symm ne)
  refine seqI fun K hK=>?_
  dsimp![a1,y3v,y3t]
  refine⟨z7y _ _ _ _ _,hK _ _ ?_⟩
  have a2:=q1j (.dK (q5g c (l-1) a s m)) a1
  have b2:=q2v (j:=d) (.dK (q5g c (l-1) a s m)) b1 ne
  have n0:0<=x % 1000000000000:=Int.emod_nonneg _ (by decide)
  have n1:x % 1000000000000<1000000000000:=Int.emod_lt_of_pos _ (by decide)
  have exx:Ex [d,c] S ((S.set c (.lst (PV.int (x / 1000000000000)::xs.map PV.int))).set d (.dK (q5g c (l-1) a s m))):=((Ex.refl _ _).set (.inl (by simp))).set (.inl (by simp))
  refine seqI fun K hK=>?_
  dsimp![a2,y3v,q0x b2,List.length_map]
  have fin0:K [some (.ref d),some (.ref c),none,some (.int (x % 1000000000000))] ((S.set c (.lst (PV.int (x / 1000000000000)::xs.map PV.int))).set d (.dK (q5g c (l-1) a s m))):=by
   refine hK _ _ ?_
   dsimp![true_and]
   exact h _ _ n0 n1 ⟨⟨l-1,a,s,m,x / 1000000000000,xs,a2,b2,hl,s0,s1⟩,ne⟩ exx
  refine ite2 (fun z=>ite2 (fun z2=>?_) (fun z2=>fin0)) (fun z=>fin0)
  refine seqI fun K2 hK2=>?_
  dsimp![b2,q1l b2,q9j,List.eraseIdx_zero,List.tail_cons]
  refine⟨⟨by decide,by decide⟩,hK2 _ _ ?_⟩
  have b3:=q1j (.lst (xs.map PV.int)) b2
  have a3:=q2v (j:=c) (.lst (xs.map PV.int)) a2 (Ne.symm ne)
  dsimp![a3,y3t]
  refine⟨z7y _ _ _ _ _,hK _ _ ?_⟩
  dsimp![true_and]
  obtain⟨x',xs',rfl⟩:∃x' xs',xs=x'::xs':=by
   cases xs with
   |nil=>simp at z2
   |cons a b=>exact⟨a,b,rfl⟩
  refine h _ _ n0 n1 ⟨⟨12,a,s,m,x',xs',q1j _ a3,q2v _ b3 ne,by simp at hl;omega,s0,s1⟩,ne⟩ ((exx.set (.inl (by simp))).set (.inl (by simp)))
def x9h(sp:Den):Prop:=∀(ns:List Int)(S:q0i)(E:EK)(Q:VC),ns.length<=63->(∀d c S',Deck d c S'->Ex [] S S'->S.length<=c->S.length<=d->Q (.ref d) S')->sp [.frl (ns.map .int)] S E Q
theorem w1j(ns:List Int)(h:ns.length<=63):cutP (ns.map PV.int) none (some 63)=ns.map PV.int:=by
 unfold cutP
 have:HT.sIx (ns.map PV.int).length (ns.map PV.int).length (some 63)=(ns.map PV.int).length:=by
  rw[show(63:Int)=((63:Nat):Int)from rfl,HT.sIx_nat,List.length_map]
  omega
 rw[this,HT.sIx_none,List.drop_zero,Nat.sub_zero,List.take_length]
theorem x3f:x9h (fnP 1 3 q5m):=by
 intro ns S E Q hl h
 refine⟨rfl,?_⟩
 unfold q5m
 refine seqI fun K hK=>?_
 obtain⟨x,xs,hxs,hxl⟩:∃x xs,ns++[0]=x::xs/\xs.length<=100:=by
  cases ns with
  |nil=>exact⟨0,[],rfl,by simp⟩
  |cons a r=>exact⟨a,r++[0],rfl,by simp at hl ⊢;omega⟩
 have e0:(S++[SO.lst (ns.map PV.int)])[S.length]?=some (.lst (ns.map PV.int)):=q1t _ _
 have e1:=q1x e0 [SO.lst [PV.int 0]]
 have e2:=q1t (S++[SO.lst (ns.map PV.int)]) (.lst [PV.int 0])
 dsimp![w1j ns hl,q1l e1]
 refine⟨big (by decide),⟨by rw[List.length_map];exact big (by omega),hK _ _ ?_⟩⟩
 have ecat:ns.map PV.int++[PV.int 0]=(x::xs).map PV.int:=by rw[<-hxs];simp
 rw[ecat]
 generalize hS3:S++[SO.lst (ns.map PV.int)]++[SO.lst [PV.int 0]]=S3
 have hx3:Ex [] S S3:=by rw[<-hS3];exact(Ex.new _ _ _).app _
 have g:=q1t S3 (.lst ((x::xs).map PV.int))
 refine seqI fun K hK=>?_
 simp only[List.map_cons]at g
 dsimp![g,q0p]
 refine⟨by decide,hK _ _ ?_⟩
 refine seqI fun K hK=>?_
 dsimp![g,q0p,q9j]
 refine⟨⟨by decide,by decide⟩,hK _ _ ?_⟩
 have g2:=q1j (.lst (PV.int (x / 2)::xs.map PV.int)) g
 have hx4:Ex [] S ((S3++[SO.lst (PV.int x::xs.map PV.int)]).set S3.length (.lst (PV.int (x / 2)::xs.map PV.int))):=(hx3.app _).set (.inr hx3.1)
 generalize hS4:(S3++[SO.lst (PV.int x::xs.map PV.int)]).set S3.length (.lst (PV.int (x / 2)::xs.map PV.int))=S4 at g2 hx4 ⊢
 have g3:=q1x g2 [SO.dK []]
 have eI:q7g (PV.int (x / 2)::xs.map PV.int)=some ((x / 2)::xs):=z9l ((x / 2)::xs)
 dsimp![q0x g3,Option.bind_some,eI]
 refine⟨by decide,by first|exact⟨q1t _ _,by decide⟩|decide,?_⟩
 have em:∀(b:Bool)(s:Int),z3v [] [(Sum.inr (Str.ofString "cells"),PV.ref S3.length),(Sum.inr (Str.ofString "left"),PV.int 12),(Sum.inr (Str.ofString "at"),PV.int 0),(Sum.inr (Str.ofString "seed"),PV.int s),(Sum.inr (Str.ofString "mixed"),PV.bl b)]=q5g S3.length 12 0 s b:=fun b s=>rfl
 rw[em]
 have hlt:S3.length<S4.length:=q1e g2
 have n0:0<=((x / 2)::xs).sum % 2147483646:=Int.emod_nonneg _ (by decide)
 have n1:((x / 2)::xs).sum % 2147483646<2147483646:=Int.emod_lt_of_pos _ (by decide)
 refine h S4.length S3.length _ ⟨⟨12,0,_,_,x / 2,xs,q1j _ (q1t S4 (SO.dK [])),q2v _ g3 (by omega),hxl,?_,?_⟩,by omega⟩ ((hx4.app _).set (.inr hx4.1)) hx3.1 hx4.1
 ·generalize ((x / 2)::xs).sum % 2147483646=y at n0 n1 ⊢;omega
 ·generalize ((x / 2)::xs).sum % 2147483646=y at n0 n1 ⊢;omega
def spl:Int->Nat->List Nat
 |_,0=>[]
 |n,k+1=>(97+(n % 26).toNat)::spl (n / 26) k
theorem q7m:∀(k:Nat)(n:Int),(spl n k).length=k
 |0,_=>rfl
 |k+1,n=>by rw[spl,List.length_cons,q7m k]
def z3c(sp:Den):Prop:=∀(n:Int)(k:Nat)(S:q0i)(E:EK)(Q:VC),k<=8->Q (.str (mk (spl n k))) S->sp [.int n,.int k] S E Q
theorem q6b(lo:Int)(n:Nat):(rngP lo n).length=n:=by simp[rngP]
theorem z8t:z3c (fnP 2 4 q6j):=by
 intro n k S E Q hk h
 refine⟨rfl,?_⟩
 unfold q6j
 refine seqI fun K hK=>?_
 dsimp![true_and]
 refine hK _ _ ?_
 refine seqI fun K hK=>?_
 dsimp![true_and]
 refine⟨⟨by omega,by omega⟩,?_⟩
 rw[Int.toNat_natCast]
 refine forI (fun rest σ S1=>∃(num:Int)(w:List Nat)(j:Option PV),σ=[some (.int num),some (.int k),some (.str (mk w)),j]/\S1=S/\w++spl num rest.length=spl n k) ?_ ?_ _ _ _ ⟨n,[],none,by rw[q7d],rfl,by rw[q6b];rfl⟩
 ·rintro σ S1 ⟨num,w,j,rfl,rfl,hw⟩
  refine⟨trivial,hK _ _ ?_⟩
  dsimp![true_and]
  rw[List.length_nil,spl,List.append_nil]at hw
  rw[hw]
  exact h
 ·rintro x r σ S1 ⟨num,w,j,rfl,rfl,hw⟩ N hN
  rw[List.length_cons,spl]at hw
  refine⟨trivial,?_⟩
  have hwl:w.length<=8:=by
   have:=congrArg List.length hw
   rw[List.length_append,q7m]at this
   omega
  have m0:0<=num % 26:=Int.emod_nonneg _ (by decide)
  have m1:num % 26<26:=Int.emod_lt_of_pos _ (by decide)
  dsimp![true_and]
  refine seqI fun K2 hK2=>?_
  dsimp![z9b m0 m1]
  refine⟨by decide,z6a,?_⟩
  rw[q4j,q3z,q0y,q0y]
  refine⟨big (by simp;omega),hK2 _ _ ?_⟩
  dsimp![true_and]
  refine⟨⟨by decide,by decide⟩,hN _ _ ⟨num / 26,w++[97+(num % 26).toNat],_,rfl,rfl,by rw[<-hw];simp⟩⟩
theorem x2t:∀m:Nat,m<26->isL (97+m)=true:=by decide +kernel
theorem z1w:∀(k:Nat)(n:Int),(spl n k).all isL=true
 |0,_=>rfl
 |k+1,n=>by
  have m0:0<=n % 26:=Int.emod_nonneg _ (by decide)
  have m1:n % 26<26:=Int.emod_lt_of_pos _ (by decide)
  rw[spl,List.all_cons,z1w k,Bool.and_true]
  exact x2t _ (by omega)
theorem z2m{l:List Nat}(h1:1<=l.length)(h8:l.length<=8)(h:l.all isL=true):q1r (mk l)=true:=by
 unfold q1r
 rw[q0y,q1d,h,decide_eq_false (by omega),decide_eq_false (by omega)]
 rfl
theorem z7s{α:Type} [DecidableEq α]:∀{l F:List α},l.Nodup->(∀x∈l,x∈F)->l.length<=F.length
 |[],_,_,_=>Nat.zero_le _
 |a::l,F,nd,h=>by
  obtain⟨h1,h2⟩:=List.nodup_cons.mp nd
  have ha:a∈F:=h a (by simp)
  have:=z7s (l:=l) (F:=F.erase a) h2 fun x hx=>(List.mem_erase_of_ne (by rintro rfl;exact h1 hx)).mpr (h x (List.mem_cons_of_mem _ hx))
  rw[List.length_erase_of_mem ha]at this
  have:0<F.length:=List.length_pos_of_mem ha
  simp only[List.length_cons]
  omega
def sAny:Str:=Str.ofString "any"
def szn(k i:Nat):Nat:=(k-1+i) % 8+1
theorem y5h(k i:Nat):szn (szn k 1) i=szn k (i+1):=by unfold szn;omega
def Bad(ws:List Str)(w:Str):Prop:=w∈ws\/w=sAny
def z5j(ws:List Str)(num:Int)(k i:Nat):Prop:=¬Bad ws (mk (spl (num+(i:Nat)) (szn k i)))
def x9e(sp:Den):Prop:=∀(d c n:Nat)(ws:List Str)(S:q0i)(E:EK)(Q:VC),Deck d c S->S[n]?=some (.lst (ws.map PV.str))->ws.length<=12->(∀w∈ws,q1r w=true)->n≠d->n≠c->
 (∀w S',q1r w=true->w∉ws->w≠sAny->Deck d c S'->Ex [d,c] S S'->Q (.str w) S')->sp [.ref d,.ref n] S E Q
theorem x0l(z:Str)(k:Nat)(h:k<=z.length):Txt.slice z none (some (k:Int))=mk (z.cps.toList.take k):=by
 apply q7l
 rw[q5s,q1d,HT.sIx_none,HT.sIx_nat,List.drop_zero,Nat.sub_zero,Nat.min_eq_left h]
theorem x0n(z:Str)(k:Nat)(h:k<=z.length):Txt.slice z (some (k:Int)) none=mk (z.cps.toList.drop k):=by
 apply q7l
 rw[q5s,q1d,HT.sIx_none,HT.sIx_nat,Nat.min_eq_left h,List.take_of_length_le]
 rw[List.length_drop,q4z]
 exact Nat.le_refl _
theorem y7q(ws:List Str):eqBs (ws.map PV.str) []=ws.isEmpty:=by cases ws<;>simp[eqBs]
theorem x9d(ws:List Str)(w:Str):((ws.map PV.str).any fun y=>eqB y (.str w))=decide (w∈ws):=by
 rw[List.any_map,Bool.eq_iff_iff,List.any_eq_true,decide_eq_true_eq]
 constructor
 ·rintro⟨x,hx,e⟩
  have e':eqB (.str x) (.str w)=true:=e
  rw[q6s,decide_eq_true_eq]at e'
  rw[<-e'];exact hx
 ·intro h
  exact⟨w,h,by show eqB (.str w) (.str w)=true;rw[q6s];simp⟩
theorem y8m{p:Nat->Bool}{l:List Nat}(k:Nat)(h:l.all p=true):(l.take k).all p=true:=List.all_eq_true.mpr fun x hx=>List.all_eq_true.mp h x (List.mem_of_mem_take hx)
theorem y8n{p:Nat->Bool}{l:List Nat}(k:Nat)(h:l.all p=true):(l.drop k).all p=true:=List.all_eq_true.mpr fun x hx=>List.all_eq_true.mp h x (List.mem_of_mem_drop hx)
def z8k(sp:Den):Prop:=∀(d c m:Nat)(S:q0i)(E:EK)(Q:VC),Deck d c S->m<=12->
 (∀(n:Nat)(ws:List Str) S',S'[n]?=some (.lst (ws.map PV.str))->ws.length=m->(∀w∈ws,q1r w=true)->S.length<=n->Deck d c S'->Ex [d,c] S S'->Q (.ref n) S')->sp [.ref d,.int m] S E Q
theorem y4r{spw:Den}(hw:x9e spw):z8k (fnP 2 4 (q4x spw)):=by
 intro d c m S E Q hd hm h
 refine⟨rfl,?_⟩
 unfold q4x
 refine seqI fun K hK=>?_
 dsimp![true_and]
 refine⟨big (by decide),hK _ _ ?_⟩
 refine seqI fun K hK=>?_
 dsimp![true_and]
 refine⟨⟨by omega,by omega⟩,?_⟩
 rw[Int.toNat_natCast]
 have hdl:d<S.length:=by obtain⟨⟨_,_,_,_,_,_,g,_⟩,_⟩:=hd;exact q1e g
 have hcl:c<S.length:=by obtain⟨⟨_,_,_,_,_,_,_,g,_⟩,_⟩:=hd;exact q1e g
 refine forI (fun rest σ S1=>∃(ws:List Str)(j:Option PV),σ=[some (.ref d),some (.int m),some (.ref S.length),j]/\S1[S.length]?=some (.lst (ws.map PV.str))/\ws.length+rest.length=m/\(∀w∈ws,q1r w=true)/\Deck d c S1/\Ex [d,c] S S1) ?_ ?_ _ _ _ ⟨[],none,rfl,q1t _ _,by rw[q6b];simp,by simp,hd.ex (Ex.new [] _ _) (by simp) (by simp),Ex.new _ _ _⟩
 ·rintro σ S1 ⟨ws,j,rfl,hs,hl,hn,hd1,hx⟩
  refine⟨trivial,hK _ _ ?_⟩
  dsimp![true_and]
  exact h _ ws _ hs (by simpa using hl) hn (Nat.le_refl _) hd1 hx
 ·rintro x r σ S1 ⟨ws,j,rfl,hs,hl,hn,hd1,hx⟩ N hN
  rw[List.length_cons]at hl
  refine⟨trivial,?_⟩
  dsimp![hs]
  refine hw d c S.length ws _ _ _ hd1 hs (by omega) hn (by omega) (by omega) fun w S2 nw _ _ hd2 hx2=>?_
  have hs2:S2[S.length]?=some (.lst (ws.map PV.str)):=hx2.get hs (by simp;omega)
  dsimp![q1l hs2]
  refine⟨by rw[List.length_map];exact bigl (by omega),hN _ _ ⟨ws++[w],_,rfl,?_,?_,?_,hd2.ex (D:=[S.length]) ((Ex.refl _ _).set (.inl (by simp))) (by simp;omega) (by simp;omega),(hx.trans hx2).set (.inr (Nat.le_refl _))⟩⟩
  ·rw[q1j _ hs2];simp
  ·simp;omega
  ·intro y hy
   rcases List.mem_append.mp hy with z|z
   ·exact hn y z
   ·simp at z;subst z;exact nw
def lvs(ks:List Kd):Nat:=(ks.map Kd.lv).sum
theorem y2c(vs:List Str):lvs (vs.map Kd.a)=vs.length:=by
 induction vs with
 |nil=>rfl
 |cons a r ih=>unfold lvs at ih ⊢;simp only[List.map_cons,List.sum_cons,Kd.lv,List.length_cons,ih];omega
def x0a(sp:Den):Prop:=∀(d c m:Nat)(S:q0i)(E:EK)(Q:VC),Deck d c S->1<=m->m<=12->(∀(k:Kd) S',k.ok->k.lv=m->Deck d c S'->Ex [d,c] S S'->Q k.pv S')->sp [.ref d,.int m] S E Q
theorem q6f{α:Type}(xs:List α)(j:Nat)(h:j<xs.length):atI xs (j:Int)=some xs[j]:=by
 unfold atI ixN
 rw[if_pos (by omega),if_pos (by omega)]
 simp[h]
theorem x3h(xs:List PV)(k:Nat)(h:k<=xs.length):cutP xs none (some (k:Int))=xs.take k:=by
 unfold cutP
 rw[HT.sIx_none,HT.sIx_nat,List.drop_zero,Nat.sub_zero,Nat.min_eq_left h]
theorem x3g(xs:List PV)(k:Nat)(h:k<=xs.length):cutP xs (some (k:Int)) none=xs.drop k:=by
 unfold cutP
 rw[HT.sIx_none,HT.sIx_nat,Nat.min_eq_left h,List.take_of_length_le]
 rw[List.length_drop]
 exact Nat.le_refl _
theorem z9z(ks:List Kd)(i:Nat)(h:i+1<ks.length):ks=ks.take i++[ks[i],ks[i+1]]++ks.drop (i+2):=by
 conv=>lhs;rw[<-List.take_append_drop i ks]
 rw[List.append_assoc]
 congr 1
 rw[List.drop_eq_getElem_cons (by omega),List.drop_eq_getElem_cons (show i+1<ks.length by omega)]
 rfl
theorem y7n{spw spn:Den}(hw:z8k spw)(hn:z7a spn):x0a (fnP 2 5 (q3a spw spn)):=by
 intro d c m S E Q hd hm1 hm12 h
 refine⟨rfl,?_⟩
 unfold q3a
 refine seqI fun K hK=>?_
 dsimp![true_and]
 refine hn d c _ _ _ hd fun n1 S1 n10 n11 hd1 hx1=>?_
 dsimp![true_and]
 obtain⟨q,hq,hq1,hq2⟩:∃q:Nat,1+n1 % (m:Int)=(q:Int)/\1<=q/\q<=12:=by
  have:=Int.emod_nonneg n1 (show(m:Int)≠0 by omega)
  have:=Int.emod_lt_of_pos n1 (show(0:Int)<m by omega)
  exact⟨(1+n1 % (m:Int)).toNat,by omega,by omega,by omega⟩
 refine⟨by omega,?_⟩
 rw[hq]
 refine hw d c q _ _ _ hd1 hq2 fun nw ws S2 hs2 hl2 hna hlt hd2 hx2=>hK _ _ ?_
 have hx12:=hx1.trans hx2
 have ndw:nw≠d/\nw≠c:=by
  obtain⟨⟨_,_,_,_,_,_,g,g',_⟩,_⟩:=hd1
  have:=q1e g
  have:=q1e g'
  omega
 refine seqI fun K hK=>?_
 dsimp![true_and]
 refine⟨⟨by omega,by omega⟩,by rw[q6b,Int.toNat_natCast];exact big (by omega),?_⟩
 rw[Int.toNat_natCast]
 refine z4z (fun rest ys σ S3=>∃(vs:List Str)(j:Option PV),σ=[j,some (.ref nw),some (.ref d)]/\ys=vs.map PV.str/\vs.length+rest.length=m/\(∀v∈vs,q1r v=true)/\Deck d c S3/\Ex [d,c] S2 S3) ?_ ?_ _ _ _ _ ⟨[],none,rfl,rfl,by rw[q6b];simp,by simp,hd2,Ex.refl _ _⟩
 ·rintro ys σ S3 ⟨vs,j,rfl,rfl,hl3,hnv,hd3,hx3⟩
  refine⟨trivial,hK _ _ ?_⟩
  rw[List.length_nil,Nat.add_zero]at hl3
  have hx13:=(hx12.trans hx3).app [SO.lst (vs.map PV.str)]
  have hd4:Deck d c (S3++[SO.lst (vs.map PV.str)]):=hd3.ex (Ex.new [] _ _) (by simp) (by simp)
  refine seqI fun K hK=>?_
  refine q8q (fun mm σ S4=>∃(ks:List Kd)(r:Nat)(j:Option PV),σ=[some (.ref d),some (.int m),some (.ref nw),some (.ref r),j]/\S4[r]?=some (.lst (ks.map Kd.pv))/\r≠d/\r≠c/\(∀k∈ks,k.ok)/\lvs ks=m/\1<=ks.length/\ks.length<=12/\Deck d c S4/\Ex [d,c] S S4/\mm=ks.length) vs.length ?_ ?_
  ·have hlt3:d<S3.length/\c<S3.length:=by
    obtain⟨⟨_,_,_,_,_,_,g,g',_⟩,_⟩:=hd3
    exact⟨q1e g,q1e g'⟩
   refine⟨vs.map Kd.a,S3.length,none,rfl,?_,by omega,by omega,?_,?_,by simp;omega,by simp;omega,hd4,hx13,by simp⟩
   ·rw[q1t,List.map_map];rfl
   ·intro k hk
    obtain⟨v,hv,rfl⟩:=List.mem_map.mp hk
    exact hnv v hv
   ·rw[y2c,hl3]
  ·rintro mm σ S4 ⟨ks,r,j,rfl,hr,rd,rc,hok,hlv,hk1,hk12,hd5,hx5,rfl⟩ T F hT hF
   dsimp![q0x hr,List.length_map]
   refine ite2 (fun z=>?_) (fun z=>?_)
   ·refine hT _ fun N hN=>?_
    refine seqI fun K2 hK2=>?_
    dsimp![true_and]
    refine hn d c _ _ _ hd5 fun n2 S5 n20 n21 hd6 hx6=>?_
    have hr5:S5[r]?=some (.lst (ks.map Kd.pv)):=hx6.get hr (by simp;exact⟨rd,rc⟩)
    dsimp![q0x hr5,List.length_map]
    obtain⟨i,hi,hi2⟩:∃i:Nat,n2 % ((ks.length:Int)-1)=(i:Int)/\i+1<ks.length:=by
     have:=Int.emod_nonneg n2 (show(ks.length:Int)-1≠0 by omega)
     have:=Int.emod_lt_of_pos n2 (show(0:Int)<(ks.length:Int)-1 by omega)
     exact⟨(n2 % ((ks.length:Int)-1)).toNat,by omega,by omega⟩
    refine⟨by omega,hK2 _ _ ?_⟩
    rw[hi]
    have hml:(ks.map Kd.pv).length=ks.length:=List.length_map _
    have q1:=q1x hr5 [SO.lst ((ks.map Kd.pv).take i)]
    have e1:atI (ks.map Kd.pv) ((i:Nat):Int)=some ks[i].pv:=by rw[q6f _ i (by omega)];simp
    have e2:atI (ks.map Kd.pv) (((i:Nat):Int)+1)=some ks[i+1].pv:=by rw[show((i:Nat):Int)+1=((i+1:Nat):Int) by omega,q6f _ (i+1) (by omega)];simp
    dsimp![q0x hr5,x3h (ks.map Kd.pv) i (by omega),q1,e1,e2]
    generalize hS6:S5++[SO.lst ((ks.map Kd.pv).take i)]=S6
    have u1:S6[S5.length]?=some (.lst ((ks.map Kd.pv).take i)):=by rw[<-hS6];exact q1t _ _
    have hx7:Ex [d,c] S S6:=by rw[<-hS6];exact(hx5.trans hx6).app _
    have hr6:S6[r]?=some (.lst (ks.map Kd.pv)):=by rw[<-hS6];exact q1x hr5 _
    have hd7:Deck d c S6:=by rw[<-hS6];exact hd6.ex (Ex.new [] _ _) (by simp) (by simp)
    have u2:=q1x u1 [SO.lst [PV.tup [ks[i].pv,ks[i+1].pv]]]
    have u3:=q1t S6 (.lst [PV.tup [ks[i].pv,ks[i+1].pv]])
    have ek:((i:Nat):Int)+2=((i+2:Nat):Int):=by omega
    dsimp![q1l u2]
    refine⟨big (by decide),big (by decide),big (by rw[List.length_take];omega),?_⟩
    generalize hS7:S6++[SO.lst [PV.tup [ks[i].pv,ks[i+1].pv]]]=S7
    have hr7:S7[r]?=some (.lst (ks.map Kd.pv)):=by rw[<-hS7];exact q1x hr6 _
    have v1:=q1t S7 (.lst ((ks.map Kd.pv).take i++[PV.tup [ks[i].pv,ks[i+1].pv]]))
    have v2:=q1x hr7 [SO.lst ((ks.map Kd.pv).take i++[PV.tup [ks[i].pv,ks[i+1].pv]])]
    have v3:=q1x v1 [SO.lst ((ks.map Kd.pv).drop (i+2))]
    rw[ek]
    dsimp![q0x v2,x3g (ks.map Kd.pv) (i+2) (by omega),q1l v3]
    refine⟨big (by simp only[List.length_append,List.length_take,List.length_drop,List.length_singleton];omega),?_⟩
    generalize hS8:S7++[SO.lst ((ks.map Kd.pv).take i++[PV.tup [ks[i].pv,ks[i+1].pv]])]++[SO.lst ((ks.map Kd.pv).drop (i+2))]=S8
    have hx8:Ex [d,c] S S8:=by rw[<-hS8,<-hS7];exact((hx7.app _).app _).app _
    have hd8:Deck d c S8:=by rw[<-hS8,<-hS7];exact hd7.ex ((((Ex.refl [] S6).app _).app _).app _) (by simp) (by simp)
    have hlt8:d<S8.length/\c<S8.length:=by
     obtain⟨⟨_,_,_,_,_,_,g,g',_⟩,_⟩:=hd8
     exact⟨q1e g,q1e g'⟩
    have hap:=z9z ks i hi2
    refine hN (ks.length-1) _ _ (by omega) ⟨ks.take i++[.p ks[i] ks[i+1]]++ks.drop (i+2),S8.length,_,rfl,?_,by omega,by omega,?_,?_,?_,?_,hd8.ex (Ex.new [] _ _) (by simp) (by simp),hx8.app _,?_⟩
    ·rw[q1t];simp[Kd.pv,List.map_take,List.map_drop]
    ·intro k hk
     simp only[List.mem_append,List.mem_singleton]at hk
     rcases hk with(z|rfl)|z
     ·exact hok k (List.mem_of_mem_take z)
     ·exact⟨hok _ (List.getElem_mem _),hok _ (List.getElem_mem _)⟩
     ·exact hok k (List.mem_of_mem_drop z)
    ·rw[<-hlv,congrArg lvs hap]
     unfold lvs
     simp only[List.map_append,List.sum_append,List.map_cons,List.map_nil,List.sum_cons,List.sum_nil,Kd.lv]
     omega
    ·simp;omega
    ·simp;omega
    ·simp;omega
   ·refine hF _ (hK _ _ ?_)
    obtain⟨k,rfl⟩:∃k,ks=[k]:=by
     cases ks with
     |nil=>simp at hk1
     |cons a b=>
      cases b with
      |nil=>exact⟨a,rfl⟩
      |cons a b=>simp at z;omega
    simp only[List.map_cons,List.map_nil]at hr
    dsimp![hr,x3k]
    exact h k _ (hok k (by simp)) (by simpa[lvs]using hlv) hd5 hx5
 ·rintro x r ys σ S3 ⟨vs,j,rfl,rfl,hl3,hnv,hd3,hx3⟩ N hN
  rw[List.length_cons]at hl3
  refine⟨trivial,?_⟩
  dsimp![true_and]
  refine hn d c _ _ _ hd3 fun n3 S4 n30 n31 hd4 hx4=>?_
  have hs4:S4[nw]?=some (.lst (ws.map PV.str)):=(hx3.trans hx4).get hs2 (by simp;exact ndw)
  obtain⟨i,hi,hi2⟩:∃i:Nat,n3 % (ws.length:Int)=(i:Int)/\i<ws.length:=by
   have:=Int.emod_nonneg n3 (show(ws.length:Int)≠0 by omega)
   have:=Int.emod_lt_of_pos n3 (show(0:Int)<(ws.length:Int) by omega)
   exact⟨(n3 % (ws.length:Int)).toNat,by omega,by omega⟩
  have e1:atI (ws.map PV.str) ((i:Nat):Int)=some (.str ws[i]):=by rw[q6f _ i (by simpa using hi2)];simp
  dsimp![q0x hs4,hs4,List.length_map]
  rw[hi,e1]
  refine⟨by omega,hN _ _ _ ⟨vs++[ws[i]],_,rfl,by simp,by simp;omega,?_,hd4,hx3.trans hx4⟩⟩
  intro v hv
  rcases List.mem_append.mp hv with z|z
  ·exact hnv v z
  ·simp at z;subst z;exact hna _ (List.getElem_mem _)
def q6i:WS:=
 (wSeq (wSet 2 (wC (.str "")))
 (wSeq (wFor (q5c (q0e (wVar 1) wNil)) (q1o 3) (wSeq (wSet 2 (wBin bAdd (wVar 2) (wBin bIx (wC (.str "abcdefghijklmnopqrstuvwxyz")) (wBin bMod (wVar 0) (wC (.int 26))))))
 (wSet 0 (wBin q5h (wVar 0) (wC (.int 26))))))
 (wRet (wVar 2))))
def q5i(spLnext:Den)(spLspelled:Den):WS:=
 (wSeq (wSet 2 (q0v spLnext (q0e (wVar 0) wNil)))
 (wSeq (wSet 3 (q0v spLnext (q0e (wVar 0) wNil)))
 (wSeq (wSet 4 (wBin bAdd (wC (.int 1)) (wBin bMod (wVar 2) (wC (.int 8)))))
 (wSeq (wSet 5 (q0v spLspelled (q0e (wVar 3) (q0e (wVar 4) wNil))))
 (wSeq (wIfS (wAnd (q0u (wBin cNe (wVar 1) (wLst wNil))) (q0u (wBin cEq (wBin bMod (wBin q5h (wVar 2) (wC (.int 8))) (wC (.int 2))) (wC (.int 1)))))
 (wSeq (wSet 6 (wBin bMod (wBin q5h (wVar 2) (wC (.int 16))) (wCB fLen (q0e (wBin bIx (wVar 1) (wC (.int 0))) wNil))))
 (wSet 5 (wBin bAdd (wBin bAdd (wSl (wBin bIx (wVar 1) (wC (.int 0))) q5d (q7k (wVar 6))) (wBin bIx (wVar 5) (wC (.int 0)))) (wSl (wBin bIx (wVar 1) (wC (.int 0))) (q7k (wBin bAdd (wVar 6) (wC (.int 1)))) q5d))))
 q1k)
 (wSeq (q6k (wOr (q0u (wBin cIn (wVar 5) (wVar 1))) (q0u (wBin cEq (wVar 5) (wC (.str "any"))))) (wSeq (wSet 3 (wBin bAdd (wVar 3) (wC (.int 1))))
 (wSeq (wSet 4 (wBin bAdd (wBin bMod (wVar 4) (wC (.int 8))) (wC (.int 1))))
 (wSet 5 (q0v spLspelled (q0e (wVar 3) (q0e (wVar 4) wNil)))))))
 (wRet (wVar 5))))))))
def q4p(spLnext:Den)(spLkind:Den):WS:=
 (wSeq (wSet 3 (q0v spLnext (q0e (wVar 0) wNil)))
 (wSeq (wIfS (wOr (q0u (wBin cEq (wVar 2) (wC (.int 0)))) (q0u (wBin cEq (wBin bMod (wVar 3) (wC (.int 3))) (wC (.int 0)))))
 (wRet (wBin bIx (wVar 1) (wBin bMod (wBin q5h (wVar 3) (wC (.int 3))) (wCB fLen (q0e (wVar 1) wNil)))))
 q1k)
 (wRet (wTup (q0e (q0v spLkind (q0e (wVar 0) (q0e (wVar 1) (q0e (wBin bSub (wVar 2) (wC (.int 1))) wNil)))) (q0e (q0v spLkind (q0e (wVar 0) (q0e (wVar 1) (q0e (wBin bSub (wVar 2) (wC (.int 1))) wNil)))) wNil))))))
def q6y(spLterm:Den):WS:=
 (wSeq (q2e (wBM "list" q1i (wVar 3) (q0e (wLst (q0e (wBin bIx (wVar 2) (wC (.int 0))) (q0e (wBin bIx (wVar 1) (wC (.str "uses"))) wNil))) wNil)))
 (wSeq (wSet 5 (q0v spLterm (q0e (wVar 0) (q0e (wVar 1) (q0e (wBin bIx (wVar 2) (wC (.int 1))) (q0e (wVar 3) (q0e (wBin bSub (wVar 4) (wC (.int 1))) wNil)))))))
 (wSeq (q2e (wBM0 "list" mPop (wVar 3)))
 (wRet (wTup (q0e (wC (.str "fn")) (q0e (wBin bIx (wVar 2) (wC (.int 0))) (q0e (wVar 5) wNil))))))))
def q6x(spLkind:Den)(spLnext:Den)(spLfn:Den)(spLterm:Den):WS:=
 (wSeq (wSet 5 (q0v spLkind (q0e (wVar 0) (q0e (wBin bIx (wVar 1) (wC (.str "basics"))) (q0e (wC (.int 2)) wNil)))))
 (wSeq (wSet 6 (q0v spLnext (q0e (wVar 0) wNil)))
 (wSeq (wIfS (q0u (wBin cGt (wBin bMod (wVar 6) (wC (.int 3))) (wC (.int 0))))
 (wSet 7 (q0v spLfn (q0e (wVar 0) (q0e (wVar 1) (q0e (wTup (q0e (wVar 5) (q0e (wVar 2) wNil))) (q0e (wVar 3) (q0e (wVar 4) wNil)))))))
 (wSet 7 (q0v spLterm (q0e (wVar 0) (q0e (wVar 1) (q0e (wTup (q0e (wVar 5) (q0e (wVar 2) wNil))) (q0e (wVar 3) (q0e (wBin bSub (wVar 4) (wC (.int 1))) wNil))))))))
 (wRet (wTup (q0e (wC (.str "of")) (q0e (wVar 7) (q0e (q0v spLterm (q0e (wVar 0) (q0e (wVar 1) (q0e (wVar 5) (q0e (wVar 3) (q0e (wBin bSub (wVar 4) (wC (.int 1))) wNil)))))) wNil))))))))
def q7p(spLwidth:Den):WS:=
 (wSeq (wIfS (wTru (wCB fIsi (q0e (wVar 0) (q0e (wC (.ty "str")) wNil))))
 (wRet (wC (.int 1)))
 q1k)
 (wRet (wBin bAdd (q0v spLwidth (q0e (wBin bIx (wVar 0) (wC (.int 0))) wNil)) (q0v spLwidth (q0e (wBin bIx (wVar 0) (wC (.int 1))) wNil)))))
def q8r(spLform:Den):WS:=
 (wSeq (wIfS (wTru (wCB fIsi (q0e (wVar 0) (q0e (wC (.ty "str")) wNil))))
 (wRet (wTup (q0e (wC (.str "basic")) (q0e (wVar 0) wNil))))
 q1k)
 (wRet (wTup (q0e (wBin bIx (wLst (q0e (wC (.str "/")) (q0e (wC (.str "\\")) wNil))) (wBin bMod (wVar 1) (wC (.int 2)))) (q0e (q0v spLform (q0e (wBin bIx (wVar 0) (wC (.int 1))) (q0e (wBin q5h (wVar 1) (wC (.int 2))) wNil))) (q0e (q0v spLform (q0e (wBin bIx (wVar 0) (wC (.int 0))) (q0e (wBin q5h (wVar 1) (wC (.int 5))) wNil))) wNil))))))
def q5l(spLwidth:Den)(spLform:Den)(spLword:Den):WS:=
 (wSeq (wIfS (wAnd (wTru (wBin bIx (wVar 0) (wC (.str "leaves")))) (wAnd (q0u (wBin cEq (wBin bMod (wVar 2) (wC (.int 2))) (wC (.int 1)))) (q0u (wBin cLt (q0v spLwidth (q0e (wVar 1) wNil)) (wC (.int 13))))))
 (wRet (wTup (q0e (wC (.str "leaf")) (q0e (wBin bMod (wBin q5h (wVar 2) (wC (.int 2))) (wC (.int 10))) (q0e (q0v spLform (q0e (wVar 1) (q0e (wBin q5h (wVar 2) (wC (.int 20))) wNil))) wNil)))))
 q1k)
 (wSeq (wFor (q7o (wBin bIx (wVar 0) (wC (.str "names")))) (q7i 2 (q2l (q1o 3) (q2l (q1o 4) q7j))) (wIfS (wAnd (q0u (wBin cEq (wVar 4) (wVar 1))) (q0u (wBin cGt (wBin bMod (wBin q5h (wVar 2) (wC (.int 2))) (wC (.int 4))) (wC (.int 0)))))
 (wRet (wTup (q0e (wC (.str "name")) (q0e (wVar 3) wNil))))
 q1k))
 (wSeq (wSet 5 (q0v spLword (q0e (wBin bIx (wVar 0) (wC (.str "deck"))) (q0e (q7e (q7o (wBin bIx (wVar 0) (wC (.str "names")))) [none,none] (q7i 2 (q2l (q1o 0) (q2l (q1o 1) q7j))) q6h (wVar 0)) wNil))))
 (wSeq (q2e (wBM "list" q1i (wBin bIx (wVar 0) (wC (.str "names"))) (q0e (wTup (q0e (wVar 5) (q0e (wVar 1) wNil))) wNil)))
 (wRet (wTup (q0e (wC (.str "name")) (q0e (wVar 5) wNil))))))))
def q5j(spLnext:Den)(spLfn:Den)(spLof:Den)(spLlone:Den):WS:=
 (wSeq (wSet 5 (q0v spLnext (q0e (wVar 0) wNil)))
 (wSeq (wSet 6 (q7e (q5c (q0e (wCB fLen (q0e (wVar 3) wNil)) wNil)) [none,some 2,some 3] (q1o 0) (wAnd (q0u (wBin cEq (wBin bIx (wBin bIx (wVar 2) (wVar 0)) (wC (.int 0))) (wVar 1))) (q0u (wBin cGt (wBin bIx (wBin bIx (wVar 2) (wVar 0)) (wC (.int 1))) (wC (.int 0))))) (wVar 0)))
 (wSeq (wIfS (wAnd (q0u (wBin cNe (wVar 6) (wLst wNil))) (wOr (q0u (wBin cLt (wBin bMod (wVar 5) (wC (.int 8))) (wC (.int 4)))) (q0u (wBin cLt (wVar 4) (wC (.int 1))))))
 (wSeq (wSet 7 (wBin bIx (wVar 6) (wBin bMod (wBin q5h (wVar 5) (wC (.int 8))) (wCB fLen (q0e (wVar 6) wNil)))))
 (wSeq (wAsg (wBin bSub (wBin bIx (wBin bIx (wVar 3) (wVar 7)) (wC (.int 1))) (wC (.int 1))) (q9o (wBin bIx (wVar 3) (wVar 7)) (wC (.int 1)) sSet))
 (wRet (wTup (q0e (wC (.str "bound")) (q0e (wBin bSub (wBin bSub (wCB fLen (q0e (wVar 3) wNil)) (wC (.int 1))) (wVar 7)) wNil))))))
 q1k)
 (wSeq (wIfS (wAnd (q0u (wBin cGt (wVar 4) (wC (.int 0)))) (wAnd (wTru (wCB fIsi (q0e (wVar 2) (q0e (wC (.ty "tuple")) wNil)))) (q0u (wBin cGt (wBin bMod (wVar 5) (wC (.int 8))) (wC (.int 4))))))
 (wRet (q0v spLfn (q0e (wVar 0) (q0e (wVar 1) (q0e (wVar 2) (q0e (wVar 3) (q0e (wVar 4) wNil)))))))
 q1k)
 (wSeq (wIfS (wAnd (q0u (wBin cGt (wVar 4) (wC (.int 0)))) (q0u (wBin cGt (wBin bMod (wVar 5) (wC (.int 8))) (wC (.int 0)))))
 (wRet (q0v spLof (q0e (wVar 0) (q0e (wVar 1) (q0e (wVar 2) (q0e (wVar 3) (q0e (wVar 4) wNil)))))))
 q1k)
 (wRet (q0v spLlone (q0e (wVar 1) (q0e (wVar 2) (q0e (wBin q5h (wVar 5) (wC (.int 8))) wNil))))))))))
def q4c:WS:=
 (wSeq (wIfS (q0u (wBin cGe (wVar 1) (wCB fLen (q0e (wVar 0) wNil))))
 (wRet (wC .non))
 q1k)
 (wRet (wBin bIx (wVar 0) (wBin bSub (wBin bSub (wCB fLen (q0e (wVar 0) wNil)) (wC (.int 1))) (wVar 1)))))
def q2f:WS:=
 (wSeq (wSet 1 (wLst wNil))
 (wSeq (wSet 2 (wLst (q0e (wTup (q0e (wVar 0) (q0e (wTup wNil) wNil))) wNil)))
 (wSeq (q6k (wTru (wVar 2)) (wSeq (wAsg (wBM0 "list" mPop (wVar 2)) (q7i 2 (q2l (q1o 3) (q2l (q1o 4) q7j))))
 (wSeq (wIfS (q0u (wBin cEq (wBin bIx (wVar 3) (wC (.int 0))) (wC (.str "fn"))))
 (q2e (wBM "list" q1i (wVar 2) (q0e (wTup (q0e (wBin bIx (wVar 3) (wC (.int 2))) (q0e (wBin bAdd (wVar 4) (wTup (q0e (wCB fLen (q0e (wVar 1) wNil)) wNil))) wNil))) wNil)))
 (wIfS (q0u (wBin cEq (wBin bIx (wVar 3) (wC (.int 0))) (wC (.str "of"))))
 (q2e (wBM "list" q6o (wVar 2) (q0e (wLst (q0e (wTup (q0e (wBin bIx (wVar 3) (wC (.int 2))) (q0e (wVar 4) wNil))) (q0e (wTup (q0e (wBin bIx (wVar 3) (wC (.int 1))) (q0e (wVar 4) wNil))) wNil))) wNil)))
 q1k))
 (q2e (wBM "list" q1i (wVar 1) (q0e (wTup (q0e (wVar 3) (q0e (wVar 4) wNil))) wNil))))))
 (wRet (wVar 1)))))
def q3x(spowner_of:Den)(spparts_and_fns:Den):WS:=
 (wRet (q7e (q7o (q0v spparts_and_fns (q0e (wVar 0) wNil))) [none,none] (q7i 2 (q2l (q1o 0) (q2l (q1o 1) q7j))) (q0u (wBin cEq (wBin bIx (wVar 0) (wC (.int 0))) (wC (.str "bound")))) (q0v spowner_of (q0e (wVar 1) (q0e (wBin bIx (wVar 0) (wC (.int 1))) wNil)))))
def q3y(spowners_in:Den):WS:=
 (wRet (wBin q7h (wC .non) (q0v spowners_in (q0e (wVar 0) wNil))))
def q4m(spparts_and_fns:Den):WS:=
 (wRet (wCB fLen (q0e (q0v spparts_and_fns (q0e (wVar 0) wNil)) wNil)))
def q2p(spLsize:Den):WS:=
 (wSeq (wIfS (q0u (wBin cEq (wBin bIx (wVar 0) (wC (.int 0))) (wC (.str "fn"))))
 (wRet (wBin bAdd (wC (.int 1)) (q0v spLsize (q0e (wBin bIx (wVar 0) (wC (.int 2))) wNil))))
 q1k)
 (wSeq (wIfS (q0u (wBin cEq (wBin bIx (wVar 0) (wC (.int 0))) (wC (.str "of"))))
 (wRet (wBin bAdd (wBin bAdd (wC (.int 1)) (q0v spLsize (q0e (wBin bIx (wVar 0) (wC (.int 1))) wNil))) (q0v spLsize (q0e (wBin bIx (wVar 0) (wC (.int 2))) wNil))))
 q1k)
 (wRet (wC (.int 1)))))
inductive Tm where
 |nm (w:Str)|lf (n:Int) (f:PV)|bd (k:Nat)|fn (k:PV) (t:Tm)|ap (f a:Tm)
def Tm.pv:Tm->PV
 |.nm w=>.tup [.str "name",.str w]
 |.lf n f=>.tup [.str "leaf",.int n,f]
 |.bd k=>.tup [.str "bound",.int k]
 |.fn k t=>.tup [.str "fn",k,t.pv]
 |.ap f a=>.tup [.str "of",f.pv,a.pv]
def Tm.sz:Tm->Nat
 |.fn _ t=>1+t.sz
 |.ap f a=>1+f.sz+a.sz
 |_=>1
def Tm.dp:Tm->Nat
 |.fn _ t=>t.dp+1
 |.ap f a=>max f.dp a.dp+1
 |_=>0
theorem tg1:(Str.ofString "name" = Str.ofString "fn")=False:=eq_false (by decide +kernel)
theorem tg2:(Str.ofString "name" = Str.ofString "of")=False:=eq_false (by decide +kernel)
theorem tg3:(Str.ofString "name" = Str.ofString "bound")=False:=eq_false (by decide +kernel)
theorem tg4:(Str.ofString "leaf" = Str.ofString "fn")=False:=eq_false (by decide +kernel)
theorem tg5:(Str.ofString "leaf" = Str.ofString "of")=False:=eq_false (by decide +kernel)
theorem tg6:(Str.ofString "leaf" = Str.ofString "bound")=False:=eq_false (by decide +kernel)
theorem tg7:(Str.ofString "bound" = Str.ofString "fn")=False:=eq_false (by decide +kernel)
theorem tg8:(Str.ofString "bound" = Str.ofString "of")=False:=eq_false (by decide +kernel)
theorem tg9:(Str.ofString "fn" = Str.ofString "of")=False:=eq_false (by decide +kernel)
theorem tga:(Str.ofString "fn" = Str.ofString "bound")=False:=eq_false (by decide +kernel)
theorem tgb:(Str.ofString "of" = Str.ofString "fn")=False:=eq_false (by decide +kernel)
theorem tgc:(Str.ofString "of" = Str.ofString "bound")=False:=eq_false (by decide +kernel)
theorem q5f(x y:PV)(xs:List PV):atI (x::y::xs) 1=some y:=q6f (x::y::xs) 1 (by simp)
theorem q9b(x y z:PV)(xs:List PV):atI (x::y::z::xs) 2=some z:=q6f (x::y::z::xs) 2 (by simp)
theorem x0o{T:Nat->Den}(hT:∀n,T (n+1)=fnP 1 1 (q2p (T n))):∀(t:Tm)(n:Nat),t.dp<n->∀(S:q0i)(E:EK)(Q:VC),Q (.int t.sz) S->T n [t.pv] S E Q:=by
 intro t
 induction t with
 |nm w=>
  intro n hn S E Q h
  obtain⟨m,rfl⟩:∃m,n=m+1:=⟨n-1,by omega⟩
  rw[hT]
  refine⟨rfl,?_⟩
  unfold q2p
  refine seqI fun K hK=>?_
  dsimp![Tm.pv,q0p,tg1,tg2]
  refine hK _ _ ?_
  refine seqI fun K hK=>?_
  dsimp![Tm.pv,q0p,tg1,tg2]
  refine hK _ _ ?_
  dsimp![true_and]
  exact h
 |lf k f=>
  intro n hn S E Q h
  obtain⟨m,rfl⟩:∃m,n=m+1:=⟨n-1,by omega⟩
  rw[hT]
  refine⟨rfl,?_⟩
  unfold q2p
  refine seqI fun K hK=>?_
  dsimp![Tm.pv,q0p,tg4,tg5]
  refine hK _ _ ?_
  refine seqI fun K hK=>?_
  dsimp![Tm.pv,q0p,tg4,tg5]
  refine hK _ _ ?_
  dsimp![true_and]
  exact h
 |bd k=>
  intro n hn S E Q h
  obtain⟨m,rfl⟩:∃m,n=m+1:=⟨n-1,by omega⟩
  rw[hT]
  refine⟨rfl,?_⟩
  unfold q2p
  refine seqI fun K hK=>?_
  dsimp![Tm.pv,q0p,tg7,tg8]
  refine hK _ _ ?_
  refine seqI fun K hK=>?_
  dsimp![Tm.pv,q0p,tg7,tg8]
  refine hK _ _ ?_
  dsimp![true_and]
  exact h
 |fn k t ih=>
  intro n hn S E Q h
  obtain⟨m,rfl⟩:∃m,n=m+1:=⟨n-1,by omega⟩
  rw[hT]
  refine⟨rfl,?_⟩
  unfold q2p
  refine seqI fun K hK=>?_
  simp only[Tm.dp]at hn
  dsimp![Tm.pv,q0p,q9b]
  refine ih m (by omega) _ _ _ ?_
  dsimp![true_and]
  rw[show(1:Int)+t.sz=((Tm.fn k t).sz:Nat) by simp only[Tm.sz];omega]
  exact h
 |ap f a ihf iha=>
  intro n hn S E Q h
  obtain⟨m,rfl⟩:∃m,n=m+1:=⟨n-1,by omega⟩
  rw[hT]
  refine⟨rfl,?_⟩
  unfold q2p
  refine seqI fun K hK=>?_
  simp only[Tm.dp]at hn
  dsimp![Tm.pv,q0p,q9b,tgb]
  refine hK _ _ ?_
  refine seqI fun K hK=>?_
  dsimp![q0p,q5f,q9b]
  refine ihf m (by omega) _ _ _ ?_
  refine iha m (by omega) _ _ _ ?_
  dsimp![true_and]
  rw[show(1:Int)+f.sz+a.sz=((Tm.ap f a).sz:Nat) by simp only[Tm.sz];omega]
  exact h
def encI(fs:List Nat):List PV:=fs.map fun x:Nat=>PV.int x
def enc(p:Tm×List Nat):PV:=.tup [p.1.pv,.tup (encI p.2)]
def q3k:Tm->List Nat->Nat->List (Tm×List Nat)
 |.fn k b,fs,i=>(.fn k b,fs)::q3k b (fs++[i]) (i+1)
 |.ap f a,fs,i=>(.ap f a,fs)::(q3k f fs (i+1)++q3k a fs (i+1+f.sz))
 |t,fs,_=>[(t,fs)]
def flat : List (Tm × List Nat) -> Nat -> List (Tm × List Nat)
 | [], _ => []
 | (t, fs) :: r, i => q3k t fs i ++ flat r (i + t.sz)
def szT : List (Tm × List Nat) -> Nat
 | [] => 0
 | (t, _) :: r => t.sz + szT r
theorem y0b:∀t:Tm,1<=t.sz
 |.nm _=>Nat.le_refl _
 |.lf _ _=>Nat.le_refl _
 |.bd _=>Nat.le_refl _
 |.fn _ _=>by simp only[Tm.sz];omega
 |.ap _ _=>by simp only[Tm.sz];omega
theorem y0c : ∀ st : List (Tm × List Nat), st.length <= szT st
 | [] => Nat.le_refl _
 | (t, _) :: r => by have := y0c r; have := y0b t; simp only [List.length_cons, szT]; omega
theorem q7s:∀(t:Tm)(fs:List Nat)(i:Nat),(q3k t fs i).length=t.sz
 |.nm _,_,_=>rfl
 |.lf _ _,_,_=>rfl
 |.bd _,_,_=>rfl
 |.fn _ b,fs,i=>by simp only[q3k,List.length_cons,q7s b,Tm.sz];omega
 |.ap f a,fs,i=>by simp only[q3k,List.length_cons,List.length_append,q7s f,q7s a,Tm.sz];omega
def z0p(sp:Den):Prop:=∀(t:Tm)(S:q0i)(E:EK)(Q:VC),t.sz<=1000->(∀(r:Nat) S',S'[r]?=some (.lst ((q3k t [] 0).map enc))->S.length<=r->Ex [] S S'->Q (.ref r) S')->sp [t.pv] S E Q
theorem tm3:∀x:Tm,(∃z rs,x.pv=.tup (.str z::rs)/\(z=Str.ofString "fn")=False/\(z=Str.ofString "of")=False/\x.sz=1/\∀fs i,q3k x fs i=[(x,fs)])\/(∃k b,x=.fn k b)\/∃f a,x=.ap f a
 |.nm _=>.inl ⟨_,_,rfl,tg1,tg2,rfl,fun _ _=>rfl⟩
 |.lf _ _=>.inl ⟨_,_,rfl,tg4,tg5,rfl,fun _ _=>rfl⟩
 |.bd _=>.inl ⟨_,_,rfl,tg7,tg8,rfl,fun _ _=>rfl⟩
 |.fn k b=>.inr (.inl ⟨k,b,rfl⟩)
 |.ap f a=>.inr (.inr ⟨f,a,rfl⟩)
theorem z2g:z0p (fnP 1 5 q2f):=by
 intro t S E Q hz h
 refine⟨rfl,?_⟩
 unfold q2f
 refine seqI fun K hK=>?_
 dsimp![true_and]
 refine⟨big (by decide),hK _ _ ?_⟩
 refine seqI fun K hK=>?_
 dsimp![true_and]
 refine⟨big (by decide),big (by decide),big (by decide),hK _ _ ?_⟩
 refine seqI fun K hK=>?_
 have hl1:(S++[SO.lst []]).length=S.length+1:=by simp
 refine q8q (fun m σ S1=>∃(st dn:List (Tm×List Nat))(j1 j2:Option PV),σ=[some t.pv,some (.ref S.length),some (.ref (S.length+1)),j1,j2]/\S1[S.length]?=some (.lst (dn.map enc))/\S1[S.length+1]?=some (.lst (st.reverse.map enc))/\Ex [] S S1/\
  dn++flat st dn.length=q3k t [] 0/\dn.length+szT st=t.sz/\(∀p∈st,p.2.length<=dn.length)/\m=szT st) (szT [(t,[])]) ?_ ?_
 ·exact⟨[(t,[])],[],none,none,by rw[hl1],q1x (q1t _ _) _,by rw[<-hl1];exact q1t _ _,(Ex.new _ _ _).app _,by simp[flat],by simp[szT],by simp,rfl⟩
 ·rintro m σ S1 ⟨st,dn,j1,j2,rfl,h1,h2,hx,hf,hb,hfl,rfl⟩ T F hT hF
  have hlen:=y0c st
  dsimp![h2]
  refine ite2 (fun c=>?_) (fun c=>?_)
  ·obtain⟨⟨x,fs⟩,r,rfl⟩:∃x r,st=x::r:=by
    cases st with
    |nil=>simp at c
    |cons a b=>exact⟨a,b,rfl⟩
   refine hT _ fun N hN=>?_
   refine seqI fun K2 hK2=>?_
   have hfs:fs.length<=dn.length:=hfl (x,fs) (by simp)
   dsimp![h2,q1l h2,List.reverse_cons,List.map_append,List.getLast?_append,List.getLast?_singleton,Option.or,Option.some_or,List.dropLast_concat,enc]
   refine hK2 _ _ ?_
   have g2:=q1j (.lst (r.reverse.map enc)) h2
   have g1:=q2v (j:=S.length+1) (.lst (r.reverse.map enc)) h1 (by omega)
   have hx1:Ex [] S (S1.set (S.length+1) (.lst (r.reverse.map enc))):=hx.set (.inr (by omega))
   generalize S1.set (S.length+1) (.lst (r.reverse.map enc))=S2 at g1 g2 hx1 ⊢
   simp only[szT,List.length_cons]at hb hlen
   have fin:∀(S3:q0i)(st':List (Tm×List Nat)),S3[S.length]?=some (.lst (dn.map enc))->S3[S.length+1]?=some (.lst (st'.reverse.map enc))->Ex [] S S3->q3k x fs dn.length++flat r (dn.length+x.sz)=(x,fs)::flat st' (dn.length+1)->szT st'+1=x.sz+szT r->(∀p∈st',p.2.length<=dn.length+1)->
     q2e (wBM "list" q1i (wVar 1) (q0e (wTup (q0e (wVar 3) (q0e (wVar 4) wNil))) wNil)) {nx:=N,rt:=Q,ct:=N,bk:=K} E [some t.pv,some (.ref S.length),some (.ref (S.length+1)),some x.pv,some (.tup (encI fs))] S3:=by
    intro S3 st' e1 e2 ex e3 e4 e5
    dsimp![e1,q1l e1]
    refine⟨big (by decide),by rw[List.length_map];exact bigl (by omega),hN (szT st') _ _ (by simp only[szT];omega) ?_⟩
    refine⟨st',dn++[(x,fs)],_,_,rfl,?_,q2v _ e2 (by omega),ex.set (.inr (Nat.le_refl _)),?_,?_,?_,rfl⟩
    ·rw[q1j _ e1];simp[enc]
    ·rw[<-hf];simp only[flat,List.length_append,List.length_singleton,List.append_assoc,e3,List.singleton_append]
    ·simp only[List.length_append,List.length_singleton];omega
    ·intro p hp;simp only[List.length_append,List.length_singleton];exact e5 p hp
   have keep:∀p∈r,p.2.length<=dn.length+1:=fun p hp=>Nat.le_succ_of_le (hfl p (by simp[hp]))
   refine seqI fun K3 hK3=>?_
   rcases tm3 x with⟨z,rs,ex,z1,z2,hs,hro⟩|⟨k,b,rfl⟩|⟨f,a,rfl⟩
   ·have f2:=fin _ r g1 g2 hx1 (by rw[hro,hs];simp) (by omega) keep
    rw[ex]at f2 ⊢
    dsimp![q0p,z1,z2]
    exact hK3 _ _ f2
   ·simp only[Tm.sz]at hb hlen
    dsimp![Tm.pv,q0p,q9b,g1,g2,q0x g1,q1l g2]
    refine⟨big (by decide),by rw[encI,List.length_map];exact big (by simp;omega),big (by decide),by rw[List.length_map,List.length_reverse];exact bigl (by omega),hK3 _ _ ?_⟩
    refine fin _ ((b,fs++[dn.length])::r) (q2v _ g1 (by omega)) ?_ (hx1.set (.inr (by omega))) ?_ ?_ ?_
    ·rw[q1j _ g2];simp[enc,encI]
    ·simp only[q3k,flat,Tm.sz,List.cons_append]
     rw[show dn.length+(1+b.sz)=dn.length+1+b.sz by omega]
    ·simp only[szT,Tm.sz];omega
    ·intro p hp
     rcases List.mem_cons.mp hp with rfl|z
     ·simp;exact hfs
     ·exact keep p z
   ·simp only[Tm.sz]at hb hlen
    dsimp![Tm.pv,q0p,q5f,q9b,g1,g2,tgb]
    have g3:=q1x g2 [SO.lst [PV.tup [a.pv,PV.tup (encI fs)],PV.tup [f.pv,PV.tup (encI fs)]]]
    refine⟨big (by decide),big (by decide),big (by decide),?_⟩
    dsimp![q1l g3]
    refine⟨by rw[List.length_map,List.length_reverse];exact big (by omega),hK3 _ _ ?_⟩
    refine fin _ ((f,fs)::(a,fs)::r) (q2v _ (q1x g1 _) (by omega)) ?_ ((hx1.app _).set (.inr (by omega))) ?_ ?_ ?_
    ·rw[q1j _ g3];simp[enc]
    ·simp only[q3k,flat,Tm.sz,List.cons_append,List.append_assoc]
     rw[show dn.length+(1+f.sz+a.sz)=dn.length+1+f.sz+a.sz by omega]
    ·simp only[szT,Tm.sz];omega
    ·intro p hp
     rcases List.mem_cons.mp hp with rfl|z
     ·exact Nat.le_succ_of_le hfs
     ·rcases List.mem_cons.mp z with rfl|z
      ·exact Nat.le_succ_of_le hfs
      ·exact keep p z
  ·obtain rfl:st=[]:=by
    cases st with
    |nil=>rfl
    |cons a b=>simp at c
   refine hF _ (hK _ _ ?_)
   dsimp![true_and]
   refine h _ _ ?_ (Nat.le_refl _) hx
   rw[h1,<-hf];simp[flat]
theorem y0l{sp:Den}(hp:z0p sp){t:Tm}{S:q0i}{E:EK}{Q:VC}(hz:t.sz<=1000)(h:∀S',Ex [] S S'->Q (.int t.sz) S'):fnP 1 1 (q4m sp) [t.pv] S E Q:=by
 refine⟨rfl,?_⟩
 unfold q4m
 dsimp![true_and]
 refine hp t _ _ _ hz fun r S' e _ hx=>?_
 dsimp![q0x e]
 rw[List.length_map,q7s]
 exact h _ hx
def own(fs:List Nat)(k:Nat):Option Nat:=if k<fs.length then fs[fs.length-1-k]? else none
def ow:Tm->List Nat->Nat->List (Option Nat)
 |.bd k,fs,_=>[own fs k]
 |.fn _ b,fs,i=>ow b (fs++[i]) (i+1)
 |.ap f a,fs,i=>ow f fs (i+1)++ow a fs (i+1+f.sz)
 |_,_,_=>[]
def x1r(p:Tm×List Nat):Option (Option Nat):=match p.1 with
 |.bd k=>some (own p.2 k)
 |_=>none
theorem z2h:∀(t:Tm)(fs:List Nat)(i:Nat),(q3k t fs i).filterMap x1r=ow t fs i
 |.nm _,_,_=>rfl
 |.lf _ _,_,_=>rfl
 |.bd _,_,_=>rfl
 |.fn _ b,fs,i=>by rw[q3k,List.filterMap_cons_none rfl,z2h b];rfl
 |.ap f a,fs,i=>by rw[q3k,List.filterMap_cons_none rfl,List.filterMap_append,z2h f,z2h a];rfl
def encO:Option Nat->PV
 |none=>.non
 |some x=>.int (x:Nat)
theorem y8l(xs:List PV)(j k:Nat)(h:k<xs.length)(e:(xs.length:Int)-1-k=j):atI xs (xs.length-1-k:Int)=xs[xs.length-1-k]?:=by
 have:((xs.length:Int)-1-k)=((xs.length-1-k:Nat):Int):=by omega
 rw[this,q6f xs _ (by omega)]
 simp
theorem y6l{fs:List Nat}{k:Nat}{S:q0i}{E:EK}{Q:VC}(h:Q (encO (own fs k)) S):fnP 2 2 q4c [.tup (encI fs),.int k] S E Q:=by
 refine⟨rfl,?_⟩
 unfold q4c
 have hl:(encI fs).length=fs.length:=by simp[encI]
 refine seqI fun K hK=>?_
 dsimp![hl]
 by_cases c:k<fs.length
 ·rw[if_neg (by omega)]
  refine hK _ _ ?_
  dsimp![hl]
  have e:=y8l (encI fs) (fs.length-1-k) k (by omega) (by omega)
  rw[hl]at e
  rw[e]
  have e2:(encI fs)[fs.length-1-k]?=some (.int ((fs[fs.length-1-k]'(by omega):Nat):Int)):=by
   unfold encI;rw[List.getElem?_map,List.getElem?_eq_getElem (by omega)];rfl
  rw[e2]
  unfold own at h
  rw[if_pos c,List.getElem?_eq_getElem (by omega)]at h
  exact h
 ·rw[if_pos (by omega)]
  unfold own at h
  rw[if_neg c]at h
  exact h
def y9z(sp:Den):Prop:=∀(fs:List Nat)(k:Nat)(S:q0i)(E:EK)(Q:VC),Q (encO (own fs k)) S->sp [.tup (encI fs),.int k] S E Q
def z6z(sp:Den):Prop:=∀(t:Tm)(S:q0i)(E:EK)(Q:VC),t.sz<=1000->(∀(r:Nat) S',S'[r]?=some (.lst ((ow t [] 0).map encO))->Ex [] S S'->Q (.ref r) S')->sp [t.pv] S E Q
theorem y1q{so sp:Den}(ho:y9z so)(hp:z0p sp):z6z (fnP 1 1 (q3x so sp)):=by
 intro t S E Q hz h
 refine⟨rfl,?_⟩
 unfold q3x
 dsimp![true_and]
 refine hp t _ _ _ hz fun r S1 e _ hx=>?_
 dsimp![q0x e]
 refine⟨by rw[List.length_map,q7s];exact big (by omega),?_⟩
 refine z4z (fun rest ys σ S2=>∃(ps qs:List (Tm×List Nat))(j1 j2:Option PV),rest=ps.map enc/\σ=[j1,j2]/\S2=S1/\ys=(qs.filterMap x1r).map encO/\qs++ps=q3k t [] 0) ?_ ?_ _ _ _ _ ⟨q3k t [] 0,[],none,none,rfl,rfl,rfl,rfl,rfl⟩
 ·rintro ys σ S2 ⟨ps,qs,j1,j2,hr,rfl,rfl,rfl,hq⟩
  obtain rfl:ps=[]:=by cases ps with
   |nil=>rfl
   |cons a b=>simp at hr
  refine⟨q0x e,h _ _ ?_ (hx.app _)⟩
  rw[q1t]
  rw[List.append_nil]at hq
  rw[hq,z2h]
 ·rintro x rest ys σ S2 ⟨ps,qs,j1,j2,hr,rfl,rfl,rfl,hq⟩ N hN
  obtain⟨⟨u,fs⟩,ps,rfl⟩:∃p r,ps=p::r:=by
   cases ps with
   |nil=>simp at hr
   |cons a b=>exact⟨a,b,rfl⟩
  simp only[List.map_cons,List.cons.injEq]at hr
  obtain⟨rfl,rfl⟩:=hr
  refine⟨q0x e,?_⟩
  cases u with
  |nm w=>
   dsimp![enc,Tm.pv,q0p,tg3]
   exact hN _ _ _ ⟨ps,qs++[(.nm w,fs)],_,_,rfl,rfl,rfl,by rw[List.filterMap_append,List.filterMap_cons_none rfl];simp,by simp[<-hq]⟩
  |lf a b=>
   dsimp![enc,Tm.pv,q0p,tg6]
   exact hN _ _ _ ⟨ps,qs++[(.lf a b,fs)],_,_,rfl,rfl,rfl,by rw[List.filterMap_append,List.filterMap_cons_none rfl];simp,by simp[<-hq]⟩
  |fn a b=>
   dsimp![enc,Tm.pv,q0p,tga]
   exact hN _ _ _ ⟨ps,qs++[(.fn a b,fs)],_,_,rfl,rfl,rfl,by rw[List.filterMap_append,List.filterMap_cons_none rfl];simp,by simp[<-hq]⟩
  |ap a b=>
   dsimp![enc,Tm.pv,q0p,tgc]
   exact hN _ _ _ ⟨ps,qs++[(.ap a b,fs)],_,_,rfl,rfl,rfl,by rw[List.filterMap_append,List.filterMap_cons_none rfl];simp,by simp[<-hq]⟩
  |bd k=>
   dsimp![enc,Tm.pv,q0p,q5f]
   refine ho fs k _ _ _ ?_
   exact hN _ _ _ ⟨ps,qs++[(.bd k,fs)],_,_,rfl,rfl,rfl,by rw[List.filterMap_append];simp[x1r],by simp[<-hq]⟩
theorem z7p:∀l:List (Option Nat),q5p (l.map encO)
 |[]=>by rw[List.map_nil,z0a];trivial
 |x::r=>by
  obtain⟨h1,h2⟩:=z7p r
  cases x<;>exact⟨by simp only[List.map_cons,nrfs,encO,nrf,h1,Bool.and_self],by simp only[List.map_cons,deps,encO,dep];omega⟩
theorem x3n(l:List (Option Nat)):((l.map encO).any fun y=>eqB y .non)=decide (none∈l):=by
 induction l with
 |nil=>rfl
 |cons x r ih=>
  rw[List.map_cons,List.any_cons,ih]
  cases x with
  |none=>simp[encO,eqB]
  |some z=>simp[encO,eqB]
theorem y6q:okEq .non:=⟨rfl,by simp[dep]⟩
theorem y4c{sp:Den}(hp:z6z sp){t:Tm}{S:q0i}{E:EK}{Q:VC}(hz:t.sz<=1000)(h:∀S',Ex [] S S'->Q (.bl (!decide (none∈ow t [] 0))) S'):fnP 1 1 (q3y sp) [t.pv] S E Q:=by
 refine⟨rfl,?_⟩
 unfold q3y
 dsimp![true_and]
 refine hp t _ _ _ hz fun r S' e hx=>?_
 dsimp![q0x e,x3n]
 exact⟨⟨y6q,z7p _⟩,h _ hx⟩
theorem y7j(n j:Nat)(h:j<n):ixN n (j:Int)=some j:=by
 unfold ixN
 rw[if_pos (by omega),if_pos (by omega)]
 simp
theorem y0i{n m:Int}(h:spl n 8=spl m 8)(h1:0<n-m)(h2:n-m<=640):False:=by
 simp only[spl,List.cons.injEq]at h
 obtain⟨a,b,-⟩:=h
 have a':n % 26=m % 26:=by have:=Int.emod_nonneg n (show(26:Int)≠0 by decide);have:=Int.emod_nonneg m (show(26:Int)≠0 by decide);omega
 have b':n / 26 % 26=m / 26 % 26:=by have:=Int.emod_nonneg (n / 26) (show(26:Int)≠0 by decide);have:=Int.emod_nonneg (m / 26) (show(26:Int)≠0 by decide);omega
 clear a b
 omega
theorem y0y(n:Int)(F:List Str)(hF:F.length<=80):∃j:Nat,j<=80/\mk (spl (n+8*j) 8)∉F:=by
 refine Classical.byContradiction fun hc=>?_
 have hall:∀j:Nat,j<=80->mk (spl (n+8*j) 8)∈F:=fun j hj=>Classical.byContradiction fun hz=>hc ⟨j,hj,hz⟩
 have nd:((List.range 81).map fun j:Nat=>mk (spl (n+8*j) 8)).Nodup:=by
  refine List.pairwise_map.mpr (List.Pairwise.imp_of_mem ?_ (List.nodup_range (n:=81)))
  intro a b ha hb hab e
  have e:=y9d e
  rw[List.mem_range]at ha hb
  refine hab ?_
  rcases Nat.lt_trichotomy a b with z|z|z
  ·exact(y0i e.symm (by omega) (by omega)).elim
  ·exact z
  ·exact(y0i e (by omega) (by omega)).elim
 have:=z7s nd (F:=F) fun x hx=>by
  obtain⟨j,hj,rfl⟩:=List.mem_map.mp hx
  rw[List.mem_range]at hj
  exact hall j (by omega)
 rw[List.length_map,List.length_range]at this
 omega
theorem z9n(ws:List Str)(num:Int)(k:Nat)(h:ws.length<=79):∃i:Nat,z5j ws num k (i+1):=by
 have h1:∃r:Nat,r<8/\szn k (r+1)=8:=⟨(15-(k-1) % 8-1) % 8,by omega,by unfold szn;omega⟩
 obtain⟨r,hr,hs⟩:=h1
 obtain⟨j,hj,hf⟩:=y0y (num+((r+1:Nat):Int)) (sAny::ws) (by simp;omega)
 refine⟨r+8*j,?_⟩
 have e1:szn k (r+8*j+1)=8:=by unfold szn at hs ⊢;omega
 have e2:num+((r+8*j+1:Nat):Int)=num+((r+1:Nat):Int)+8*j:=by omega
 unfold z5j Bad
 rw[e1,e2]
 rintro(z|z)
 ·exact hf (List.mem_cons_of_mem _ z)
 ·exact hf (by rw[z];exact List.mem_cons_self)
def z8l(sp:Den):Prop:=∀(d c n:Nat)(ws:List Str)(S:q0i)(E:EK)(Q:VC),Deck d c S->S[n]?=some (.lst (ws.map PV.str))->ws.length<=79->(∀w∈ws,q1r w=true)->n≠d->n≠c->
 (∀w S',q1r w=true->w∉ws->w≠sAny->Deck d c S'->Ex [d,c] S S'->Q (.str w) S')->sp [.ref d,.ref n] S E Q
theorem y4s{spn sps:Den}(hn:z7a spn)(hs:z3c sps):z8l (fnP 2 7 (q5i spn sps)):=by
 intro d c n ws S E Q hd hw hl hna nd nc h
 refine⟨rfl,?_⟩
 unfold q5i
 refine seqI fun K hK=>?_
 dsimp![true_and]
 refine hn d c _ _ _ hd fun way S1 w0 w1 hd1 hx1=>hK _ _ ?_
 refine seqI fun K hK=>?_
 dsimp![true_and]
 refine hn d c _ _ _ hd1 fun num S2 n0 n1 hd2 hx2=>hK _ _ ?_
 have hx12:=hx1.trans hx2
 have hw2:S2[n]?=some (.lst (ws.map PV.str)):=hx12.get hw (by simp;exact⟨nd,nc⟩)
 obtain⟨k,hk,hk1,hk8⟩:∃k:Nat,1+way % 8=(k:Int)/\1<=k/\k<=8:=⟨(1+way % 8).toNat,by omega,by omega,by omega⟩
 refine seqI fun K hK=>?_
 dsimp![true_and]
 refine⟨by decide,hK _ _ ?_⟩
 rw[hk]
 refine seqI fun K hK=>?_
 dsimp![true_and]
 refine hs num k _ _ _ hk8 (hK _ _ ?_)
 have spn1:q1r (mk (spl num k))=true:=z2m (by rw[q7m];exact hk1) (by rw[q7m];exact hk8) (z1w _ _)
 have rest:∀(w:Str)(S':q0i)(j:Option PV),q1r w=true->Ex [] S2 S'->wSeq (q6k (wOr (q0u (wBin cIn (wVar 5) (wVar 1))) (q0u (wBin cEq (wVar 5) (wC (.str "any"))))) (wSeq (wSet 3 (wBin bAdd (wVar 3) (wC (.int 1))))
   (wSeq (wSet 4 (wBin bAdd (wBin bMod (wVar 4) (wC (.int 8))) (wC (.int 1))))
   (wSet 5 (q0v sps (q0e (wVar 3) (q0e (wVar 4) wNil)))))))
   (wRet (wVar 5)) {nx:=fun _ S'=>Q .non S',rt:=Q} E [some (.ref d),some (.ref n),some (.int way),some (.int num),some (.int (k:Nat)),some (.str w),j] S':=by
  intro w S' j hwn hx'
  refine seqI fun K hK=>?_
  obtain⟨i0,hi0⟩:=z9n ws num k hl
  refine q8q (fun m σ S3=>∃(nu:Int)(kk:Nat)(ww:Str),σ=[some (.ref d),some (.ref n),some (.int way),some (.int nu),some (.int (kk:Nat)),some (.str ww),j]/\S3=S'/\1<=kk/\kk<=8/\q1r ww=true/\((m=0/\¬Bad ws ww)\/∃i,m=i+1/\z5j ws nu kk (i+1))) (i0+1) ⟨num,k,w,rfl,rfl,hk1,hk8,hwn,.inr ⟨i0,rfl,hi0⟩⟩ ?_
  rintro m σ S3 ⟨nu,kk,ww,rfl,rfl,k1,k8,nw,hm⟩ T F hT hF
  have hw3:=hx'.get hw2 (by simp)
  dsimp![q0x hw3,x9d]
  refine⟨q8g ws,?_⟩
  have bad:Bad ws ww->T [some (.ref d),some (.ref n),some (.int way),some (.int nu),some (.int (kk:Nat)),some (.str ww),j] S3:=fun hb=>by
   obtain⟨i,rfl,hg⟩:∃i,m=i+1/\z5j ws nu kk (i+1):=by
    rcases hm with⟨_,z⟩|z
    ·exact absurd hb z
    ·exact z
   refine hT _ fun N hN=>?_
   refine seqI fun K2 hK2=>?_
   dsimp![true_and]
   refine hK2 _ _ ?_
   refine seqI fun K2 hK2=>?_
   dsimp![true_and]
   refine⟨by decide,hK2 _ _ ?_⟩
   have ek:((kk:Nat):Int) % 8+1=((szn kk 1:Nat):Int):=by unfold szn;omega
   have hz1:1<=szn kk 1:=by unfold szn;omega
   have hz8:szn kk 1<=8:=by unfold szn;omega
   rw[ek]
   dsimp![true_and]
   refine hs (nu+1) (szn kk 1) _ _ _ hz8 ?_
   refine hN i _ _ (by omega) ⟨nu+1,szn kk 1,mk (spl (nu+1) (szn kk 1)),rfl,rfl,hz1,hz8,z2m (by rw[q7m];exact hz1) (by rw[q7m];exact hz8) (z1w _ _),?_⟩
   cases i with
   |zero=>exact .inl ⟨rfl,hg⟩
   |succ i=>
    refine .inr ⟨i,rfl,?_⟩
    unfold z5j at hg ⊢
    rw[y5h,show nu+1+((i+1:Nat):Int)=nu+((i+1+1:Nat):Int) by omega]
    exact hg
  refine ite2 (fun z=>bad (.inl z)) (fun z=>ite2 (fun z2=>bad (.inr z2)) (fun z2=>?_))
  refine hF _ (hK _ _ ?_)
  dsimp![true_and]
  have hx3:Ex [d,c] S S3:=hx12.trans hx'.nil
  exact h ww S3 nw z z2 (hd2.ex hx' (by simp) (by simp)) hx3
 refine seqI fun K hK=>?_
 have g1:=q1x hw2 [SO.lst []]
 have hx3:Ex [] S2 (S2++[SO.lst []]):=Ex.new _ _ _
 dsimp![q0x g1,y7q]
 refine⟨big (by decide),q8g ws,ite2 (fun z=>?_) (fun z=>hK _ _ (rest _ _ _ spn1 hx3))⟩
 refine⟨by decide,by decide,ite2 (fun z2=>?_) (fun z2=>hK _ _ (rest _ _ _ spn1 hx3))⟩
 obtain⟨v,vs,rfl⟩:∃v vs,ws=v::vs:=by
  cases ws with
  |nil=>simp at z
  |cons a b=>exact⟨a,b,rfl⟩
 have hv:=q4h (hna v (by simp))
 simp only[List.map_cons]at g1
 refine seqI fun K2 hK2=>?_
 dsimp![g1,q0p]
 refine⟨⟨by decide,by decide⟩,big (by omega),by omega,hK2 _ _ ?_⟩
 obtain⟨at',hat,hat1⟩:∃a:Nat,way / 16 % (v.length:Int)=(a:Int)/\a<v.length:=⟨(way / 16 % (v.length:Int)).toNat,by have:=Int.emod_nonneg (way / 16) (show(v.length:Int)≠0 by omega);omega,by have:=Int.emod_lt_of_pos (way / 16) (show(0:Int)<v.length by omega);have:=Int.emod_nonneg (way / 16) (show(v.length:Int)≠0 by omega);omega⟩
 rw[hat]
 obtain⟨c0,cs,hc0⟩:∃c0 cs,spl num k=c0::cs:=by
  obtain⟨k',rfl⟩:∃k',k=k'+1:=⟨k-1,by omega⟩
  exact⟨_,_,rfl⟩
 have hc0':atI (mk (spl num k)).cps.toList 0=some c0:=by
  rw[q1d,hc0]
  unfold atI
  rw[List.length_cons,q9j]
  rfl
 have hcl:isL c0=true:=by
  have:=z1w k num
  rw[hc0,List.all_cons,Bool.and_eq_true]at this
  exact this.1
 dsimp![g1,q0p,hc0']
 rw[show((at':Nat):Int)+1=((at'+1:Nat):Int) by omega,x0l v at' (by omega),x0n v (at'+1) (by omega),q4j]
 have hvl:=q4z v
 refine⟨big (by omega),big (by rw[q0y,q7m];omega),big (by rw[q0y,q0y];simp;omega),big (by omega),?_⟩
 rw[q3z,q3z,q0y,q0y]
 refine⟨big (by simp only[List.length_append,List.length_take,List.length_drop,List.length_singleton];omega),hK _ _ (rest _ _ _ ?_ hx3)⟩
 refine z2m ?_ ?_ ?_
 ·simp only[List.length_append,List.length_take,List.length_drop,List.length_singleton];omega
 ·simp only[List.length_append,List.length_take,List.length_drop,List.length_singleton];omega
 ·simp only[List.all_append,y8m _ hv.2.2,y8n _ hv.2.2,List.all_cons,List.all_nil,hcl,Bool.and_self]
theorem y4t{sp:Den}(h:z8l sp):x9e sp:=fun d c n ws S E Q h1 h2 h3=>h d c n ws S E Q h1 h2 (Nat.le_trans h3 (by decide))
mutual
def y1h:PV->Bool
 |.str _=>true
 |.int _=>true
 |.tup xs=>y1g xs&&decide (xs.length<=10)
 |_=>false
def y1g:List PV->Bool
 |[]=>true
 |x::xs=>y1h x&&y1g xs
end
def Tm.gd:Tm->Nat->Prop
 |.nm _,_=>True
 |.lf _ f,_=>y1h f=true/\dep f<=30
 |.bd k,n=>k<n
 |.fn k t,n=>(y1h k=true/\dep k<=30)/\t.gd (n+1)
 |.ap f a,n=>f.gd n/\a.gd n
def x3w(b m d:Nat)(u:Int):List (Key×PV):=[(.inr (Str.ofString "basics"),.ref b),(.inr (Str.ofString "names"),.ref m),(.inr (Str.ofString "deck"),.ref d),(.inr (Str.ofString "uses"),.int u),(.inr (Str.ofString "leaves"),.bl true)]
def encN(p:Str×Kd):PV:=.tup [.str p.1,p.2.pv]
structure Wd(w b m d c N:Nat)(S:q0i):Prop where
 dk:Deck d c S
 wd:∃u,S[w]?=some (.dK (x3w b m d u))
 bs:∃ws:List Str,S[b]?=some (.lst (ws.map PV.str))/\ws≠[]
 nm:∃ps:List (Str×Kd),S[m]?=some (.lst (ps.map encN))/\ps.length<=N/\∀p∈ps,q1r p.1=true/\p.2.dp<=20
 ne:(w≠d/\w≠c)/\(b≠d/\b≠c)/\(m≠d/\m≠c)/\w≠m/\b≠m
theorem Wd.ex{w b m d c N:Nat}{S S':q0i}(h:Wd w b m d c N S){D:List Nat}(e:Ex D S S')(hw:w∉D)(hb:b∉D)(hm:m∉D)(hd:d∉D)(hc:c∉D):Wd w b m d c N S':=by
 obtain⟨dk,⟨u,wd⟩,⟨ws,b1,b2⟩,⟨ps,p1,p2⟩,ne⟩:=h
 exact⟨dk.ex e hd hc,⟨u,e.get wd hw⟩,⟨ws,e.get b1 hb,b2⟩,⟨ps,e.get p1 hm,p2⟩,ne⟩
theorem Wd.nx{w b m d c N:Nat}{S S':q0i}(h:Wd w b m d c N S)(hd:Deck d c S')(e:Ex [d,c] S S'):Wd w b m d c N S':=by
 obtain⟨dk,⟨u,wd⟩,⟨ws,b1,b2⟩,⟨ps,p1,p2⟩,ne⟩:=h
 exact⟨hd,⟨u,e.get wd (by simp;exact ne.1)⟩,⟨ws,e.get b1 (by simp;exact ne.2.1),b2⟩,⟨ps,e.get p1 (by simp;exact ne.2.2.1),p2⟩,ne⟩
theorem Wd.le{w b m d c N N':Nat}{S:q0i}(h:Wd w b m d c N S)(l:N<=N'):Wd w b m d c N' S:=by
 obtain⟨dk,wd,bs,⟨ps,p1,p2,p3⟩,ne⟩:=h
 exact⟨dk,wd,bs,⟨ps,p1,Nat.le_trans p2 l,p3⟩,ne⟩
theorem y9w{k k':Kd}{S:q0i}{Q:VC}(h1:k.dp<=20)(h2:k'.dp<=20)(h:∀b,Q (.bl b) S):cEq k.pv k'.pv S Q:=by
 have o1:=z0b (k:=k) (by omega)
 have o2:=z0b (k:=k') (by omega)
 cases k with
 |a s=>
  cases k' with
  |a t=>rw[Kd.pv,Kd.pv,y9v];exact h _
  |p f t=>rw[Kd.pv,Kd.pv,y9u];exact⟨by have:=o2.1;rw[Kd.pv,z5x]at this;exact this,h _⟩
 |p f t=>
  cases k' with
  |a t=>rw[Kd.pv,Kd.pv,y9t];exact⟨by have:=o1.1;rw[Kd.pv,z5x]at this;exact this,h _⟩
  |p f t=>rw[Kd.pv,Kd.pv,y9s];rw[Kd.pv]at o1 o2;exact⟨⟨o1,o2⟩,h _⟩
structure Ar(w b m d c a:Nat)(rs:List Nat)(S:q0i):Prop where
 at':S[a]?=some (.lst (rs.map PV.ref))
 rw':∀r∈rs,∃(k:Kd)(u:Int),S[r]?=some (.lst [k.pv,.int u])/\k.dp<=20
 ne:∀r∈a::rs,r≠w/\r≠b/\r≠m/\r≠d/\r≠c
 na:a∉rs
theorem Ar.ex{w b m d c a:Nat}{rs:List Nat}{S S':q0i}(h:Ar w b m d c a rs S)(e:Ex [m,d,c] S S'):Ar w b m d c a rs S':=by
 have g:∀r∈a::rs,r∉[m,d,c]:=fun r hr=>by have:=h.ne r hr;simp;exact⟨this.2.2.1,this.2.2.2.1,this.2.2.2.2⟩
 exact⟨e.get h.at' (g a (by simp)),fun r hr=>by obtain⟨k,u,h1,h2⟩:=h.rw' r hr;exact⟨k,u,e.get h1 (g r (by simp[hr])),h2⟩,h.ne,h.na⟩
theorem Ar.nx{w b m d c a:Nat}{rs:List Nat}{S S':q0i}(h:Ar w b m d c a rs S)(e:Ex [d,c] S S'):Ar w b m d c a rs S':=h.ex (e.weak (by simp))
theorem z1f:∀l:List Nat,q5p (encI l)
 |[]=>by rw[encI,List.map_nil,z0a];trivial
 |x::r=>by
  obtain⟨h1,h2⟩:=z1f r
  simp only[encI]at h1 h2
  exact⟨by simp only[encI,List.map_cons,nrfs,nrf,h1,Bool.and_self],by simp only[encI,List.map_cons,deps,dep];omega⟩
theorem y3o(l:List Nat):eqBs (encI l) []=l.isEmpty:=by cases l<;>simp[eqBs,encI]
theorem y8k{is:List Nat}{i:Int}(h:is≠[]):∃y,y∈is/\atI (encI is) (i % (is.length:Int))=some (.int (y:Nat)):=by
 have hp:0<is.length:=List.length_pos_iff.mpr h
 have h0:0<=i % (is.length:Int):=Int.emod_nonneg _ (by omega)
 have h1:i % (is.length:Int)<is.length:=Int.emod_lt_of_pos _ (by omega)
 unfold atI ixN encI
 rw[List.length_map,if_pos h0,if_pos h1]
 have:(i % (is.length:Int)).toNat<is.length:=by omega
 exact⟨is[(i % (is.length:Int)).toNat],List.getElem_mem _,by simp[this]⟩
theorem z5t{n:Nat}{x:PV}(h:x∈rngP 0 n):∃j:Nat,j<n/\x=.int j:=by
 unfold rngP at h
 obtain⟨j,hj,rfl⟩:=List.mem_map.mp h
 exact⟨j,List.mem_range.mp hj,by simp⟩
def q4w(spLwords:Den):WS:=
 (wSeq (wSet 3 (q0v spLwords (q0e (wVar 0) (q0e (wC (.int 3)) wNil))))
 (wRet (z9y (q5r (wC (.str "basics")) (wVar 3) (q5r (wC (.str "names")) (wLst wNil) (q5r (wC (.str "deck")) (wVar 0) (q5r (wC (.str "uses")) (wVar 1) (q5r (wC (.str "leaves")) (wVar 2) z9u))))))))
def q4n:WS:=
 (wSeq (q6k (wAnd (q0u (wBin cLt (wVar 1) (wCB fLen (q0e (wVar 0) wNil)))) (q0u (wBin cIn (wBin bIx (wVar 0) (wVar 1)) (wVar 2)))) (wAug 1 z6w (wC (.int 1))))
 (wRet (wVar 1)))
def q3r(sprun_end:Den):WS:=
 (wSeq (wIfS (q0u (wBin cEq (wBin bIx (wVar 0) (wVar 1)) (wC (.str "["))))
 (wSeq (wSet 2 (wBM "str" z3x (wVar 0) (q0e (wC (.str "]")) (q0e (wVar 1) wNil))))
 (wRet (wIf (q0u (wBin cLt (wVar 2) (wC (.int 0)))) (wCB fLen (q0e (wVar 0) wNil)) (wBin bAdd (wVar 2) (wC (.int 1))))))
 q1k)
 (wSeq (wIfS (q0u (wBin cEq (wBin bIx (wVar 0) (wVar 1)) (wC (.str "#"))))
 (wRet (q0v sprun_end (q0e (wVar 0) (q0e (wBin bAdd (wVar 1) (wC (.int 1))) (q0e (wC (.str "0123456789")) wNil)))))
 q1k)
 (wSeq (wIfS (q0u (wBin cIn (wBin bIx (wVar 0) (wVar 1)) (wC (.str "abcdefghijklmnopqrstuvwxyz"))))
 (wRet (q0v sprun_end (q0e (wVar 0) (q0e (wBin bAdd (wVar 1) (wC (.int 1))) (q0e (wC (.str "abcdefghijklmnopqrstuvwxyz")) wNil)))))
 q1k)
 (wRet (wBin bAdd (wVar 1) (wC (.int 1)))))))
def q2z:WS:=
 (wSeq (wIfS (wOr (q0u (wBin cEq (wVar 0) (wC (.str "")))) (wAnd (q0u (wBin cEq (wBin bIx (wVar 0) (wC (.int 0))) (wC (.str "0")))) (q0u (wBin cNe (wVar 0) (wC (.str "0"))))))
 (q3j "NoTerm" (q0e (wC (.str "a bound one is written # and its figures, no nought ahead")) wNil))
 q1k)
 (wSeq (wIfS (q0u (wBin cGt (wCB fLen (q0e (wVar 0) wNil)) (wC (.int 2))))
 (q3j "NoTerm" (q0e (wC (.str "a bound one belongs to no fn")) wNil))
 q1k)
 (wRet (wCB y7o (q0e (wVar 0) wNil)))))
def q2q(spread_kind:Den):WS:=
 (y4y ["NoKind"] (y4q (z3h spread_kind (q0e (wVar 0) wNil)))
 z7c)
def q4b(spis_name:Den)(spread_number:Den)(spread_fn_kind:Den):WS:=
 (wSeq (wIfS (q0u (wBin cIn (wVar 0) (wC (.tup [(.str "("),(.str ")")]))))
 (wRet (wVar 0))
 q1k)
 (wSeq (wIfS (wTru (q0v spis_name (q0e (wVar 0) wNil)))
 (wRet (wTup (q0e (wC (.str "name")) (q0e (wVar 0) wNil))))
 q1k)
 (wSeq (wIfS (q0u (wBin cEq (wBin bIx (wVar 0) (wC (.int 0))) (wC (.str "#"))))
 (wRet (wTup (q0e (wC (.str "bound")) (q0e (q0v spread_number (q0e (wSl (wVar 0) (q7k (wC (.int 1))) q5d) wNil)) wNil))))
 q1k)
 (wSeq (wIfS (wAnd (q0u (wBin cEq (wBin bIx (wVar 0) (wC (.int 0))) (wC (.str "[")))) (q0u (wBin cEq (wBin bIx (wVar 0) (wNeg (wC (.int 1)))) (wC (.str "]")))))
 (wRet (wTup (q0e (wC (.str "fn")) (q0e (q0v spread_fn_kind (q0e (wSl (wVar 0) (q7k (wC (.int 1))) (q7k (wNeg (wC (.int 1))))) wNil)) wNil))))
 q1k)
 (q3j "NoTerm" (q0e (wC (.str "a term is written of names, bound ones, kinds of fns and brackets alone")) wNil))))))
def q3q(sptoken_end:Den)(sptoken_of:Den):WS:=
 (wSeq (wSet 1 (wLst wNil))
 (wSeq (wSet 2 (wC (.int 0)))
 (wSeq (q6k (q0u (wBin cLt (wVar 2) (wCB fLen (q0e (wVar 0) wNil)))) (wSeq (wSet 3 (q0v sptoken_end (q0e (wVar 0) (q0e (wVar 2) wNil))))
 (wSeq (q2e (wBM "list" q1i (wVar 1) (q0e (q0v sptoken_of (q0e (wSl (wVar 0) (q7k (wVar 2)) (q7k (wVar 3))) wNil)) wNil)))
 (wSet 2 (wVar 3)))))
 (wRet (wVar 1)))))
def q2g:WS:=
 (wSeq (wIfS (wNot (wTru (wVar 0)))
 (q3j "NoTerm" (q0e (wC (.str "a bracket ends that did not begin")) wNil))
 q1k)
 (wSeq (wSet 2 (wBin bIx (wBM0 "list" mPop (wVar 0)) (wC (.int 1))))
 (wSeq (wIfS (q0u (wBin z0o (wVar 2) (wC .non)))
 (wRet (wTup (q0e (wC (.str "of")) (q0e (wVar 2) (q0e (wVar 1) wNil)))))
 q1k)
 (wSeq (wIfS (q0u (wBin cNe (wBin bIx (wVar 1) (wC (.int 0))) (wC (.str "fn"))))
 (q3j "NoTerm" (q0e (wC (.str "brackets of its own has an f that is a fn alone")) wNil))
 q1k)
 (wRet (wTup (q0e (wC (.str "brackets")) (q0e (wVar 1) wNil))))))))
def q4a:WS:=
 (wSeq (wIfS (wOr (q0u (wBin cIs (wVar 1) (wC .non))) (q0u (wBin cEq (wBin bIx (wVar 1) (wC (.int 0))) (wC (.str "brackets")))))
 (q3j "NoTerm" (q0e (wC (.str "a body, or what stands in brackets or behind them, is missing")) wNil))
 q1k)
 (wSeq (q6k (wAnd (wTru (wVar 0)) (q0u (wBin cEq (wBin bIx (wBin bIx (wVar 0) (wNeg (wC (.int 1)))) (wC (.int 0))) (wC (.str "fn"))))) (wSeq (wSet 2 (wBM0 "list" mPop (wVar 0)))
 (wSet 1 (wTup (q0e (wC (.str "fn")) (q0e (wBin bIx (wVar 2) (wC (.int 1))) (q0e (wVar 1) wNil)))))))
 (wRet (wVar 1))))
def q3p:WS:=
 (wSeq (wIfS (wAnd (q0u (wBin z0o (wVar 0) (wC .non))) (q0u (wBin cEq (wBin bIx (wVar 0) (wC (.int 0))) (wC (.str "brackets")))))
 (wRet (wBin bIx (wVar 0) (wC (.int 1))))
 q1k)
 (wRet (wVar 0)))
def q2b(spclose_bracket:Den)(spwith_fns:Den)(spunwrapped:Den):WS:=
 (wSeq (wSet 1 (wLst wNil))
 (wSeq (wSet 2 (wC .non))
 (wSeq (wFor (q7o (wVar 0)) (q1o 3) (wIfS (q0u (wBin cEq (wVar 3) (wC (.str ")"))))
 (wSet 2 (q0v spclose_bracket (q0e (wVar 1) (q0e (q0v spwith_fns (q0e (wVar 1) (q0e (wVar 2) wNil))) wNil))))
 (wIfS (q0u (wBin cEq (wVar 3) (wC (.str "("))))
 (wSeq (q2e (wBM "list" q1i (wVar 1) (q0e (wTup (q0e (wC (.str "of")) (q0e (q0v spunwrapped (q0e (wVar 2) wNil)) wNil))) wNil)))
 (wSet 2 (wC .non)))
 (wIfS (q0u (wBin z0o (wVar 2) (wC .non)))
 (q3j "NoTerm" (q0e (wC (.str "behind a term stands a bracket or nothing")) wNil))
 (wIfS (q0u (wBin cEq (wBin bIx (wVar 3) (wC (.int 0))) (wC (.str "fn"))))
 (q2e (wBM "list" q1i (wVar 1) (q0e (wVar 3) wNil)))
 (wSet 2 (wVar 3)))))))
 (wSeq (wSet 2 (q0v spwith_fns (q0e (wVar 1) (q0e (wVar 2) wNil))))
 (wSeq (wIfS (wTru (wVar 1))
 (q3j "NoTerm" (q0e (wC (.str "a bracket has no end")) wNil))
 q1k)
 (wRet (wVar 2)))))))
def q4d(spparts_and_fns:Den):WS:=
 (wSeq (wSet 1 (wLst wNil))
 (wSeq (wFor (y4x (q0v spparts_and_fns (q0e (wVar 0) wNil))) (q7i 2 (q2l (q1o 2) (q2l (q1o 3) q7j))) (wIfS (q0u (wBin cEq (wBin bIx (wVar 2) (wC (.int 0))) (wC (.str "of"))))
 (q2e (wBM "list" q1i (wVar 1) (q0e (wBin bAdd (wC (.int 1)) (wCB fMax (q0e (wBM0 "list" mPop (wVar 1)) (q0e (wBM0 "list" mPop (wVar 1)) wNil)))) wNil)))
 (wIfS (q0u (wBin cEq (wBin bIx (wVar 2) (wC (.int 0))) (wC (.str "fn"))))
 (q2e (wBM "list" q1i (wVar 1) (q0e (wBin bAdd (wC (.int 1)) (wBM0 "list" mPop (wVar 1))) wNil)))
 (q2e (wBM "list" q1i (wVar 1) (q0e (wC (.int 0)) wNil))))))
 (wRet (wBin bIx (wVar 1) (wC (.int 0))))))
def q3u(sptokens_of:Den)(spterm_of_tokens:Den)(spsize_of:Den)(spdepth_of:Den)(spis_closed:Den):WS:=
 (wSeq (wIfS (wNot (wTru (wCB fIsi (q0e (wVar 0) (q0e (wC (.ty "str")) wNil)))))
 (q3j "NoTerm" (q0e (wC (.str "a term is read of a text alone")) wNil))
 q1k)
 (wSeq (wSet 1 (q0v sptokens_of (q0e (wVar 0) wNil)))
 (wSeq (wIfS (q0u (wBin cGt (wCB fLen (q0e (q7e (q7o (wVar 1)) [none] (q1o 0) (q0u (wBin q7h (wVar 0) (wC (.tup [(.str "("),(.str ")")])))) (wVar 0)) wNil)) (wC (.int 30))))
 (q3j "NoTerm" (q0e (wC (.str "a term that is read has at most thirty parts")) wNil))
 q1k)
 (wSeq (wSet 2 (q0v spterm_of_tokens (q0e (wVar 1) wNil)))
 (wSeq (wIfS (wOr (q0u (wBin cGt (q0v spsize_of (q0e (wVar 2) wNil)) (wC (.int 30)))) (q0u (wBin cGt (q0v spdepth_of (q0e (wVar 2) wNil)) (wC (.int 12)))))
 (q3j "NoTerm" (q0e (wC (.str "a term that is read has at most thirty parts and is at most twelve deep")) wNil))
 q1k)
 (wSeq (wIfS (wNot (wTru (q0v spis_closed (q0e (wVar 2) wNil))))
 (q3j "NoTerm" (q0e (wC (.str "a bound one belongs to no fn")) wNil))
 q1k)
 (wRet (wVar 2))))))))
def q3s(spshow_kind:Den):WS:=
 (wSeq (wSet 1 (wLst (q0e (wVar 0) wNil)))
 (wSeq (wSet 2 (wLst wNil))
 (wSeq (q6k (wTru (wVar 1)) (wSeq (wSet 3 (wBM0 "list" mPop (wVar 1)))
 (wIfS (wTru (wCB fIsi (q0e (wVar 3) (q0e (wC (.ty "str")) wNil))))
 (q2e (wBM "list" q1i (wVar 2) (q0e (wVar 3) wNil)))
 (wIfS (q0u (wBin cEq (wBin bIx (wVar 3) (wC (.int 0))) (wC (.str "name"))))
 (q2e (wBM "list" q1i (wVar 2) (q0e (wBin bIx (wVar 3) (wC (.int 1))) wNil)))
 (wIfS (q0u (wBin cEq (wBin bIx (wVar 3) (wC (.int 0))) (wC (.str "bound"))))
 (q2e (wBM "list" q1i (wVar 2) (q0e (wBin bAdd (wC (.str "#")) (wCB fStr (q0e (wBin bIx (wVar 3) (wC (.int 1))) wNil))) wNil)))
 (wIfS (q0u (wBin cEq (wBin bIx (wVar 3) (wC (.int 0))) (wC (.str "fn"))))
 (wSeq (q2e (wBM "list" q1i (wVar 2) (q0e (wBin bAdd (wBin bAdd (wC (.str "[")) (q0v spshow_kind (q0e (wBin bIx (wVar 3) (wC (.int 1))) wNil))) (wC (.str "]"))) wNil)))
 (q2e (wBM "list" q1i (wVar 1) (q0e (wBin bIx (wVar 3) (wC (.int 2))) wNil))))
 (wIfS (q0u (wBin cEq (wBin bIx (wBin bIx (wVar 3) (wC (.int 1))) (wC (.int 0))) (wC (.str "fn"))))
 (q2e (wBM "list" q6o (wVar 1) (q0e (wLst (q0e (wC (.str ")")) (q0e (wBin bIx (wVar 3) (wC (.int 2))) (q0e (wC (.str "(")) (q0e (wC (.str ")")) (q0e (wBin bIx (wVar 3) (wC (.int 1))) (q0e (wC (.str "(")) wNil))))))) wNil)))
 (q2e (wBM "list" q6o (wVar 1) (q0e (wLst (q0e (wC (.str ")")) (q0e (wBin bIx (wVar 3) (wC (.int 2))) (q0e (wC (.str "(")) (q0e (wBin bIx (wVar 3) (wC (.int 1))) wNil))))) wNil))))))))))
 (wRet (wBM "str" z8z (wC (.str "")) (q0e (wVar 2) wNil))))))
def q4e(spread_term:Den):WS:=
 (wSeq (wSet 1 (wC (.bl false)))
 (wSeq (wTry 2 ["NoKind", "NoTerm"] (z7b (z3h spread_term (q0e (wVar 0) wNil)))
 (wSeq (wSet 3 (wIsX (wVar 2) [("NoKind",true),("NoTerm",false)]))
 (wSeq (wSet 3 (wOrV (wVar 3) (wIsX (wVar 2) [("NoKind",false),("NoTerm",false)])))
 (wSet 1 (z0r (wIsX (wVar 2) [("NoKind",false),("NoTerm",true)]) (z0r (wIsX (wVar 2) [("NoKind",true),("NoTerm",true)]) (z9w (wVar 3))))))))
 (wRet (wVar 1))))
def q3h(spLsame:Den)(spread_term:Den)(spshow_term:Den)(spLrefused:Den):WS:=
 (wSeq (wFor (q5c (q0e (wC (.int 12)) wNil)) (q1o 1) (wSeq (wSet 2 (wTup (q0e (wC (.str "fn")) (q0e (wVar 0) (q0e (wTup (q0e (wC (.str "bound")) (q0e (wVar 1) wNil))) wNil)))))
 (wSeq (wFor (q5c (q0e (wVar 1) wNil)) (q1o 3) (wSet 2 (wTup (q0e (wC (.str "fn")) (q0e (wVar 0) (q0e (wVar 2) wNil))))))
 (wSeq (wSet 4 (wBin y4k (wBin bAdd (wBin bAdd (wC (.str "[")) (wVar 0)) (wC (.str "]"))) (wBin bAdd (wVar 1) (wC (.int 1)))))
 (wSeq (wIfS (wOr (wNot (wTru (q0v spLsame (q0e (wVar 2) (q0e (q0v spread_term (q0e (wBin bAdd (wBin bAdd (wVar 4) (wC (.str "#"))) (wCB fStr (q0e (wVar 1) wNil))) wNil)) wNil))))) (q0u (wBin cNe (q0v spshow_term (q0e (wVar 2) wNil)) (wBin bAdd (wBin bAdd (wVar 4) (wC (.str "#"))) (wCB fStr (q0e (wVar 1) wNil))))))
 (wRet (wC (.bl false)))
 q1k)
 (wIfS (wNot (wTru (q0v spLrefused (q0e (wBin bAdd (wBin bAdd (wVar 4) (wC (.str "#"))) (wCB fStr (q0e (wBin bAdd (wVar 1) (wC (.int 1))) wNil))) wNil))))
 (wRet (wC (.bl false)))
 q1k))))))
 (wRet (wC (.bl true))))
def q2m(spLkind_text:Den):WS:=
 (wSeq (wIfS (wTru (wCB fIsi (q0e (wVar 0) (q0e (wC (.ty "str")) wNil))))
 (wRet (wVar 0))
 q1k)
 (wRet (wBin bAdd (wBin bAdd (wBin bAdd (wBin bAdd (wC (.str "(")) (q0v spLkind_text (q0e (wBin bIx (wVar 0) (wC (.int 0))) wNil))) (wC (.str ">"))) (q0v spLkind_text (q0e (wBin bIx (wVar 0) (wC (.int 1))) wNil))) (wC (.str ")")))))
def q3d(spLkind_text:Den)(spLtext:Den):WS:=
 (wSeq (wIfS (q0u (wBin cEq (wBin bIx (wVar 0) (wC (.int 0))) (wC (.str "name"))))
 (wRet (wBin bIx (wVar 0) (wC (.int 1))))
 q1k)
 (wSeq (wIfS (q0u (wBin cEq (wBin bIx (wVar 0) (wC (.int 0))) (wC (.str "bound"))))
 (wRet (wBin bAdd (wC (.str "#")) (wCB fStr (q0e (wBin bIx (wVar 0) (wC (.int 1))) wNil))))
 q1k)
 (wSeq (wIfS (q0u (wBin cEq (wBin bIx (wVar 0) (wC (.int 0))) (wC (.str "fn"))))
 (wRet (wBin bAdd (wBin bAdd (wBin bAdd (wC (.str "[")) (q0v spLkind_text (q0e (wBin bIx (wVar 0) (wC (.int 1))) wNil))) (wC (.str "]"))) (q0v spLtext (q0e (wBin bIx (wVar 0) (wC (.int 2))) wNil))))
 q1k)
 (wSeq (wSet 1 (q0v spLtext (q0e (wBin bIx (wVar 0) (wC (.int 1))) wNil)))
 (wSeq (wIfS (q0u (wBin cEq (wBin bIx (wBin bIx (wVar 0) (wC (.int 1))) (wC (.int 0))) (wC (.str "fn"))))
 (wSet 1 (wBin bAdd (wBin bAdd (wC (.str "(")) (wVar 1)) (wC (.str ")"))))
 q1k)
 (wRet (wBin bAdd (wBin bAdd (wBin bAdd (wVar 1) (wC (.str "("))) (q0v spLtext (q0e (wBin bIx (wVar 0) (wC (.int 2))) wNil))) (wC (.str ")")))))))))
def q2r(spLdepth:Den):WS:=
 (wSeq (wIfS (q0u (wBin cEq (wBin bIx (wVar 0) (wC (.int 0))) (wC (.str "fn"))))
 (wRet (wBin bAdd (wC (.int 1)) (q0v spLdepth (q0e (wBin bIx (wVar 0) (wC (.int 2))) wNil))))
 q1k)
 (wSeq (wIfS (q0u (wBin cEq (wBin bIx (wVar 0) (wC (.int 0))) (wC (.str "of"))))
 (wRet (wBin bAdd (wC (.int 1)) (wCB fMax (q0e (q0v spLdepth (q0e (wBin bIx (wVar 0) (wC (.int 1))) wNil)) (q0e (q0v spLdepth (q0e (wBin bIx (wVar 0) (wC (.int 2))) wNil)) wNil)))))
 q1k)
 (wRet (wC (.int 0)))))
def q6w(spLdeck:Den)(spLworld:Den)(spLnext:Den)(spLkind:Den)(spLterm:Den)(spLgrown_kind:Den)(spLfar_bound:Den)(spLtext:Den)(spshow_term:Den)(spLsize:Den)(spLdepth:Den)(spLrefused:Den)(spread_term:Den)(spLsame:Den):WS:=
 (wSeq (wSet 1 (q0v spLdeck (q0e (wVar 0) wNil)))
 (wSeq (wSet 2 (q0v spLworld (q0e (wVar 1) (q0e (wBin bAdd (wC (.int 1)) (wBin bMul (wBin bMod (q0v spLnext (q0e (wVar 1) wNil)) (wC (.int 2))) (wC (.int 2)))) (q0e (wC (.bl false)) wNil)))))
 (wSeq (wSet 3 (q0v spLkind (q0e (wVar 1) (q0e (wBin bIx (wVar 2) (wC (.str "basics"))) (q0e (wC (.int 2)) wNil)))))
 (wSeq (wSet 4 (q0v spLterm (q0e (wVar 1) (q0e (wVar 2) (q0e (wVar 3) (q0e (wLst wNil) (q0e (wBin bAdd (wC (.int 1)) (wBin bMod (q0v spLnext (q0e (wVar 1) wNil)) (wC (.int 4)))) wNil)))))))
 (wSeq (wFor (q5c (q0e (wCB fMax (q0e (wC (.int 0)) (q0e (wBin bSub (wBin bMod (q0v spLnext (q0e (wVar 1) wNil)) (wC (.int 17))) (wC (.int 4))) wNil))) wNil)) (q1o 5) (wSeq (wSet 3 (q0v spLkind (q0e (wVar 1) (q0e (wBin bIx (wVar 2) (wC (.str "basics"))) (q0e (wC (.int 2)) wNil)))))
 (wSeq (wIfS (q0u (wBin cLt (wVar 5) (wC (.int 4))))
 (wSet 3 (q0v spLgrown_kind (q0e (wVar 1) (q0e (wBin bAdd (wC (.int 1)) (wBin bMod (q0v spLnext (q0e (wVar 1) wNil)) (wC (.int 12)))) wNil))))
 q1k)
 (wSet 4 (wTup (q0e (wC (.str "fn")) (q0e (wVar 3) (q0e (wVar 4) wNil))))))))
 (wSeq (wIfS (wNot (wTru (q0v spLfar_bound (q0e (wBin bIx (wBin bIx (wVar 2) (wC (.str "basics"))) (wC (.int 0))) wNil))))
 (wRet (wC (.bl false)))
 q1k)
 (wSeq (wSet 6 (q0v spLtext (q0e (wVar 4) wNil)))
 (wSeq (wSet 7 (q0v spshow_term (q0e (wVar 4) wNil)))
 (wSeq (wIfS (wOr (wNot (wTru (wCB fIsi (q0e (wVar 7) (q0e (wC (.ty "str")) wNil))))) (q0u (wBin cNe (wVar 7) (wVar 6))))
 (wRet (wC (.bl false)))
 q1k)
 (wSeq (wIfS (wOr (q0u (wBin cGt (q0v spLsize (q0e (wVar 4) wNil)) (wC (.int 30)))) (q0u (wBin cGt (q0v spLdepth (q0e (wVar 4) wNil)) (wC (.int 12)))))
 (wRet (q0v spLrefused (q0e (wVar 6) wNil)))
 q1k)
 (wSeq (wSet 8 (q0v spread_term (q0e (wVar 6) wNil)))
 (wRet (z0r (q0v spLsame (q0e (wVar 4) (q0e (wVar 8) wNil))) (wBin cEq (q0v spshow_term (q0e (wVar 8) wNil)) (wVar 6)))))))))))))))
def Tm.g8:Tm->Nat->Prop
 |.nm w,_=>q1r w=true
 |.lf _ _,_=>False
 |.bd k,n=>k<n
 |.fn k t,n=>(∃q:Kd,k=q.pv/\q.ok/\q.lv<=12)/\t.g8 (n+1)
 |.ap f a,n=>f.g8 n/\a.g8 n
theorem y2d:∀k:Kd,k.lv<=2 ^ k.dp
 |.a _=>by simp[Kd.lv,Kd.dp]
 |.p f t=>by
  have a:=y2d f
  have b:=y2d t
  have c:2 ^ f.dp<=2 ^ max f.dp t.dp:=Nat.pow_le_pow_right (by decide) (by omega)
  have d:2 ^ t.dp<=2 ^ max f.dp t.dp:=Nat.pow_le_pow_right (by decide) (by omega)
  simp only[Kd.lv,Kd.dp,Nat.pow_succ]
  omega
def Kd.o8:Kd->Prop
 |.a s=>q1r s=true
 |.p f t=>(f.ok/\f.lv<=12)/\t.o8
theorem x1u:∀{k:Kd},k.ok->k.dp<=3->k.o8
 |.a _,h,_=>h
 |.p f t,h,d=>by
  simp only[Kd.dp]at d
  have a:=y2d f
  have b:=Nat.pow_le_pow_right (n:=2) (by decide) (show f.dp<=3 by omega)
  have c:=Nat.pow_le_pow_right (n:=2) (by decide) (show f.dp<=2 by omega)
  exact⟨⟨h.1,by omega⟩,x1u h.2 (by omega)⟩
theorem z8i{ws:List Str}{i:Int}(h:ws≠[]):∃y,y∈ws/\atI (ws.map PV.str) (i % (ws.length:Int))=some (.str y):=by
 have hp:0<ws.length:=List.length_pos_iff.mpr h
 have h0:0<=i % (ws.length:Int):=Int.emod_nonneg _ (by omega)
 have h1:i % (ws.length:Int)<ws.length:=Int.emod_lt_of_pos _ (by omega)
 unfold atI ixN
 rw[List.length_map,if_pos h0,if_pos h1]
 have:(i % (ws.length:Int)).toNat<ws.length:=by omega
 exact⟨ws[(i % (ws.length:Int)).toNat],List.getElem_mem _,by simp[this]⟩
theorem y7e{T N:Nat->Den}(hT:∀n,T (n+1)=fnP 3 4 (q4p (N n) (T n)))(hN:∀n,z7a (N (n+1))):∀(deep n:Nat),deep+2<=n->∀(d c b:Nat)(ws:List Str)(S:q0i)(E:EK)(Q:VC),Deck d c S->S[b]?=some (.lst (ws.map PV.str))->ws≠[]->(∀w∈ws,q1r w=true)->b≠d->b≠c->
  (∀(k:Kd) S',k.dp<=deep->k.ok->Deck d c S'->Ex [d,c] S S'->Q k.pv S')->T n [.ref d,.ref b,.int deep] S E Q:=by
 intro deep
 induction deep with
 |zero=>
  intro n hn d c b ws S E Q hd hb hw hv n1 n2 h
  obtain⟨m,rfl⟩:∃m,n=m+1+1:=⟨n-2,by omega⟩
  rw[hT]
  refine⟨rfl,?_⟩
  unfold q4p
  refine seqI fun K hK=>?_
  dsimp![true_and]
  refine hN m d c _ _ _ hd fun way S1 w0 w1 hd1 hx1=>hK _ _ ?_
  have hb1:=hx1.get hb (by simp;exact⟨n1,n2⟩)
  refine seqI fun K hK=>?_
  obtain⟨y,hym,hy⟩:=z8i (i:=way / 3) hw
  dsimp![q0x hb1,hb1,List.length_map,Int.ofNat_eq_natCast,Int.natCast_zero]
  rw[hy]
  have:0<ws.length:=List.length_pos_iff.mpr hw
  refine⟨by decide,by omega,h (.a y) _ (Nat.le_refl _) (hv y hym) hd1 hx1⟩
 |succ deep ih=>
  intro n hn d c b ws S E Q hd hb hw hv n1 n2 h
  obtain⟨m,rfl⟩:∃m,n=m+1+1:=⟨n-2,by omega⟩
  rw[hT]
  refine⟨rfl,?_⟩
  unfold q4p
  refine seqI fun K hK=>?_
  dsimp![true_and]
  refine hN m d c _ _ _ hd fun way S1 w0 w1 hd1 hx1=>hK _ _ ?_
  have hb1:=hx1.get hb (by simp;exact⟨n1,n2⟩)
  have:0<ws.length:=List.length_pos_iff.mpr hw
  refine seqI fun K hK=>?_
  obtain⟨y,hym,hy⟩:=z8i (i:=way / 3) hw
  have e0:(((deep+1:Nat):Int)=0)=False:=eq_false (by omega)
  dsimp![q0x hb1,hb1,List.length_map,e0]
  rw[hy]
  refine⟨by decide,ite2 (fun z=>⟨by decide,by omega,h (.a y) _ (Nat.zero_le _) (hv y hym) hd1 hx1⟩) (fun z=>hK _ _ ?_)⟩
  dsimp![true_and]
  rw[show((deep+1:Nat):Int)-1=(deep:Int) by omega]
  refine ih (m+1) (by omega) d c b ws _ _ _ hd1 hb1 hw hv n1 n2 fun k1 S2 l1 q1 hd2 hx2=>?_
  have hb2:=hx2.get hb1 (by simp;exact⟨n1,n2⟩)
  refine ih (m+1) (by omega) d c b ws _ _ _ hd2 hb2 hw hv n1 n2 fun k2 S3 l2 q2 hd3 hx3=>?_
  exact⟨big (by decide),h (.p k1 k2) S3 (by simp only[Kd.dp];omega) ⟨q1,q2⟩ hd3 ((hx1.trans hx2).trans hx3)⟩
def q9m(b m d:Nat)(u:Int):List (Key×PV):=[(.inr (Str.ofString "basics"),.ref b),(.inr (Str.ofString "names"),.ref m),(.inr (Str.ofString "deck"),.ref d),(.inr (Str.ofString "uses"),.int u),(.inr (Str.ofString "leaves"),.bl false)]
theorem q6v(b m d:Nat)(u:Int):valP (q9m b m d u) (.inr (Str.ofString "basics"))=some (.ref b):=rfl
theorem q9n(b m d:Nat)(u:Int):valP (q9m b m d u) (.inr (Str.ofString "names"))=some (.ref m):=rfl
theorem y4v(b m d:Nat)(u:Int):valP (q9m b m d u) (.inr (Str.ofString "deck"))=some (.ref d):=rfl
theorem y4u(b m d:Nat)(u:Int):valP (q9m b m d u) (.inr (Str.ofString "uses"))=some (.int u):=rfl
theorem z8n(b m d:Nat)(u:Int):valP (q9m b m d u) (.inr (Str.ofString "leaves"))=some (.bl false):=rfl
structure W8(w b m d c N:Nat)(S:q0i):Prop where
 dk:Deck d c S
 wd:∃u,S[w]?=some (.dK (q9m b m d u))
 bs:∃ws:List Str,S[b]?=some (.lst (ws.map PV.str))/\ws≠[]/\∀w∈ws,q1r w=true
 nm:∃ps:List (Str×Kd),S[m]?=some (.lst (ps.map encN))/\ps.length<=N/\∀p∈ps,q1r p.1=true/\p.2.dp<=20
 ne:(w≠d/\w≠c)/\(b≠d/\b≠c)/\(m≠d/\m≠c)/\w≠m/\b≠m
theorem W8.ex{w b m d c N:Nat}{S S':q0i}(h:W8 w b m d c N S){D:List Nat}(e:Ex D S S')(hw:w∉D)(hb:b∉D)(hm:m∉D)(hd:d∉D)(hc:c∉D):W8 w b m d c N S':=by
 obtain⟨dk,⟨u,wd⟩,⟨ws,b1,b2⟩,⟨ps,p1,p2⟩,ne⟩:=h
 exact⟨dk.ex e hd hc,⟨u,e.get wd hw⟩,⟨ws,e.get b1 hb,b2⟩,⟨ps,e.get p1 hm,p2⟩,ne⟩
theorem W8.nx{w b m d c N:Nat}{S S':q0i}(h:W8 w b m d c N S)(hd:Deck d c S')(e:Ex [d,c] S S'):W8 w b m d c N S':=by
 obtain⟨dk,⟨u,wd⟩,⟨ws,b1,b2⟩,⟨ps,p1,p2⟩,ne⟩:=h
 exact⟨hd,⟨u,e.get wd (by simp;exact ne.1)⟩,⟨ws,e.get b1 (by simp;exact ne.2.1),b2⟩,⟨ps,e.get p1 (by simp;exact ne.2.2.1),p2⟩,ne⟩
theorem W8.le{w b m d c N N':Nat}{S:q0i}(h:W8 w b m d c N S)(l:N<=N'):W8 w b m d c N' S:=by
 obtain⟨dk,wd,bs,⟨ps,p1,p2,p3⟩,ne⟩:=h
 exact⟨dk,wd,bs,⟨ps,p1,Nat.le_trans p2 l,p3⟩,ne⟩
def y9y(sp:Den):Prop:=∀(d c:Nat)(u:Int)(S:q0i)(E:EK)(Q:VC),Deck d c S->(∀w b m S',W8 w b m d c 0 S'->Q (.ref w) S')->sp [.ref d,.int u,.bl false] S E Q
theorem z9t{sp:Den}(hw:z8k sp):y9y (fnP 3 4 (q4w sp)):=by
 intro d c u S E Q hd h
 refine⟨rfl,?_⟩
 unfold q4w
 refine seqI fun K hK=>?_
 dsimp![true_and]
 refine hw d c 3 _ _ _ hd (by decide) fun n ws S1 e hl hna hn hd1 hx=>hK _ _ ?_
 have hdl:d<S1.length:=by obtain⟨⟨_,_,_,_,_,_,g,_⟩,_⟩:=hd1;exact q1e g
 have hcl:c<S1.length:=by obtain⟨⟨_,_,_,_,_,_,_,g,_⟩,_⟩:=hd1;exact q1e g
 have hdl0:d<S.length:=by obtain⟨⟨_,_,_,_,_,_,g,_⟩,_⟩:=hd;exact q1e g
 have hcl0:c<S.length:=by obtain⟨⟨_,_,_,_,_,_,_,g,_⟩,_⟩:=hd;exact q1e g
 have hnl:n<S1.length:=q1e e
 dsimp![true_and]
 have em:z3v [] [(Sum.inr (Str.ofString "basics"),PV.ref n),(Sum.inr (Str.ofString "names"),PV.ref (List.length (S1++[SO.dK []]))),(Sum.inr (Str.ofString "deck"),PV.ref d),(Sum.inr (Str.ofString "uses"),PV.int u),(Sum.inr (Str.ofString "leaves"),PV.bl false)]=q9m n (S1++[SO.dK []]).length d u:=rfl
 rw[em]
 have hl2:(S1++[SO.dK []]).length=S1.length+1:=by simp
 have g1:=q1x (q1t S1 (SO.dK [])) [SO.lst []]
 have g2:=q1t (S1++[SO.dK []]) (SO.lst [])
 have g3:=q1x (q1x e [SO.dK []]) [SO.lst []]
 refine⟨big (by decide),⟨g1,by decide⟩,h S1.length n (S1++[SO.dK []]).length _ ⟨?_,⟨u,q1j _ g1⟩,⟨ws,q2v _ g3 (by omega),(by rintro rfl;simp at hl),hna⟩,⟨[],q2v _ g2 (by omega),Nat.le_refl _,by simp⟩,?_⟩⟩
 ·refine hd1.ex (D:=[S1.length]) ((((Ex.refl _ _).app _).app _).set (.inl (by simp))) (by simp;omega) (by simp;omega)
 ·rw[hl2];exact⟨⟨by omega,by omega⟩,⟨by omega,by omega⟩,⟨by omega,by omega⟩,by omega,by omega⟩
def x3s(sp:Den):Prop:=∀(w b m d c N:Nat)(k:Kd)(cell:Int)(S:q0i)(E:EK)(Q:VC),W8 w b m d c N S->N+1<=79->k.dp<=7->(∀(t:Tm) S',t.dp=0->t.sz=1->(∀n,t.g8 n)->W8 w b m d c (N+1) S'->Ex [m,d,c] S S'->Q t.pv S')->sp [.ref w,k.pv,.int cell] S E Q
theorem y6z{sw sf sn:Den}(hn:z8l sn):x3s (fnP 3 6 (q5l sw sf sn)):=by
 intro w b m d c N k cell S E Q hW hN hk h
 obtain⟨u,gw⟩:=hW.wd
 obtain⟨ps,gm,pl,pn⟩:=hW.nm
 have hne:=hW.ne
 refine⟨rfl,?_⟩
 unfold q5l
 have rest:wSeq (wFor (q7o (wBin bIx (wVar 0) (wC (.str "names")))) (q7i 2 (q2l (q1o 3) (q2l (q1o 4) q7j))) (wIfS (wAnd (q0u (wBin cEq (wVar 4) (wVar 1))) (q0u (wBin cGt (wBin bMod (wBin q5h (wVar 2) (wC (.int 2))) (wC (.int 4))) (wC (.int 0)))))
   (wRet (wTup (q0e (wC (.str "name")) (q0e (wVar 3) wNil))))
   q1k))
   (wSeq (wSet 5 (q0v sn (q0e (wBin bIx (wVar 0) (wC (.str "deck"))) (q0e (q7e (q7o (wBin bIx (wVar 0) (wC (.str "names")))) [none,none] (q7i 2 (q2l (q1o 0) (q2l (q1o 1) q7j))) q6h (wVar 0)) wNil))))
   (wSeq (q2e (wBM "list" q1i (wBin bIx (wVar 0) (wC (.str "names"))) (q0e (wTup (q0e (wVar 5) (q0e (wVar 1) wNil))) wNil)))
   (wRet (wTup (q0e (wC (.str "name")) (q0e (wVar 5) wNil)))))) {nx:=fun _ S'=>Q .non S',rt:=Q} E [some (.ref w),some k.pv,some (.int cell),none,none,none] S:=by
  refine seqI fun K hK=>?_
  dsimp![gw,q9n,q0x gm]
  refine forI (fun rest σ S2=>∃(qs:List (Str×Kd))(j1 j2:Option PV),rest=qs.map encN/\(∀p∈qs,p∈ps)/\σ=[some (.ref w),some k.pv,some (.int cell),j1,j2,none]/\S2=S) ?_ ?_ _ _ _ ⟨ps,none,none,rfl,fun _ z=>z,rfl,rfl⟩
  ·rintro σ S2 ⟨qs,j1,j2,hr,hq,rfl,rfl⟩
   refine⟨q0x gm,hK _ _ ?_⟩
   refine seqI fun K hK=>?_
   dsimp![gw,q9n,y4v,q0x gm]
   refine⟨by rw[List.length_map];exact big (by omega),?_⟩
   refine z4z (fun rest ys σ S3=>∃(qs rs:List (Str×Kd))(j1 j2:Option PV),rest=qs.map encN/\ys=rs.map (fun p=>PV.str p.1)/\rs++qs=ps/\σ=[j1,j2]/\S3=S2) ?_ ?_ _ _ _ _ ⟨ps,[],none,none,rfl,rfl,rfl,rfl,rfl⟩
   ·rintro ys σ S3 ⟨qs,rs,i1,i2,hr,rfl,hq2,rfl,rfl⟩
    obtain rfl:qs=[]:=by cases qs with
     |nil=>rfl
     |cons a b=>simp at hr
    rw[List.append_nil]at hq2
    subst hq2
    refine⟨q0x gm,?_⟩
    have g1:=q1t S3 (.lst (rs.map (fun p=>PV.str p.1)))
    have e1:rs.map (fun p=>PV.str p.1)=(rs.map (·.1)).map PV.str:=by simp
    rw[e1]at g1 ⊢
    have hx1:Ex [] S3 (S3++[.lst ((rs.map (·.1)).map PV.str)]):=Ex.new _ _ _
    have hW1:=hW.ex hx1 (by simp) (by simp) (by simp) (by simp) (by simp)
    have hdl:d<S3.length:=by obtain⟨⟨_,_,_,_,_,_,g,_⟩,_⟩:=hW.dk;exact q1e g
    have hcl:c<S3.length:=by obtain⟨⟨_,_,_,_,_,_,_,g,_⟩,_⟩:=hW.dk;exact q1e g
    refine hn d c S3.length (rs.map (·.1)) _ _ _ hW1.dk g1 (by rw[List.length_map];omega) ?_ (by omega) (by omega) fun ww S4 nw _ _ hd4 hx4=>hK _ _ ?_
    ·intro v hv
     obtain⟨p,hp,rfl⟩:=List.mem_map.mp hv
     exact(pn p hp).1
    have hW4:=hW1.nx hd4 hx4
    have hx5:Ex [m,d,c] S3 S4:=hx1.nil.trans (hx4.weak (by simp))
    have gm4:=hx4.get (q1x gm [.lst ((rs.map (·.1)).map PV.str)]) (by simp;exact hne.2.2.1)
    have gw4:=hx4.get (q1x gw [.lst ((rs.map (·.1)).map PV.str)]) (by simp;exact hne.1)
    refine seqI fun K2 hK2=>?_
    dsimp![gw4,q9n,gm4,q1l gm4]
    refine⟨big (by decide),by rw[List.length_map];exact bigl (by omega),hK2 _ _ ?_⟩
    dsimp![true_and]
    refine⟨big (by decide),h (.nm ww) _ rfl rfl (fun _=>nw) ?_ (hx5.set (.inl (by simp)))⟩
    obtain⟨dk,⟨u',wd⟩,⟨ws,b1,b2⟩,_,ne⟩:=hW4
    refine⟨dk.ex (D:=[m]) ((Ex.refl _ _).set (.inl (by simp))) (by simp;exact fun z=>hne.2.2.1.1 z.symm) (by simp;exact fun z=>hne.2.2.1.2 z.symm),⟨u',q2v _ wd (Ne.symm hne.2.2.2.1)⟩,⟨ws,q2v _ b1 (Ne.symm hne.2.2.2.2),b2⟩,⟨rs++[(ww,k)],?_,by simp;omega,?_⟩,ne⟩
    ·rw[q1j _ gm4];simp[encN]
    ·intro p hp
     rcases List.mem_append.mp hp with z|z
     ·exact pn p z
     ·simp at z;subst z;exact⟨nw,by simp only;omega⟩
   ·rintro x rest ys σ S3 ⟨qs,rs,i1,i2,hr,rfl,hq2,rfl,rfl⟩ N2 hN2
    obtain⟨u1,qs,rfl⟩:∃p r,qs=p::r:=by
     cases qs with
     |nil=>simp at hr
     |cons a b=>exact⟨a,b,rfl⟩
    simp only[List.map_cons,List.cons.injEq]at hr
    obtain⟨rfl,rfl⟩:=hr
    refine⟨q0x gm,?_⟩
    dsimp![encN]
    exact hN2 _ _ _ ⟨qs,rs++[u1],_,_,rfl,by simp,by simp[<-hq2],rfl,rfl⟩
  ·rintro x rest σ S2 ⟨qs,j1,j2,hr,hq,rfl,rfl⟩ N2 hN2
   obtain⟨u1,qs,rfl⟩:∃p r,qs=p::r:=by
    cases qs with
    |nil=>simp at hr
    |cons a b=>exact⟨a,b,rfl⟩
   simp only[List.map_cons,List.cons.injEq]at hr
   obtain⟨rfl,rfl⟩:=hr
   refine⟨q0x gm,?_⟩
   dsimp![encN]
   refine y9w (pn u1 (hq u1 (by simp))).2 (by omega) fun bb=>?_
   have nxt:N2 [some (.ref w),some k.pv,some (.int cell),some (.str u1.1),some u1.2.pv,none] S2:=hN2 _ _ ⟨qs,_,_,rfl,fun p hp=>hq p (by simp[hp]),rfl,rfl⟩
   dsimp![true_and]
   refine ite2 (fun z=>?_) (fun z=>nxt)
   refine⟨⟨by decide,by decide⟩,by decide,ite2 (fun z=>?_) (fun z=>nxt)⟩
   exact⟨big (by decide),h (.nm u1.1) S2 rfl rfl (fun _=>(pn u1 (hq u1 (by simp))).1) (hW.le (by omega)) (Ex.refl _ _)⟩
 refine seqI fun K hK=>?_
 dsimp![gw,z8n]
 exact hK _ _ rest
structure Ar8(w b m d c a:Nat)(rs:List Nat)(S:q0i):Prop where
 at':S[a]?=some (.lst (rs.map PV.ref))
 rw':∀r∈rs,∃(k:Kd)(u:Int),S[r]?=some (.lst [k.pv,.int u])/\k.dp<=20
 ne:∀r∈a::rs,r≠w/\r≠b/\r≠m/\r≠d/\r≠c
 na:a∉rs
theorem Ar8.ex{w b m d c a:Nat}{rs:List Nat}{S S':q0i}(h:Ar8 w b m d c a rs S)(e:Ex [m,d,c] S S'):Ar8 w b m d c a rs S':=by
 have g:∀r∈a::rs,r∉[m,d,c]:=fun r hr=>by have:=h.ne r hr;simp;exact⟨this.2.2.1,this.2.2.2.1,this.2.2.2.2⟩
 exact⟨e.get h.at' (g a (by simp)),fun r hr=>by obtain⟨k,u,h1,h2⟩:=h.rw' r hr;exact⟨k,u,e.get h1 (g r (by simp[hr])),h2⟩,h.ne,h.na⟩
theorem Ar8.nx{w b m d c a:Nat}{rs:List Nat}{S S':q0i}(h:Ar8 w b m d c a rs S)(e:Ex [d,c] S S'):Ar8 w b m d c a rs S':=h.ex (e.weak (by simp))
def y4m(sp:Den)(dd:Nat):Prop:=∀(w b m d c N a:Nat)(rs:List Nat)(k:Kd)(S:q0i)(E:EK)(Q:VC),W8 w b m d c N S->Ar8 w b m d c a rs S->N+2 ^ dd<=79->k.dp+dd<=7->k.o8->rs.length+dd<=50->
 (∀(t:Tm) S',t.dp<=2*dd->t.sz+2<=3*2 ^ dd->t.g8 rs.length->W8 w b m d c (N+2 ^ dd) S'->Ar8 w b m d c a rs S'->Q t.pv S')->sp [.ref d,.ref w,k.pv,.ref a,.int dd] S E Q
def Fn8(sp:Den)(dd:Nat):Prop:=∀(w b m d c N a:Nat)(rs:List Nat)(k0 k1:Kd)(S:q0i)(E:EK)(Q:VC),W8 w b m d c N S->Ar8 w b m d c a rs S->N+2 ^ dd<=79->k0.dp<=20->(k0.ok/\k0.lv<=12)->k1.dp+dd<=7->k1.o8->rs.length+dd+1<=50->
 (∀(t:Tm) S',t.dp<=2*dd+1->t.sz+1<=3*2 ^ dd->t.g8 rs.length->W8 w b m d c (N+2 ^ dd) S'->Ar8 w b m d c a rs S'->Q t.pv S')->sp [.ref d,.ref w,.tup [k0.pv,k1.pv],.ref a,.int ((dd+1:Nat):Int)] S E Q
theorem x7t{sp:Den}{dd:Nat}(ht:y4m sp dd):Fn8 (fnP 5 6 (q6y sp)) dd:=by
 intro w b m d c N a rs k0 k1 S E Q hW hA hN d0 o0 d1 o1 hl h
 obtain⟨u,gw⟩:=hW.wd
 refine⟨rfl,?_⟩
 unfold q6y
 refine seqI fun K hK=>?_
 dsimp![hA.at',gw,y4u,q0p]
 have g1:=q1x hA.at' [SO.lst [k0.pv,PV.int u]]
 have g2:=q1t S (SO.lst [k0.pv,PV.int u])
 refine⟨big (by decide),?_⟩
 dsimp![q1l g1]
 refine⟨by rw[List.length_map];exact bigl (by omega),hK _ _ ?_⟩
 have hal:a<S.length:=q1e hA.at'
 have hwl:w<S.length:=q1e gw
 have hbl:b<S.length:=by obtain⟨ws,g,_⟩:=hW.bs;exact q1e g
 have hml:m<S.length:=by obtain⟨ws,g,_⟩:=hW.nm;exact q1e g
 have hdl:d<S.length:=by obtain⟨⟨_,_,_,_,_,_,g,_⟩,_⟩:=hW.dk;exact q1e g
 have hcl:c<S.length:=by obtain⟨⟨_,_,_,_,_,_,_,g,_⟩,_⟩:=hW.dk;exact q1e g
 have hna:=hA.ne a (by simp)
 have e1:rs.map PV.ref++[PV.ref S.length]=(rs++[S.length]).map PV.ref:=by simp
 rw[e1]
 have hW1:W8 w b m d c N ((S++[SO.lst [k0.pv,PV.int u]]).set a (.lst ((rs++[S.length]).map PV.ref))):=hW.ex (D:=[a]) (((Ex.refl _ _).app _).set (.inl (by simp))) (by simp;exact Ne.symm hna.1) (by simp;exact Ne.symm hna.2.1) (by simp;exact Ne.symm hna.2.2.1) (by simp;exact Ne.symm hna.2.2.2.1) (by simp;exact Ne.symm hna.2.2.2.2)
 have hA1:Ar8 w b m d c a (rs++[S.length]) ((S++[SO.lst [k0.pv,PV.int u]]).set a (.lst ((rs++[S.length]).map PV.ref))):=by
  refine⟨q1j _ g1,fun r hr=>?_,fun r hr=>?_,?_⟩
  ·rcases List.mem_append.mp hr with z|z
   ·obtain⟨k,u',h1,h2⟩:=hA.rw' r z
    exact⟨k,u',q2v _ (q1x h1 _) (by rintro rfl;exact hA.na z),h2⟩
   ·simp at z;subst z
    exact⟨k0,u,q2v _ g2 (by omega),by omega⟩
  ·rcases List.mem_cons.mp hr with z|z
   ·subst z;exact hna
   ·rcases List.mem_append.mp z with z|z
    ·exact hA.ne r (by simp[z])
    ·simp at z;subst z;exact⟨by omega,by omega,by omega,by omega,by omega⟩
  ·simp only[List.mem_append,List.mem_singleton]
   rintro(z|z)
   ·exact hA.na z
   ·omega
 generalize (S++[SO.lst [k0.pv,PV.int u]]).set a (.lst ((rs++[S.length]).map PV.ref))=S1 at hW1 hA1 ⊢
 refine seqI fun K hK=>?_
 dsimp![q5f]
 rw[show((dd+1:Nat):Int)-1=(dd:Int) by omega]
 refine ht w b m d c N a _ k1 _ _ _ hW1 hA1 hN d1 o1 (by simp;omega) fun t S2 t1 t2 t3 hW2 hA2=>hK _ _ ?_
 refine seqI fun K hK=>?_
 have g3:=hA2.at'
 rw[List.map_append,List.map_cons,List.map_nil]at g3
 dsimp![g3,q1l g3,List.getLast?_append,List.getLast?_singleton,Option.or,Option.some_or,List.dropLast_concat]
 refine hK _ _ ?_
 dsimp![q0p]
 refine⟨big (by decide),h (.fn k0.pv t) _ (by simp only[Tm.dp];omega) (by simp only[Tm.sz];omega) ⟨⟨k0,rfl,o0⟩,by rw[List.length_append,List.length_singleton]at t3;exact t3⟩ (hW2.ex (D:=[a]) ((Ex.refl _ _).set (.inl (by simp))) (by simp;exact Ne.symm hna.1) (by simp;exact Ne.symm hna.2.1) (by simp;exact Ne.symm hna.2.2.1) (by simp;exact Ne.symm hna.2.2.2.1) (by simp;exact Ne.symm hna.2.2.2.2)) ⟨q1j _ g3,fun r hr=>?_,hA.ne,hA.na⟩⟩
 obtain⟨k,u',h1,h2⟩:=hA2.rw' r (List.mem_append_left _ hr)
 exact⟨k,u',q2v _ h1 (by rintro rfl;exact hA.na hr),h2⟩
def x9g(sp:Den):Prop:=∀(d c b:Nat)(ws:List Str)(S:q0i)(E:EK)(Q:VC),Deck d c S->S[b]?=some (.lst (ws.map PV.str))->ws≠[]->(∀w∈ws,q1r w=true)->b≠d->b≠c->(∀(k:Kd) S',k.dp<=2->k.ok->Deck d c S'->Ex [d,c] S S'->Q k.pv S')->sp [.ref d,.ref b,.int 2] S E Q
def Of8(sp:Den)(dd:Nat):Prop:=∀(w b m d c N a:Nat)(rs:List Nat)(k:Kd)(S:q0i)(E:EK)(Q:VC),W8 w b m d c N S->Ar8 w b m d c a rs S->N+2 ^ (dd+1)<=79->k.dp+dd+1<=7->k.o8->dd<=4->rs.length+dd+1<=50->
 (∀(t:Tm) S',t.dp<=2*(dd+1)->t.sz+2<=3*2 ^ (dd+1)->t.g8 rs.length->W8 w b m d c (N+2 ^ (dd+1)) S'->Ar8 w b m d c a rs S'->Q t.pv S')->sp [.ref d,.ref w,k.pv,.ref a,.int ((dd+1:Nat):Int)] S E Q
theorem x6l{sk sn sf st:Den}{dd:Nat}(hk:x9g sk)(hn:z7a sn)(hf:Fn8 sf dd)(ht:y4m st dd):Of8 (fnP 5 8 (q6x sk sn sf st)) dd:=by
 intro w b m d c N a rs k S E Q hW hA hN dk ok4 d4 hl h
 obtain⟨u,gw⟩:=hW.wd
 obtain⟨ws,gb,hws,hwn⟩:=hW.bs
 have e2:2 ^ (dd+1)=2*2 ^ dd:=by rw[Nat.pow_succ];omega
 refine⟨rfl,?_⟩
 unfold q6x
 refine seqI fun K hK=>?_
 dsimp![gw,q6v]
 refine hk d c b ws _ _ _ hW.dk gb hws hwn hW.ne.2.1.1 hW.ne.2.1.2 fun o S1 o2 oo hd1 hx1=>hK _ _ ?_
 have o8:o.o8:=x1u oo (by omega)
 have ov:o.lv<=12:=by have:=y2d o;have:=Nat.pow_le_pow_right (n:=2) (by decide) o2;omega
 have hW1:=hW.nx hd1 hx1
 have hA1:=hA.nx hx1
 refine seqI fun K hK=>?_
 dsimp![true_and]
 refine hn d c _ _ _ hd1 fun way S2 w0 w1 hd2 hx2=>hK _ _ ?_
 have hW2:=hW1.nx hd2 hx2
 have hA2:=hA1.nx hx2
 have last:∀(f:Tm)(S3:q0i),f.dp<=2*dd+1->f.sz+1<=3*2 ^ dd->f.g8 rs.length->W8 w b m d c (N+2 ^ dd) S3->Ar8 w b m d c a rs S3->wRet (wTup (q0e (wC (.str "of")) (q0e (wVar 7) (q0e (q0v st (q0e (wVar 0) (q0e (wVar 1) (q0e (wVar 5) (q0e (wVar 3) (q0e (wBin bSub (wVar 4) (wC (.int 1))) wNil)))))) wNil)))) {nx:=fun _ S'=>Q .non S',rt:=Q} E [some (.ref d),some (.ref w),some k.pv,some (.ref a),some (.int ((dd+1:Nat):Int)),some o.pv,some (.int way),some f.pv] S3:=by
  intro f S3 f1 f2 f3 hW3 hA3
  dsimp![true_and]
  rw[show((dd+1:Nat):Int)-1=(dd:Int) by omega]
  refine ht w b m d c _ a rs o _ _ _ hW3 hA3 (by omega) (by omega) o8 (by omega) fun t S4 t1 t2 t3 hW4 hA4=>⟨big (by decide),h (.ap f t) S4 (by simp only[Tm.dp];omega) (by simp only[Tm.sz];omega) ⟨f3,t3⟩ (by rw[e2];exact hW4.le (by omega)) hA4⟩
 refine seqI fun K hK=>?_
 dsimp![true_and]
 refine⟨by decide,ite2 (fun z=>?_) (fun z=>?_)⟩
 ·refine⟨big (by decide),?_⟩
  refine hf w b m d c N a rs o k _ _ _ hW2 hA2 (by omega) (by omega) ⟨oo,ov⟩ (by omega) ok4 (by omega) fun f S3 f1 f2 f3 hW3 hA3=>hK _ _ (last f S3 f1 f2 f3 hW3 hA3)
 ·refine⟨big (by decide),?_⟩
  rw[show((dd+1:Nat):Int)-1=(dd:Int) by omega]
  exact ht w b m d c N a rs (.p o k) _ _ _ hW2 hA2 (by omega) (by simp only[Kd.dp];omega) ⟨⟨oo,ov⟩,ok4⟩ (by omega) fun f S3 f1 f2 f3 hW3 hA3=>hK _ _ (last f S3 (by omega) (by omega) f3 hW3 hA3)
theorem z7g{sn sf so sl:Den}{dd:Nat}(hn:z7a sn)(hl:x3s sl)(hf:∀e,dd=e+1->Fn8 sf e)(ho:∀e,dd=e+1->Of8 so e)(h5:dd<=5):y4m (fnP 5 8 (q5j sn sf so sl)) dd:=by
 intro w b m d c N a rs k S E Q hW hA hN dk ok4 hrl h
 have p1:1<=2 ^ dd:=Nat.one_le_two_pow
 refine⟨rfl,?_⟩
 unfold q5j
 refine seqI fun K hK=>?_
 dsimp![true_and]
 refine hn d c _ _ _ hW.dk fun way S1 w0 w1 hd1 hx1=>hK _ _ ?_
 have hW1:=hW.nx hd1 hx1
 have hA1:=hA.nx hx1
 clear hK K
 have tail:∀(S3:q0i)(j6 j7:Option PV),W8 w b m d c N S3->Ar8 w b m d c a rs S3->wSeq (wIfS (wAnd (q0u (wBin cGt (wVar 4) (wC (.int 0)))) (wAnd (wTru (wCB fIsi (q0e (wVar 2) (q0e (wC (.ty "tuple")) wNil)))) (q0u (wBin cGt (wBin bMod (wVar 5) (wC (.int 8))) (wC (.int 4))))))
   (wRet (q0v sf (q0e (wVar 0) (q0e (wVar 1) (q0e (wVar 2) (q0e (wVar 3) (q0e (wVar 4) wNil)))))))
   q1k)
   (wSeq (wIfS (wAnd (q0u (wBin cGt (wVar 4) (wC (.int 0)))) (q0u (wBin cGt (wBin bMod (wVar 5) (wC (.int 8))) (wC (.int 0)))))
   (wRet (q0v so (q0e (wVar 0) (q0e (wVar 1) (q0e (wVar 2) (q0e (wVar 3) (q0e (wVar 4) wNil)))))))
   q1k)
   (wRet (q0v sl (q0e (wVar 1) (q0e (wVar 2) (q0e (wBin q5h (wVar 5) (wC (.int 8))) wNil)))))) {nx:=fun _ S'=>Q .non S',rt:=Q} E [some (.ref d),some (.ref w),some k.pv,some (.ref a),some (.int dd),some (.int way),j6,j7] S3:=by
  intro S3 j6 j7 hW3 hA3
  have lone:wRet (q0v sl (q0e (wVar 1) (q0e (wVar 2) (q0e (wBin q5h (wVar 5) (wC (.int 8))) wNil)))) {nx:=fun _ S'=>Q .non S',rt:=Q} E [some (.ref d),some (.ref w),some k.pv,some (.ref a),some (.int dd),some (.int way),j6,j7] S3:=by
   dsimp![true_and]
   refine⟨⟨by decide,by decide⟩,?_⟩
   exact hl w b m d c N k _ _ _ _ hW3 (by omega) (by omega) fun t S4 t1 t2 t3 hW4 hx4=>h t S4 (by omega) (by omega) (t3 _) (hW4.le (by omega)) (hA3.ex hx4)
  cases dd with
  |zero=>
   refine seqI fun K hK=>?_
   have e0:((0:Int)<((0:Nat):Int))=False:=eq_false (by omega)
   dsimp![e0]
   refine hK _ _ ?_
   refine seqI fun K hK=>?_
   dsimp![e0]
   exact hK _ _ lone
  |succ e=>
   have e0:((0:Int)<((e+1:Nat):Int))=True:=eq_true (by omega)
   have second:wSeq (wIfS (wAnd (q0u (wBin cGt (wVar 4) (wC (.int 0)))) (q0u (wBin cGt (wBin bMod (wVar 5) (wC (.int 8))) (wC (.int 0)))))
     (wRet (q0v so (q0e (wVar 0) (q0e (wVar 1) (q0e (wVar 2) (q0e (wVar 3) (q0e (wVar 4) wNil)))))))
     q1k)
     (wRet (q0v sl (q0e (wVar 1) (q0e (wVar 2) (q0e (wBin q5h (wVar 5) (wC (.int 8))) wNil))))) {nx:=fun _ S'=>Q .non S',rt:=Q} E [some (.ref d),some (.ref w),some k.pv,some (.ref a),some (.int ((e+1:Nat):Int)),some (.int way),j6,j7] S3:=by
    refine seqI fun K hK=>?_
    dsimp![e0]
    refine⟨by decide,ite2 (fun z=>?_) (fun z=>hK _ _ lone)⟩
    exact ho e rfl w b m d c N a rs k _ _ _ hW3 hA3 hN (by omega) ok4 (by omega) (by omega) h
   refine seqI fun K hK=>?_
   cases k with
   |a s=>
    dsimp![e0,Kd.pv]
    exact hK _ _ second
   |p k0 k1=>
    simp only[Kd.dp]at dk
    dsimp![e0,Kd.pv]
    refine⟨by decide,ite2 (fun z=>?_) (fun z=>hK _ _ second)⟩
    have e2:2 ^ (e+1)=2*2 ^ e:=by rw[Nat.pow_succ];omega
    exact hf e rfl w b m d c N a rs k0 k1 _ _ _ hW3 hA3 (by omega) (by omega) ok4.1 (by omega) ok4.2 (by omega) fun t S4 t1 t2 t3 hW4 hA4=>h t S4 (by omega) (by omega) t3 (hW4.le (by omega)) hA4
 refine seqI fun K hK=>?_
 dsimp![q0x hA1.at',List.length_map]
 rw[Int.toNat_natCast]
 refine⟨⟨by omega,by omega⟩,by rw[q6b];exact big (by omega),?_⟩
 have hAt:∀j:Nat,j<rs.length->∃r,r∈rs/\atI (rs.map PV.ref) (j:Int)=some (.ref r):=fun j hj=>⟨rs[j],List.getElem_mem _,by rw[q6f _ j (by simpa using hj)];simp⟩
 refine z4z (fun rest ys σ S2=>∃(is:List Nat)(j1:Option PV),ys=encI is/\(∀i∈is,i<rs.length)/\is.length+rest.length<=rs.length/\(∀x∈rest,∃j:Nat,j<rs.length/\x=.int j)/\σ=[j1,some k.pv,some (.ref a)]/\S2=S1) ?_ ?_ _ _ _ _ ⟨[],none,rfl,by simp,by rw[q6b];simp,fun x hx=>z5t hx,rfl,rfl⟩
 ·rintro ys σ S2 ⟨is,j1,rfl,hi,hil,-,rfl,rfl⟩
  refine⟨trivial,hK _ _ ?_⟩
  simp only[List.length_nil,Nat.add_zero]at hil
  have hlI:(encI is).length=is.length:=by simp[encI]
  have g1:=q1t S2 (.lst (encI is))
  have hxA:Ex [] S2 (S2++[SO.lst (encI is)]):=Ex.new _ _ _
  have g1':=q1x g1 [SO.lst []]
  have hxB:Ex [] S2 (S2++[SO.lst (encI is)]++[SO.lst []]):=hxA.app _
  have hWB:=hW1.ex hxB (by simp) (by simp) (by simp) (by simp) (by simp)
  have hAB:=hA1.ex hxB.nil
  refine seqI fun K hK=>?_
  dsimp![q0x g1',y3o]
  refine⟨big (by decide),z1f is,ite2 (fun z=>?_) (fun z=>hK _ _ (tail _ _ _ hWB hAB))⟩
  have hne:is≠[]:=by rintro rfl;simp at z
  have go:∀K0:Ev.Loc->q0i->Prop,wSeq (wSet 7 (wBin bIx (wVar 6) (wBin bMod (wBin q5h (wVar 5) (wC (.int 8))) (wCB fLen (q0e (wVar 6) wNil)))))
    (wSeq (wAsg (wBin bSub (wBin bIx (wBin bIx (wVar 3) (wVar 7)) (wC (.int 1))) (wC (.int 1))) (q9o (wBin bIx (wVar 3) (wVar 7)) (wC (.int 1)) sSet))
    (wRet (wTup (q0e (wC (.str "bound")) (q0e (wBin bSub (wBin bSub (wCB fLen (q0e (wVar 3) wNil)) (wC (.int 1))) (wVar 7)) wNil))))) {nx:=K0,rt:=Q} E [some (.ref d),some (.ref w),some k.pv,some (.ref a),some (.int dd),some (.int way),some (.ref S2.length),none] (S2++[SO.lst (encI is)]++[SO.lst []]):=by
   intro K0
   refine seqI fun K2 hK2=>?_
   obtain⟨y,hy,hat⟩:=y8k (i:=way / 8) hne
   have hpos:0<is.length:=List.length_pos_iff.mpr hne
   dsimp![g1',q0x g1',hlI,hat]
   refine⟨⟨by decide,by decide⟩,by omega,hK2 _ _ ?_⟩
   have hyl:=hi y hy
   obtain⟨r,hr,har⟩:=hAt y hyl
   obtain⟨k',u',gr,dr⟩:=hAB.rw' r hr
   refine seqI fun K2 hK2=>?_
   have ix1:ixN 2 1=some 1:=y7j 2 1 (by decide)
   dsimp![hAB.at',har,gr,q5f,ix1]
   refine hK2 _ _ ?_
   have hna:=hAB.ne r (by simp[hr])
   have gr2:=q1j (.lst [k'.pv,PV.int (u' - 1)]) gr
   have hra:r≠a:=by rintro rfl;exact hAB.na hr
   have ha2:=q2v (j:=r) (.lst [k'.pv,PV.int (u' - 1)]) hAB.at' hra
   dsimp![q0x ha2,List.length_map]
   rw[show(rs.length:Int)-1-(y:Int)=((rs.length-1-y:Nat):Int) by omega]
   refine⟨big (by decide),h (.bd (rs.length-1-y)) _ (by simp only[Tm.dp];omega) (by simp only[Tm.sz];omega) (by show _<_;omega) ((hWB.ex (D:=[r]) ((Ex.refl _ _).set (.inl (by simp))) (by simp;exact Ne.symm hna.1) (by simp;exact Ne.symm hna.2.1) (by simp;exact Ne.symm hna.2.2.1) (by simp;exact Ne.symm hna.2.2.2.1) (by simp;exact Ne.symm hna.2.2.2.2)).le (by omega)) ⟨ha2,fun x hx=>?_,hAB.ne,hAB.na⟩⟩
   by_cases e:x=r
   ·subst e;exact⟨k',_,gr2,dr⟩
   ·obtain⟨k2,u2,h1,h2⟩:=hAB.rw' x hx
    exact⟨k2,u2,q2v _ h1 (Ne.symm e),h2⟩
  refine⟨by decide,ite2 (fun z=>go _) (fun z=>ite2 (fun z=>go _) (fun z=>hK _ _ (tail _ _ _ hWB hAB)))⟩
 ·rintro x rest ys σ S2 ⟨is,j1,rfl,hi,hil,hx,rfl,rfl⟩ N2 hN2
  obtain⟨j,hj,rfl⟩:=hx x (by simp)
  rw[List.length_cons]at hil
  refine⟨trivial,?_⟩
  obtain⟨r,hr,har⟩:=hAt j hj
  obtain⟨k',u',gr,dr⟩:=hA1.rw' r hr
  dsimp![hA1.at',har,gr,q0p,q5f]
  have nxt:N2 (encI is) [some (.int j),some k.pv,some (.ref a)] S2:=hN2 _ _ _ ⟨is,_,rfl,hi,by omega,fun x z=>hx x (by simp[z]),rfl,rfl⟩
  have nxt2:N2 (encI is++[PV.int j]) [some (.int j),some k.pv,some (.ref a)] S2:=hN2 _ _ _ ⟨is++[j],_,by simp[encI],fun i z=>by
   rcases List.mem_append.mp z with z|z
   ·exact hi i z
   ·simp at z;omega,by simp;omega,fun x z=>hx x (by simp [z]),rfl,rfl⟩
  refine y9w dr (by omega) fun bb=>?_
  dsimp![hA1.at',har,gr,q5f]
  exact ite2 (fun z=>ite2 (fun z=>nxt2) (fun z=>nxt)) (fun z=>nxt)
def stp1(s sub:Str)(hi:Nat)(b:Array Nat×Nat)(i:Nat):Array Nat×Nat:=
 if(decide (b.1.size<1)&&decide (b.2<=i)&&decide (i+sub.length<=hi)&&Builtin.Str.subAt s sub i)=true then(b.1.push i,i+sub.length)else b
theorem y6t(s sub:Str)(lo hi:Nat):Builtin.Str.occurrences s sub lo hi 1=((List.range' lo (hi+1-lo)).foldl (stp1 s sub hi) (#[],lo)).1.toList:=by
 unfold Builtin.Str.occurrences
 simp only[Std.Legacy.Range.forIn_eq_forIn_range',Std.Legacy.Range.size,Id.run,Nat.add_sub_cancel,Nat.div_one,pure_bind]
 have key:∀(l:List Nat)(b:Array Nat×Nat),(forIn (m:=Id) l b fun i __s=>if(decide (__s.1.size<1)&&decide (__s.2<=i)&&decide (i+sub.length<=hi)&&Builtin.Str.subAt s sub i)=true then pure (ForInStep.yield (__s.1.push i,i+sub.length))else pure (ForInStep.yield (__s.1,__s.2)))=l.foldl (stp1 s sub hi) b:=by
  intro l
  induction l with
  |nil=>intro b;rfl
  |cons a r ih=>
   intro b
   rw[List.forIn_cons,List.foldl_cons]
   unfold stp1
   split
   ·exact ih _
   ·exact ih _
 exact congrArg (fun x:Array Nat×Nat=>x.1.toList) (key _ _)
theorem z4s(s sub:Str)(hi:Nat):∀(l:List Nat)(b:Array Nat×Nat),1<=b.1.size->l.foldl (stp1 s sub hi) b=b
 |[],b,_=>rfl
 |a::r,b,h=>by
  rw[List.foldl_cons,show stp1 s sub hi b a=b by unfold stp1;rw[decide_eq_false (by omega)];simp]
  exact z4s s sub hi r b h
def Kd.sg:Kd->Bool
 |.a s=>decide (s=sO)||decide (s=sG)
 |_=>false
def isO:Kd->Bool
 |.a s=>decide (s=sO)
 |_=>false
def isG:Kd->Bool
 |.a s=>decide (s=sG)
 |_=>false
def clsK:List Kd->Option (List Kd)
 |t::g::f::o::r=>if isO o=true/\isG g=true/\f.sg=false/\t.sg=false then some (.p f t::r)else none
 |_=>none
def stpK(st:List Kd)(p:Str):Option (List Kd):=if p=sC then clsK st else if p=sO\/p=sG\/q1r p=true then some (.a p::st)else none
def runK:List Kd->List Str->Option (List Kd)
 |st,[]=>some st
 |st,p::ps=>(stpK st p).bind fun st'=>runK st' ps
def oneK:Option (List Kd)->Option Kd
 |some [k]=>if k.sg=true then none else some k
 |_=>none
def z0s(ps:List Str):Option Kd:=oneK (runK [] ps)
theorem x1s:∀{k:Kd},k.ok->k.sg=false
 |.a s,h=>by
  have h':q1r s=true:=h
  have a:s≠sO:=fun e=>by rw[e,q7a.1]at h';cases h'
  have b:s≠sG:=fun e=>by rw[e,q7a.2.1]at h';cases h'
  simp[Kd.sg,a,b]
 |.p _ _,_=>rfl
theorem x1y{s:Str}(h:q1r s=true):s≠sC:=fun e=>by rw[e,q7a.2.2]at h;cases h
theorem x9z:sO≠sC:=by decide +kernel
theorem w0b:sG≠sC:=by decide +kernel
theorem x9x(st:List Kd):stpK st sO=some (.a sO::st):=by unfold stpK;rw[if_neg x9z,if_pos (.inl rfl)]
theorem x9y(st:List Kd):stpK st sG=some (.a sG::st):=by unfold stpK;rw[if_neg w0b,if_pos (.inr (.inl rfl))]
theorem x0k(st:List Kd):stpK st sC=clsK st:=by unfold stpK;rw[if_pos rfl]
theorem x9w{s:Str}(h:q1r s=true)(st:List Kd):stpK st s=some (.a s::st):=by unfold stpK;rw[if_neg (x1y h),if_pos (.inr (.inr h))]
theorem x2y:∀{k:Kd},k.ok->∀(st:List Kd)(r:List Str),runK st (k.toks++r)=runK (k::st) r
 |.a s,h,st,r=>by rw[Kd.toks,List.singleton_append,runK,x9w h];rfl
 |.p f t,h,st,r=>by
  have e:(Kd.p f t).toks++r=sO::(f.toks++(sG::(t.toks++(sC::r)))):=by simp[Kd.toks]
  rw[e,runK,x9x,Option.bind_some,x2y h.1,runK,x9y,Option.bind_some,x2y h.2,runK,x0k,clsK,if_pos ⟨by simp[isO],by simp[isG],x1s h.1,x1s h.2⟩,Option.bind_some]
theorem z1d{k:Kd}(h:k.ok):z0s k.toks=some k:=by
 have:=x2y h [] []
 rw[List.append_nil]at this
 unfold z0s
 rw[this,runK,oneK,x1s h]
 simp
def stq:List Kd->List Str
 |[]=>[]
 |k::r=>stq r++k.toks
theorem x7k{k:Kd}(h:isO k=true):k=.a sO:=by cases k with
 |a s=>simp only[isO,decide_eq_true_eq]at h;rw[h]
 |p _ _=>cases h
theorem x7l{k:Kd}(h:isG k=true):k=.a sG:=by cases k with
 |a s=>simp only[isG,decide_eq_true_eq]at h;rw[h]
 |p _ _=>cases h
def Kd.okS(k:Kd):Prop:=k.sg=true\/k.ok
theorem y7z{st st':List Kd}(h:clsK st=some st'):∃f t r,st=t::.a sG::f::.a sO::r/\st'=.p f t::r/\f.sg=false/\t.sg=false:=by
 unfold clsK at h
 split at h
 ·rename_i t g f o r
  split at h
  ·rename_i q
   obtain⟨q1,q2,q3,q4⟩:=q
   exact⟨f,t,r,by rw[x7k q1,x7l q2],(Option.some.inj h).symm,q3,q4⟩
  ·cases h
 ·cases h
theorem y1u{k:Kd}(h:k.okS)(hs:k.sg=false):k.ok:=by
 rcases h with z|z
 ·rw[hs]at z;cases z
 ·exact z
theorem y0g{st st':List Kd}{p:Str}(h:stpK st p=some st')(hst:∀k∈st,k.okS):stq st'=stq st++[p]/\∀k∈st',k.okS:=by
 unfold stpK at h
 split at h
 ·rename_i e
  subst e
  obtain⟨f,t,r,rfl,rfl,h1,h2⟩:=y7z h
  refine⟨by simp[stq,Kd.toks],fun k hk=>?_⟩
  rcases List.mem_cons.mp hk with rfl|z
  ·exact .inr ⟨y1u (hst f (by simp)) h1,y1u (hst t (by simp)) h2⟩
  ·exact hst k (by simp[z])
 ·split at h
  ·rename_i hc q
   cases h
   refine⟨by simp[stq,Kd.toks],fun k hk=>?_⟩
   rcases List.mem_cons.mp hk with rfl|z
   ·rcases q with rfl|rfl|q
    ·exact .inl (by simp[Kd.sg])
    ·exact .inl (by simp[Kd.sg])
    ·exact .inr q
   ·exact hst k z
  ·cases h
theorem y0x:∀{ps:List Str}{st st':List Kd},runK st ps=some st'->(∀k∈st,k.okS)->stq st'=stq st++ps/\∀k∈st',k.okS
 |[],st,st',h,hst=>by cases h;exact⟨by simp,hst⟩
 |p::ps,st,st',h,hst=>by
  rw[runK]at h
  obtain⟨s1,e1,e2⟩:=Option.bind_eq_some_iff.mp h
  obtain⟨a,b⟩:=y0g e1 hst
  obtain⟨c,d⟩:=y0x e2 b
  exact⟨by rw[c,a];simp,d⟩
theorem y0z{ps:List Str}{k:Kd}:z0s ps=some k↔k.ok/\ps=k.toks:=by
 constructor
 ·intro h
  unfold z0s oneK at h
  split at h
  ·rename_i k' e
   obtain⟨a,b⟩:=y0x e (fun _ z=>by cases z)
   split at h
   ·cases h
   ·rename_i q
    cases h
    exact⟨y1u (b k (by simp)) (by simpa using q),by simpa[stq]using a.symm⟩
  ·cases h
 ·rintro⟨a,rfl⟩
  exact z1d a
theorem z2f:∀(cs run:List Nat),(q2c cs run).flatMap (·.cps.toList)=run++cs
 |[],run=>by
  unfold q2c bit
  split
  ·rename_i e;subst e;rfl
  ·simp[q1d]
 |c::cs,run=>by
  unfold q2c
  split
  ·rw[z2f cs (run++[c])];simp
  ·rw[List.flatMap_append,List.flatMap_cons,z2f cs []]
   unfold bit
   split
   ·rename_i e;subst e;simp[q1d]
   ·simp[q1d]
theorem q9p:∀k:Kd,k.toks.flatMap (·.cps.toList)=k.txt
 |.a s=>by simp[Kd.toks,Kd.txt]
 |.p f t=>by
  have e1:sO.cps.toList=[40]:=by decide +kernel
  have e2:sG.cps.toList=[62]:=by decide +kernel
  have e3:sC.cps.toList=[41]:=by decide +kernel
  simp[Kd.toks,Kd.txt,q9p f,q9p t,e1,e2,e3]
theorem y5t{z:List Nat}{k:Kd}:z0s (q2c z [])=some k↔k.ok/\z=k.txt:=by
 rw[y0z]
 constructor
 ·rintro⟨a,b⟩
  refine⟨a,?_⟩
  have:=z2f z []
  rw[b,q9p]at this
  simpa using this.symm
 ·rintro⟨a,rfl⟩
  exact⟨a,z2e a⟩
def z3q(z:List Nat):Option Kd:=if 12<((q2c z []).filter q1r).length then none else z0s (q2c z [])
theorem y1e{z:List Nat}{k:Kd}:z3q z=some k↔k.ok/\k.lv<=12/\z=k.txt:=by
 unfold z3q
 constructor
 ·intro h
  split at h
  ·cases h
  ·rename_i hb
   obtain⟨a,b⟩:=y5t.mp h
   rw[b,z2e a,q6l a]at hb
   exact⟨a,by omega,b⟩
 ·rintro⟨a,b,c⟩
  rw[c,z2e a,q6l a,if_neg (by omega)]
  exact z1d a
theorem w1e(k:Kd):eqB k.pv (.str sO)=isO k:=by
 cases k with
 |a s=>simp[Kd.pv,q6s,isO]
 |p f t=>simp[Kd.pv,z4v,isO]
theorem w1f(k:Kd):eqB k.pv (.str sG)=isG k:=by
 cases k with
 |a s=>simp[Kd.pv,q6s,isG]
 |p f t=>simp[Kd.pv,z4v,isG]
theorem y4l(k:Kd):([PV.str sO,PV.str sG].any fun y=>eqB y k.pv)=k.sg:=by
 cases k with
 |a s=>
  have e1:(sO=s)↔s=sO:=⟨fun h=>h.symm,fun h=>h.symm⟩
  have e2:(sG=s)↔s=sG:=⟨fun h=>h.symm,fun h=>h.symm⟩
  simp[Kd.pv,q6s,Kd.sg,e1,e2]
 |p f t=>simp[Kd.pv,y3p,Kd.sg]
theorem w1l(k:Kd)(S:q0i)(Q:VC):cNe k.pv (.str sO) S Q=Q (.bl (!isO k)) S:=by rw[y9q (z1g k),w1e]
theorem w1m(k:Kd)(S:q0i)(Q:VC):cNe k.pv (.str sG) S Q=Q (.bl (!isG k)) S:=by rw[y9q (z1g k),w1f]
theorem y4a{xs:List PV}(h:xs.length<4):cutP xs (some (-4)) none=xs:=by
 unfold cutP HT.sIx
 have e:((-4:Int)+(xs.length:Nat)).toNat=0:=by omega
 simp only[show((-4:Int)<0) by decide,if_true,e]
 simp
theorem a40(a b c d:PV):atI [a,b,c,d] 0=some a:=rfl
theorem a41(a b c d:PV):atI [a,b,c,d] 1=some b:=rfl
theorem a42(a b c d:PV):atI [a,b,c,d] 2=some c:=rfl
theorem a43(a b c d:PV):atI [a,b,c,d] 3=some d:=rfl
def CloK(sp:Den):Prop:=∀(n:Nat)(st:List Kd)(S:q0i)(E:EK)(Q:VC),S[n]?=some (.lst (st.reverse.map Kd.pv))->st.length<=900000->(∀k∈st,k.dp<=190)->
 (∀st',clsK st=some st'->∀S',Ex [n] S S'->S'[n]?=some (.lst (st'.reverse.map Kd.pv))->Q .non S')->(clsK st=none->∀S',Ex [n] S S'->E (.exc "NoKind") S')->sp [.ref n] S E Q
theorem cloK:CloK (fnP 1 2 q3g):=by
 intro n st S E Q hn hl hd h1 h2
 refine⟨rfl,?_⟩
 unfold q3g
 rw[show Str.ofString "(" = sO from rfl,show Str.ofString ">" = sG from rfl]
 refine seqI fun K hK=>?_
 by_cases h4:st.length<4
 ·have hc:clsK st=none:=by
   match st,h4 with
   |[],_=>rfl
   |[_],_=>rfl
   |[_,_],_=>rfl
   |[_,_,_],_=>rfl
  dsimp! [q0x hn,show (-(4:Int))=-4 from rfl,y4a (show (st.reverse.map Kd.pv).length<4 by simpa using h4)]
  refine hK _ _ ?_
  clear hK K
  refine seqI fun K hK=>?_
  dsimp! [List.length_map,List.length_reverse]
  rw [if_pos (by omega)]
  exact ⟨big (by decide),h2 hc _ (Ex.new _ _ _)⟩
 ·obtain ⟨t,g,f,o,r,rfl⟩:∃t g f o r,st=t::g::f::o::r:=by
   match st,h4 with
   |t::g::f::o::r,_=>exact ⟨t,g,f,o,r,rfl⟩
   |[],h=>simp at h
   |[_],h=>simp at h
   |[_,_],h=>simp at h
   |[_,_,_],h=>simp at h
  have hn4:S[n]?=some (.lst (r.reverse.map Kd.pv++[o.pv,f.pv,g.pv,t.pv])):=by rw [hn];simp
  dsimp! [q0x hn4,show (-(4:Int))=-4 from rfl,y4b]
  refine hK _ _ ?_
  clear hK K
  have e1:=q1t S (.lst [o.pv,f.pv,g.pv,t.pv])
  have hn':=q1x hn4 [SO.lst [o.pv,f.pv,g.pv,t.pv]]
  have nl:=q1e hn
  refine seqI fun K hK=>?_
  have o2:=z3t sO sG
  have df:=hd f (by simp)
  have dt:=hd t (by simp)
  have bad:¬(isO o=true/\isG g=true/\f.sg=false/\t.sg=false)->E (.exc "NoKind") (S++[SO.lst [o.pv,f.pv,g.pv,t.pv]]):=fun q=>h2 (by rw [clsK,if_neg q]) _ (Ex.new _ _ _)
  dsimp! [e1,a40,a41,a42,a43,w1l,w1m,y4l,Bool.not_eq_false]
  cases q1:isO o with
  |false=>
   dsimp! [true_and]
   exact ⟨big (by decide),bad (by simp [q1])⟩
  |true=>
   dsimp! [true_and]
   cases q2:isG g with
   |false=>
    dsimp! [true_and]
    exact ⟨big (by decide),bad (by simp [q2])⟩
   |true=>
    dsimp! [true_and]
    refine ⟨⟨z0b df,o2⟩,?_⟩
    cases q3:f.sg with
    |true=>
     dsimp! [true_and]
     exact ⟨big (by decide),bad (by simp [q3])⟩
    |false=>
     dsimp! [true_and]
     refine ⟨⟨z0b dt,o2⟩,?_⟩
     cases q4:t.sg with
     |true=>
      dsimp! [true_and]
      exact ⟨big (by decide),bad (by simp [q4])⟩
     |false=>
      dsimp! [true_and]
      refine hK _ _ ?_
      clear hK K bad
      refine seqI fun K hK=>?_
      dsimp! [q1l hn']
      have el:((r.reverse.map Kd.pv)++[o.pv,f.pv,g.pv,t.pv]).length=r.length+4:=by simp
      have s1:HT.sIx (r.length+4) 0 (some (-4))=r.length:=by unfold HT.sIx;simp only [show ((-4:Int)<0) by decide,if_true];omega
      have s2:HT.sIx (r.length+4) (r.length+4) none=r.length+4:=rfl
      rw [el,s1,s2]
      have e3:((r.reverse.map Kd.pv)++[o.pv,f.pv,g.pv,t.pv]).take r.length=r.reverse.map Kd.pv:=by rw [List.take_left' (by simp)]
      have e4:((r.reverse.map Kd.pv)++[o.pv,f.pv,g.pv,t.pv]).drop (r.length+4)=[]:=List.drop_of_length_le (by simp)
      rw [e3,e4,List.append_nil]
      refine ⟨by omega,hK _ _ ?_⟩
      have g1:=q1j (.lst (r.reverse.map Kd.pv)) hn'
      have ne:n≠S.length:=Nat.ne_of_lt nl
      have g2:=q2v (j:=n) (.lst (r.reverse.map Kd.pv)) e1 ne
      dsimp! [g1,g2,q1l g1,a41,a43]
      refine ⟨big (by decide),by rw [List.length_map,List.length_reverse];exact bigl (by simp at hl;omega),h1 (.p f t::r) (by rw [clsK,if_pos ⟨q1,q2,q3,q4⟩]) _ (((Ex.new _ _ _).set (.inl (by simp))).set (.inl (by simp))) ?_⟩
      rw [q1j _ g1]
      simp [Kd.pv]
theorem y6e(p:Str):([PV.str sO,PV.str sG].any fun y=>eqB y (PV.str p))=(decide (p=sO)||decide (p=sG)):=y4l (.a p)
theorem z8h(a:PV):atI [a] 0=some a:=rfl
theorem y0e:∀st:List Kd,st.length<=(stq st).length
 |[]=>Nat.le_refl _
 |k::r=>by
  have a:=y0e r
  have b:=z1u k
  have c:=Kd.lv_pos k
  simp only[stq,List.length_append,List.length_cons];omega
theorem y0f:∀(st:List Kd),(∀k∈st,k.okS)->∀k∈st,k.dp<=((stq st).filter q1r).length
 |k'::r,h,k,hk=>by
  rw[stq,List.filter_append,List.length_append]
  rcases List.mem_cons.mp hk with rfl|z
  ·rcases h k (by simp)with q|q
   ·cases k with
    |a s=>exact Nat.zero_le _
    |p _ _=>cases q
   ·have:=Kd.dp_lv k
    rw[q6l q];omega
  ·have:=y0f r (fun x hx=>h x (by simp[hx])) k z;omega
theorem x6q{spc spi:Den}(hc:CloK spc)(hi:z0q spi){np ns:Nat}{all:List PV}{D:PEnds}{E:EK}{t:Option PV}{S0:q0i}{T:List Str}(hT:(T.filter q1r).length<=12)(hTl:T.length<=100000)(hne:np≠ns)(hns:ns<S0.length)(R:Option (List Kd))
  (hN:∀st' v S',R=some st'->(∀k∈st',k.dp<=190)->Ex [ns] S0 S'->S'[ns]?=some (.lst (st'.reverse.map Kd.pv))->D.nx [t,some (.ref np),some (.ref ns),v] S') (hE:R=none->∀S',Ex [ns] S0 S'->E (.exc "NoKind") S') :
  ∀(ps:List Str)(st:List Kd)(v:Option PV)(S:q0i),(∀p∈ps,p.length<=1000000)->(∀k∈st,k.okS)->stq st++ps=T->runK st ps=R->Ex [ns] S0 S->S[np]?=some (.lst all)->S[ns]?=some (.lst (st.reverse.map Kd.pv))->
   q8m (fun S=>q3c S np=some all) (q1o 3) (wIfS (q0u (wBin cEq (wVar 3) (wC (.str sC)))) (q2e (q0v spc (q0e (wVar 2) wNil)))
    (wIfS (wOr (q0u (wBin cIn (wVar 3) (wC (.tup [(.str sO),(.str sG)])))) (wTru (q0v spi (q0e (wVar 3) wNil))))
     (q2e (wBM "list" q1i (wVar 2) (q0e (wVar 3) wNil)))
     (q3j "NoKind" (q0e (wC (.str "a kind is written of names, brackets and > alone")) wNil)))) D E (ps.map PV.str) [t,some (.ref np),some (.ref ns),v] S
 |[],st,v,S,hps,hst,hq,hr,hx,h1,h2=>by
  refine y3b (q0x h1) ?_
  have hd:∀k∈st,k.dp<=190:=fun k hk=>by
   have:=y0f st hst k hk
   rw[List.append_nil]at hq
   rw[hq]at this
   omega
  exact hN st v S hr.symm hd hx h2
 |p::ps,st,v,S,hps,hst,hq,hr,hx,h1,h2=>by
  have hlen:st.length<=100000:=by
   have:=y0e st
   have h3:=congrArg List.length hq
   rw[List.length_append]at h3
   omega
  have hd:∀k∈st,k.dp<=190:=fun k hk=>by
   have:=y0f st hst k hk
   have h3:((stq st).filter q1r).length<=(T.filter q1r).length:=by rw[<-hq,List.filter_append,List.length_append];omega
   omega
  have nl:=q1e h2
  rw[runK]at hr
  refine z0l (q0x h1) fun N hN2=>?_
  have more:∀(st':List Kd)(S':q0i),stpK st p=some st'->Ex [ns] S S'->S'[ns]?=some (.lst (st'.reverse.map Kd.pv))->N [t,some (.ref np),some (.ref ns),some (.str p)] S':=fun st' S' e x g=>by
   obtain⟨q1,q2⟩:=y0g e hst
   refine hN2 _ _ (x6q hc hi hT hTl hne hns R hN hE ps st' _ S' (fun y hy=>hps y (by simp[hy])) q2 (by rw[q1,<-hq];simp) (by rw[e]at hr;exact hr) (hx.trans x) (x.get h1 (by simp;exact hne)) g)
  have bad:stpK st p=none->∀S',Ex [ns] S S'->E (.exc "NoKind") S':=fun e S' x=>hE (by rw[e]at hr;exact hr.symm) S' (hx.trans x)
  by_cases pc:p=sC
  ·subst pc
   dsimp![true_and]
   refine hc ns st S _ _ h2 (by omega) hd (fun st' e S' x g=>more st' S' (by rw[x0k];exact e) x g) (fun e S' x=>bad (by rw[x0k];exact e) S' x)
  ·have push:(p=sO\/p=sG\/q1r p=true)->∀S',Ex [] S S'->q2e (wBM "list" q1i (wVar 2) (q0e (wVar 3) wNil)) {nx:=N,rt:=D.rt,ct:=N,bk:=D.nx} E [t,some (.ref np),some (.ref ns),some (.str p)] S':=fun q S' x=>by
    have g:=x.get h2 (by simp)
    dsimp![g,q1l g]
    refine⟨by rw[List.length_map,List.length_reverse];exact bigl (by omega),more (.a p::st) _ (by unfold stpK;rw[if_neg pc,if_pos q]) (x.nil.set (.inl (by simp))) ?_⟩
    rw[q1j _ g]
    simp[Kd.pv]
   dsimp![pc,y6e]
   refine⟨z3t _ _,?_⟩
   by_cases p1:p=sO
   ·rw[decide_eq_true p1]
    dsimp![Bool.true_or]
    exact push (.inl p1) S (Ex.refl _ _)
   ·by_cases p2:p=sG
    ·rw[decide_eq_true p2]
     dsimp![Bool.or_true]
     exact push (.inr (.inl p2)) S (Ex.refl _ _)
    ·rw[decide_eq_false p1,decide_eq_false p2]
     dsimp![Bool.or_self]
     refine hi p S _ _ (hps p (by simp)) fun S' x=>?_
     cases nb:q1r p with
     |true=>
      dsimp![true_and]
      exact push (.inr (.inr nb)) S' x
     |false=>
      dsimp![true_and]
      exact⟨big (by decide),bad (by unfold stpK;rw[if_neg pc,if_neg (by rintro(z|z|z);exact p1 z;exact p2 z;rw[nb]at z;cases z)]) S' x.nil⟩
def PcsK(sp:Den):Prop:=∀(z:List Nat)(S:q0i)(E:EK)(Q:VC),z.length<=100000->(∀n S',Ex [] S S'->S.length<=n->S'[n]?=some (.lst ((q2c z []).map PV.str))->Q (.ref n) S')->sp [.str (mk z)] S E Q
def x9f(sp:Den):Prop:=∀(n:Nat)(zs:List Str)(S:q0i)(E:EK)(Q:VC),S[n]?=some (.lst (zs.map PV.str))->(∀z∈zs,z.length<=1000000)->zs.length<=1000000->(∀S',Ex [] S S'->Q (.int (zs.filter q1r).length) S')->sp [.ref n] S E Q
theorem z2d:∀(cs run:List Nat),(∀p∈q2c cs run,p.length<=run.length+cs.length)/\(q2c cs run).length<=run.length+cs.length
 |[],run=>by
  unfold q2c bit
  split
  ·simp
  ·rename_i h
   have:run.length≠0:=fun e=>h (List.length_eq_zero_iff.mp e)
   simp[q0y];omega
 |c::cs,run=>by
  unfold q2c
  split
  ·have:=z2d cs (run++[c])
   simp only[List.length_append,List.length_cons,List.length_nil]at this ⊢
   exact⟨fun p hp=>by have:=this.1 p hp;omega,by omega⟩
  ·obtain⟨a,b⟩:=z2d cs []
   unfold bit
   simp only[List.length_nil,Nat.zero_add]at a b
   split
   ·rename_i h
    subst h
    refine⟨fun p hp=>?_,by simp;omega⟩
    simp only[List.nil_append,List.mem_cons]at hp
    rcases hp with rfl|hp
    ·rw[q0y];simp
    ·have:=a p hp;simp;omega
   ·rename_i h
    have:run.length≠0:=fun e=>h (List.length_eq_zero_iff.mp e)
    refine⟨fun p hp=>?_,by simp;omega⟩
    simp only[List.singleton_append,List.mem_cons]at hp
    rcases hp with rfl|rfl|hp
    ·rw[q0y];omega
    ·rw[q0y];simp;omega
    ·have:=a p hp;simp;omega
def RkD(sp:Den):Prop:=∀(z:List Nat)(S:q0i)(E:EK)(Q:VC),z.length<=100000->(∀k,z3q z=some k->∀S',Ex [] S S'->Q k.pv S')->(z3q z=none->∀S',Ex [] S S'->E (.exc "NoKind") S')->sp [.str (mk z)] S E Q
theorem rkD{spp spm spc spi:Den}(hp:PcsK spp)(hm:x9f spm)(hc:CloK spc)(hi:z0q spi):RkD (fnP 1 4 (q3v spp spm spc spi)):=by
 intro z S E Q hz h1 h2
 refine⟨rfl,?_⟩
 unfold q3v
 rw[show Str.ofString "(" = sO from rfl,show Str.ofString ">" = sG from rfl,show Str.ofString ")" = sC from rfl]
 refine seqI fun K hK=>?_
 dsimp![Bool.true_eq_false]
 refine hK _ _ ?_
 clear hK K
 refine seqI fun K hK=>?_
 dsimp![true_and]
 refine hp z S _ _ hz fun np S1 x1 l1 g1=>hK _ _ ?_
 clear hK K
 obtain⟨pl,pn⟩:=z2d z []
 simp only[List.length_nil,Nat.zero_add]at pl pn
 refine seqI fun K hK=>?_
 dsimp![true_and]
 refine hm np _ S1 _ _ g1 (fun p hp=>by have:=pl p hp;omega) (by omega) fun S2 x2=>?_
 have x12:Ex [] S S2:=x1.trans x2
 dsimp![true_and]
 by_cases hb:12<((q2c z []).filter q1r).length
 ·rw[if_pos (by exact_mod_cast hb)]
  exact⟨big (by decide),h2 (by unfold z3q;rw[if_pos hb]) _ x12⟩
 ·rw[if_neg (by exact_mod_cast hb)]
  refine hK _ _ ?_
  clear hK K
  have hpr:z3q z=z0s (q2c z []):=by unfold z3q;rw[if_neg hb]
  have g2:=x2.get g1 (by simp)
  refine seqI fun K hK=>?_
  dsimp![true_and]
  refine⟨big (by decide),hK _ _ ?_⟩
  clear hK K
  refine seqI fun K hK=>?_
  have g3:=q1x g2 [SO.lst []]
  dsimp![q0x g3,g3]
  have hne:np≠S2.length:=Nat.ne_of_lt (q1e g2)
  have wk:∀{S'},Ex [S2.length] (S2++[SO.lst []]) S'->Ex [] S S':=fun {S'} x=>Ex.weak' (((x12.app [SO.lst []]).nil).trans x) x12.1
  refine x6q hc hi (T:=q2c z []) (S0:=S2++[.lst []]) (by omega) (by omega) hne (by simp) (runK [] (q2c z [])) (fun st' v S' e hd x g=>hK _ _ ?_) (fun e S' x=>h2 (by rw[hpr];unfold z0s;rw[e];rfl) S' (wk x)) (q2c z []) [] none _ (fun p hp=>by have:=pl p hp;omega) (by simp) rfl rfl (Ex.refl _ _) g3 (q1t _ _)
  clear hK K
  have rd:z0s (q2c z [])=oneK (some st'):=by unfold z0s;rw[e]
  rw[rd]at hpr
  refine seqI fun K hK=>?_
  have bad:oneK (some st')=none->E (.exc "NoKind") S':=fun q=>h2 (by rw[hpr,q]) S' (wk x)
  match st',g,hpr,bad,hd with
  |[],g,hpr,bad,hd=>
   dsimp![g,q1l g,q0x g]
   exact⟨big (by decide),bad rfl⟩
  |[k],g,hpr,bad,hd=>
   have g':S'[S2.length]?=some (.lst [k.pv]):=g
   dsimp![g',q1l g',q0x g',z8h,y4l]
   refine⟨⟨z0b (hd k (by simp)),z3t _ _⟩,?_⟩
   cases q:k.sg with
   |true=>
    dsimp![true_and]
    exact⟨big (by decide),bad (by simp[oneK,q])⟩
   |false=>
    dsimp![true_and]
    refine hK _ _ ?_
    dsimp![g',z8h]
    exact h1 k (by rw[hpr];simp[oneK,q]) S' (wk x)
  |a::b::r,g,hpr,bad,hd=>
   dsimp![g,q1l g,q0x g,List.length_map,List.length_reverse]
   rw[if_pos (by simp;omega)]
   exact⟨big (by decide),bad rfl⟩
theorem z3j(s:Str)(c i:Nat):Builtin.Str.subAt s ⟨#[c]⟩ i=true↔s.cps.toList[i]?=some c:=by
 have l1:(⟨#[c]⟩:Str).length=1:=rfl
 unfold Builtin.Str.subAt
 rw[l1,beq_iff_eq,<-Array.toList_inj,Array.toList_extract,List.extract_eq_drop_take,Nat.add_sub_cancel_left]
 by_cases h:i<s.cps.toList.length
 ·rw[List.drop_eq_getElem_cons h,List.take_succ_cons,List.take_zero,List.getElem?_eq_getElem h]
  simp
 ·rw[List.drop_of_length_le (by omega),List.getElem?_eq_none (by omega)]
  simp
theorem z1n(s:Str)(c hi j lo:Nat)(hj:s.cps.toList[j]?=some c)(hj2:j+1<=hi):∀(n a:Nat),lo<=a->a<=j->j<a+n->(∀i,a<=i->i<j->s.cps.toList[i]?≠some c)->((List.range' a n).foldl (stp1 s ⟨#[c]⟩ hi) (#[],lo)).1.toList=[j]
 |0,a,_,h1,h2,_=>by omega
 |n+1,a,h0,h1,h2,hn=>by
  have l1:(⟨#[c]⟩:Str).length=1:=rfl
  rw[List.range'_succ,List.foldl_cons]
  by_cases e:a=j
  ·subst e
   have e:stp1 s ⟨#[c]⟩ hi (#[],lo) a=(#[a],a+1):=by
    unfold stp1
    rw[decide_eq_true (show(#[]:Array Nat).size<1 by simp),decide_eq_true h0,l1,decide_eq_true hj2,(z3j s c a).mpr hj]
    simp
   rw[e,z4s s _ hi _ _ (by simp)]
  ·have e:stp1 s ⟨#[c]⟩ hi (#[],lo) a=(#[],lo):=by
    unfold stp1
    rw[if_neg]
    intro q
    simp only[Bool.and_eq_true]at q
    exact hn a (Nat.le_refl _) (by omega) ((z3j s c a).mp q.2)
   rw[e]
   exact z1n s c hi j lo hj hj2 n (a+1) (by omega) (by omega) (by omega) fun i h3 h4=>hn i (by omega) h4
theorem y3h(z:List Nat)(c i j:Nat)(hij:i<=j)(hj:z[j]?=some c)(hn:∀k,i<=k->k<j->z[k]?≠some c):Txt.find3 (mk z) (mk [c]) (i:Int)=(j:Int):=by
 have hl:j<z.length:=(List.getElem?_eq_some_iff.mp hj).1
 unfold Txt.find3
 have e:PySem.fromIndex (mk z).length (i:Int)=i:=by
  unfold PySem.fromIndex
  omega
 rw[e,y6t]
 have:=z1n (mk z) c (mk z).length j i hj (by rw[q0y];omega) ((mk z).length+1-i) i (Nat.le_refl _) hij (by rw[q0y];omega) hn
 rw[show(mk [c])=(⟨#[c]⟩:Str)from rfl,this]
inductive T8 where
 |nm (w:Str)|bd (k:Nat)|fn (q:Kd) (t:T8)|ap (f a:T8)
def T8.tm:T8->Tm
 |.nm w=>.nm w
 |.bd k=>.bd k
 |.fn q t=>.fn q.pv t.tm
 |.ap f a=>.ap f.tm a.tm
def T8.ok:T8->Nat->Prop
 |.nm w,_=>q1r w=true
 |.bd k,n=>k<n
 |.fn q t,n=>(q.ok/\q.lv<=12)/\t.ok (n+1)
 |.ap f a,n=>f.ok n/\a.ok n
theorem y6s:∀{t:Tm}{n:Nat},t.g8 n->∃r:T8,r.tm=t/\r.ok n
 |.nm w,n,h=>⟨.nm w,rfl,h⟩
 |.lf _ _,n,h=>h.elim
 |.bd k,n,h=>⟨.bd k,rfl,h⟩
 |.fn k t,n,h=>by
  obtain⟨⟨q,rfl,h1⟩,h2⟩:=h
  obtain⟨r,rfl,h3⟩:=y6s h2
  exact⟨.fn q r,rfl,h1,h3⟩
 |.ap f a,n,h=>by
  obtain⟨r,rfl,h1⟩:=y6s h.1
  obtain⟨r',rfl,h2⟩:=y6s h.2
  exact⟨.ap r r',rfl,h1,h2⟩
def T8.isF:T8->Bool
 |.fn _ _=>true
 |_=>false
def fig(k:Nat):List Nat:=(Str.ofString (toString (k:Int))).cps.toList
inductive Tk8 where
 |o|c|w (s:Str)|b (k:Nat)|f (q:Kd)
def Tk8.pv:Tk8->PV
 |.o=>.str sO
 |.c=>.str sC
 |.w s=>.tup [.str "name",.str s]
 |.b k=>.tup [.str "bound",.int k]
 |.f q=>.tup [.str "fn",q.pv]
def Tk8.tx:Tk8->List Nat
 |.o=>[40]
 |.c=>[41]
 |.w s=>s.cps.toList
 |.b k=>35::fig k
 |.f q=>91::(q.txt++[93])
def T8.tks:T8->List Tk8
 |.nm w=>[.w w]
 |.bd k=>[.b k]
 |.fn q t=>.f q::t.tks
 |.ap f a=>(if f.isF=true then .o::f.tks++[.c]else f.tks)++.o::a.tks++[.c]
def txs(l:List Tk8):List Nat:=l.flatMap Tk8.tx
def T8.tx(t:T8):List Nat:=txs t.tks
theorem z5o(a b:List Tk8):txs (a++b)=txs a++txs b:=by simp[txs]
theorem q9f(a:Tk8)(b:List Tk8):txs (a::b)=a.tx++txs b:=by simp[txs]
def Tk8.ok:Tk8->Prop
 |.w s=>q1r s=true
 |.b k=>k<100
 |.f q=>q.ok/\q.lv<=12
 |_=>True
def Tk8.br:Tk8->Prop
 |.o=>True
 |.c=>True
 |_=>False
def Tk8.lone:Tk8->Prop
 |.w _=>True
 |.b _=>True
 |_=>False
def hdB:List Tk8->Prop
 |[]=>True
 |t::_=>t.br
def WC:List Tk8->Prop
 |[]=>True
 |t::r=>t.ok/\(t.lone->hdB r)/\WC r
theorem z3g:∀(t:T8)(n:Nat),t.ok n->n+t.tm.dp<=100->∀r,hdB r->WC r->WC (t.tks++r)
 |.nm w,n,h,_,r,hb,hr=>⟨h,fun _=>hb,hr⟩
 |.bd k,n,h,hn,r,hb,hr=>⟨by have h':k<n:=h;show k<100;omega,fun _=>hb,hr⟩
 |.fn q t,n,h,hn,r,hb,hr=>⟨h.1,fun z=>z.elim,z3g t (n+1) h.2 (by simp only[T8.tm,Tm.dp]at hn;omega) r hb hr⟩
 |.ap f a,n,h,hn,r,hb,hr=>by
  simp only[T8.tm,Tm.dp]at hn
  have h1:WC (.o::(a.tks++(.c::r))):=⟨trivial,fun z=>z.elim,z3g a n h.2 (by omega) (.c::r) trivial ⟨trivial,fun z=>z.elim,hr⟩⟩
  have e:(T8.ap f a).tks++r=(if f.isF=true then .o::f.tks++[.c]else f.tks)++(.o::(a.tks++(.c::r))):=by simp[T8.tks]
  rw[e]
  split
  ·have:=z3g f n h.1 (by omega) (.c::.o::(a.tks++(.c::r))) trivial ⟨trivial,fun z=>z.elim,h1⟩
   rw[show Tk8.o::f.tks++[Tk8.c]++(.o::(a.tks++(.c::r)))=.o::(f.tks++(.c::.o::(a.tks++(.c::r)))) by simp]
   exact⟨trivial,fun z=>z.elim,this⟩
  ·exact z3g f n h.1 (by omega) _ trivial h1
def inG(sg:Str)(c:Nat):Bool:=inS ⟨#[c]⟩ sg
theorem q8p(a b:List Nat)(c:Nat):atI (a++c::b) (a.length:Int)=some c:=by
 unfold atI ixN
 rw[if_pos (by omega),if_pos (by simp;omega)]
 simp
def Cut8(sg:Str)(rest:List Nat):Prop:=∀c r,rest=c::r->inG sg c=false
def RunD(sp:Den):Prop:=∀(pre run rest:List Nat)(sg:Str)(S:q0i)(E:EK)(Q:VC),(pre++run++rest).length<=1000000->run.all (inG sg)=true->Cut8 sg rest->Q (.int ((pre.length+run.length:Nat):Int)) S->sp [.str (mk (pre++run++rest)),.int (pre.length:Nat),.str sg] S E Q
theorem x4w:RunD (fnP 3 3 q4n):=by
 intro pre run rest sg S E Q hl hr hc h
 refine⟨rfl,?_⟩
 unfold q4n
 refine seqI fun K hK=>?_
 refine q8q (fun m σ S1=>S1=S/\∃r1 r2:List Nat,run=r1++r2/\m=r2.length/\σ=[some (.str (mk (pre++run++rest))),some (.int ((pre.length+r1.length:Nat):Int)),some (.str sg)]) run.length ⟨rfl,[],run,rfl,rfl,rfl⟩ ?_
 rintro m σ S1 ⟨rfl,r1,r2,rfl,rfl,rfl⟩ T F hT hF
 dsimp![q0y,q1d]
 cases r2 with
 |nil=>
  rw[List.append_nil]at *
  have stop:F [some (.str (mk (pre++r1++rest))),some (.int ((pre.length+r1.length:Nat):Int)),some (.str sg)] S1:=by
   refine hF _ (hK _ _ ?_)
   dsimp![true_and]
   exact h
  cases rest with
  |nil=>
   rw[if_neg (by simp only[List.append_nil,List.length_append];omega)]
   exact⟨big hl,stop⟩
  |cons c r=>
   rw[if_pos (by simp only[List.length_append,List.length_cons];omega)]
   have ea:=q8p (pre++r1) r c
   rw[List.length_append]at ea
   have eg:inS ⟨#[c]⟩ sg=false:=hc c r rfl
   dsimp![q0y,q1d,ea,eg]
   exact⟨big hl,big hl,stop⟩
 |cons c r=>
  have e:pre++(r1++c::r)++rest=(pre++r1)++c::(r++rest):=by simp
  have ea:=q8p (pre++r1) (r++rest) c
  rw[<-e,List.length_append]at ea
  rw[if_pos (by simp only[List.length_append,List.length_cons];omega)]
  have eg:inS ⟨#[c]⟩ sg=true:=by
   have:=List.all_eq_true.mp hr c (by simp)
   exact this
  dsimp![q0y,q1d,ea,eg]
  refine⟨big hl,big hl,hT _ fun N hN=>?_⟩
  dsimp![true_and]
  refine hN r.length _ _ (by simp) ⟨rfl,r1++[c],r,by simp,rfl,?_⟩
  simp only[List.length_append,List.length_cons,List.length_nil]
  rw[show((pre.length+r1.length:Nat):Int)+1=((pre.length+(r1.length+(0+1)):Nat):Int) by omega]
def sFig:Str:=Str.ofString "0123456789"
def figC(l:List Nat):Bool:=l.all (inG sFig)&&decide (1<=l.length)&&decide (l.length<=2)&&(l==[48]||l.head? != some 48)
theorem w1d:∀k,k<100->figC (fig k)=true:=by decide +kernel
theorem q6r{k:Nat}(h:k<100):(fig k).all (inG sFig)=true/\1<=(fig k).length/\(fig k).length<=2/\(fig k=[48]\/(fig k).head?≠some 48):=by
 have:=w1d k h
 unfold figC at this
 simp only[Bool.and_eq_true,decide_eq_true_eq,Bool.or_eq_true,beq_iff_eq,bne_iff_ne,ne_eq]at this
 exact⟨this.1.1.1,this.1.1.2,this.1.2,this.2⟩
theorem z4t(k:Nat):Str.ofString (toString (k:Int))=mk (fig k):=(z8x _).symm
theorem sq:Str.ofString "[" = mk [91]:=by decide +kernel
theorem sqe:Str.ofString "]" = mk [93]:=by decide +kernel
theorem shs:Str.ofString "#" = mk [35]:=by decide +kernel
theorem sO':Str.ofString "(" = mk [40]:=by decide +kernel
theorem sC':Str.ofString ")" = mk [41]:=by decide +kernel
theorem q6q:isL 91=false/\isL 35=false/\isL 40=false/\isL 41=false/\isL 93=false:=by decide +kernel
theorem x7u:inG sFig 91=false/\inG sFig 40=false/\inG sFig 41=false:=by decide +kernel
def EndD(sp:Den):Prop:=∀(pre:List Nat)(t:Tk8)(r:List Tk8)(S:q0i)(E:EK)(Q:VC),(pre++txs (t::r)).length<=1000000->t.ok->(t.lone->hdB r)->Q (.int ((pre.length+t.tx.length:Nat):Int)) S->sp [.str (mk (pre++txs (t::r))),.int (pre.length:Nat)] S E Q
theorem x2w:∀{r:List Tk8},hdB r->Cut8 y2k (txs r)
 |[],_,c,r',e=>by cases e
 |.o::r,_,c,r',e=>by
  have:c=40:=by simp[txs,Tk8.tx]at e;exact e.1.symm
  subst this;exact q6q.2.2.1
 |.c::r,_,c,r',e=>by
  have:c=41:=by simp[txs,Tk8.tx]at e;exact e.1.symm
  subst this;exact q6q.2.2.2.1
theorem x2x:∀{r:List Tk8},hdB r->Cut8 sFig (txs r)
 |[],_,c,r',e=>by cases e
 |.o::r,_,c,r',e=>by
  have:c=40:=by simp[txs,Tk8.tx]at e;exact e.1.symm
  subst this;exact x7u.2.1
 |.c::r,_,c,r',e=>by
  have:c=41:=by simp[txs,Tk8.tx]at e;exact e.1.symm
  subst this;exact x7u.2.2
theorem z6d:∀{q:Kd},q.ok->∀c∈q.txt,c≠93
 |.a s,h,c,hc=>by
  obtain⟨_,_,h3⟩:=q4h h
  have:=List.all_eq_true.mp h3 c hc
  rintro rfl
  rw[q6q.2.2.2.2]at this;cases this
 |.p f t,h,c,hc=>by
  simp only[Kd.txt,List.cons_append,List.mem_cons,List.mem_append,List.mem_singleton]at hc
  rcases hc with rfl|(z|rfl|z)|z
  ·decide
  ·exact z6d h.1 c z
  ·decide
  ·exact z6d h.2 c z
  ·rcases z with rfl|z
   ·decide
   ·cases z
theorem x8d{sp:Den}(hr:RunD sp):EndD (fnP 2 3 (q3r sp)):=by
 intro pre t r S E Q hl ht hc h
 refine⟨rfl,?_⟩
 unfold q3r
 rw[sq,sqe,shs]
 rw[q9f]at hl ⊢
 have len:∀(c:Nat)(x:List Nat),t.tx=c::x->atI (pre++(t.tx++txs r)) (pre.length:Int)=some c:=fun c x e=>by rw[e,List.cons_append];exact q8p pre _ c
 have no:∀(c:Nat)(x:List Nat),t.tx=c::x->(¬c=91)->(¬c=35)->(inS (mk [c]) (Str.ofString "abcdefghijklmnopqrstuvwxyz")=false)->Q (.int ((pre.length+1:Nat):Int)) S->t.tx.length=1->(wSeq (wIfS (q0u (wBin cEq (wBin bIx (wVar 0) (wVar 1)) (wC (.str (mk [91])))))
 (wSeq (wSet 2 (wBM "str" z3x (wVar 0) (q0e (wC (.str (mk [93]))) (q0e (wVar 1) wNil))))
 (wRet (wIf (q0u (wBin cLt (wVar 2) (wC (.int 0)))) (wCB fLen (q0e (wVar 0) wNil)) (wBin bAdd (wVar 2) (wC (.int 1))))))
 q1k)
 (wSeq (wIfS (q0u (wBin cEq (wBin bIx (wVar 0) (wVar 1)) (wC (.str (mk [35])))))
 (wRet (q0v sp (q0e (wVar 0) (q0e (wBin bAdd (wVar 1) (wC (.int 1))) (q0e (wC (.str "0123456789")) wNil)))))
 q1k)
 (wSeq (wIfS (q0u (wBin cIn (wBin bIx (wVar 0) (wVar 1)) (wC (.str "abcdefghijklmnopqrstuvwxyz"))))
 (wRet (q0v sp (q0e (wVar 0) (q0e (wBin bAdd (wVar 1) (wC (.int 1))) (q0e (wC (.str "abcdefghijklmnopqrstuvwxyz")) wNil)))))
 q1k)
 (wRet (wBin bAdd (wVar 1) (wC (.int 1))))))) {nx:=fun _ S'=>Q .non S',rt:=Q} E [some (.str (mk (pre++(t.tx++txs r)))),some (.int (pre.length:Nat)),none] S:=by
  intro c x e n1 n2 n3 hq _
  have ea:=len c x e
  refine seqI fun K hK=>?_
  dsimp![q0y,q1d,ea,q4j,q8h,List.cons.injEq,n1,and_true]
  refine⟨big hl,hK _ _ ?_⟩
  clear hK K
  refine seqI fun K hK=>?_
  dsimp![q0y,q1d,ea,q4j,q8h,List.cons.injEq,n2,and_true]
  refine⟨big hl,hK _ _ ?_⟩
  clear hK K
  refine seqI fun K hK=>?_
  dsimp![q0y,q1d,ea,q4j,n3]
  refine⟨big hl,hK _ _ ?_⟩
  dsimp![true_and]
  rw[show((pre.length:Nat):Int)+1=((pre.length+1:Nat):Int) by omega]
  exact hq
 cases t with
 |o=>exact no 40 [] rfl (by decide) (by decide) q6q.2.2.1 h rfl
 |c=>exact no 41 [] rfl (by decide) (by decide) q6q.2.2.2.1 h rfl
 |w s=>
  clear no
  obtain⟨l1,_,l3⟩:=q4h ht
  obtain⟨c,x,e⟩:∃c x,s.cps.toList=c::x:=by
   cases q:s.cps.toList with
   |nil=>have:=q4z s;rw[q]at this;simp at this;omega
   |cons c x=>exact⟨c,x,rfl⟩
  have ea:=len c x e
  have e':Tk8.tx (.w s)=c::x:=e
  have all3:=l3
  rw[e,List.all_cons,Bool.and_eq_true]at all3
  have n1:¬c=91:=by rintro rfl;rw[q6q.1]at all3;cases all3.1
  have n2:¬c=35:=by rintro rfl;rw[q6q.2.1]at all3;cases all3.1
  have n3:inS (mk [c]) (Str.ofString "abcdefghijklmnopqrstuvwxyz")=true:=all3.1
  refine seqI fun K hK=>?_
  dsimp![q0y,q1d,ea,q4j,q8h,List.cons.injEq,n1,and_true]
  refine⟨big hl,hK _ _ ?_⟩
  clear hK K
  refine seqI fun K hK=>?_
  dsimp![q0y,q1d,ea,q4j,q8h,List.cons.injEq,n2,and_true]
  refine⟨big hl,hK _ _ ?_⟩
  clear hK K
  refine seqI fun K hK=>?_
  dsimp![q0y,q1d,ea,q4j,n3]
  refine⟨big hl,?_⟩
  have hrr:=hr (pre++[c]) x (txs r) y2k S E Q
  rw[e']at hl h ⊢
  rw[show pre++[c]++x++txs r=pre++(c::x++txs r) by simp,show(pre++[c]).length=pre.length+1 by simp]at hrr
  rw[show((pre.length:Nat):Int)+1=((pre.length+1:Nat):Int) by omega]
  refine hrr hl all3.2 (x2w (hc trivial)) ?_
  rw[show pre.length+1+x.length=pre.length+(c::x).length by simp;omega]
  exact h
 |b k=>
  clear no
  obtain⟨f1,f2,f3,f4⟩:=q6r ht
  have ea:=len 35 _ rfl
  refine seqI fun K hK=>?_
  dsimp![q0y,q1d,ea,q4j,q8h,List.cons.injEq,and_true,show((35:Nat)=91)=False from eq_false (by decide)]
  refine⟨big hl,hK _ _ ?_⟩
  clear hK K
  refine seqI fun K hK=>?_
  dsimp![q0y,q1d,ea,q4j]
  refine⟨big hl,?_⟩
  have hrr:=hr (pre++[35]) (fig k) (txs r) sFig S E Q
  have e':Tk8.tx (.b k)=35::fig k:=rfl
  rw[e']at hl h ⊢
  rw[show pre++[35]++fig k++txs r=pre++(35::fig k++txs r) by simp,show(pre++([35]:List Nat)).length=pre.length+1 by simp]at hrr
  rw[show((pre.length:Nat):Int)+1=((pre.length+1:Nat):Int) by omega]
  refine hrr hl f1 (x2x (hc trivial)) ?_
  rw[show pre.length+1+(fig k).length=pre.length+(35::fig k).length by simp;omega]
  exact h
 |f q=>
  clear no
  have ea:=len 91 _ rfl
  refine seqI fun K hK=>?_
  dsimp![q0y,q1d,ea,q4j]
  refine⟨big hl,?_⟩
  clear hK
  have e':Tk8.tx (.f q)=91::(q.txt++[93]):=rfl
  rw[e']at hl h ⊢
  have ef:Txt.find3 (mk (pre++(91::(q.txt++[93])++txs r))) (mk [93]) (pre.length:Int)=((pre.length+1+q.txt.length:Nat):Int):=by
   refine y3h _ 93 pre.length _ (by omega) ?_ ?_
   ·rw[show pre++(91::(q.txt++[93])++txs r)=(pre++91::q.txt)++93::txs r by simp,List.getElem?_append_right (by simp;omega)]
    simp[show pre.length+1+q.txt.length-(pre.length+(q.txt.length+1))=0 by omega]
   ·intro k h1 h2 h3
    rw[show pre++(91::(q.txt++[93])++txs r)=pre++(91::q.txt++93::txs r) by simp,List.getElem?_append_right h1,List.getElem?_append_left (by simp;omega)]at h3
    have:=List.mem_of_getElem? h3
    rcases List.mem_cons.mp this with z|z
    ·cases z
    ·exact z6d ht.1 _ z rfl
  generalize mk (pre++(91::(q.txt++[93])++txs r))=zz at ef ⊢
  refine seqI fun K hK=>?_
  dsimp![z3x,ef]
  refine hK _ _ ?_
  dsimp![show(((pre.length+1+q.txt.length:Nat):Int)<0)=False from eq_false (by omega)]
  rw[show((pre.length+1+q.txt.length:Nat):Int)+1=((pre.length+(91::(q.txt++[93])).length:Nat):Int) by simp;omega]
  exact h
theorem y5i(z:List Nat)(i:Nat):Txt.slice (mk z) (some (i:Int)) none=mk (z.drop i):=by
 apply q7l
 rw[q5s,q1d,q1d,q0y,HT.sIx_none,HT.sIx_nat]
 by_cases h:i<=z.length
 ·rw[Nat.min_eq_left h,List.take_of_length_le (by rw[List.length_drop];omega)]
 ·rw[List.drop_of_length_le (by omega),List.drop_of_length_le (by omega)];simp
theorem x0m(z:List Nat)(i j:Nat):Txt.slice (mk z) (some (i:Int)) (some (j:Int))=mk ((z.drop i).take (j-i)):=by
 apply q7l
 rw[q5s,q1d,q1d,q0y,HT.sIx_nat,HT.sIx_nat]
 by_cases h:i<=z.length
 ·rw[Nat.min_eq_left h,List.take_eq_take_iff,List.length_drop,Nat.sub_min_sub_right,Nat.sub_min_sub_right,Nat.min_assoc,Nat.min_self]
 ·rw[List.drop_of_length_le (by omega),List.drop_of_length_le (by omega)];simp
theorem y5j(z:List Nat)(i:Nat):Txt.slice (mk z) (some (i:Int)) (some (-1))=mk ((z.drop i).take (z.length-1-i)):=by
 have e:HT.sIx z.length z.length (some (-1))=z.length-1:=by
  unfold HT.sIx
  simp only[show((-1:Int)<0) by decide,if_true]
  omega
 apply q7l
 rw[q5s,q1d,q1d,q0y,HT.sIx_nat,e]
 by_cases h:i<=z.length
 ·rw[Nat.min_eq_left h]
 ·rw[List.drop_of_length_le (by omega),List.drop_of_length_le (by omega)];simp
def NumD(sp:Den):Prop:=∀(k:Nat)(S:q0i)(E:EK)(Q:VC),k<100->Q (.int (k:Nat)) S->sp [.str (mk (fig k))] S E Q
theorem x6m:NumD (fnP 1 1 q2z):=by
 intro k S E Q hk h
 obtain⟨f1,f2,f3,f4⟩:=q6r hk
 have hI:PySem.intText? (mk (fig k))=some (k:Int):=by
  have:=PySem.W.KIN.num_reads (n:=(k:Int)) (by omega) (by omega)
  rw[z4t]at this
  exact this
 refine⟨rfl,?_⟩
 unfold q2z
 rw[q7d,show Str.ofString "0" = mk [48] by decide +kernel]
 obtain⟨c,x,e⟩:∃c x,fig k=c::x:=by
  cases q:fig k with
  |nil=>rw[q]at f2;simp at f2
  |cons c x=>exact⟨c,x,rfl⟩
 refine seqI fun K hK=>?_
 have ea:atI (fig k) 0=some c:=by rw[e];exact q8p [] x c
 have e0:(fig k=[])=False:=eq_false (by rw[e];simp)
 dsimp![q8h,e0,q1d,q0y,ea,q4j]
 refine⟨big (by omega),?_⟩
 have go:K [some (.str (mk (fig k)))] S:=by
  refine hK _ _ ?_
  clear hK K
  refine seqI fun K hK=>?_
  dsimp![q0y]
  rw[if_neg (by omega)]
  refine⟨big (by omega),hK _ _ ?_⟩
  dsimp![y7o]
  exact⟨_,hI,by rw[q0y];omega,h⟩
 refine ite2 (fun z=>ite2 (fun z2=>?_) (fun _=>go)) (fun _=>go)
 exfalso
 simp only[List.cons.injEq,and_true]at z
 subst z
 rcases f4 with q|q
 ·simp[q]at z2
 ·rw[e]at q;simp at q
def FkD(sp:Den):Prop:=∀(q:Kd)(S:q0i)(E:EK)(Q:VC),q.ok->q.lv<=12->(∀S',Ex [] S S'->Q q.pv S')->sp [.str (mk q.txt)] S E Q
theorem w1c{sp:Den}(h:RkD sp):FkD (fnP 1 1 (q2q sp)):=by
 intro q S E Q hq hv hQ
 have:=Kd.txt_len (Kd.ok_sh hq)
 have ep:z3q q.txt=some q:=y1e.mpr ⟨hq,hv,rfl⟩
 refine⟨rfl,?_⟩
 unfold q2q
 dsimp![true_and]
 refine h q.txt S _ _ (by omega) (fun k e S' x=>?_) (fun e=>?_)
 ·rw[ep]at e;cases e;exact hQ S' x
 ·rw[ep]at e;cases e
def TokD(sp:Den):Prop:=∀(t:Tk8)(S:q0i)(E:EK)(Q:VC),t.ok->(∀S',Ex [] S S'->Q t.pv S')->sp [.str (mk t.tx)] S E Q
theorem x4m{si sn sf:Den}(hi:z0q si)(hn:NumD sn)(hf:FkD sf):TokD (fnP 1 1 (q4b si sn sf)):=by
 intro t S E Q ht h
 refine⟨rfl,?_⟩
 unfold q4b
 rw[sq,sqe,shs,sO',sC']
 have okE:q5p [PV.str (mk [40]),PV.str (mk [41])]:=z3t _ _
 have nb:∀(c:Nat)(x:List Nat),isL c=false->q1r (mk (c::x))=false:=fun c x e=>by
  unfold q1r
  rw[q1d,List.all_cons,e]
  simp
 cases t with
 |o=>
  refine seqI fun K hK=>?_
  dsimp![Tk8.tx,List.any_cons,List.any_nil,q8h,Bool.true_or,Bool.or_true]
  exact⟨okE,h S (Ex.refl _ _)⟩
 |c=>
  refine seqI fun K hK=>?_
  dsimp![Tk8.tx,List.any_cons,List.any_nil,q8h,Bool.true_or,Bool.or_true]
  exact⟨okE,h S (Ex.refl _ _)⟩
 |w s=>
  obtain⟨l1,l2,l3⟩:=q4h ht
  have n1:∀c,isL c=false->s≠mk [c]:=fun c hc e=>by
   rw[e,q1d,List.all_cons,hc]at l3
   cases l3
  have e1:(mk [40]=s)=False:=eq_false fun e=>n1 40 q6q.2.2.1 e.symm
  have e2:(mk [41]=s)=False:=eq_false fun e=>n1 41 q6q.2.2.2.1 e.symm
  have et:mk (Tk8.tx (.w s))=s:=z8x s
  rw[et]
  refine seqI fun K hK=>?_
  dsimp![List.any_cons,List.any_nil,e1,e2,Bool.or_self]
  refine⟨okE,hK _ _ ?_⟩
  clear hK K
  refine seqI fun K hK=>?_
  dsimp![true_and]
  refine hi s S _ _ (by omega) fun S1 x1=>?_
  rw[show q1r s=true from ht]
  dsimp![true_and]
  exact⟨big (by decide),h S1 x1⟩
 |b k=>
  obtain⟨f1,f2,f3,f4⟩:=q6r ht
  have et:Tk8.tx (.b k)=35::fig k:=rfl
  rw[et]
  refine seqI fun K hK=>?_
  dsimp![List.any_cons,List.any_nil,q8h,List.cons.injEq,Bool.or_self,show((40:Nat)=35)=False from eq_false (by decide),show((41:Nat)=35)=False from eq_false (by decide),false_and]
  refine⟨okE,hK _ _ ?_⟩
  clear hK K
  refine seqI fun K hK=>?_
  dsimp![true_and]
  refine hi _ S _ _ (by rw[q0y];simp;omega) fun S1 x1=>?_
  rw[nb 35 _ q6q.2.1]
  dsimp![true_and]
  refine hK _ _ ?_
  clear hK K
  refine seqI fun K hK=>?_
  have ea:atI (35::fig k) 0=some 35:=q8p [] (fig k) 35
  dsimp![q1d,q0y,ea,q4j,show Txt.slice (mk (35::fig k)) (some 1) none=mk (fig k)from y5i (35::fig k) 1]
  refine⟨big (by omega),big (by omega),hn k S1 _ _ ht ?_⟩
  exact⟨big (by decide),h S1 x1⟩
 |f q=>
  have hl:=Kd.txt_len (Kd.ok_sh ht.1)
  have et:Tk8.tx (.f q)=91::(q.txt++[93]):=rfl
  rw[et]
  refine seqI fun K hK=>?_
  dsimp![List.any_cons,List.any_nil,q8h,List.cons.injEq,Bool.or_self,show((40:Nat)=91)=False from eq_false (by decide),show((41:Nat)=91)=False from eq_false (by decide),false_and]
  refine⟨okE,hK _ _ ?_⟩
  clear hK K
  refine seqI fun K hK=>?_
  dsimp![true_and]
  have v12:=ht.2
  refine hi _ S _ _ (by rw[q0y];simp;omega) fun S1 x1=>?_
  rw[nb 91 _ q6q.1]
  dsimp![true_and]
  refine hK _ _ ?_
  clear hK K
  refine seqI fun K hK=>?_
  have ll:(91::(q.txt++[93])).length=q.txt.length+2:=by simp
  have ea:atI (91::(q.txt++[93])) 0=some 91:=q8p [] _ 91
  have eb:atI (91::(q.txt++[93])) (-1)=some 93:=by
   unfold atI ixN
   rw[ll,if_neg (by omega),if_pos (by omega)]
   rw[show 91::(q.txt++[93])=(91::q.txt)++[93] by simp]
   simp only[Option.bind_some]
   rw[show(-1+((q.txt.length+2:Nat):Int)).toNat=(91::q.txt).length by simp;omega,List.getElem?_append_right (Nat.le_refl _)]
   simp
  dsimp![q1d,q0y,ea,q4j,q8h,List.cons.injEq,show((91:Nat)=35)=False from eq_false (by decide),false_and]
  refine⟨big (by simp;omega),hK _ _ ?_⟩
  clear hK K
  refine seqI fun K hK=>?_
  have es:Txt.slice (mk (91::(q.txt++[93]))) (some 1) (some (-1))=mk q.txt:=(y5j (91::(q.txt++[93])) 1).trans (by rw[ll];simp)
  dsimp![q1d,q0y,ea,eb,q4j,es]
  refine⟨big (by simp;omega),big (by simp;omega),big (by simp;omega),?_⟩
  exact hf q S1 _ _ ht.1 ht.2 fun S2 x2=>⟨big (by decide),h S2 (x1.trans x2)⟩
theorem x4n{t:Tk8}(h:t.ok):1<=t.tx.length:=by
 cases t with
 |o=>simp[Tk8.tx]
 |c=>simp[Tk8.tx]
 |w s=>have:=(q4h h).1;rw[<-q4z]at this;exact this
 |b k=>simp[Tk8.tx]
 |f q=>simp[Tk8.tx]
def x3p(sp:Den):Prop:=∀(l:List Tk8)(S:q0i)(E:EK)(Q:VC),(txs l).length<=1000000->WC l->(∀n S',S'[n]?=some (.lst (l.map Tk8.pv))->S.length<=n->Ex [] S S'->Q (.ref n) S')->sp [.str (mk (txs l))] S E Q
theorem x0h{se st:Den}(he:EndD se)(ht:TokD st):x3p (fnP 1 4 (q3q se st)):=by
 intro l S E Q hl hw h
 refine⟨rfl,?_⟩
 unfold q3q
 refine seqI fun K hK=>?_
 dsimp![true_and]
 refine⟨big (by decide),hK _ _ ?_⟩
 clear hK K
 refine seqI fun K hK=>?_
 dsimp![true_and]
 refine hK _ _ ?_
 clear hK K
 refine seqI fun K hK=>?_
 refine q8q (fun m σ S1=>∃(dn td:List Tk8)(j:Option PV),l=dn++td/\WC td/\m=td.length/\σ=[some (.str (mk (txs l))),some (.ref S.length),some (.int ((txs dn).length:Nat)),j]/\S1[S.length]?=some (.lst (dn.map Tk8.pv))/\Ex [S.length] S S1/\dn.length<=(txs dn).length) l.length ⟨[],l,none,rfl,hw,rfl,rfl,q1t _ _,Ex.new _ _ _,Nat.le_refl _⟩ ?_
 rintro m σ S1 ⟨dn,td,j,rfl,hwt,rfl,rfl,g,x,hdl⟩ T F hT hF
 dsimp![q0y]
 cases td with
 |nil=>
  rw[List.append_nil]at *
  rw[if_neg (by omega)]
  refine⟨big hl,hF _ (hK _ _ ?_)⟩
  dsimp![true_and]
  exact h _ _ g (Nat.le_refl _) (Ex.weak' x (by exact Nat.le_refl _))
 |cons t r=>
  obtain⟨w1,w2,w3⟩:=hwt
  have p1:=x4n w1
  have ea:txs (dn++t::r)=txs dn++txs (t::r):=z5o _ _
  have lA:(txs (dn++t::r)).length=(txs dn).length+t.tx.length+(txs r).length:=by rw[ea,q9f];simp;omega
  rw[if_pos (by omega)]
  refine⟨big hl,hT _ fun N hN=>?_⟩
  refine seqI fun K2 hK2=>?_
  dsimp![true_and]
  have hee:=he (txs dn) t r S1 E
  rw[<-ea]at hee
  refine hee _ hl w1 w2 (hK2 _ _ ?_)
  clear hK2 K2
  refine seqI fun K2 hK2=>?_
  have es:Txt.slice (mk (txs (dn++t::r))) (some ((txs dn).length:Int)) (some (((txs dn).length+t.tx.length:Nat):Int))=mk t.tx:=by
   rw[x0m,ea,List.drop_left,q9f,Nat.add_sub_cancel_left,List.take_left]
  dsimp![q0y,es,g]
  refine⟨big hl,ht t S1 _ _ w1 fun S2 x2=>?_⟩
  have g2:=x2.get g (by simp)
  dsimp![g2,q1l g2]
  refine⟨by rw[List.length_map];exact bigl (by omega),hK2 _ _ ?_⟩
  dsimp![true_and]
  refine hN r.length _ _ (by simp) ⟨dn++[t],r,some (.int (((txs dn).length+t.tx.length:Nat):Int)),by simp,w3,rfl,?_,?_,(x.trans x2.nil).set (.inl (by simp)),?_⟩
  ·rw[z5o];simp[txs]
  ·rw[q1j _ g2];simp
  ·rw[z5o,show txs [t]=t.tx by simp[txs],List.length_append,List.length_append,List.length_singleton];omega
inductive It8 where
 |f (q:Kd)|o (f:Option T8)
inductive Cu8 where
 |non|t (r:T8)|br (r:T8)
def oT8:Option T8->PV
 |none=>.non
 |some f=>f.tm.pv
def It8.pv:It8->PV
 |.f q=>.tup [.str "fn",q.pv]
 |.o u=>.tup [.str "of",oT8 u]
def Cu8.pv:Cu8->PV
 |.non=>.non
 |.t r=>r.tm.pv
 |.br r=>.tup [.str "brackets",r.tm.pv]
def wf8:List It8->T8->List It8×T8
 |.f q::W,t=>wf8 W (.fn q t)
 |W,t=>(W,t)
def cl8:List It8->T8->Option (List It8×Cu8)
 |.o (some f)::W,t=>some (W,.t (.ap f t))
 |.o none::W,t=>if t.isF=true then some (W,.br t)else none
 |_,_=>none
def st8(W:List It8):Cu8->Tk8->Option (List It8×Cu8)
 |.t t,.c=>cl8 (wf8 W t).1 (wf8 W t).2
 |.non,.o=>some (.o none::W,.non)
 |.t t,.o=>some (.o (some t)::W,.non)
 |.br t,.o=>some (.o (some t)::W,.non)
 |.non,.f q=>some (.f q::W,.non)
 |.non,.w s=>some (W,.t (.nm s))
 |.non,.b k=>some (W,.t (.bd k))
 |_,_=>none
def run8:List It8×Cu8->List Tk8->Option (List It8×Cu8)
 |s,[]=>some s
 |s,t::r=>(st8 s.1 s.2 t).bind fun s'=>run8 s' r
def fns8:T8->List It8->List It8
 |.fn q t,W=>fns8 t (.f q::W)
 |_,W=>W
def z2z:T8->T8
 |.fn _ t=>z2z t
 |t=>t
theorem z1s:∀(t:T8)(W:List It8),wf8 (fns8 t W) (z2z t)=wf8 W t
 |.nm _,W=>rfl
 |.bd _,W=>rfl
 |.ap _ _,W=>rfl
 |.fn q t,W=>by rw[fns8,z2z,z1s t];rfl
theorem wf_o(f:Option T8)(W:List It8)(t:T8):wf8 (.o f::W) t=(.o f::W,t):=by cases t<;>rfl
theorem q9u:∀(t:T8)(W:List It8)(r:List Tk8),run8 (W,.non) (t.tks++r)=run8 (fns8 t W,.t (z2z t)) r
 |.nm w,W,r=>rfl
 |.bd k,W,r=>rfl
 |.fn q t,W,r=>by
  show run8 (.f q::W,.non) (t.tks++r)=_
  rw[q9u t]
  rfl
 |.ap f a,W,r=>by
  have e:(T8.ap f a).tks++r=(if f.isF=true then .o::f.tks++[.c]else f.tks)++(.o::(a.tks++(.c::r))):=by simp[T8.tks]
  have e2:∀W',run8 (.o (some f)::W',.non) (a.tks++(.c::r))=run8 (W',.t (.ap f a)) r:=fun W'=>by
   rw[q9u a]
   show(cl8 _ _).bind _=_
   rw[z1s,wf_o]
   rfl
  rw[e]
  split
  ·rename_i hf
   rw[show Tk8.o::f.tks++[Tk8.c]++(.o::(a.tks++(.c::r)))=.o::(f.tks++(.c::.o::(a.tks++(.c::r)))) by simp]
   show run8 (.o none::W,.non) (f.tks++_)=_
   rw[q9u f]
   show(cl8 _ _).bind _=_
   rw[z1s,wf_o]
   simp only[cl8,hf,if_true,Option.bind_some]
   exact e2 W
  ·rename_i hf
   rw[q9u f]
   have:fns8 f W=W/\z2z f=f:=by
    cases f with
    |fn q t=>simp[T8.isF]at hf
    |_=>exact⟨rfl,rfl⟩
   rw[this.1,this.2]
   exact e2 W
theorem x0u(t:T8):run8 ([],.non) t.tks=some (fns8 t [],.t (z2z t)):=by
 have:=q9u t [] []
 rw[List.append_nil]at this
 exact this
theorem x4c(t:T8):wf8 (fns8 t []) (z2z t)=([],t):=by rw[z1s];rfl
theorem tgk1:(Str.ofString "name" = Str.ofString "brackets")=False:=eq_false (by decide +kernel)
theorem tgk2:(Str.ofString "bound" = Str.ofString "brackets")=False:=eq_false (by decide +kernel)
theorem tgk3:(Str.ofString "fn" = Str.ofString "brackets")=False:=eq_false (by decide +kernel)
theorem tgk4:(Str.ofString "of" = Str.ofString "brackets")=False:=eq_false (by decide +kernel)
theorem z8r(t:T8):∃(z:Str)(r:List PV),t.tm.pv=.tup (.str z::r)/\(z=Str.ofString "brackets")=False/\decide (z=Str.ofString "fn")=t.isF:=by
 cases t with
 |nm w=>exact⟨_,_,rfl,tgk1,by simp[tg1,T8.isF]⟩
 |bd k=>exact⟨_,_,rfl,tgk2,by simp[tg7,T8.isF]⟩
 |fn k b=>exact⟨_,_,rfl,tgk3,by simp[T8.isF]⟩
 |ap f a=>exact⟨_,_,rfl,tgk4,by simp[tgb,T8.isF]⟩
theorem emp1(xs:List PV)(x:PV):(xs++[x]).isEmpty=false:=by simp
theorem y9x(xs:List PV)(x:PV):atI (xs++[x]) (-1)=some x:=by
 unfold atI ixN
 rw[if_neg (by omega),if_pos (by simp;omega)]
 simp only[Option.bind_some,List.length_append,List.length_singleton]
 rw[show(-1+((xs.length+1:Nat):Int)).toNat=xs.length by omega,List.getElem?_append_right (Nat.le_refl _)]
 simp
def WfD(sp:Den):Prop:=∀(n:Nat)(W:List It8)(t:T8)(S:q0i)(E:EK)(Q:VC),S[n]?=some (.lst (W.reverse.map It8.pv))->(∀S',S'[n]?=some (.lst ((wf8 W t).1.reverse.map It8.pv))->Ex [n] S S'->Q (wf8 W t).2.tm.pv S')->sp [.ref n,t.tm.pv] S E Q
theorem x9j:WfD (fnP 2 3 q4a):=by
 intro n W t S E Q g h
 refine⟨rfl,?_⟩
 unfold q4a
 refine seqI fun K hK=>?_
 obtain⟨z,r,e,hz,_⟩:=z8r t
 rw[e]
 dsimp![q0p,hz]
 refine hK _ _ ?_
 rw[<-e]
 clear hK K e
 refine seqI fun K hK=>?_
 refine q8q (fun m σ S1=>∃(W1:List It8)(t1:T8)(j:Option PV),wf8 W1 t1=wf8 W t/\m=W1.length/\σ=[some (.ref n),some t1.tm.pv,j]/\S1[n]?=some (.lst (W1.reverse.map It8.pv))/\Ex [n] S S1) W.length ⟨W,t,none,rfl,rfl,rfl,g,Ex.refl _ _⟩ ?_
 rintro m σ S1 ⟨W1,t1,j,ew,rfl,rfl,g1,x1⟩ T F hT hF
 cases W1 with
 |nil=>
  have g':S1[n]?=some (.lst []):=g1
  dsimp![g',q0x g']
  refine hF _ (hK _ _ ?_)
  have e2:wf8 W t=([],t1):=by rw[<-ew];cases t1<;>rfl
  rw[e2]at h
  dsimp![true_and]
  exact h S1 g1 x1
 |cons i W2=>
  have eL:(i::W2).reverse.map It8.pv=W2.reverse.map It8.pv++[i.pv]:=by simp
  rw[eL]at g1
  cases i with
  |o u=>
   have g':S1[n]?=some (.lst (W2.reverse.map It8.pv++[.tup [.str "of",oT8 u]])):=g1
   dsimp![g',q0x g',y9x,q0p,tgb,emp1,Bool.true_eq_false]
   refine hF _ (hK _ _ ?_)
   have e2:wf8 W t=(.o u::W2,t1):=by rw[<-ew,wf_o]
   rw[e2]at h
   dsimp![true_and]
   exact h S1 (by rw[g',eL];rfl) x1
  |f q=>
   have g':S1[n]?=some (.lst (W2.reverse.map It8.pv++[.tup [.str "fn",q.pv]])):=g1
   dsimp![g',q0x g',y9x,q0p,emp1,Bool.true_eq_false]
   refine hT _ fun N hN=>?_
   refine seqI fun K2 hK2=>?_
   dsimp![g',q1l g',List.getLast?_append,List.getLast?_singleton,Option.or,Option.some_or,List.dropLast_concat]
   refine hK2 _ _ ?_
   dsimp![q5f]
   exact⟨big (by decide),hN W2.length _ _ (by simp) ⟨W2,.fn q t1,_,ew,rfl,rfl,q1j _ g',x1.set (.inl (by simp))⟩⟩
def CbD(sp:Den):Prop:=∀(n:Nat)(W:List It8)(t:T8)(W':List It8)(c:Cu8)(S:q0i)(E:EK)(Q:VC),S[n]?=some (.lst (W.reverse.map It8.pv))->cl8 W t=some (W',c)->(∀S',S'[n]?=some (.lst (W'.reverse.map It8.pv))->Ex [n] S S'->Q c.pv S')->sp [.ref n,t.tm.pv] S E Q
theorem w1k:CbD (fnP 2 3 q2g):=by
 intro n W t W' c S E Q g hc h
 refine⟨rfl,?_⟩
 unfold q2g
 obtain⟨z,r,e,hz,hf⟩:=z8r t
 cases W with
 |nil=>simp[cl8]at hc
 |cons i W2=>
  have eL:(i::W2).reverse.map It8.pv=W2.reverse.map It8.pv++[i.pv]:=by simp
  rw[eL]at g
  cases i with
  |f q=>simp[cl8]at hc
  |o u=>
   have g':S[n]?=some (.lst (W2.reverse.map It8.pv++[.tup [.str "of",oT8 u]])):=g
   refine seqI fun K hK=>?_
   dsimp![g',q0x g',emp1,Bool.true_eq_false]
   refine hK _ _ ?_
   clear hK K
   refine seqI fun K hK=>?_
   dsimp![g',q1l g',List.getLast?_append,List.getLast?_singleton,Option.or,Option.some_or,List.dropLast_concat,q5f]
   refine hK _ _ ?_
   clear hK K
   have gs:=q1j (.lst (W2.reverse.map It8.pv)) g'
   have xs:Ex [n] S (S.set n (.lst (W2.reverse.map It8.pv))):=(Ex.refl _ _).set (.inl (by simp))
   cases u with
   |some f=>
    simp only[cl8,Option.some.injEq,Prod.mk.injEq]at hc
    obtain⟨rfl,rfl⟩:=hc
    obtain⟨z2,r2,e2,_,_⟩:=z8r f
    refine seqI fun K hK=>?_
    dsimp![oT8,e2]
    rw[<-e2]
    exact⟨big (by decide),h _ gs xs⟩
   |none=>
    simp only[cl8]at hc
    split at hc
    ·rename_i ht
     simp only[Option.some.injEq,Prod.mk.injEq]at hc
     obtain⟨rfl,rfl⟩:=hc
     rw[ht,decide_eq_true_eq]at hf
     subst hf
     refine seqI fun K hK=>?_
     dsimp![oT8]
     refine hK _ _ ?_
     clear hK K
     refine seqI fun K hK=>?_
     dsimp![e,q0p]
     refine hK _ _ ?_
     rw[<-e]
     dsimp![true_and]
     exact⟨big (by decide),h _ gs xs⟩
    ·cases hc
def un8:Cu8->Option T8
 |.non=>none
 |.t r=>some r
 |.br r=>some r
def UnD(sp:Den):Prop:=∀(c:Cu8)(S:q0i)(E:EK)(Q:VC),Q (oT8 (un8 c)) S->sp [c.pv] S E Q
theorem x9k:UnD (fnP 1 1 q3p):=by
 intro c S E Q h
 refine⟨rfl,?_⟩
 unfold q3p
 refine seqI fun K hK=>?_
 cases c with
 |non=>
  dsimp![Cu8.pv]
  refine hK _ _ ?_
  dsimp![true_and]
  exact h
 |t r=>
  obtain⟨z,x,e,hz,_⟩:=z8r r
  dsimp![Cu8.pv,e,q0p,hz]
  refine hK _ _ ?_
  rw[<-e]
  dsimp![true_and]
  exact h
 |br r=>
  dsimp![Cu8.pv,q0p,q5f]
  exact h
theorem y1v(t:Tk8):nrf t.pv=true:=by cases t<;>simp[Tk8.pv,nrf,nrfs,z1g]
theorem w0r{t:Tk8}(h:t.ok):okEq t.pv:=by
 refine⟨y1v t,?_⟩
 cases t with
 |f q=>
  have:=Kd.dp_lv q
  have:=h.2
  simp only[Tk8.pv,dep,deps,z7z]
  omega
 |_=>simp[Tk8.pv,dep,deps]
def Tk8.isC:Tk8->Bool
 |.c=>true
 |_=>false
def Tk8.isO:Tk8->Bool
 |.o=>true
 |_=>false
theorem sOC:(sO=sC)=False:=eq_false (by decide +kernel)
theorem sCO:(sC=sO)=False:=eq_false (by decide +kernel)
theorem y4h(t:Tk8)(S:q0i)(Q:VC):cEq t.pv (.str sC) S Q=Q (.bl t.isC) S:=by
 rw[y9r (y1v t)]
 cases t<;>simp[Tk8.pv,Tk8.isC,q6s,z4v,sOC]
theorem y8f(t:Tk8)(S:q0i)(Q:VC):cEq t.pv (.str sO) S Q=Q (.bl t.isO) S:=by
 rw[y9r (y1v t)]
 cases t<;>simp[Tk8.pv,Tk8.isO,q6s,z4v,sCO]
theorem y8t:∀(W:List It8)(t:T8),(wf8 W t).1.length<=W.length
 |[],t=>by simp[wf8]
 |.o u::W,t=>by simp[wf_o]
 |.f q::W,t=>by
  have:=y8t W (.fn q t)
  simp only[wf8,List.length_cons];omega
theorem x8h{W W':List It8}{t:T8}{c:Cu8}(h:cl8 W t=some (W',c)):W'.length<=W.length:=by
 unfold cl8 at h
 split at h
 ·simp only[Option.some.injEq,Prod.mk.injEq]at h;obtain⟨rfl,_⟩:=h;simp
 ·split at h
  ·simp only[Option.some.injEq,Prod.mk.injEq]at h;obtain⟨rfl,_⟩:=h;simp
  ·cases h
 ·cases h
abbrev totB(sc sw su:Den):WS:=(wIfS (q0u (wBin cEq (wVar 3) (wC (.str sC))))
 (wSet 2 (q0v sc (q0e (wVar 1) (q0e (q0v sw (q0e (wVar 1) (q0e (wVar 2) wNil))) wNil))))
 (wIfS (q0u (wBin cEq (wVar 3) (wC (.str sO))))
 (wSeq (q2e (wBM "list" q1i (wVar 1) (q0e (wTup (q0e (wC (.str "of")) (q0e (q0v su (q0e (wVar 2) wNil)) wNil))) wNil)))
 (wSet 2 (wC .non)))
 (wIfS (q0u (wBin z0o (wVar 2) (wC .non)))
 (q3j "NoTerm" (q0e (wC (.str "behind a term stands a bracket or nothing")) wNil))
 (wIfS (q0u (wBin cEq (wBin bIx (wVar 3) (wC (.int 0))) (wC (.str "fn"))))
 (q2e (wBM "list" q1i (wVar 1) (q0e (wVar 3) wNil)))
 (wSet 2 (wVar 3))))))
theorem z7f{sc sw su:Den}(hc:CbD sc)(hw:WfD sw)(hu:UnD su){nt ns:Nat}{all:List PV}{D:PEnds}{E:EK}{S0:q0i}{L:Nat}(hL:L<=900000)(hne:nt≠ns){R:List It8×Cu8}
  (hN:∀v S',Ex [ns] S0 S'->S'[ns]?=some (.lst (R.1.reverse.map It8.pv))->D.nx [some (.ref nt),some (.ref ns),some R.2.pv,v] S') :
  ∀(l:List Tk8)(W:List It8)(c:Cu8)(v:Option PV)(S:q0i),W.length+l.length<=L->run8 (W,c) l=some R->Ex [ns] S0 S->S[nt]?=some (.lst all)->S[ns]?=some (.lst (W.reverse.map It8.pv))->
   q8m (fun S=>q3c S nt=some all) (q1o 3) (totB sc sw su) D E (l.map Tk8.pv) [some (.ref nt),some (.ref ns),some c.pv,v] S
 |[],W,c,v,S,hl,hr,x,h1,h2=>by
  simp only[run8,Option.some.injEq]at hr
  subst hr
  exact y3b (q0x h1) (hN v S x h2)
 |t::l,W,c,v,S,hl,hr,x,h1,h2=>by
  rw[List.length_cons]at hl
  rw[run8]at hr
  cases hs:st8 W c t with
  |none=>rw[hs]at hr;cases hr
  |some s'=>
   rw[hs,Option.bind_some]at hr
   obtain⟨W',c'⟩:=s'
   refine z0l (q0x h1) fun N hN2=>?_
   have more:∀(S':q0i),W'.length<=W.length+1->Ex [ns] S S'->S'[ns]?=some (.lst (W'.reverse.map It8.pv))->N [some (.ref nt),some (.ref ns),some c'.pv,some t.pv] S':=fun S' hl' x' g=>hN2 _ _ (z7f hc hw hu hL hne hN l W' c' _ S' (by omega) hr (x.trans x') (x'.get h1 (by simp;exact hne)) g)
   have eT:∀(y:PV),W.reverse.map It8.pv++[y]=W.reverse.map It8.pv++[y]:=fun _=>rfl
   cases t with
   |c=>
    dsimp![y4h,Tk8.isC]
    cases c with
    |t u=>
     have hs':cl8 (wf8 W u).1 (wf8 W u).2=some (W',c'):=hs
     refine hw ns W u S _ _ h2 fun S1 g1 x1=>?_
     have l1:=y8t W u
     have l2:=x8h hs'
     dsimp![true_and]
     exact hc ns _ _ W' c' S1 _ _ g1 hs' fun S2 g2 x2=>more S2 (by omega) (x1.trans x2) g2
    |non=>cases hs
    |br u=>cases hs
   |o=>
    dsimp![y4h,y8f,Tk8.isC,Tk8.isO,h2]
    refine seqI fun K2 hK2=>?_
    dsimp![h2]
    refine hu c S _ _ ?_
    dsimp![h2,q1l h2]
    have e:W'=.o (un8 c)::W/\c'=.non:=by
     cases c<;>(simp only[st8,Option.some.injEq,Prod.mk.injEq]at hs;exact⟨hs.1.symm,hs.2.symm⟩)
    obtain⟨rfl,rfl⟩:=e
    refine⟨big (by decide),by rw[List.length_map,List.length_reverse];exact bigl (by omega),hK2 _ _ ?_⟩
    dsimp![true_and]
    refine more _ (by simp) ((Ex.refl _ _).set (.inl (by simp))) ?_
    rw[q1j _ h2]
    simp[It8.pv]
   |w s=>
    cases c with
    |non=>
     simp only[st8,Option.some.injEq,Prod.mk.injEq]at hs
     obtain⟨rfl,rfl⟩:=hs
     dsimp![y4h,y8f,Tk8.isC,Tk8.isO,Cu8.pv]
     dsimp![Tk8.pv,q0p,tg1]
     exact more S (by omega) (Ex.refl _ _) h2
    |t _=>cases hs
    |br _=>cases hs
   |b k=>
    cases c with
    |non=>
     simp only[st8,Option.some.injEq,Prod.mk.injEq]at hs
     obtain⟨rfl,rfl⟩:=hs
     dsimp![y4h,y8f,Tk8.isC,Tk8.isO,Cu8.pv]
     dsimp![Tk8.pv,q0p,tg7]
     exact more S (by omega) (Ex.refl _ _) h2
    |t _=>cases hs
    |br _=>cases hs
   |f q=>
    cases c with
    |non=>
     simp only[st8,Option.some.injEq,Prod.mk.injEq]at hs
     obtain⟨rfl,rfl⟩:=hs
     dsimp![y4h,y8f,Tk8.isC,Tk8.isO,Cu8.pv]
     dsimp![Tk8.pv,q0p,h2,q1l h2]
     refine⟨by rw[List.length_map,List.length_reverse];exact bigl (by omega),more _ (by simp) ((Ex.refl _ _).set (.inl (by simp))) ?_⟩
     rw[q1j _ h2]
     simp[It8.pv]
    |t _=>cases hs
    |br _=>cases hs
def TotD(sp:Den):Prop:=∀(t:T8)(n:Nat)(S:q0i)(E:EK)(Q:VC),S[n]?=some (.lst (t.tks.map Tk8.pv))->t.tks.length<=900000->(∀S',Ex [] S S'->Q t.tm.pv S')->sp [.ref n] S E Q
theorem x4l{sc sw su:Den}(hc:CbD sc)(hw:WfD sw)(hu:UnD su):TotD (fnP 1 4 (q2b sc sw su)):=by
 intro t n S E Q g hl h
 refine⟨rfl,?_⟩
 unfold q2b
 rw[show Str.ofString "(" = sO from rfl,show Str.ofString ")" = sC from rfl]
 refine seqI fun K hK=>?_
 dsimp![true_and]
 refine⟨big (by decide),hK _ _ ?_⟩
 clear hK K
 refine seqI fun K hK=>?_
 dsimp![true_and]
 refine hK _ _ ?_
 clear hK K
 refine seqI fun K hK=>?_
 have g1:=q1x g [SO.lst []]
 have nl:=q1e g
 dsimp![g1,q0x g1]
 refine z7f hc hw hu (S0:=S++[.lst []]) hl (Nat.ne_of_lt nl) (R:=(fns8 t [],.t (z2z t))) (fun v S' x g2=>hK _ _ ?_) t.tks [] .non none _ (by simp) (x0u t) (Ex.refl _ _) g1 (q1t _ _)
 clear hK K
 have wk:∀{S2},Ex [S.length] S' S2->Ex [] S S2:=fun {S2} x2=>Ex.weak' ((((Ex.refl _ _).app [SO.lst []]).nil).trans (x.trans x2)) (Nat.le_refl _)
 refine seqI fun K hK=>?_
 dsimp![Cu8.pv]
 refine hw _ (fns8 t []) (z2z t) S' _ _ g2 fun S2 g3 x3=>hK _ _ ?_
 rw[x4c]at g3 ⊢
 clear hK K
 have g4:S2[S.length]?=some (.lst []):=g3
 refine seqI fun K hK=>?_
 dsimp![g4,q0x g4]
 refine hK _ _ ?_
 dsimp![true_and]
 exact h S2 (wk x3)
def encD(ds:List Nat):List PV:=ds.map fun x:Nat=>PV.int x
theorem q5x(ds:List Nat)(d:Nat):encD (ds++[d])=encD ds++[.int (d:Nat)]:=by simp[encD]
abbrev depB:WS:=(wIfS (q0u (wBin cEq (wBin bIx (wVar 2) (wC (.int 0))) (wC (.str "of"))))
 (q2e (wBM "list" q1i (wVar 1) (q0e (wBin bAdd (wC (.int 1)) (wCB fMax (q0e (wBM0 "list" mPop (wVar 1)) (q0e (wBM0 "list" mPop (wVar 1)) wNil)))) wNil)))
 (wIfS (q0u (wBin cEq (wBin bIx (wVar 2) (wC (.int 0))) (wC (.str "fn"))))
 (q2e (wBM "list" q1i (wVar 1) (q0e (wBin bAdd (wC (.int 1)) (wBM0 "list" mPop (wVar 1))) wNil)))
 (q2e (wBM "list" q1i (wVar 1) (q0e (wC (.int 0)) wNil)))))
theorem y7w{x0:Option PV}{nt ns:Nat}{all:List PV}{D:PEnds}{E:EK}{S0:q0i}{L:Nat}(hL:L<=900000)(hne:nt≠ns):∀(t:Tm)(fs:List Nat)(i:Nat)(ds:List Nat)(rest:List PV)(v w:Option PV)(S:q0i),ds.length+t.sz<=L->Ex [ns] S0 S->S[nt]?=some (.lst all)->S[ns]?=some (.lst (encD ds))->
  (∀v w S',Ex [ns] S0 S'->S'[nt]?=some (.lst all)->S'[ns]?=some (.lst (encD (ds++[t.dp])))->q8m (fun S=>q3c S nt=some all) (q7i 2 (q2l (q1o 2) (q2l (q1o 3) q7j))) depB D E rest [x0,some (.ref ns),v,w] S')->
  q8m (fun S=>q3c S nt=some all) (q7i 2 (q2l (q1o 2) (q2l (q1o 3) q7j))) depB D E (((q3k t fs i).map enc).reverse++rest) [x0,some (.ref ns),v,w] S:=by
 intro t
 have leaf:∀(t:Tm)(z:Str)(r:List PV),t.pv=.tup (.str z::r)->(z=Str.ofString "fn")=False->(z=Str.ofString "of")=False->t.dp=0->∀(fs ds:List Nat)(rest:List PV)(v w:Option PV)(S:q0i),ds.length+1<=L->Ex [ns] S0 S->S[nt]?=some (.lst all)->S[ns]?=some (.lst (encD ds))->
   (∀v w S',Ex [ns] S0 S'->S'[nt]?=some (.lst all)->S'[ns]?=some (.lst (encD (ds++[t.dp])))->q8m (fun S=>q3c S nt=some all) (q7i 2 (q2l (q1o 2) (q2l (q1o 3) q7j))) depB D E rest [x0,some (.ref ns),v,w] S')->
   q8m (fun S=>q3c S nt=some all) (q7i 2 (q2l (q1o 2) (q2l (q1o 3) q7j))) depB D E (enc (t,fs)::rest) [x0,some (.ref ns),v,w] S:=by
  intro t z r e z1 z2 d0 fs ds rest v w S hl x h1 h2 h
  refine z0l (q0x h1) fun N hN=>?_
  dsimp![enc,e,q0p,z1,z2,h2,q1l h2]
  refine⟨by simp only[encD,List.length_map];exact bigl (by omega),hN _ _ (h _ _ _ (x.set (.inl (by simp))) (q2v _ h1 hne.symm) ?_)⟩
  rw[q1j _ h2,q5x,d0]
  rfl
 induction t with
 |nm s=>intro fs i ds rest v w S hl x h1 h2 h;exact leaf (.nm s) _ _ rfl tg1 tg2 rfl fs ds rest v w S hl x h1 h2 h
 |lf a b=>intro fs i ds rest v w S hl x h1 h2 h;exact leaf (.lf a b) _ _ rfl tg4 tg5 rfl fs ds rest v w S hl x h1 h2 h
 |bd k=>intro fs i ds rest v w S hl x h1 h2 h;exact leaf (.bd k) _ _ rfl tg7 tg8 rfl fs ds rest v w S hl x h1 h2 h
 |fn k b ih=>
  intro fs i ds rest v w S hl x h1 h2 h
  simp only[Tm.sz]at hl
  rw[q3k,List.map_cons,List.reverse_cons,List.append_assoc]
  refine ih _ _ ds _ v w S (by omega) x h1 h2 fun v w S1 x1 h3 h4=>?_
  rw[q5x]at h4
  refine z0l (q0x h3) fun N hN=>?_
  dsimp![enc,Tm.pv,q0p,tg9,h4,q1l h4,List.getLast?_append,List.getLast?_singleton,Option.or,Option.some_or,List.dropLast_concat]
  have g5:=q1j (.lst (encD ds)) h4
  dsimp![g5,q1l g5]
  refine⟨by simp only[encD,List.length_map];exact bigl (by omega),hN _ _ (h _ _ _ ((x1.set (.inl (by simp))).set (.inl (by simp))) (q2v _ (q2v _ h3 hne.symm) hne.symm) ?_)⟩
  rw[q1j _ g5,q5x,Tm.dp,show(1:Int)+(b.dp:Nat)=((b.dp+1:Nat):Int) by omega]
 |ap f a ihf iha=>
  intro fs i ds rest v w S hl x h1 h2 h
  simp only[Tm.sz]at hl
  rw[q3k,List.map_cons,List.reverse_cons,List.map_append,List.reverse_append,List.append_assoc,List.append_assoc]
  refine iha _ _ ds _ v w S (by omega) x h1 h2 fun v w S1 x1 h3 h4=>?_
  have:=y0b a
  refine ihf _ _ (ds++[a.dp]) _ v w S1 (by simp;omega) x1 h3 h4 fun v w S2 x2 h5 h6=>?_
  rw[q5x,q5x]at h6
  refine z0l (q0x h5) fun N hN=>?_
  dsimp![enc,Tm.pv,q0p,h6,q1l h6,List.getLast?_append,List.getLast?_singleton,Option.or,Option.some_or,List.dropLast_concat]
  have g7:=q1j (.lst (encD ds++[PV.int (a.dp:Nat)])) h6
  dsimp![g7,q1l g7,List.getLast?_append,List.getLast?_singleton,Option.or,Option.some_or,List.dropLast_concat]
  have g8:=q1j (.lst (encD ds)) g7
  dsimp![g8,q1l g8]
  refine⟨by simp only[encD,List.length_map];exact bigl (by omega),hN _ _ (h _ _ _ (((x2.set (.inl (by simp))).set (.inl (by simp))).set (.inl (by simp))) (q2v _ (q2v _ (q2v _ h5 hne.symm) hne.symm) hne.symm) ?_)⟩
  rw[q1j _ g8,q5x,Tm.dp,show(1:Int)+(if((a.dp:Nat):Int) > (f.dp:Nat)then((a.dp:Nat):Int)else(f.dp:Nat))=((max f.dp a.dp+1:Nat):Int) by split<;>omega]
def DepD(sp:Den):Prop:=∀(t:Tm)(S:q0i)(E:EK)(Q:VC),t.sz<=1000->(∀S',Ex [] S S'->Q (.int t.dp) S')->sp [t.pv] S E Q
theorem y7v{sp:Den}(hp:z0p sp):DepD (fnP 1 4 (q4d sp)):=by
 intro t S E Q hz h
 refine⟨rfl,?_⟩
 unfold q4d
 refine seqI fun K hK=>?_
 dsimp![true_and]
 refine⟨big (by decide),hK _ _ ?_⟩
 clear hK K
 refine seqI fun K hK=>?_
 dsimp![true_and]
 refine hp t _ _ _ hz fun r S1 g l x=>?_
 dsimp![g,q0x g]
 have hl:(S++[SO.lst []]).length<=r:=l
 have gs:=x.get (q1t S (SO.lst [])) (by simp)
 have hne:r≠S.length:=by rw[List.length_append,List.length_singleton]at hl;omega
 have:=y7w (x0:=some t.pv) (nt:=r) (ns:=S.length) (all:=(q3k t [] 0).map enc) (D:={nx:=K,rt:=Q}) (E:=E) (S0:=S1) (L:=1000) (by omega) hne t [] 0 [] [] none none S1 (by simpa using hz) (Ex.refl _ _) g gs
 rw[List.append_nil]at this
 refine this fun v w S2 x2 h3 h4=>y3b (q0x h3) (hK _ _ ?_)
 have h4':S2[S.length]?=some (.lst [.int (t.dp:Nat)]):=h4
 dsimp![h4',q0p]
 exact h S2 (Ex.weak' ((((Ex.refl _ _).app [SO.lst []]).nil).trans (x.nil.trans x2)) (Nat.le_refl _))
def Tk8.isB(t:Tk8):Bool:=t.isO||t.isC
def nb8(l:List Tk8):Nat:=(l.filter fun t=>!t.isB).length
theorem y1w(a b:List Tk8):nb8 (a++b)=nb8 a+nb8 b:=by simp[nb8]
theorem nb_o(l:List Tk8):nb8 (.o::l)=nb8 l:=by simp[nb8,Tk8.isB,Tk8.isO]
theorem nb_c(l:List Tk8):nb8 (.c::l)=nb8 l:=by simp[nb8,Tk8.isB,Tk8.isC,Tk8.isO]
theorem y6v:∀t:T8,nb8 t.tks<=t.tm.sz
 |.nm _=>by simp[T8.tks,nb8,Tk8.isB,Tk8.isO,Tk8.isC,T8.tm,Tm.sz]
 |.bd _=>by simp[T8.tks,nb8,Tk8.isB,Tk8.isO,Tk8.isC,T8.tm,Tm.sz]
 |.fn q t=>by
  have:=y6v t
  have e:nb8 (.f q::t.tks)=nb8 t.tks+1:=by simp[nb8,Tk8.isB,Tk8.isO,Tk8.isC]
  simp only[T8.tks,T8.tm,Tm.sz,e];omega
 |.ap f a=>by
  have h1:=y6v f
  have h2:=y6v a
  have e:nb8 ([]:List Tk8)=0:=rfl
  simp only[T8.tks,T8.tm,Tm.sz]
  split<;>simp only[y1w,nb_o,nb_c,List.cons_append,e]<;>omega
theorem q9q:∀t:T8,t.tks.length<=5*t.tm.sz
 |.nm _=>by simp[T8.tks,T8.tm,Tm.sz]
 |.bd _=>by simp[T8.tks,T8.tm,Tm.sz]
 |.fn q t=>by
  have:=q9q t
  simp only[T8.tks,T8.tm,Tm.sz,List.length_cons];omega
 |.ap f a=>by
  have h1:=q9q f
  have h2:=q9q a
  simp only[T8.tks,T8.tm,Tm.sz]
  split<;>simp only[List.length_append,List.length_cons,List.length_nil]<;>omega
theorem x4o{t:Tk8}(h:t.ok):t.tx.length<=140:=by
 cases t with
 |o=>simp[Tk8.tx]
 |c=>simp[Tk8.tx]
 |w s=>have:=(q4h h).2.1;rw[<-q4z]at this;show s.cps.toList.length<=140;omega
 |b k=>have:=(q6r h).2.2.1;simp only[Tk8.tx,List.length_cons];omega
 |f q=>
  have:=Kd.txt_len (Kd.ok_sh h.1)
  have:=h.2
  simp only[Tk8.tx,List.length_cons,List.length_append,List.length_nil];omega
theorem z5n:∀{l:List Tk8},WC l->(txs l).length<=140*l.length
 |[],_=>by simp[txs]
 |t::r,h=>by
  have:=z5n h.2.2
  have:=x4o h.1
  rw[q9f,List.length_append,List.length_cons];omega
theorem wc_t{t:T8}{n:Nat}(h:t.ok n)(hn:n+t.tm.dp<=100):WC t.tks:=by
 have:=z3g t n h hn [] trivial trivial
 rwa [List.append_nil]at this
theorem z0z{t:T8}{n:Nat}(h:t.ok n)(hn:n+t.tm.dp<=100):t.tx.length<=700*t.tm.sz:=by
 have:=z5n (wc_t h hn)
 have:=q9q t
 unfold T8.tx
 omega
theorem q7t:∀(t:T8)(fs:List Nat)(i:Nat),t.ok fs.length->none∉ow t.tm fs i
 |.nm _,fs,i,_=>by simp[T8.tm,ow]
 |.bd k,fs,i,h=>by
  have h':k<fs.length:=h
  simp only[T8.tm,ow,own,List.mem_singleton]
  rw[if_pos h']
  intro e
  have:=(List.getElem?_eq_none_iff.mp e.symm)
  omega
 |.fn q t,fs,i,h=>by
  simp only[T8.tm,ow]
  exact q7t t (fs++[i]) (i+1) (by simpa using h.2)
 |.ap f a,fs,i,h=>by
  simp only[T8.tm,ow,List.mem_append]
  rintro(z|z)
  ·exact q7t f _ _ h.1 z
  ·exact q7t a _ _ h.2 z
theorem w1p(t:Tk8):([PV.str sO,PV.str sC].any fun y=>eqB y t.pv)=t.isB:=by
 cases t<;>simp[Tk8.pv,Tk8.isB,Tk8.isO,Tk8.isC,q6s,y3p,sOC,sCO]
def z9o(t:T8):Prop:=t.tm.sz<=30/\t.tm.dp<=12/\none∉ow t.tm [] 0
def RtD(sp:Den):Prop:=∀(t:T8)(n:Nat)(S:q0i)(E:EK)(Q:VC),t.ok n->n+t.tm.dp<=100->t.tm.sz<=1000->(z9o t->∀S',Ex [] S S'->Q t.tm.pv S')->(¬z9o t->∀S',Ex [] S S'->E (.exc "NoTerm") S')->sp [.str (mk t.tx)] S E Q
theorem x0v{sk st ss sd sc:Den}(hk:x3p sk)(ht:TotD st)(hs:∀{t:Tm}{S:q0i}{E:EK}{Q:VC},t.sz<=1000->(∀S',Ex [] S S'->Q (.int t.sz) S')->ss [t.pv] S E Q)(hd:DepD sd)
  (hc:∀{t:Tm}{S:q0i}{E:EK}{Q:VC},t.sz<=1000->(∀S',Ex [] S S'->Q (.bl (!decide (none∈ow t [] 0))) S')->sc [t.pv] S E Q):RtD (fnP 1 3 (q3u sk st ss sd sc)):=by
 intro t n S E Q ok hn hz h1 h2
 have wc:=wc_t ok hn
 have ll:=q9q t
 have lx:=z5n wc
 refine⟨rfl,?_⟩
 unfold q3u
 rw[show Str.ofString "(" = sO from rfl,show Str.ofString ")" = sC from rfl]
 refine seqI fun K hK=>?_
 dsimp![Bool.true_eq_false]
 refine hK _ _ ?_
 clear hK K
 refine seqI fun K hK=>?_
 dsimp![true_and]
 refine hk t.tks S _ _ (by omega) wc fun nt S1 g l1 x1=>hK _ _ ?_
 clear hK K
 refine seqI fun K hK=>?_
 dsimp![g,q0x g]
 refine⟨by rw[List.length_map];exact big (by omega),?_⟩
 have okE:q5p [PV.str sO,PV.str sC]:=z3t _ _
 refine z4z (fun rest ys σ S2=>S2=S1/\(∃v,σ=[v])/\∃dn td:List Tk8,t.tks=dn++td/\WC td/\rest=td.map Tk8.pv/\ys.length=nb8 dn) ?_ ?_ _ _ _ _ ⟨rfl,⟨none,rfl⟩,[],t.tks,rfl,wc,rfl,rfl⟩
 ·rintro ys σ S2 ⟨rfl,-,dn,td,e1,-,e2,e3⟩
  obtain rfl:td=[]:=by cases td with
   |nil=>rfl
   |cons a b=>simp at e2
  rw[List.append_nil]at e1
  subst e1
  refine⟨q0x g,?_⟩
  have nbl:=y6v t
  have gn:=q1t S2 (.lst ys)
  dsimp![q0x gn,e3]
  have x2:Ex [] S (S2++[.lst ys]):=x1.app _
  refine ite2 (fun z=>⟨big (by decide),h2 (fun q=>by have:=q.1;omega) _ x2⟩) (fun z=>hK _ _ ?_)
  clear hK K
  have g3:=q1x g [SO.lst ys]
  refine seqI fun K hK=>?_
  dsimp![true_and]
  refine ht t nt _ _ _ g3 (by omega) fun S3 x3=>hK _ _ ?_
  clear hK K
  have x03:=x2.trans x3
  refine seqI fun K hK=>?_
  dsimp![true_and]
  refine hs hz fun S4 x4=>?_
  have x04:=x03.trans x4
  dsimp![true_and]
  refine ite2 (fun z=>⟨big (by decide),h2 (fun q=>by have:=q.1;omega) _ x04⟩) (fun z3=>?_)
  refine hd t.tm _ _ _ hz fun S5 x5=>?_
  have x05:=x04.trans x5
  dsimp![true_and]
  refine ite2 (fun z=>⟨big (by decide),h2 (fun q=>by have:=q.2.1;omega) _ x05⟩) (fun z4=>hK _ _ ?_)
  clear hK K
  refine seqI fun K hK=>?_
  dsimp![true_and]
  refine hc hz fun S6 x6=>?_
  have x06:=x05.trans x6
  by_cases q:none∈ow t.tm [] 0
  ·rw[decide_eq_true q]
   dsimp![true_and]
   exact⟨big (by decide),h2 (fun f=>f.2.2 q) _ x06⟩
  ·rw[decide_eq_false q]
   dsimp![Bool.true_eq_false]
   refine hK _ _ ?_
   dsimp![true_and]
   exact h1 ⟨by omega,by omega,q⟩ _ x06
 ·rintro x r ys σ S2 ⟨rfl,⟨v,rfl⟩,dn,td,e1,w1,e2,e3⟩ N hN
  cases td with
  |nil=>simp at e2
  |cons a b=>
   simp only[List.map_cons,List.cons.injEq]at e2
   obtain⟨rfl,rfl⟩:=e2
   have oka:=w0r w1.1
   refine⟨q0x g,?_⟩
   dsimp![w1p]
   refine⟨⟨oka,okE⟩,ite2 (fun z=>hN _ _ _ ⟨rfl,⟨_,rfl⟩,dn++[a],b,by simp[e1],w1.2.2,rfl,?_⟩) (fun z=>hN _ _ _ ⟨rfl,⟨_,rfl⟩,dn++[a],b,by simp[e1],w1.2.2,rfl,?_⟩)⟩
   ·rw[y1w,List.length_append,e3];simp[nb8,z]
   ·rw[y1w,e3];simp only[nb8];simp[Bool.not_eq_false]at z;simp[z]
theorem q8k{T:Nat->Den}(hT:∀n,T (n+1)=fnP 1 1 (q2m (T n))):∀(k:Kd)(n:Nat),k.dp<n->k.sh->k.lv<=1000->∀(S:q0i)(E:EK)(Q:VC),Q (.str (mk k.txt)) S->T n [k.pv] S E Q
 |.a s,n,hn,hs,hv,S,E,Q,h=>by
  obtain⟨n,rfl⟩:∃m,n=m+1:=⟨n-1,by omega⟩
  rw[hT]
  refine⟨rfl,?_⟩
  unfold q2m
  refine seqI fun K hK=>?_
  dsimp![Kd.pv]
  exact h
 |.p f t,n,hn,hs,hv,S,E,Q,h=>by
  obtain⟨n,rfl⟩:∃m,n=m+1:=⟨n-1,by omega⟩
  simp only[Kd.dp]at hn
  simp only[Kd.lv]at hv
  have l1:=Kd.txt_len hs.1
  have l2:=Kd.txt_len hs.2
  rw[hT]
  refine⟨rfl,?_⟩
  unfold q2m
  rw[sO',sC',show Str.ofString ">" = mk [62] by decide +kernel]
  refine seqI fun K hK=>?_
  dsimp![Kd.pv]
  refine hK _ _ ?_
  dsimp![show atI [f.pv,t.pv] 0=some f.pv from rfl,show atI [f.pv,t.pv] 1=some t.pv from rfl]
  refine q8k hT f n (by omega) hs.1 (by omega) _ _ _ ?_
  dsimp![q3z,q0y]
  refine⟨big (by first|(simp only[List.length_append,List.length_cons,List.length_nil];omega)|omega),big (by first|(simp only[List.length_append,List.length_cons,List.length_nil];omega)|omega),?_⟩
  refine q8k hT t n (by omega) hs.2 (by omega) _ _ _ ?_
  dsimp![q3z,q0y]
  refine⟨big (by first|(simp only[List.length_append,List.length_cons,List.length_nil];omega)|omega),big (by first|(simp only[List.length_append,List.length_cons,List.length_nil];omega)|omega),?_⟩
  have e:40::(f.txt++[62]++t.txt++[41])=(Kd.p f t).txt:=by simp[Kd.txt]
  rw[e]
  exact h
theorem x4j(w:Str):(T8.nm w).tx=w.cps.toList:=by simp[T8.tx,T8.tks,txs,Tk8.tx]
theorem y5a(k:Nat):(T8.bd k).tx=35::fig k:=by simp[T8.tx,T8.tks,txs,Tk8.tx]
theorem x0e(q:Kd)(t:T8):(T8.fn q t).tx=91::(q.txt++[93])++t.tx:=by simp[T8.tx,T8.tks,txs,Tk8.tx]
theorem y5b(f a:T8):(T8.ap f a).tx=(if f.isF=true then 40::f.tx++[41]else f.tx)++(40::a.tx++[41]):=by
 simp only[T8.tx,T8.tks]
 split<;>simp[txs,Tk8.tx]
theorem q9l{k:Nat}(h:k<100):((k:Int)).natAbs.log2<1920:=by
 have:((k:Int)).natAbs=k:=by omega
 rw[this]
 exact Nat.lt_of_le_of_lt (Nat.log2_le_self k) (by omega)
theorem y2m{T Y:Nat->Den}(hT:∀n,T (n+1)=fnP 1 2 (q3d (Y n) (T n)))(hY:∀(k:Kd)(n:Nat),k.dp<n->k.sh->k.lv<=1000->∀(S:q0i)(E:EK)(Q:VC),Q (.str (mk k.txt)) S->Y n [k.pv] S E Q) :
  ∀(t:T8)(n m:Nat),t.ok m->m+t.tm.dp<=100->t.tm.sz<=1000->t.tm.dp+20<=n->∀(S:q0i)(E:EK)(Q:VC),Q (.str (mk t.tx)) S->T n [t.tm.pv] S E Q:=by
 intro t
 induction t with
 |nm w=>
  intro n m ok hm hz hn S E Q h
  obtain⟨n,rfl⟩:∃m,n=m+1:=⟨n-1,by omega⟩
  rw[hT]
  refine⟨rfl,?_⟩
  unfold q3d
  refine seqI fun K hK=>?_
  dsimp![T8.tm,Tm.pv,q0p,q5f]
  rw[x4j,z8x]at h
  exact h
 |bd k=>
  intro n m ok hm hz hn S E Q h
  have hk:k<100:=by have h':k<m:=ok;omega
  have f3:=(q6r hk).2.2.1
  obtain⟨n,rfl⟩:∃m,n=m+1:=⟨n-1,by omega⟩
  rw[hT]
  refine⟨rfl,?_⟩
  unfold q3d
  rw[shs]
  refine seqI fun K hK=>?_
  dsimp![T8.tm,Tm.pv,q0p,show(Str.ofString "bound" = Str.ofString "name")=False from eq_false (by decide +kernel)]
  refine hK _ _ ?_
  clear hK K
  refine seqI fun K hK=>?_
  dsimp![q0p,q5f]
  rw[z4t]
  simp only[q3z,q0y]
  rw[y5a]at h
  exact⟨q9l hk,big (by first|(simp only[List.length_append,List.length_cons,List.length_nil];omega)|omega),h⟩
 |fn q t ih=>
  intro n m ok hm hz hn S E Q h
  have lv:=ok.1.2
  have l1:=Kd.txt_len (Kd.ok_sh ok.1.1)
  have l2:=Kd.dp_lv q
  simp only[T8.tm,Tm.dp,Tm.sz]at hm hz hn
  have l3:=z0z ok.2 (by omega)
  obtain⟨n,rfl⟩:∃m,n=m+1:=⟨n-1,by omega⟩
  rw[hT]
  refine⟨rfl,?_⟩
  unfold q3d
  rw[sq,sqe]
  refine seqI fun K hK=>?_
  dsimp![T8.tm,Tm.pv,q0p,show(Str.ofString "fn" = Str.ofString "name")=False from eq_false (by decide +kernel)]
  refine hK _ _ ?_
  clear hK K
  refine seqI fun K hK=>?_
  dsimp![q0p,tga]
  refine hK _ _ ?_
  clear hK K
  refine seqI fun K hK=>?_
  dsimp![q0p,q5f]
  refine hY q n (by omega) (Kd.ok_sh ok.1.1) (by omega) _ _ _ ?_
  dsimp![q9b,q3z,q0y]
  refine⟨big (by first|(simp only[List.length_append,List.length_cons,List.length_nil];omega)|omega),big (by first|(simp only[List.length_append,List.length_cons,List.length_nil];omega)|omega),?_⟩
  refine ih n (m+1) ok.2 (by omega) (by omega) (by omega) _ _ _ ?_
  dsimp![q3z,q0y]
  rw[x0e]at h
  refine⟨big (by first|(simp only[List.length_append,List.length_cons,List.length_nil];omega)|omega),?_⟩
  exact h
 |ap f a ihf iha=>
  intro n m ok hm hz hn S E Q h
  simp only[T8.tm,Tm.dp,Tm.sz]at hm hz hn
  have l3:=z0z ok.1 (by omega)
  have l4:=z0z ok.2 (by omega)
  obtain⟨n,rfl⟩:∃m,n=m+1:=⟨n-1,by omega⟩
  obtain⟨z,r,e,hz2,hf⟩:=z8r f
  rw[hT]
  refine⟨rfl,?_⟩
  unfold q3d
  rw[sO',sC']
  refine seqI fun K hK=>?_
  dsimp![T8.tm,Tm.pv,q0p,show(Str.ofString "of" = Str.ofString "name")=False from eq_false (by decide +kernel)]
  refine hK _ _ ?_
  clear hK K
  refine seqI fun K hK=>?_
  dsimp![q0p,tgc]
  refine hK _ _ ?_
  clear hK K
  refine seqI fun K hK=>?_
  dsimp![q0p,tgb]
  refine hK _ _ ?_
  clear hK K
  refine seqI fun K hK=>?_
  dsimp![q5f]
  refine ihf n m ok.1 (by omega) (by omega) (by omega) _ _ _ (hK _ _ ?_)
  clear hK K
  have last:∀(y:List Nat),y.length<=700*f.tm.sz+2->(y++(40::a.tx++[41])=(T8.ap f a).tx)->wRet (wBin bAdd (wBin bAdd (wBin bAdd (wVar 1) (wC (.str (mk [40])))) (q0v (T n) (q0e (wBin bIx (wVar 0) (wC (.int 2))) wNil))) (wC (.str (mk [41])))) {nx:=fun _ S'=>Q .non S',rt:=Q} E [some (.tup [.str "of",f.tm.pv,a.tm.pv]),some (.str (mk y))] S:=fun y hy ey=>by
   dsimp![q9b,q3z,q0y]
   refine⟨big (by first|(simp only[List.length_append,List.length_cons,List.length_nil];omega)|omega),?_⟩
   refine iha n m ok.2 (by omega) (by omega) (by omega) _ _ _ ?_
   dsimp![q3z,q0y]
   refine⟨big (by first|(simp only[List.length_append,List.length_cons,List.length_nil];omega)|omega),big (by first|(simp only[List.length_append,List.length_cons,List.length_nil];omega)|omega),?_⟩
   rw[<-ey]at h
   have e3:y++[40]++a.tx++[41]=y++(40::a.tx++[41]):=by simp
   rw[e3]
   exact h
  refine seqI fun K hK=>?_
  dsimp![q5f,e,q0p]
  rw[<-e]
  cases hF:f.isF with
  |true=>
   rw[hF,decide_eq_true_eq]at hf
   rw[if_pos hf]
   dsimp![q3z,q0y]
   refine⟨big (by first|(simp only[List.length_append,List.length_cons,List.length_nil];omega)|omega),big (by first|(simp only[List.length_append,List.length_cons,List.length_nil];omega)|omega),hK _ _ ?_⟩
   exact last _ (by simp only[List.length_append,List.length_cons,List.length_nil];omega) (by rw[y5b,if_pos hF];simp)
  |false=>
   rw[hF,decide_eq_false_iff_not]at hf
   rw[if_neg hf]
   exact hK _ _ (last _ (by omega) (by rw[y5b,if_neg (by rw[hF];simp)]))
theorem z9c{T:Nat->Den}(hT:∀n,T (n+1)=fnP 1 1 (q2r (T n))):∀(t:T8)(n:Nat),t.tm.dp<n->∀(S:q0i)(E:EK)(Q:VC),Q (.int t.tm.dp) S->T n [t.tm.pv] S E Q:=by
 intro t
 induction t with
 |nm w=>
  intro n hn S E Q h
  obtain⟨n,rfl⟩:∃m,n=m+1:=⟨n-1,by omega⟩
  rw[hT]
  refine⟨rfl,?_⟩
  unfold q2r
  refine seqI fun K hK=>?_
  dsimp![T8.tm,Tm.pv,q0p,tg1]
  refine hK _ _ ?_
  refine seqI fun K hK=>?_
  dsimp![q0p,tg2]
  refine hK _ _ ?_
  dsimp![true_and]
  exact h
 |bd k=>
  intro n hn S E Q h
  obtain⟨n,rfl⟩:∃m,n=m+1:=⟨n-1,by omega⟩
  rw[hT]
  refine⟨rfl,?_⟩
  unfold q2r
  refine seqI fun K hK=>?_
  dsimp![T8.tm,Tm.pv,q0p,tg7]
  refine hK _ _ ?_
  refine seqI fun K hK=>?_
  dsimp![q0p,tg8]
  refine hK _ _ ?_
  dsimp![true_and]
  exact h
 |fn q t ih=>
  intro n hn S E Q h
  simp only[T8.tm,Tm.dp]at hn
  obtain⟨n,rfl⟩:∃m,n=m+1:=⟨n-1,by omega⟩
  rw[hT]
  refine⟨rfl,?_⟩
  unfold q2r
  refine seqI fun K hK=>?_
  dsimp![T8.tm,Tm.pv,q0p,q9b]
  refine ih n (by omega) _ _ _ ?_
  dsimp![true_and]
  rw[show(1:Int)+(t.tm.dp:Nat)=((T8.fn q t).tm.dp:Nat) by simp only[T8.tm,Tm.dp];omega]
  exact h
 |ap f a ihf iha=>
  intro n hn S E Q h
  simp only[T8.tm,Tm.dp]at hn
  obtain⟨n,rfl⟩:∃m,n=m+1:=⟨n-1,by omega⟩
  rw[hT]
  refine⟨rfl,?_⟩
  unfold q2r
  refine seqI fun K hK=>?_
  dsimp![T8.tm,Tm.pv,q0p,tgb]
  refine hK _ _ ?_
  refine seqI fun K hK=>?_
  dsimp![q0p,q5f,q9b]
  refine ihf n (by omega) _ _ _ ?_
  refine iha n (by omega) _ _ _ ?_
  dsimp![fMax]
  rw[show(1:Int)+(if((a.tm.dp:Nat):Int) > (f.tm.dp:Nat)then((a.tm.dp:Nat):Int)else(f.tm.dp:Nat))=((T8.ap f a).tm.dp:Nat) by simp only[T8.tm,Tm.dp];split<;>omega]
  exact h
section
variable{T:Nat->Den}(hT:∀n,T (n+1)=fnP 2 2 (q3e (T n)))
include hT
theorem q8d(s:Str)(n:Nat)(S:q0i)(E:EK)(Q:VC)(h:Q (.bl true) S):T (n+1) [.str s,.str s] S E Q:=by
 rw[hT]
 refine⟨rfl,?_⟩
 unfold q3e
 refine seqI fun K hK=>?_
 dsimp![true_and]
 exact h
theorem x0s(i:Int)(n:Nat)(S:q0i)(E:EK)(Q:VC)(h:Q (.bl true) S):T (n+1) [.int i,.int i] S E Q:=by
 rw[hT]
 refine⟨rfl,?_⟩
 unfold q3e
 refine seqI fun K hK=>?_
 dsimp![true_and]
 refine hK _ _ ?_
 refine seqI fun K hK=>?_
 dsimp![true_and]
 exact h
theorem z5s{a b:PV}{n:Nat}(h1:∀(S:q0i)(E:EK)(Q:VC),(∀S',Ex [] S S'->Q (.bl true) S')->T n [a,a] S E Q)(h2:∀(S:q0i)(E:EK)(Q:VC),(∀S',Ex [] S S'->Q (.bl true) S')->T n [b,b] S E Q)(S:q0i)(E:EK)(Q:VC)(h:∀S',Ex [] S S'->Q (.bl true) S'):T (n+1) [.tup [a,b],.tup [a,b]] S E Q:=by
 rw[hT]
 refine⟨rfl,?_⟩
 unfold q3e
 refine seqI fun K hK=>?_
 dsimp![true_and]
 refine hK _ _ ?_
 refine seqI fun K hK=>?_
 dsimp![true_and]
 refine hK _ _ ?_
 refine seqI fun K hK=>?_
 dsimp![true_and]
 refine hK _ _ ?_
 dsimp![sqOf,show zipP [a,b] [a,b]=[.tup [a,a],.tup [b,b]]from rfl]
 refine⟨big (by decide),trivial,_,fun _ _ _ z=>z,?_⟩
 dsimp![true_and]
 refine h1 _ _ _ fun S1 hx1=>?_
 refine⟨trivial,_,fun _ _ _ z=>z,?_⟩
 dsimp![true_and]
 refine h2 _ _ _ fun S2 hx2=>?_
 refine⟨trivial,?_⟩
 dsimp![Option.bind_some,show z0x [PV.bl true,PV.bl true]=some [true,true]from rfl]
 exact h _ ((hx1.trans hx2).app _)
theorem y0w{a b c:PV}{n:Nat}(h1:∀(S:q0i)(E:EK)(Q:VC),(∀S',Ex [] S S'->Q (.bl true) S')->T n [a,a] S E Q)(h2:∀(S:q0i)(E:EK)(Q:VC),(∀S',Ex [] S S'->Q (.bl true) S')->T n [b,b] S E Q)(h3:∀(S:q0i)(E:EK)(Q:VC),(∀S',Ex [] S S'->Q (.bl true) S')->T n [c,c] S E Q)(S:q0i)(E:EK)(Q:VC)(h:∀S',Ex [] S S'->Q (.bl true) S'):T (n+1) [.tup [a,b,c],.tup [a,b,c]] S E Q:=by
 rw[hT]
 refine⟨rfl,?_⟩
 unfold q3e
 refine seqI fun K hK=>?_
 dsimp![true_and]
 refine hK _ _ ?_
 refine seqI fun K hK=>?_
 dsimp![true_and]
 refine hK _ _ ?_
 refine seqI fun K hK=>?_
 dsimp![true_and]
 refine hK _ _ ?_
 dsimp![sqOf,show zipP [a,b,c] [a,b,c]=[.tup [a,a],.tup [b,b],.tup [c,c]]from rfl]
 refine⟨big (by decide),trivial,_,fun _ _ _ z=>z,?_⟩
 dsimp![true_and]
 refine h1 _ _ _ fun S1 hx1=>?_
 refine⟨trivial,_,fun _ _ _ z=>z,?_⟩
 dsimp![true_and]
 refine h2 _ _ _ fun S2 hx2=>?_
 refine⟨trivial,_,fun _ _ _ z=>z,?_⟩
 dsimp![true_and]
 refine h3 _ _ _ fun S3 hx3=>?_
 refine⟨trivial,?_⟩
 dsimp![Option.bind_some,show z0x [PV.bl true,PV.bl true,PV.bl true]=some [true,true,true]from rfl]
 exact h _ (((hx1.trans hx2).trans hx3).app _)
theorem z5r:∀(k:Kd)(n:Nat),k.dp<n->∀(S:q0i)(E:EK)(Q:VC),(∀S',Ex [] S S'->Q (.bl true) S')->T n [k.pv,k.pv] S E Q
 |.a s,n,hn,S,E,Q,h=>by
  obtain⟨n,rfl⟩:∃m,n=m+1:=⟨n-1,by omega⟩
  exact q8d hT s n S E Q (h S (Ex.refl _ _))
 |.p f t,n,hn,S,E,Q,h=>by
  obtain⟨n,rfl⟩:∃m,n=m+1:=⟨n-1,by omega⟩
  simp only[Kd.dp]at hn
  exact z5s hT (fun S E Q h=>z5r f n (by omega) S E Q h) (fun S E Q h=>z5r t n (by omega) S E Q h) S E Q h
theorem z2a:∀(t:T8)(n m:Nat),t.ok m->t.tm.dp+20<=n->∀(S:q0i)(E:EK)(Q:VC),(∀S',Ex [] S S'->Q (.bl true) S')->T n [t.tm.pv,t.tm.pv] S E Q
 |.nm w,n,m,ok,hn,S,E,Q,h=>by
  obtain⟨n,rfl⟩:∃m,n=m+1+1:=⟨n-2,by omega⟩
  exact z5s hT (fun S E Q h=>q8d hT _ n S E Q (h S (Ex.refl _ _))) (fun S E Q h=>q8d hT _ n S E Q (h S (Ex.refl _ _))) S E Q h
 |.bd k,n,m,ok,hn,S,E,Q,h=>by
  obtain⟨n,rfl⟩:∃m,n=m+1+1:=⟨n-2,by omega⟩
  exact z5s hT (fun S E Q h=>q8d hT _ n S E Q (h S (Ex.refl _ _))) (fun S E Q h=>x0s hT _ n S E Q (h S (Ex.refl _ _))) S E Q h
 |.fn q t,n,m,ok,hn,S,E,Q,h=>by
  simp only[T8.tm,Tm.dp]at hn
  have:=Kd.dp_lv q
  have:=ok.1.2
  obtain⟨n,rfl⟩:∃m,n=m+1+1:=⟨n-2,by omega⟩
  exact y0w hT (fun S E Q h=>q8d hT _ n S E Q (h S (Ex.refl _ _))) (fun S E Q h=>z5r hT q _ (by omega) S E Q h) (fun S E Q h=>z2a t _ (m+1) ok.2 (by omega) S E Q h) S E Q h
 |.ap f a,n,m,ok,hn,S,E,Q,h=>by
  simp only[T8.tm,Tm.dp]at hn
  obtain⟨n,rfl⟩:∃m,n=m+1+1:=⟨n-2,by omega⟩
  exact y0w hT (fun S E Q h=>q8d hT _ n S E Q (h S (Ex.refl _ _))) (fun S E Q h=>z2a f _ m ok.1 (by omega) S E Q h) (fun S E Q h=>z2a a _ m ok.2 (by omega) S E Q h) S E Q h
end
inductive Sh8 where
 |s (c:Nat)|t (r:T8)
def Sh8.pv:Sh8->PV
 |.s c=>.str (mk [c])
 |.t r=>r.tm.pv
def Sh8.tx:Sh8->List Nat
 |.s c=>[c]
 |.t r=>r.tx
def Sh8.me:Sh8->Nat
 |.s _=>1
 |.t r=>6*r.tm.sz
def Sh8.gd:Sh8->Prop
 |.s _=>True
 |.t r=>∃m,r.ok m/\m+r.tm.dp<=100
def mes(l:List Sh8):Nat:=(l.map Sh8.me).sum
theorem z2n(a b:List Sh8):mes (a++b)=mes a+mes b:=by simp[mes]
theorem z5z:∀l:List Sh8,l.length<=mes l
 |[]=>Nat.le_refl _
 |.s c::r=>by have:=z5z r;simp only[mes,List.map_cons,List.sum_cons,List.length_cons,Sh8.me]at this ⊢;omega
 |.t u::r=>by
  have h1:=z5z r
  have h2:=y0b u.tm
  simp only[mes,List.map_cons,List.sum_cons,List.length_cons,Sh8.me]at h1 ⊢
  omega
def StD(sp:Den):Prop:=∀(t:T8)(m:Nat)(S:q0i)(E:EK)(Q:VC),t.ok m->m+t.tm.dp<=100->t.tm.sz<=1000->(∀S',Ex [] S S'->Q (.str (mk t.tx)) S')->sp [t.tm.pv] S E Q
theorem x0q{sp:Den}(hs:∀{k:Kd}{S:q0i}{E:EK}{Q:VC},k.sh->k.lv<=1000->(∀S',Ex [] S S'->Q (.str (mk k.txt)) S')->sp [k.pv] S E Q):StD (fnP 1 4 (q3s sp)):=by
 intro t m S E Q ok hm hz h
 have ltx:=z0z ok hm
 refine⟨rfl,?_⟩
 unfold q3s
 rw[sO',sC',sq,sqe,shs]
 refine seqI fun K hK=>?_
 dsimp![true_and]
 refine⟨big (by decide),hK _ _ ?_⟩
 clear hK K
 refine seqI fun K hK=>?_
 dsimp![true_and]
 refine⟨big (by decide),hK _ _ ?_⟩
 clear hK K
 refine seqI fun K hK=>?_
 have hl1:(S++[SO.lst [t.tm.pv]]).length=S.length+1:=by simp
 refine q8q (fun mm σ S1=>∃(ks:List Sh8)(acc:List (List Nat))(j:Option PV),σ=[some t.tm.pv,some (.ref S.length),some (.ref (S.length+1)),j]/\S1[S.length]?=some (.lst (ks.map Sh8.pv))/\S1[S.length+1]?=some (.lst (acc.map fun x=>PV.str (mk x)))/\Ex [] S S1/\(∀k∈ks,k.gd)/\
  acc.flatten++ks.reverse.flatMap Sh8.tx=t.tx/\acc.length+mes ks<=6000/\mm=mes ks) (mes [.t t]) ?_ ?_
 ·exact⟨[.t t],[],none,by rw[hl1],q1x (q1t _ _) _,by rw[<-hl1];exact q1t _ _,(Ex.new _ _ _).app _,fun x hx=>by simp at hx;subst hx;exact⟨m,ok,hm⟩,by simp[Sh8.tx],by simp[mes,Sh8.me];omega,rfl⟩
 ·rintro mm σ S1 ⟨ks,acc,j,rfl,h1,h2,hx,hk,ht,hb,rfl⟩ T F hT hF
  have hlen:=z5z ks
  dsimp![h1]
  refine ite2 (fun c=>?_) (fun c=>?_)
  ·obtain⟨ks',x,rfl⟩:∃ks' x,ks=ks'++[x]:=⟨ks.dropLast,ks.getLast (by rintro rfl;simp at c),(List.dropLast_concat_getLast _).symm⟩
   have em:mes (ks'++[x])=mes ks'+x.me:=by rw[z2n];simp[mes]
   rw[em]at hb hlen
   rw[List.length_append,List.length_singleton]at hlen
   have hks':∀k∈ks',k.gd:=fun y hy=>hk y (List.mem_append_left _ hy)
   have hx':x.gd:=hk x (by simp)
   have ht':acc.flatten++x.tx++ks'.reverse.flatMap Sh8.tx=t.tx:=by rw[<-ht];simp
   refine hT _ fun N hN=>?_
   refine seqI fun K2 hK2=>?_
   dsimp![h1,q1l h1,List.map_append,List.getLast?_append,List.getLast?_singleton,Option.or,Option.some_or,List.dropLast_concat]
   refine hK2 _ _ ?_
   clear hK2 K2
   have g1:=q1j (.lst (ks'.map Sh8.pv)) h1
   have g2:=q2v (j:=S.length) (.lst (ks'.map Sh8.pv)) h2 (by omega)
   have hx1:Ex [] S (S1.set S.length (.lst (ks'.map Sh8.pv))):=hx.set (.inr (Nat.le_refl _))
   generalize S1.set S.length (.lst (ks'.map Sh8.pv))=S2 at g1 g2 hx1 ⊢
   have add:∀(y:List Nat)(ks2:List Sh8)(v:Option PV)(S3:q0i),S3[S.length]?=some (.lst (ks2.map Sh8.pv))->S3[S.length+1]?=some (.lst ((acc++[y]).map fun x=>PV.str (mk x)))->Ex [] S S3->(∀k∈ks2,k.gd)->acc.flatten++y++ks2.reverse.flatMap Sh8.tx=t.tx->mes ks2+1<=mes ks'+x.me->N [some t.tm.pv,some (.ref S.length),some (.ref (S.length+1)),v] S3:=fun y ks2 v S3 q1 q2 q3 q4 q5 q6=>
    hN (mes ks2) _ _ (by rw[em];omega) ⟨ks2,acc++[y],v,rfl,q1,q2,q3,q4,by rw[<-q5];simp,by simp only[List.length_append,List.length_singleton];omega,rfl⟩
   cases x with
   |s ch=>
    dsimp![Sh8.pv,g2,q1l g2]
    refine⟨by rw[List.length_map];exact bigl (by omega),add [ch] ks' _ _ (q2v _ g1 (by omega)) ?_ (hx1.set (.inr (by omega))) hks' ht' (by simp[Sh8.me])⟩
    rw[q1j _ g2];simp
   |t r=>
    obtain⟨m',ok',hm'⟩:=hx'
    have me1:(Sh8.t r).me=6*r.tm.sz:=rfl
    rw[me1]at hb hlen
    cases r with
    |nm w=>
     dsimp![Sh8.pv,T8.tm,Tm.pv,q0p,q5f,g2,q1l g2]
     refine⟨by rw[List.length_map];exact bigl (by omega),add w.cps.toList ks' _ _ (q2v _ g1 (by omega)) ?_ (hx1.set (.inr (by omega))) hks' (by rw[<-ht'];simp[Sh8.tx,x4j]) (by simp[Sh8.me,T8.tm,Tm.sz])⟩
     rw[q1j _ g2];simp[z8x]
    |bd k=>
     have hk100:k<100:=by have h':k<m':=ok';omega
     have f3:=(q6r hk100).2.2.1
     dsimp![Sh8.pv,T8.tm,Tm.pv,q0p,q5f,g2,q1l g2,show(Str.ofString "bound" = Str.ofString "name")=False from eq_false (by decide +kernel)]
     rw[z4t]
     simp only[q3z,q0y]
     refine⟨q9l hk100,big (by first|(simp only[List.length_append,List.length_cons,List.length_nil];omega)|omega),by rw[List.length_map];exact bigl (by omega),add (35::fig k) ks' _ _ (q2v _ g1 (by omega)) ?_ (hx1.set (.inr (by omega))) hks' (by rw[<-ht'];simp[Sh8.tx,y5a]) (by simp[Sh8.me,T8.tm,Tm.sz])⟩
     rw[q1j _ g2];simp
    |fn q b=>
     have l1:=Kd.txt_len (Kd.ok_sh ok'.1.1)
     have lv:=ok'.1.2
     dsimp![Sh8.pv,T8.tm,Tm.pv,q0p,q5f,g2,show(Str.ofString "fn" = Str.ofString "name")=False from eq_false (by decide +kernel),tga]
     refine seqI fun K2 hK2=>?_
     dsimp![g2,q5f]
     refine hs (Kd.ok_sh ok'.1.1) (by omega) fun S3 x3=>?_
     have g13:=x3.get g1 (by simp)
     have g23:=x3.get g2 (by simp)
     dsimp![q3z,q0y,g23,q1l g23]
     refine⟨big (by first|(simp only[List.length_append,List.length_cons,List.length_nil];omega)|omega),big (by first|(simp only[List.length_append,List.length_cons,List.length_nil];omega)|omega),by rw[List.length_map];exact bigl (by omega),hK2 _ _ ?_⟩
     have g14:=q2v (j:=S.length+1) (.lst ((acc.map fun x=>PV.str (mk x))++[PV.str (mk (91::(q.txt++[93])))])) g13 (by omega)
     have g24:=q1j (.lst ((acc.map fun x=>PV.str (mk x))++[PV.str (mk (91::(q.txt++[93])))])) g23
     dsimp![g14,q1l g14,q9b]
     refine⟨by rw[List.length_map];exact bigl (by omega),add (91::(q.txt++[93])) (ks'++[.t b]) _ _ ?_ ?_ (((hx1.trans x3).set (.inr (by omega))).set (.inr (Nat.le_refl _))) ?_ ?_ ?_⟩
     ·rw[q1j _ g14];simp[Sh8.pv]
     ·rw[q2v _ g24 (by omega)];simp
     ·intro k hk2
      rcases List.mem_append.mp hk2 with z|z
      ·exact hks' k z
      ·simp at z;subst z;exact⟨m'+1,ok'.2,by simp only[T8.tm,Tm.dp]at hm';omega⟩
     ·rw[<-ht'];simp[Sh8.tx,x0e]
     ·rw[z2n];simp only[mes,List.map_cons,List.map_nil,List.sum_cons,List.sum_nil,Sh8.me,T8.tm,Tm.sz];omega
    |ap f a=>
     obtain⟨z,rr,e,hz2,hf⟩:=z8r f
     simp only[T8.tm,Tm.dp,Tm.sz]at hm' hb hlen
     have gf:(Sh8.t f).gd:=⟨m',ok'.1,by omega⟩
     have ga:(Sh8.t a).gd:=⟨m',ok'.2,by omega⟩
     have more:∀(ks2:List Sh8)(v:Option PV)(S3:q0i),S3[S.length]?=some (.lst (ks2.map Sh8.pv))->S3[S.length+1]?=some (.lst (acc.map fun x=>PV.str (mk x)))->Ex [] S S3->(∀k∈ks2,k.gd)->acc.flatten++ks2.reverse.flatMap Sh8.tx=t.tx->mes ks2+1<=mes ks'+(Sh8.t (.ap f a)).me->N [some t.tm.pv,some (.ref S.length),some (.ref (S.length+1)),v] S3:=fun ks2 v S3 q1 q2 q3 q4 q5 q6=>
      hN (mes ks2) _ _ (by rw[em];omega) ⟨ks2,acc,v,rfl,q1,q2,q3,q4,q5,by simp only[Sh8.me,T8.tm,Tm.sz]at q6;omega,rfl⟩
     dsimp![Sh8.pv,T8.tm,Tm.pv,q0p,q5f,show(Str.ofString "of" = Str.ofString "name")=False from eq_false (by decide +kernel),tgb,tgc]
     rw[e]
     dsimp![q0p]
     rw[<-e]
     cases hF:f.isF with
     |true=>
      rw[hF,decide_eq_true_eq]at hf
      rw[if_pos hf]
      dsimp![g1,q5f,q9b]
      have g3:=q1x g1 [SO.lst [PV.str (mk [41]),a.tm.pv,PV.str (mk [40]),PV.str (mk [41]),f.tm.pv,PV.str (mk [40])]]
      refine⟨big (by decide),?_⟩
      dsimp![q1l g3]
      refine⟨by rw[List.length_map];exact big (by omega),more (ks'++[.s 41,.t a,.s 40,.s 41,.t f,.s 40]) _ _ ?_ (q2v _ (q1x g2 _) (by omega)) ((hx1.app _).set (.inr (Nat.le_refl _))) ?_ ?_ ?_⟩
      ·rw[q1j _ g3];simp[Sh8.pv]
      ·intro k hk2
       simp only[List.mem_append,List.mem_cons,List.not_mem_nil,or_false]at hk2
       rcases hk2 with z|rfl|rfl|rfl|rfl|rfl|rfl
       ·exact hks' k z
       ·trivial
       ·exact ga
       ·trivial
       ·trivial
       ·exact gf
       ·trivial
      ·rw[<-ht'];simp[Sh8.tx,y5b,hF]
      ·rw[z2n];simp only[mes,List.map_cons,List.map_nil,List.sum_cons,List.sum_nil,Sh8.me,T8.tm,Tm.sz];omega
     |false=>
      rw[hF,decide_eq_false_iff_not]at hf
      rw[if_neg hf]
      dsimp![g1,q5f,q9b]
      have g3:=q1x g1 [SO.lst [PV.str (mk [41]),a.tm.pv,PV.str (mk [40]),f.tm.pv]]
      refine⟨big (by decide),?_⟩
      dsimp![q1l g3]
      refine⟨by rw[List.length_map];exact big (by omega),more (ks'++[.s 41,.t a,.s 40,.t f]) _ _ ?_ (q2v _ (q1x g2 _) (by omega)) ((hx1.app _).set (.inr (Nat.le_refl _))) ?_ ?_ ?_⟩
      ·rw[q1j _ g3];simp[Sh8.pv]
      ·intro k hk2
       simp only[List.mem_append,List.mem_cons,List.not_mem_nil,or_false]at hk2
       rcases hk2 with z|rfl|rfl|rfl|rfl
       ·exact hks' k z
       ·trivial
       ·exact ga
       ·trivial
       ·exact gf
      ·rw[<-ht'];simp[Sh8.tx,y5b,hF]
      ·rw[z2n];simp only[mes,List.map_cons,List.map_nil,List.sum_cons,List.sum_nil,Sh8.me,T8.tm,Tm.sz];omega
  ·refine hF _ (hK _ _ ?_)
   have:ks=[]:=by
    cases ks with
    |nil=>rfl
    |cons a b=>simp at c
   subst this
   have e:acc.flatten=t.tx:=by simpa using ht
   have eM:(acc.map fun x=>PV.str (mk x))=(acc.map mk).map PV.str:=by simp
   rw[eM]at h2
   dsimp![q0x h2,Option.bind_some,z1a,y2u]
   have e1:(acc.map mk).flatMap (·.cps.toList)=t.tx:=by rw[<-e,List.flatMap_map];simp[q1d]
   rw[e1]
   refine⟨?_,h _ hx⟩
   rw[show(Str.ofString "").length=0 by decide +kernel,Nat.mul_zero,Nat.add_zero]
   have e2:((acc.map mk).map (·.length)).sum=t.tx.length:=by rw[<-e1,List.length_flatMap];congr 1
   omega
theorem w0t:List.lookup "NoTerm" [("NoKind",true),("NoTerm",false)]=some false:=by decide
theorem x6s:List.lookup "NoTerm" [("NoKind",false),("NoTerm",false)]=some false:=by decide
theorem w0s:List.lookup "NoTerm" [("NoKind",false),("NoTerm",true)]=some true:=by decide
theorem x6r:List.lookup "NoTerm" [("NoKind",true),("NoTerm",true)]=some true:=by decide
def Rf8(sp:Den):Prop:=∀(t:T8)(n:Nat)(S:q0i)(E:EK)(Q:VC),t.ok n->n+t.tm.dp<=100->t.tm.sz<=1000->¬z9o t->(∀S',Ex [] S S'->Q (.bl true) S')->sp [.str (mk t.tx)] S E Q
theorem x4y{sp:Den}(hr:RtD sp):Rf8 (fnP 1 4 (q4e sp)):=by
 intro t n S E Q ok hn hz hf h
 refine⟨rfl,?_⟩
 unfold q4e
 refine seqI fun K hK=>?_
 dsimp![true_and]
 refine hK _ _ ?_
 clear hK K
 refine seqI fun K hK=>?_
 dsimp![true_and]
 refine hr t n S _ _ ok hn hz (fun q=>absurd q hf) fun _ S1 x1=>?_
 dsimp![true_and]
 refine⟨by simp,?_⟩
 refine seqI fun K2 hK2=>?_
 dsimp![w0t]
 refine hK2 _ _ ?_
 clear hK2 K2
 refine seqI fun K2 hK2=>?_
 dsimp![x6s]
 refine hK2 _ _ ?_
 clear hK2 K2
 dsimp![w0s,x6r]
 refine hK _ _ ?_
 dsimp![true_and]
 exact h S1 x1
def fnN(q:Kd):Nat->T8->T8
 |0,t=>t
 |n+1,t=>.fn q (fnN q n t)
theorem y3e{q:Kd}(h:q.ok/\q.lv<=12):∀(n m:Nat)(t:T8),t.ok (m+n)->(fnN q n t).ok m
 |0,m,t,ok=>ok
 |n+1,m,t,ok=>⟨h,y3e h n (m+1) t (by rw[show m+1+n=m+(n+1) by omega];exact ok)⟩
theorem y3f(q:Kd):∀(n:Nat)(t:T8),(fnN q n t).tm.dp=n+t.tm.dp
 |0,t=>by simp[fnN]
 |n+1,t=>by simp only[fnN,T8.tm,Tm.dp,y3f q n t];omega
theorem y3d(q:Kd):∀(n:Nat)(t:T8),(fnN q n t).tm.sz=n+t.tm.sz
 |0,t=>by simp[fnN]
 |n+1,t=>by simp only[fnN,T8.tm,Tm.sz,y3d q n t];omega
theorem y3c(q:Kd):∀(n:Nat)(t:T8),(fnN q n t).tx=(List.replicate n (91::(q.txt++[93]))).flatten++t.tx
 |0,t=>by simp[fnN]
 |n+1,t=>by rw[fnN,x0e,y3c q n t,List.replicate_succ,List.flatten_cons];simp
theorem y9m(q:Kd):∀(n k:Nat)(fs:List Nat)(i:Nat),fs.length+n<=k->none∈ow (fnN q n (.bd k)).tm fs i
 |0,k,fs,i,h=>by simp only[fnN,T8.tm,ow,own,List.mem_singleton];rw[if_neg (by omega)]
 |n+1,k,fs,i,h=>by
  simp only[fnN,T8.tm,ow]
  exact y9m q n k _ _ (by simp;omega)
theorem rep8(l:List Nat)(k:Nat):repS (mk l) k=mk ((List.replicate k l).flatten):=rfl
def FarD(sp:Den):Prop:=∀(w:Str)(S:q0i)(E:EK)(Q:VC),q1r w=true->(∀S',Ex [] S S'->Q (.bl true) S')->sp [.str w] S E Q
theorem x7v{ss sr st sf:Den}(hs:∀(t:T8)(m:Nat),t.ok m->t.tm.dp<=50->∀(S:q0i)(E:EK)(Q:VC),(∀S',Ex [] S S'->Q (.bl true) S')->ss [t.tm.pv,t.tm.pv] S E Q)(hr:RtD sr)(ht:StD st)(hf:Rf8 sf):FarD (fnP 1 5 (q3h ss sr st sf)):=by
 intro w S E Q hw h
 obtain⟨wl,rfl⟩:∃wl,w=mk wl:=⟨_,(z8x w).symm⟩
 have w8:=q4h hw
 rw[q0y]at w8
 refine⟨rfl,?_⟩
 unfold q3h
 rw[sq,sqe,shs]
 have okq:(Kd.a (mk wl)).ok/\(Kd.a (mk wl)).lv<=12:=⟨hw,by simp[Kd.lv]⟩
 refine seqI fun K hK=>?_
 dsimp![true_and]
 refine⟨⟨by decide,by decide⟩,?_⟩
 refine forI (fun rest σ S1=>(∀x∈rest,∃j:Nat,j<12/\x=.int j)/\(∃j1 j2 j3 j4:Option PV,σ=[some (.str (mk wl)),j1,j2,j3,j4])/\Ex [] S S1) ?_ ?_ _ _ _ ⟨fun x hx=>z5t hx,⟨none,none,none,none,rfl⟩,Ex.refl _ _⟩
 ·rintro σ S1 ⟨-,⟨j1,j2,j3,j4,rfl⟩,x1⟩
  refine⟨trivial,hK _ _ ?_⟩
  dsimp![true_and]
  exact h S1 x1
 ·rintro x rest σ S1 ⟨hx,⟨j1,j2,j3,j4,rfl⟩,x1⟩ N hN
  obtain⟨k,hk,rfl⟩:=hx x (by simp)
  refine⟨trivial,?_⟩
  clear hK
  dsimp![true_and]
  refine seqI fun K1 hK1=>?_
  dsimp![true_and]
  refine⟨big (by decide),big (by decide),hK1 _ _ ?_⟩
  clear hK1 K1
  refine seqI fun K1 hK1=>?_
  dsimp![true_and]
  refine⟨⟨by omega,by omega⟩,?_⟩
  refine forI (fun rest2 σ S2=>S2=S1/\∃(i:Nat)(v:Option PV),i+rest2.length=k/\σ=[some (.str (mk wl)),some (.int (k:Nat)),some (fnN (.a (mk wl)) (i+1) (.bd k)).tm.pv,v,j4]) ?_ ?_ _ _ _ ⟨rfl,0,j3,by rw[q6b];omega,rfl⟩
  ·rintro σ S2 ⟨rfl,i,v,hi,rfl⟩
   obtain rfl:i=k:=by simpa using hi
   refine⟨trivial,hK1 _ _ ?_⟩
   clear hK1 K1
   have ok1:(fnN (.a (mk wl)) (i+1) (.bd i)).ok 0:=y3e okq (i+1) 0 _ (by show i<0+(i+1);omega)
   have dp1:=y3f (.a (mk wl)) (i+1) (.bd i)
   have sz1:=y3d (.a (mk wl)) (i+1) (.bd i)
   have tx1:=y3c (.a (mk wl)) (i+1) (.bd i)
   have tx2:=y3c (.a (mk wl)) (i+1) (.bd (i+1))
   have dp2:=y3f (.a (mk wl)) (i+1) (.bd (i+1))
   have sz2:=y3d (.a (mk wl)) (i+1) (.bd (i+1))
   have ok2:(fnN (.a (mk wl)) (i+1) (.bd (i+1))).ok 1:=y3e okq (i+1) 1 _ (by show i+1<1+(i+1);omega)
   have no2:¬z9o (fnN (.a (mk wl)) (i+1) (.bd (i+1))):=fun q=>q.2.2 (y9m _ _ _ _ _ (by simp))
   have ft1:z9o (fnN (.a (mk wl)) (i+1) (.bd i)):=⟨by rw[sz1];simp only[T8.tm,Tm.sz];omega,by rw[dp1];simp only[T8.tm,Tm.dp];omega,q7t _ [] 0 ok1⟩
   simp only[T8.tm,Tm.dp,Tm.sz]at dp1 sz1 dp2 sz2
   have lx1:=z0z ok1 (by omega)
   have lx2:=z0z ok2 (by omega)
   have ew:(Kd.a (mk wl)).txt=wl:=rfl
   rw[ew]at tx1 tx2
   refine seqI fun K1 hK1=>?_
   dsimp![q3z,q0y]
   rw[show((i:Nat):Int)+1=((i+1:Nat):Int) by omega]
   rw[Int.toNat_natCast,rep8]
   have e1:(List.replicate (i+1) (91::(wl++[93]))).flatten++35::fig i=(fnN (Kd.a (mk wl)) (i+1) (.bd i)).tx:=by rw[tx1,y5a]
   have e2:(List.replicate (i+1) (91::(wl++[93]))).flatten++35::fig (i+1)=(fnN (Kd.a (mk wl)) (i+1) (.bd (i+1))).tx:=by rw[tx2,y5a]
   have m1:((wl++[93]).length+1)*(i+1)<=1000000:=by
    have:(wl++[93]).length+1<=10:=by simp;omega
    have:=Nat.mul_le_mul this (show i+1<=12 by omega)
    omega
   refine⟨big (by omega),big (by omega),⟨⟨by omega,by omega⟩,big m1⟩,hK1 _ _ ?_⟩
   clear hK1 K1
   have l1:=congrArg List.length e1
   have l2:=congrArg List.length e2
   rw[List.length_append,List.length_cons]at l1 l2
   generalize (List.replicate (i+1) (91::(wl++[93]))).flatten=fl at e1 e2 l1 l2 ⊢
   have hi100:i<100:=by omega
   have fi1:=q9l hi100
   have fi2:=q9l (k:=i+1) (by omega)
   have f1:=(q6r hi100).2.2.1
   have f2:=(q6r (k:=i+1) (by omega)).2.2.1
   refine seqI fun K1 hK1=>?_
   dsimp![q3z,q0y]
   rw[z4t]
   have e3:fl++[35]++fig i=(fnN (Kd.a (mk wl)) (i+1) (.bd i)).tx:=by rw[<-e1];simp
   have e4:fl++[35]++fig (i+1)=(fnN (Kd.a (mk wl)) (i+1) (.bd (i+1))).tx:=by rw[<-e2];simp
   dsimp![q3z,q0y,e3]
   have b1:fl.length+1<=sizeLine:=big (by omega)
   have b2:(fl++[35]).length+(fig i).length<=sizeLine:=big (by simp only[List.length_append,List.length_cons,List.length_nil];omega)
   have b3:(fl++[35]).length+(fig (i+1)).length<=sizeLine:=big (by simp only[List.length_append,List.length_cons,List.length_nil];omega)
   refine⟨b1,fi1,b2,hr _ 0 _ _ _ ok1 (by omega) (by omega) (fun _ S3 x3=>?_) (fun q=>absurd ft1 q)⟩
   refine hs _ 0 ok1 (by omega) _ _ _ fun S4 x4=>?_
   dsimp![Bool.true_eq_false]
   refine ht _ 0 _ _ _ ok1 (by omega) (by omega) fun S5 x5=>?_
   dsimp![q3z,q0y]
   refine⟨b1,fi1,b2,hK1 _ _ ?_⟩
   clear hK1 K1
   dsimp![q3z,q0y]
   rw[show((i:Nat):Int)+1=((i+1:Nat):Int) by omega,z4t]
   dsimp![q3z,q0y,e4]
   refine⟨b1,fi2,b3,hf _ 1 _ _ _ ok2 (by omega) (by omega) no2 fun S6 x6=>?_⟩
   dsimp![Bool.true_eq_false]
   exact hN _ _ ⟨fun x z=>hx x (by simp[z]),⟨_,_,_,_,rfl⟩,(((x1.trans x3).trans x4).trans x5).trans x6⟩
  ·rintro x2 r2 σ S2 ⟨rfl,i,v,hi,rfl⟩ N2 hN2
   refine⟨trivial,?_⟩
   dsimp![true_and]
   exact⟨big (by decide),hN2 _ _ ⟨rfl,i+1,_,by simp at hi;omega,rfl⟩⟩
section
open PySem L2 Ev PySem.Spec PyProof.Rows
def top(i:Nat):Stmt:=PySem.Challenge.pw_slashwise_k18_terms_written.main.body.getD i (.Pass ⟨0,0,0,0⟩)
structure Tab where
 dLdeck:Den
 dLnext:Den
 dLspelled:Den
 dLword:Den
 dLwords:Den
 dLworld:Den
 dLkind:Den
 dLfn:Den
 dLof:Den
 dLwidth:Den
 dLform:Den
 dLlone:Den
 dLterm:Den
 dLgrown_kind:Den
 dLsame:Den
 drun_end:Den
 dtoken_end:Den
 dis_name:Den
 dread_number:Den
 dpieces_of:Den
 dmany_names:Den
 dclose_pair:Den
 dread_kind:Den
 dread_fn_kind:Den
 dtoken_of:Den
 dtokens_of:Den
 dclose_bracket:Den
 dwith_fns:Den
 dunwrapped:Den
 dterm_of_tokens:Den
 dparts_and_fns:Den
 dsize_of:Den
 ddepth_of:Den
 downer_of:Den
 downers_in:Den
 dis_closed:Den
 dread_term:Den
 dshow_kind:Den
 dshow_term:Den
 dLrefused:Den
 dLfar_bound:Den
 dLkind_text:Den
 dLtext:Den
 dLsize:Den
 dLdepth:Den
 dlaw:Den
def tabS(t:Tab):Tab where
 dLdeck:=fnP 1 3 (q5m)
 dLnext:=fnP 1 4 (q5k)
 dLspelled:=fnP 2 4 (q6i)
 dLword:=fnP 2 7 (q5i t.dLnext t.dLspelled)
 dLwords:=fnP 2 4 (q4x t.dLword)
 dLworld:=fnP 3 4 (q4w t.dLwords)
 dLkind:=fnP 3 4 (q4p t.dLnext t.dLkind)
 dLfn:=fnP 5 6 (q6y t.dLterm)
 dLof:=fnP 5 8 (q6x t.dLkind t.dLnext t.dLfn t.dLterm)
 dLwidth:=fnP 1 1 (q7p t.dLwidth)
 dLform:=fnP 2 2 (q8r t.dLform)
 dLlone:=fnP 3 6 (q5l t.dLwidth t.dLform t.dLword)
 dLterm:=fnP 5 8 (q5j t.dLnext t.dLfn t.dLof t.dLlone)
 dLgrown_kind:=fnP 2 5 (q3a t.dLwords t.dLnext)
 dLsame:=fnP 2 2 (q3e t.dLsame)
 drun_end:=fnP 3 3 (q4n)
 dtoken_end:=fnP 2 3 (q3r t.drun_end)
 dis_name:=fnP 1 1 (q4o)
 dread_number:=fnP 1 1 (q2z)
 dpieces_of:=fnP 1 4 (q3w)
 dmany_names:=fnP 1 1 (q3f t.dis_name)
 dclose_pair:=fnP 1 2 (q3g)
 dread_kind:=fnP 1 4 (q3v t.dpieces_of t.dmany_names t.dclose_pair t.dis_name)
 dread_fn_kind:=fnP 1 1 (q2q t.dread_kind)
 dtoken_of:=fnP 1 1 (q4b t.dis_name t.dread_number t.dread_fn_kind)
 dtokens_of:=fnP 1 4 (q3q t.dtoken_end t.dtoken_of)
 dclose_bracket:=fnP 2 3 (q2g)
 dwith_fns:=fnP 2 3 (q4a)
 dunwrapped:=fnP 1 1 (q3p)
 dterm_of_tokens:=fnP 1 4 (q2b t.dclose_bracket t.dwith_fns t.dunwrapped)
 dparts_and_fns:=fnP 1 5 (q2f)
 dsize_of:=fnP 1 1 (q4m t.dparts_and_fns)
 ddepth_of:=fnP 1 4 (q4d t.dparts_and_fns)
 downer_of:=fnP 2 2 (q4c)
 downers_in:=fnP 1 1 (q3x t.downer_of t.dparts_and_fns)
 dis_closed:=fnP 1 1 (q3y t.downers_in)
 dread_term:=fnP 1 3 (q3u t.dtokens_of t.dterm_of_tokens t.dsize_of t.ddepth_of t.dis_closed)
 dshow_kind:=fnP 1 4 (q3t)
 dshow_term:=fnP 1 4 (q3s t.dshow_kind)
 dLrefused:=fnP 1 4 (q4e t.dread_term)
 dLfar_bound:=fnP 1 5 (q3h t.dLsame t.dread_term t.dshow_term t.dLrefused)
 dLkind_text:=fnP 1 1 (q2m t.dLkind_text)
 dLtext:=fnP 1 2 (q3d t.dLkind_text t.dLtext)
 dLsize:=fnP 1 1 (q2p t.dLsize)
 dLdepth:=fnP 1 1 (q2r t.dLdepth)
 dlaw:=fnP 1 9 (q6w t.dLdeck t.dLworld t.dLnext t.dLkind t.dLterm t.dLgrown_kind t.dLfar_bound t.dLtext t.dshow_term t.dLsize t.dLdepth t.dLrefused t.dread_term t.dLsame)
def tab:Nat->Tab
 |0=>⟨fun _ _ _ _=>False,fun _ _ _ _=>False,fun _ _ _ _=>False,fun _ _ _ _=>False,fun _ _ _ _=>False,fun _ _ _ _=>False,fun _ _ _ _=>False,fun _ _ _ _=>False,fun _ _ _ _=>False,fun _ _ _ _=>False,fun _ _ _ _=>False,fun _ _ _ _=>False,fun _ _ _ _=>False,fun _ _ _ _=>False,fun _ _ _ _=>False,fun _ _ _ _=>False,fun _ _ _ _=>False,fun _ _ _ _=>False,fun _ _ _ _=>False,fun _ _ _ _=>False,fun _ _ _ _=>False,fun _ _ _ _=>False,fun _ _ _ _=>False,fun _ _ _ _=>False,fun _ _ _ _=>False,fun _ _ _ _=>False,fun _ _ _ _=>False,fun _ _ _ _=>False,fun _ _ _ _=>False,fun _ _ _ _=>False,fun _ _ _ _=>False,fun _ _ _ _=>False,fun _ _ _ _=>False,fun _ _ _ _=>False,fun _ _ _ _=>False,fun _ _ _ _=>False,fun _ _ _ _=>False,fun _ _ _ _=>False,fun _ _ _ _=>False,fun _ _ _ _=>False,fun _ _ _ _=>False,fun _ _ _ _=>False,fun _ _ _ _=>False,fun _ _ _ _=>False,fun _ _ _ _=>False,fun _ _ _ _=>False⟩
 |k+1=>tabS (tab k)
structure Sta(K:Frag)(mg:Str->Option Value):Prop where
 z0:mg "all" = none
 z1:mg "bool" = none
 z2:mg "int" = none
 z3:mg "isinstance" = none
 z4:mg "len" = none
 z5:mg "max" = none
 z6:mg "range" = none
 z7:mg "reversed" = none
 z8:mg "str" = none
 z9:mg "sum" = none
 z10:mg "tuple" = none
 z11:mg "zip" = none
 g0:GlobV K mg "BRACKETS" (.tup [(.str "("),(.str ")")])
 g1:GlobV K mg "FIGURES" (.str "0123456789")
 g2:GlobV K mg "LETTERS" (.str "abcdefghijklmnopqrstuvwxyz")
 g3:GlobV K mg "LONGEST_NAME" (.int 8)
 g4:GlobV K mg "MOST_DEEP" (.int 12)
 g5:GlobV K mg "MOST_PARTS" (.int 30)
 g6:GlobV K mg "MOST_TEXTS" (.int 12)
 g7:GlobV K mg "SIGNS" (.tup [(.str "("),(.str ">")])
 h0:ExcC K mg "NoKind"
 h1:ExcC K mg "NoTerm"
 h2:Cau K mg "NoKind" ["NoKind"]
 h3:Cau K mg "SlashError" ["NoKind", "NoTerm"]
 h4:HIsT K mg ["Misfit", "NoBasic", "NoForm", "NoKind", "NoNumber", "NoPlace"] [("NoKind",true),("NoTerm",false)]
 h5:HIsT K mg ["NoReading", "NoRow", "NoWord", "TooMany", "Twice"] [("NoKind",false),("NoTerm",false)]
 h6:HIs1 K mg "NoTerm" [("NoKind",false),("NoTerm",true)]
 h7:HIs1 K mg "ValueError" [("NoKind",true),("NoTerm",true)]
abbrev sF0:Stmt:=top 51
abbrev nF0:List Str:=["_law_script", "_law_cells", "_law_mixed"]
abbrev pF0:List Str:=["_law_script"]
abbrev sF1:Stmt:=top 52
abbrev nF1:List Str:=["_law_deck_here", "_law_cells", "_law_cell", "_law_number"]
abbrev pF1:List Str:=["_law_deck_here"]
abbrev sF2:Stmt:=top 53
abbrev nF2:List Str:=["_law_number", "_law_size_here", "_law_word_here", "_law_k"]
abbrev pF2:List Str:=["_law_number", "_law_size_here"]
abbrev sF3:Stmt:=top 54
abbrev nF3:List Str:=["_law_deck_here", "_law_words_here", "_law_way", "_law_number", "_law_size_here", "_law_word_here", "_law_at"]
abbrev pF3:List Str:=["_law_deck_here", "_law_words_here"]
abbrev sF4:Stmt:=top 55
abbrev nF4:List Str:=["_law_deck_here", "_law_many", "_law_words_here", "_law_k"]
abbrev pF4:List Str:=["_law_deck_here", "_law_many"]
abbrev sF5:Stmt:=top 63
abbrev nF5:List Str:=["_law_deck_here", "_law_uses", "_law_leaves", "_law_basics"]
abbrev pF5:List Str:=["_law_deck_here", "_law_uses", "_law_leaves"]
abbrev sF6:Stmt:=top 56
abbrev nF6:List Str:=["_law_deck_here", "_law_basics", "_law_deep", "_law_way"]
abbrev pF6:List Str:=["_law_deck_here", "_law_basics", "_law_deep"]
abbrev sF7:Stmt:=top 60
abbrev nF7:List Str:=["_law_deck_here", "_law_world_here", "_law_kind_here", "_law_around", "_law_deep", "_law_body"]
abbrev pF7:List Str:=["_law_deck_here", "_law_world_here", "_law_kind_here", "_law_around", "_law_deep"]
abbrev sF8:Stmt:=top 61
abbrev nF8:List Str:=["_law_deck_here", "_law_world_here", "_law_kind_here", "_law_around", "_law_deep", "_law_other", "_law_way", "_law_f"]
abbrev pF8:List Str:=["_law_deck_here", "_law_world_here", "_law_kind_here", "_law_around", "_law_deep"]
abbrev sF9:Stmt:=top 58
abbrev nF9:List Str:=["_law_kind_here"]
abbrev pF9:List Str:=["_law_kind_here"]
abbrev sF10:Stmt:=top 57
abbrev nF10:List Str:=["_law_kind_here", "_law_cell"]
abbrev pF10:List Str:=["_law_kind_here", "_law_cell"]
abbrev sF11:Stmt:=top 59
abbrev nF11:List Str:=["_law_world_here", "_law_kind_here", "_law_cell", "_law_name", "_law_other", "_law_word_here"]
abbrev pF11:List Str:=["_law_world_here", "_law_kind_here", "_law_cell"]
abbrev sF12:Stmt:=top 62
abbrev nF12:List Str:=["_law_deck_here", "_law_world_here", "_law_kind_here", "_law_around", "_law_deep", "_law_way", "_law_some", "_law_at"]
abbrev pF12:List Str:=["_law_deck_here", "_law_world_here", "_law_kind_here", "_law_around", "_law_deep"]
abbrev sF13:Stmt:=top 64
abbrev nF13:List Str:=["_law_deck_here", "_law_many", "_law_names", "_law_row", "_law_at"]
abbrev pF13:List Str:=["_law_deck_here", "_law_many"]
abbrev sF14:Stmt:=top 67
abbrev nF14:List Str:=["_law_one", "_law_other"]
abbrev pF14:List Str:=["_law_one", "_law_other"]
abbrev sF15:Stmt:=top 41
abbrev nF15:List Str:=["text", "at", "signs"]
abbrev pF15:List Str:=["text", "at", "signs"]
abbrev sF16:Stmt:=top 40
abbrev nF16:List Str:=["text", "at", "end"]
abbrev pF16:List Str:=["text", "at"]
abbrev sF17:Stmt:=top 17
abbrev nF17:List Str:=["thing"]
abbrev pF17:List Str:=["thing"]
abbrev sF18:Stmt:=top 43
abbrev nF18:List Str:=["figures"]
abbrev pF18:List Str:=["figures"]
abbrev sF19:Stmt:=top 18
abbrev nF19:List Str:=["text", "pieces", "run", "sign"]
abbrev pF19:List Str:=["text"]
abbrev sF20:Stmt:=top 19
abbrev nF20:List Str:=["pieces"]
abbrev pF20:List Str:=["pieces"]
abbrev sF21:Stmt:=top 24
abbrev nF21:List Str:=["stack", "ended"]
abbrev pF21:List Str:=["stack"]
abbrev sF22:Stmt:=top 23
abbrev nF22:List Str:=["text", "pieces", "stack", "piece"]
abbrev pF22:List Str:=["text"]
abbrev sF23:Stmt:=top 44
abbrev nF23:List Str:=["text"]
abbrev pF23:List Str:=["text"]
abbrev sF24:Stmt:=top 42
abbrev nF24:List Str:=["piece"]
abbrev pF24:List Str:=["piece"]
abbrev sF25:Stmt:=top 39
abbrev nF25:List Str:=["text", "tokens", "at", "end"]
abbrev pF25:List Str:=["text"]
abbrev sF26:Stmt:=top 47
abbrev nF26:List Str:=["waiting", "term", "f"]
abbrev pF26:List Str:=["waiting", "term"]
abbrev sF27:Stmt:=top 46
abbrev nF27:List Str:=["waiting", "term", "fn"]
abbrev pF27:List Str:=["waiting", "term"]
abbrev sF28:Stmt:=top 48
abbrev nF28:List Str:=["term"]
abbrev pF28:List Str:=["term"]
abbrev sF29:Stmt:=top 45
abbrev nF29:List Str:=["tokens", "waiting", "term", "token"]
abbrev pF29:List Str:=["tokens"]
abbrev sF30:Stmt:=top 27
abbrev nF30:List Str:=["term", "rows", "todo", "part", "fns"]
abbrev pF30:List Str:=["term"]
abbrev sF31:Stmt:=top 30
abbrev nF31:List Str:=["term"]
abbrev pF31:List Str:=["term"]
abbrev sF32:Stmt:=top 31
abbrev nF32:List Str:=["term", "told", "part", "fns"]
abbrev pF32:List Str:=["term"]
abbrev sF33:Stmt:=top 28
abbrev nF33:List Str:=["fns", "k"]
abbrev pF33:List Str:=["fns", "k"]
abbrev sF34:Stmt:=top 29
abbrev nF34:List Str:=["term"]
abbrev pF34:List Str:=["term"]
abbrev sF35:Stmt:=top 32
abbrev nF35:List Str:=["term"]
abbrev pF35:List Str:=["term"]
abbrev sF36:Stmt:=top 38
abbrev nF36:List Str:=["text", "tokens", "term"]
abbrev pF36:List Str:=["text"]
abbrev sF37:Stmt:=top 25
abbrev nF37:List Str:=["kind", "todo", "shown", "part"]
abbrev pF37:List Str:=["kind"]
abbrev sF38:Stmt:=top 49
abbrev nF38:List Str:=["term", "todo", "shown", "part"]
abbrev pF38:List Str:=["term"]
abbrev sF39:Stmt:=top 70
abbrev nF39:List Str:=["_law_thing", "_law_good", "e", "_law_other"]
abbrev pF39:List Str:=["_law_thing"]
abbrev sF40:Stmt:=top 71
abbrev nF40:List Str:=["_law_kind_here", "_law_k", "_law_due", "_law_turn", "_law_fns"]
abbrev pF40:List Str:=["_law_kind_here"]
abbrev sF41:Stmt:=top 65
abbrev nF41:List Str:=["_law_kind_here"]
abbrev pF41:List Str:=["_law_kind_here"]
abbrev sF42:Stmt:=top 66
abbrev nF42:List Str:=["_law_term_here", "_law_f"]
abbrev pF42:List Str:=["_law_term_here"]
abbrev sF43:Stmt:=top 68
abbrev nF43:List Str:=["_law_term_here"]
abbrev pF43:List Str:=["_law_term_here"]
abbrev sF44:Stmt:=top 69
abbrev nF44:List Str:=["_law_term_here"]
abbrev pF44:List Str:=["_law_term_here"]
abbrev sF45:Stmt:=top 72
abbrev nF45:List Str:=["_law_script", "_law_deck_here", "_law_world_here", "_law_kind_here", "_law_term_here", "_law_k", "_law_text_here", "_law_found", "_law_told"]
abbrev pF45:List Str:=["_law_script"]
structure Fns(P:Program)(w:World)(K:Frag)(mg:Str->Option Value)(base:Heap)(k:Nat)(t:Tab)(f:Nat->Addr)(fd:Nat->FuncData):Prop where
 c0:Cal P w K mg base k "_law_deck" pF0 (q1a K t.dLdeck) (f 0) (fd 0)
 c1:Cal P w K mg base k "_law_next" pF1 (q1a K t.dLnext) (f 1) (fd 1)
 c2:Cal P w K mg base k "_law_spelled" pF2 (q1a K t.dLspelled) (f 2) (fd 2)
 c3:Cal P w K mg base k "_law_word" pF3 (q1a K t.dLword) (f 3) (fd 3)
 c4:Cal P w K mg base k "_law_words" pF4 (q1a K t.dLwords) (f 4) (fd 4)
 c5:Cal P w K mg base k "_law_world" pF5 (q1a K t.dLworld) (f 5) (fd 5)
 c6:Cal P w K mg base k "_law_kind" pF6 (q1a K t.dLkind) (f 6) (fd 6)
 c7:Cal P w K mg base k "_law_fn" pF7 (q1a K t.dLfn) (f 7) (fd 7)
 c8:Cal P w K mg base k "_law_of" pF8 (q1a K t.dLof) (f 8) (fd 8)
 c9:Cal P w K mg base k "_law_width" pF9 (q1a K t.dLwidth) (f 9) (fd 9)
 c10:Cal P w K mg base k "_law_form" pF10 (q1a K t.dLform) (f 10) (fd 10)
 c11:Cal P w K mg base k "_law_lone" pF11 (q1a K t.dLlone) (f 11) (fd 11)
 c12:Cal P w K mg base k "_law_term" pF12 (q1a K t.dLterm) (f 12) (fd 12)
 c13:Cal P w K mg base k "_law_grown_kind" pF13 (q1a K t.dLgrown_kind) (f 13) (fd 13)
 c14:Cal P w K mg base k "_law_same" pF14 (q1a K t.dLsame) (f 14) (fd 14)
 c15:Cal P w K mg base k "run_end" pF15 (q1a K t.drun_end) (f 15) (fd 15)
 c16:Cal P w K mg base k "token_end" pF16 (q1a K t.dtoken_end) (f 16) (fd 16)
 c17:Cal P w K mg base k "is_name" pF17 (q1a K t.dis_name) (f 17) (fd 17)
 c18:Cal P w K mg base k "read_number" pF18 (q1a K t.dread_number) (f 18) (fd 18)
 c19:Cal P w K mg base k "pieces_of" pF19 (q1a K t.dpieces_of) (f 19) (fd 19)
 c20:Cal P w K mg base k "many_names" pF20 (q1a K t.dmany_names) (f 20) (fd 20)
 c21:Cal P w K mg base k "close_pair" pF21 (q1a K t.dclose_pair) (f 21) (fd 21)
 c22:Cal P w K mg base k "read_kind" pF22 (q1a K t.dread_kind) (f 22) (fd 22)
 c23:Cal P w K mg base k "read_fn_kind" pF23 (q1a K t.dread_fn_kind) (f 23) (fd 23)
 c24:Cal P w K mg base k "token_of" pF24 (q1a K t.dtoken_of) (f 24) (fd 24)
 c25:Cal P w K mg base k "tokens_of" pF25 (q1a K t.dtokens_of) (f 25) (fd 25)
 c26:Cal P w K mg base k "close_bracket" pF26 (q1a K t.dclose_bracket) (f 26) (fd 26)
 c27:Cal P w K mg base k "with_fns" pF27 (q1a K t.dwith_fns) (f 27) (fd 27)
 c28:Cal P w K mg base k "unwrapped" pF28 (q1a K t.dunwrapped) (f 28) (fd 28)
 c29:Cal P w K mg base k "term_of_tokens" pF29 (q1a K t.dterm_of_tokens) (f 29) (fd 29)
 c30:Cal P w K mg base k "parts_and_fns" pF30 (q1a K t.dparts_and_fns) (f 30) (fd 30)
 c31:Cal P w K mg base k "size_of" pF31 (q1a K t.dsize_of) (f 31) (fd 31)
 c32:Cal P w K mg base k "depth_of" pF32 (q1a K t.ddepth_of) (f 32) (fd 32)
 c33:Cal P w K mg base k "owner_of" pF33 (q1a K t.downer_of) (f 33) (fd 33)
 c34:Cal P w K mg base k "owners_in" pF34 (q1a K t.downers_in) (f 34) (fd 34)
 c35:Cal P w K mg base k "is_closed" pF35 (q1a K t.dis_closed) (f 35) (fd 35)
 c36:Cal P w K mg base k "read_term" pF36 (q1a K t.dread_term) (f 36) (fd 36)
 c37:Cal P w K mg base k "show_kind" pF37 (q1a K t.dshow_kind) (f 37) (fd 37)
 c38:Cal P w K mg base k "show_term" pF38 (q1a K t.dshow_term) (f 38) (fd 38)
 c39:Cal P w K mg base k "_law_refused" pF39 (q1a K t.dLrefused) (f 39) (fd 39)
 c40:Cal P w K mg base k "_law_far_bound" pF40 (q1a K t.dLfar_bound) (f 40) (fd 40)
 c41:Cal P w K mg base k "_law_kind_text" pF41 (q1a K t.dLkind_text) (f 41) (fd 41)
 c42:Cal P w K mg base k "_law_text" pF42 (q1a K t.dLtext) (f 42) (fd 42)
 c43:Cal P w K mg base k "_law_size" pF43 (q1a K t.dLsize) (f 43) (fd 43)
 c44:Cal P w K mg base k "_law_depth" pF44 (q1a K t.dLdepth) (f 44) (fd 44)
 c45:Cal P w K mg base k "law" pF45 (q1a K t.dlaw) (f 45) (fd 45)
structure Locs(K:Frag)(mg:Str->Option Value)(f:Nat->Addr)(fd:Nat->FuncData):Prop where
 l0:Loc2 K mg "_law_deck" sF0 pF0 (f 0) (fd 0)
 l1:Loc2 K mg "_law_next" sF1 pF1 (f 1) (fd 1)
 l2:Loc2 K mg "_law_spelled" sF2 pF2 (f 2) (fd 2)
 l3:Loc2 K mg "_law_word" sF3 pF3 (f 3) (fd 3)
 l4:Loc2 K mg "_law_words" sF4 pF4 (f 4) (fd 4)
 l5:Loc2 K mg "_law_world" sF5 pF5 (f 5) (fd 5)
 l6:Loc2 K mg "_law_kind" sF6 pF6 (f 6) (fd 6)
 l7:Loc2 K mg "_law_fn" sF7 pF7 (f 7) (fd 7)
 l8:Loc2 K mg "_law_of" sF8 pF8 (f 8) (fd 8)
 l9:Loc2 K mg "_law_width" sF9 pF9 (f 9) (fd 9)
 l10:Loc2 K mg "_law_form" sF10 pF10 (f 10) (fd 10)
 l11:Loc2 K mg "_law_lone" sF11 pF11 (f 11) (fd 11)
 l12:Loc2 K mg "_law_term" sF12 pF12 (f 12) (fd 12)
 l13:Loc2 K mg "_law_grown_kind" sF13 pF13 (f 13) (fd 13)
 l14:Loc2 K mg "_law_same" sF14 pF14 (f 14) (fd 14)
 l15:Loc2 K mg "run_end" sF15 pF15 (f 15) (fd 15)
 l16:Loc2 K mg "token_end" sF16 pF16 (f 16) (fd 16)
 l17:Loc2 K mg "is_name" sF17 pF17 (f 17) (fd 17)
 l18:Loc2 K mg "read_number" sF18 pF18 (f 18) (fd 18)
 l19:Loc2 K mg "pieces_of" sF19 pF19 (f 19) (fd 19)
 l20:Loc2 K mg "many_names" sF20 pF20 (f 20) (fd 20)
 l21:Loc2 K mg "close_pair" sF21 pF21 (f 21) (fd 21)
 l22:Loc2 K mg "read_kind" sF22 pF22 (f 22) (fd 22)
 l23:Loc2 K mg "read_fn_kind" sF23 pF23 (f 23) (fd 23)
 l24:Loc2 K mg "token_of" sF24 pF24 (f 24) (fd 24)
 l25:Loc2 K mg "tokens_of" sF25 pF25 (f 25) (fd 25)
 l26:Loc2 K mg "close_bracket" sF26 pF26 (f 26) (fd 26)
 l27:Loc2 K mg "with_fns" sF27 pF27 (f 27) (fd 27)
 l28:Loc2 K mg "unwrapped" sF28 pF28 (f 28) (fd 28)
 l29:Loc2 K mg "term_of_tokens" sF29 pF29 (f 29) (fd 29)
 l30:Loc2 K mg "parts_and_fns" sF30 pF30 (f 30) (fd 30)
 l31:Loc2 K mg "size_of" sF31 pF31 (f 31) (fd 31)
 l32:Loc2 K mg "depth_of" sF32 pF32 (f 32) (fd 32)
 l33:Loc2 K mg "owner_of" sF33 pF33 (f 33) (fd 33)
 l34:Loc2 K mg "owners_in" sF34 pF34 (f 34) (fd 34)
 l35:Loc2 K mg "is_closed" sF35 pF35 (f 35) (fd 35)
 l36:Loc2 K mg "read_term" sF36 pF36 (f 36) (fd 36)
 l37:Loc2 K mg "show_kind" sF37 pF37 (f 37) (fd 37)
 l38:Loc2 K mg "show_term" sF38 pF38 (f 38) (fd 38)
 l39:Loc2 K mg "_law_refused" sF39 pF39 (f 39) (fd 39)
 l40:Loc2 K mg "_law_far_bound" sF40 pF40 (f 40) (fd 40)
 l41:Loc2 K mg "_law_kind_text" sF41 pF41 (f 41) (fd 41)
 l42:Loc2 K mg "_law_text" sF42 pF42 (f 42) (fd 42)
 l43:Loc2 K mg "_law_size" sF43 pF43 (f 43) (fd 43)
 l44:Loc2 K mg "_law_depth" sF44 pF44 (f 44) (fd 44)
 l45:Loc2 K mg "law" sF45 pF45 (f 45) (fd 45)
section
variable{P:Program}{w:World}{K:Frag}{mg:Str->Option Value}{base:Heap}{k:Nat}{t:Tab}{f:Nat->Addr}{fd:Nat->FuncData}{g:Addr}(Z:Sta K mg)(I:Fns P w K mg base k t f fd)
include Z I
theorem mF0:SimF P w K mg base k "_law_deck" nF0 sF0 (q5m) g:=
 fun hw hr hx hu hn=>(q0d (q0n 1 hn (q0j q0t (q4f (q0b 0) q4r (q2u q0f)) (q1v (q0a q0f q0c))))
 (q0d (q0n 2 hn (q8b (q1n hu) (q0j q1q (q0m hu (q0b 1) q0f) q0f) q0f (q0s _)))
 (q0d (q6n (q0j q3i (q0m hu (q0b 1) q0f) q0f) (q6a (sets hu) (q0b 1) q0f))
 (q0g (q0o (z7j (q3n q0h (q0b 1) (q3n q0h q0f (q3n q0h q0f (q3n q0h (q0j q0t q0f (q0j q1q (q0r (y4e rfl) Z.z9 L2.y8h (q0a (q0b 1) q0c)) q0f)) (q3n q0h (q0b 2) z7k)))))))))))
theorem mF1:SimF P w K mg base k "_law_next" nF1 sF1 (q5k) g:=
 fun hw hr hx hu hn=>(q0d (q0n 1 hn (q0m hu (q0b 0) q0h))
 (q0d (q0w (q1h (q0m hu (q0b 0) q0h)) (q0d (q6n (q0j q0t (q0m hu (q0b 0) q0h) q0f) (q6a (sets hu) (q0b 0) q0h))
 (q0d (q0n 2 hn (q0m hu (q0b 1) (q0j q1q (q0m hu (q0b 0) q0h) (q0r q1b Z.z4 PySem.boot_len (q0a (q0b 1) q0c)))))
 (q0d (q6n (q0j q1q (q0j q0t (q0j q0t (q0j q8f (q0m hu (q0b 0) q0h) q0f) (q0b 2)) (q0m hu (q0b 0) q0h)) q0f) (q6a (sets hu) (q0b 0) q0h))
 (q0d (q0n 3 hn (q0j q1q (q0j q0t (q0j q8f (q0m hu (q0b 0) q0h) (q0m hu (q0b 0) q0h)) (q0j q8f q0f (q0m hu (q0b 0) q0h))) q0f))
 (q0g (q0o (q0j q1q (q0j q8f (q0b 3) (q0j q0t (q0b 3) q0f)) q0f))))))) q0q)
 (q0d (q0n 3 hn (q0j q1q (q0m hu (q0b 1) q0f) (q0j y1r q0f q0f)))
 (q0d (q6n (q0j q3i (q0m hu (q0b 1) q0f) (q0j y1r q0f q0f)) (q6a (sets hu) (q0b 1) q0f))
 (q0d (q6n (q0j q4l (q0m hu (q0b 0) q0h) q0f) (q6a (sets hu) (q0b 0) q0h))
 (q0d (q0w (SimW.t (q2s (q0l (q1n hu) (q0m hu (q0b 0) q0h) q0f (q0s _)) (q2n (q0l q4s (q0r q1b Z.z4 PySem.boot_len (q0a (q0b 1) q0c)) q0f (q0s _))))) (q0d (q1g (q1z PySem.F.plainAttrs_list PySem.F.slot_list_pop PySem.F.type_list_pop y1x (q0b 1) (q0a q0f q0c)))
 (q0g (q6n q0f (q6a (sets hu) (q0b 0) q0h)))) q0q)
 (q0g (q0o (q0b 3)))))))))
theorem mF2:SimF P w K mg base k "_law_spelled" nF2 sF2 (q6i) g:=
 fun hw hr hx hu hn=>(q0d (q0n 2 hn q0h)
 (q0d (q5o PassesOwn.leaving rfl (q4k Z.z6 (q0a (q0b 1) q0c)) (q1f (i:=3) hn) (q0d (q0n 2 hn (q0j q0t (q0b 2) (q0m hu q0h (q0j q1q (q0b 0) q0f))))
 (q0g (q0n 0 hn (q0j q3i (q0b 0) q0f)))))
 (q0g (q0o (q0b 2)))))
theorem mF3:SimF P w K mg base k "_law_word" nF3 sF3 (q5i t.dLnext t.dLspelled) g:=
 fun hw hr hx hu hn=>(q0d (q0n 2 hn (q0k I.c1 hr hx (q0a (q0b 0) q0c)))
 (q0d (q0n 3 hn (q0k I.c1 hr hx (q0a (q0b 0) q0c)))
 (q0d (q0n 4 hn (q0j q0t q0f (q0j q1q (q0b 2) q0f)))
 (q0d (q0n 5 hn (q0k I.c2 hr hx (q0a (q0b 3) (q0a (q0b 4) q0c))))
 (q0d (q0w (SimW.t (q2s (q0l (q5u hu) (q0b 1) (q1v q0c) (q0s _)) (q2n (q0l (q1n hu) (q0j q1q (q0j q3i (q0b 2) q0f) q0f) q0f (q0s _))))) (q0d (q0n 6 hn (q0j q1q (q0j q3i (q0b 2) q0f) (q0r q1b Z.z4 PySem.boot_len (q0a (q0m hu (q0b 1) q0f) q0c))))
 (q0g (q0n 5 hn (q0j q0t (q0j q0t (q4f (q0m hu (q0b 1) q0f) q4r (q2u (q0b 6))) (q0m hu (q0b 5) q0f)) (q4f (q0m hu (q0b 1) q0f) (q2u (q0j q0t (q0b 6) q0f)) q4r))))) q0q)
 (q0d (q4q PassesOwn.leaving (SimW.t (q2y (q0l (q7f hu) (q0b 5) (q0b 1) (by with_unfolding_all rfl)) (q3b (q0l (q1n hu) (q0b 5) q0h (q0s _))))) (q0d (q0n 3 hn (q0j q0t (q0b 3) q0f))
 (q0d (q0n 4 hn (q0j q0t (q0j q1q (q0b 4) q0f) q0f))
 (q0g (q0n 5 hn (q0k I.c2 hr hx (q0a (q0b 3) (q0a (q0b 4) q0c))))))))
 (q0g (q0o (q0b 5)))))))))
theorem mF4:SimF P w K mg base k "_law_words" nF4 sF4 (q4x t.dLword) g:=
 fun hw hr hx hu hn=>(q0d (q0n 2 hn (q1v q0c))
 (q0d (q5o PassesOwn.leaving rfl (q4k Z.z6 (q0a (q0b 1) q0c)) (q1f (i:=3) hn) (q0g (q1g (q1z PySem.F.plainAttrs_list PySem.F.slot_list_append PySem.F.type_list_append q1c (q0b 2) (q0a (q0k I.c3 hr hx (q0a (q0b 0) (q0a (q0b 2) q0c))) q0c)))))
 (q0g (q0o (q0b 2)))))
theorem mF5:SimF P w K mg base k "_law_world" nF5 sF5 (q4w t.dLwords) g:=
 fun hw hr hx hu hn=>(q0d (q0n 3 hn (q0k I.c4 hr hx (q0a (q0b 0) (q0a q0f q0c))))
 (q0g (q0o (z7j (q3n q0h (q0b 3) (q3n q0h (q1v q0c) (q3n q0h (q0b 0) (q3n q0h (q0b 1) (q3n q0h (q0b 2) z7k)))))))))
theorem mF6:SimF P w K mg base k "_law_kind" nF6 sF6 (q4p t.dLnext t.dLkind) g:=
 fun hw hr hx hu hn=>(q0d (q0n 3 hn (q0k I.c1 hr hx (q0a (q0b 0) q0c)))
 (q0d (q0w (SimW.t (q2y (q0l (q1n hu) (q0b 2) q0f (q0s _)) (q3b (q0l (q1n hu) (q0j q1q (q0b 3) q0f) q0f (q0s _))))) (q0g (q0o (q0m hu (q0b 1) (q0j q1q (q0j q3i (q0b 3) q0f) (q0r q1b Z.z4 PySem.boot_len (q0a (q0b 1) q0c)))))) q0q)
 (q0g (q0o (q1p (q0a (q0k I.c6 hr hx (q0a (q0b 0) (q0a (q0b 1) (q0a (q0j q4l (q0b 2) q0f) q0c)))) (q0a (q0k I.c6 hr hx (q0a (q0b 0) (q0a (q0b 1) (q0a (q0j q4l (q0b 2) q0f) q0c)))) q0c)))))))
theorem mF7:SimF P w K mg base k "_law_fn" nF7 sF7 (q6y t.dLterm) g:=
 fun hw hr hx hu hn=>(q0d (q1g (q1z PySem.F.plainAttrs_list PySem.F.slot_list_append PySem.F.type_list_append q1c (q0b 3) (q0a (q1v (q0a (q0m hu (q0b 2) q0f) (q0a (q0m hu (q0b 1) q0h) q0c))) q0c)))
 (q0d (q0n 5 hn (q0k I.c12 hr hx (q0a (q0b 0) (q0a (q0b 1) (q0a (q0m hu (q0b 2) q0f) (q0a (q0b 3) (q0a (q0j q4l (q0b 4) q0f) q0c)))))))
 (q0d (q1g (q5z PySem.F.plainAttrs_list PySem.F.slot_list_pop PySem.F.type_list_pop q6c (q0b 3)))
 (q0g (q0o (q1p (q0a q0h (q0a (q0m hu (q0b 2) q0f) (q0a (q0b 5) q0c)))))))))
theorem mF8:SimF P w K mg base k "_law_of" nF8 sF8 (q6x t.dLkind t.dLnext t.dLfn t.dLterm) g:=
 fun hw hr hx hu hn=>(q0d (q0n 5 hn (q0k I.c6 hr hx (q0a (q0b 0) (q0a (q0m hu (q0b 1) q0h) (q0a q0f q0c)))))
 (q0d (q0n 6 hn (q0k I.c1 hr hx (q0a (q0b 0) q0c)))
 (q0d (q0w (q0l q4s (q0j q1q (q0b 6) q0f) q0f (q0s _)) (q0g (q0n 7 hn (q0k I.c7 hr hx (q0a (q0b 0) (q0a (q0b 1) (q0a (q1p (q0a (q0b 5) (q0a (q0b 2) q0c))) (q0a (q0b 3) (q0a (q0b 4) q0c)))))))) (q0g (q0n 7 hn (q0k I.c12 hr hx (q0a (q0b 0) (q0a (q0b 1) (q0a (q1p (q0a (q0b 5) (q0a (q0b 2) q0c))) (q0a (q0b 3) (q0a (q0j q4l (q0b 4) q0f) q0c)))))))))
 (q0g (q0o (q1p (q0a q0h (q0a (q0b 7) (q0a (q0k I.c12 hr hx (q0a (q0b 0) (q0a (q0b 1) (q0a (q0b 5) (q0a (q0b 3) (q0a (q0j q4l (q0b 4) q0f) q0c)))))) q0c)))))))))
theorem mF9:SimF P w K mg base k "_law_width" nF9 sF9 (q7p t.dLwidth) g:=
 fun hw hr hx hu hn=>(q0d (q0w (q1h (q0r q1u Z.z3 L2.q1m (q0a (q0b 0) (q0a (q4v Z.z8 L2.q2k) q0c)))) (q0g (q0o q0f)) q0q)
 (q0g (q0o (q0j q0t (q0k I.c9 hr hx (q0a (q0m hu (q0b 0) q0f) q0c)) (q0k I.c9 hr hx (q0a (q0m hu (q0b 0) q0f) q0c))))))
theorem mF10:SimF P w K mg base k "_law_form" nF10 sF10 (q8r t.dLform) g:=
 fun hw hr hx hu hn=>(q0d (q0w (q1h (q0r q1u Z.z3 L2.q1m (q0a (q0b 0) (q0a (q4v Z.z8 L2.q2k) q0c)))) (q0g (q0o (q1p (q0a q0h (q0a (q0b 0) q0c))))) q0q)
 (q0g (q0o (q1p (q0a (q0m hu (q1v (q0a q0h (q0a q0h q0c))) (q0j q1q (q0b 1) q0f)) (q0a (q0k I.c10 hr hx (q0a (q0m hu (q0b 0) q0f) (q0a (q0j q3i (q0b 1) q0f) q0c))) (q0a (q0k I.c10 hr hx (q0a (q0m hu (q0b 0) q0f) (q0a (q0j q3i (q0b 1) q0f) q0c))) q0c)))))))
theorem mF11:SimF P w K mg base k "_law_lone" nF11 sF11 (q5l t.dLwidth t.dLform t.dLword) g:=
 fun hw hr hx hu hn=>(q0d (q0w (SimW.t (q2s (q1h (q0m hu (q0b 0) q0h)) (q2s (q0l (q1n hu) (q0j q1q (q0b 2) q0f) q0f (q0s _)) (q2n (q0l q9y (q0k I.c9 hr hx (q0a (q0b 1) q0c)) q0f (q0s _)))))) (q0g (q0o (q1p (q0a q0h (q0a (q0j q1q (q0j q3i (q0b 2) q0f) q0f) (q0a (q0k I.c10 hr hx (q0a (q0b 1) (q0a (q0j q3i (q0b 2) q0f) q0c))) q0c)))))) q0q)
 (q0d (q5o PassesOwn.leaving rfl (q4y (q0m hu (q0b 0) q0h)) (q6z 2 rfl (q2a (q1f (i:=3) hn) (q2a (q1f (i:=4) hn) q5t))) (q0g (q0w (SimW.t (q2s (q0l (q1n hu) (q0b 4) (q0b 1) (q0s _)) (q2n (q0l q4s (q0j q1q (q0j q3i (q0b 2) q0f) q0f) q0f (q0s _))))) (q0g (q0o (q1p (q0a q0h (q0a (q0b 3) q0c))))) q0q)))
 (q0d (q0n 5 hn (q0k I.c3 hr hx (q0a (q0m hu (q0b 0) q0h) (q0a (z1z ["_law_name", "_law_other"] [none,none] rfl (q8u rfl (by decide +kernel) (by decide +kernel) rfl trivial) (q4y (q0m hu (q0b 0) q0h)) (fun _ _ _ _ _=>(q6z 2 rfl (q2a (q1f (i:=0) (show (["_law_name", "_law_other"]:List Str).Nodup by decide +kernel)) (q2a (q1f (i:=1) (show (["_law_name", "_law_other"]:List Str).Nodup by decide +kernel)) q5t)))) (fun _ _ _ _ _=>(q0b 0))) q0c))))
 (q0d (q1g (q1z PySem.F.plainAttrs_list PySem.F.slot_list_append PySem.F.type_list_append q1c (q0m hu (q0b 0) q0h) (q0a (q1p (q0a (q0b 5) (q0a (q0b 1) q0c))) q0c)))
 (q0g (q0o (q1p (q0a q0h (q0a (q0b 5) q0c)))))))))
theorem mF12:SimF P w K mg base k "_law_term" nF12 sF12 (q5j t.dLnext t.dLfn t.dLof t.dLlone) g:=
 fun hw hr hx hu hn=>(q0d (q0n 5 hn (q0k I.c1 hr hx (q0a (q0b 0) q0c)))
 (q0d (z1y 6 ["_law_k", "_law_kind_here", "_law_around"] [none,some 2,some 3] hn rfl (q8u rfl (by decide +kernel) (by decide +kernel) rfl ⟨⟨rfl,rfl,by first|exact Or.inl rfl|exact Or.inr rfl⟩,⟨⟨rfl,rfl,by first|exact Or.inl rfl|exact Or.inr rfl⟩,trivial⟩⟩) (q4k Z.z6 (q0a (q0r q1b Z.z4 PySem.boot_len (q0a (q0b 3) q0c)) q0c)) (fun _ _ _ _ _=>(q1f (i:=0) (show (["_law_k", "_law_kind_here", "_law_around"]:List Str).Nodup by decide +kernel))) (fun _ _ _ _ _=>(SimW.t (q2s (q0l (q1n hu) (q0m hu (q0m hu (q0b 2) (q0b 0)) q0f) (q0b 1) (q0s _)) (q2n (q0l q4s (q0m hu (q0m hu (q0b 2) (q0b 0)) q0f) q0f (q0s _)))))) (fun _ _ _ _ _=>(q0b 0)))
 (q0d (q0w (SimW.t (q2s (q0l (q5u hu) (q0b 6) (q1v q0c) (q0s _)) (q2n (SimW.t (q2y (q0l q9y (q0j q1q (q0b 5) q0f) q0f (q0s _)) (q3b (q0l q9y (q0b 4) q0f (q0s _)))))))) (q0d (q0n 7 hn (q0m hu (q0b 6) (q0j q1q (q0j q3i (q0b 5) q0f) (q0r q1b Z.z4 PySem.boot_len (q0a (q0b 6) q0c)))))
 (q0d (q6n (q0j q4l (q0m hu (q0m hu (q0b 3) (q0b 7)) q0f) q0f) (q6a (sets hu) (q0m hu (q0b 3) (q0b 7)) q0f))
 (q0g (q0o (q1p (q0a q0h (q0a (q0j q4l (q0j q4l (q0r q1b Z.z4 PySem.boot_len (q0a (q0b 3) q0c)) q0f) (q0b 7)) q0c))))))) q0q)
 (q0d (q0w (SimW.t (q2s (q0l q4s (q0b 4) q0f (q0s _)) (q2s (q1h (q0r q1u Z.z3 L2.q1m (q0a (q0b 2) (q0a (q4v Z.z10 L2.q8o) q0c)))) (q2n (q0l q4s (q0j q1q (q0b 5) q0f) q0f (q0s _)))))) (q0g (q0o (q0k I.c7 hr hx (q0a (q0b 0) (q0a (q0b 1) (q0a (q0b 2) (q0a (q0b 3) (q0a (q0b 4) q0c)))))))) q0q)
 (q0d (q0w (SimW.t (q2s (q0l q4s (q0b 4) q0f (q0s _)) (q2n (q0l q4s (q0j q1q (q0b 5) q0f) q0f (q0s _))))) (q0g (q0o (q0k I.c8 hr hx (q0a (q0b 0) (q0a (q0b 1) (q0a (q0b 2) (q0a (q0b 3) (q0a (q0b 4) q0c)))))))) q0q)
 (q0g (q0o (q0k I.c11 hr hx (q0a (q0b 1) (q0a (q0b 2) (q0a (q0j q3i (q0b 5) q0f) q0c)))))))))))
theorem mF13:SimF P w K mg base k "_law_grown_kind" nF13 sF13 (q3a t.dLwords t.dLnext) g:=
 fun hw hr hx hu hn=>(q0d (q0n 2 hn (q0k I.c4 hr hx (q0a (q0b 0) (q0a (q0j q0t q0f (q0j q1q (q0k I.c1 hr hx (q0a (q0b 0) q0c)) (q0b 1))) q0c))))
 (q0d (z5q 3 ["_law_k", "_law_names", "_law_deck_here"] [none,some 2,some 0] hn rfl (q8u rfl (by decide +kernel) (by decide +kernel) rfl ⟨⟨rfl,rfl,by first|exact Or.inl rfl|exact Or.inr rfl⟩,⟨⟨rfl,rfl,by first|exact Or.inl rfl|exact Or.inr rfl⟩,trivial⟩⟩) (q4k Z.z6 (q0a (q0b 1) q0c)) (fun _ _ _ _ _=>(q1f (i:=0) (show (["_law_k", "_law_names", "_law_deck_here"]:List Str).Nodup by decide +kernel))) (fun _ _ _ _ _=>(q0m hu (q0b 1) (q0j q1q (q0k I.c1 hr z7o (q0a (q0b 2) q0c)) (q0r q1b Z.z4 PySem.boot_len (q0a (q0b 1) q0c))))))
 (q0d (q4q PassesOwn.leaving (q0l q4s (q0r q1b Z.z4 PySem.boot_len (q0a (q0b 3) q0c)) q0f (q0s _)) (q0d (q0n 4 hn (q0j q1q (q0k I.c1 hr hx (q0a (q0b 0) q0c)) (q0j q4l (q0r q1b Z.z4 PySem.boot_len (q0a (q0b 3) q0c)) q0f)))
 (q0g (q0n 3 hn (q0j q0t (q0j q0t (q4f (q0b 3) q4r (q2u (q0b 4))) (q1v (q0a (q1p (q0a (q0m hu (q0b 3) (q0b 4)) (q0a (q0m hu (q0b 3) (q0j q0t (q0b 4) q0f)) q0c))) q0c))) (q4f (q0b 3) (q2u (q0j q0t (q0b 4) q0f)) q4r))))))
 (q0g (q0o (q0m hu (q0b 3) q0f))))))
theorem mF14:SimF P w K mg base k "_law_same" nF14 sF14 (q3e t.dLsame) g:=
 fun hw hr hx hu hn=>(q0d (q0w (q1h (q0r q1u Z.z3 L2.q1m (q0a (q0b 0) (q0a (q4v Z.z8 L2.q2k) q0c)))) (q0g (q0o (q8c (q0r q1u Z.z3 L2.q1m (q0a (q0b 1) (q0a (q4v Z.z8 L2.q2k) q0c))) (q9s (q8b (q1n hu) (q0b 0) (q0b 1) (q0s _)))))) q0q)
 (q0d (q0w (q4g (q1h (q0r q1u Z.z3 L2.q1m (q0a (q0b 0) (q0a (q4v Z.z10 L2.q8o) q0c))))) (q0g (q0o (q8c (q0r q1u Z.z3 L2.q1m (q0a (q0b 1) (q0a (q4v Z.z2 L2.z8e) q0c))) (q8c (y0o (q0r q1u Z.z3 L2.q1m (q0a (q0b 1) (q0a (q4v Z.z1 L2.y4i) q0c)))) (q9s (q8b (q1n hu) (q0b 0) (q0b 1) (q0s _))))))) q0q)
 (q0d (q0w (SimW.t (q2y (q4g (q1h (q0r q1u Z.z3 L2.q1m (q0a (q0b 1) (q0a (q4v Z.z10 L2.q8o) q0c))))) (q3b (q0l (q5u hu) (q0r q1b Z.z4 PySem.boot_len (q0a (q0b 0) q0c)) (q0r q1b Z.z4 PySem.boot_len (q0a (q0b 1) q0c)) (q0s _))))) (q0g (q0o q7r)) q0q)
 (q0g (q0o (q0r (z5c rfl) Z.z0 L2.z8f (q0a (z1z ["_law_here", "_law_there"] [none,none] rfl (q8u rfl (by decide +kernel) (by decide +kernel) rfl trivial) (y5p Z.z11 (q0a (q0b 0) (q0a (q0b 1) q0c))) (fun _ _ _ _ _=>(q6z 2 rfl (q2a (q1f (i:=0) (show (["_law_here", "_law_there"]:List Str).Nodup by decide +kernel)) (q2a (q1f (i:=1) (show (["_law_here", "_law_there"]:List Str).Nodup by decide +kernel)) q5t)))) (fun _ _ _ _ _=>(q0k I.c14 hr z7o (q0a (q0b 0) (q0a (q0b 1) q0c))))) q0c)))))))
theorem mF15:SimF P w K mg base k "run_end" nF15 sF15 (q4n) g:=
 fun hw hr hx hu hn=>(q0d (q4q PassesOwn.leaving (SimW.t (q2s (q0l q9y (q0b 1) (q0r q1b Z.z4 PySem.boot_len (q0a (q0b 0) q0c)) (q0s _)) (q2n (q0l (q7f hu) (q0m hu (q0b 0) (q0b 1)) (q0b 2) (by with_unfolding_all rfl))))) (q0g (y0u 1 hn q0f)))
 (q0g (q0o (q0b 1))))
theorem mF16:SimF P w K mg base k "token_end" nF16 sF16 (q3r t.drun_end) g:=
 fun hw hr hx hu hn=>(q0d (q0w (q0l (q1n hu) (q0m hu (q0b 0) (q0b 1)) q0h (q0s _)) (q0d (q0n 2 hn (q1z PySem.F.plainAttrs_str PySem.F.slot_str_find PySem.F.type_str_find y1y (q0b 0) (q0a q0h (q0a (q0b 1) q0c))))
 (q0g (q0o (y0s (q0l q9y (q0b 2) q0f (q0s _)) (q0r q1b Z.z4 PySem.boot_len (q0a (q0b 0) q0c)) (q0j q0t (q0b 2) q0f))))) q0q)
 (q0d (q0w (q0l (q1n hu) (q0m hu (q0b 0) (q0b 1)) q0h (q0s _)) (q0g (q0o (q0k I.c15 hr hx (q0a (q0b 0) (q0a (q0j q0t (q0b 1) q0f) (q0a (q2i Z.g1) q0c)))))) q0q)
 (q0d (q0w (q0l (q7f hu) (q0m hu (q0b 0) (q0b 1)) (q2i Z.g2) (by with_unfolding_all rfl)) (q0g (q0o (q0k I.c15 hr hx (q0a (q0b 0) (q0a (q0j q0t (q0b 1) q0f) (q0a (q2i Z.g2) q0c)))))) q0q)
 (q0g (q0o (q0j q0t (q0b 1) q0f))))))
theorem mF17:SimF P w K mg base k "is_name" nF17 sF17 (q4o) g:=
 fun hw hr hx hu hn=>(q0d (q0w (SimW.t (q2y (q4g (q1h (q0r q1u Z.z3 L2.q1m (q0a (q0b 0) (q0a (q4v Z.z8 L2.q2k) q0c))))) (q2y (q0l (q1n hu) (q0r q1b Z.z4 PySem.boot_len (q0a (q0b 0) q0c)) q0f (q0s _)) (q3b (q0l q4s (q0r q1b Z.z4 PySem.boot_len (q0a (q0b 0) q0c)) (q2i Z.g3) (q0s _)))))) (q0g (q0o q7r)) q0q)
 (q0g (q0o (q0r (z5c rfl) Z.z0 L2.z8f (q0a (z1z ["sign"] [none] rfl (q8u rfl (by decide +kernel) (by decide +kernel) rfl trivial) (q4y (q0b 0)) (fun _ _ _ _ _=>(q1f (i:=0) (show (["sign"]:List Str).Nodup by decide +kernel))) (fun _ _ _ _ _=>(q8b (q7f hu) (q0b 0) (q2i Z.g2) (by with_unfolding_all rfl)))) q0c)))))
theorem mF18:SimF P w K mg base k "read_number" nF18 sF18 (q2z) g:=
 fun hw hr hx hu hn=>(q0d (q0w (SimW.t (q2y (q0l (q1n hu) (q0b 0) q0h (q0s _)) (q3b (SimW.t (q2s (q0l (q1n hu) (q0m hu (q0b 0) q0f) q0h (q0s _)) (q2n (q0l (q5u hu) (q0b 0) q0h (q0s _)))))))) (q0g (q1s Z.h1 hx rfl (q0a q0h q0c))) q0q)
 (q0d (q0w (q0l q4s (q0r q1b Z.z4 PySem.boot_len (q0a (q0b 0) q0c)) q0f (q0s _)) (q0g (q1s Z.h1 hx rfl (q0a q0h q0c))) q0q)
 (q0g (q0o (q5a z9q Z.z2 L2.z8e (q0a (q0b 0) q0c))))))
theorem mF19:SimF P w K mg base k "pieces_of" nF19 sF19 (q3w) g:=
 fun hw hr hx hu hn=>(q0d (q0n 1 hn (q1v q0c))
 (q0d (q0n 2 hn q0h)
 (q0d (q5o PassesOwn.leaving rfl (q4y (q0b 0)) (q1f (i:=3) hn) (q0d (q0w (q0l (q7f hu) (q0b 3) (q2i Z.g2) (by with_unfolding_all rfl)) (q0d (y0u 2 hn (q0b 3))
 (q0g z3n)) q0q)
 (q0d (q0w (q0l (q5u hu) (q0b 2) q0h (q0s _)) (q0d (q1g (q1z PySem.F.plainAttrs_list PySem.F.slot_list_append PySem.F.type_list_append q1c (q0b 1) (q0a (q0b 2) q0c)))
 (q0g (q0n 2 hn q0h))) q0q)
 (q0g (q1g (q1z PySem.F.plainAttrs_list PySem.F.slot_list_append PySem.F.type_list_append q1c (q0b 1) (q0a (q0b 3) q0c)))))))
 (q0d (q0w (q0l (q5u hu) (q0b 2) q0h (q0s _)) (q0g (q1g (q1z PySem.F.plainAttrs_list PySem.F.slot_list_append PySem.F.type_list_append q1c (q0b 1) (q0a (q0b 2) q0c)))) q0q)
 (q0g (q0o (q0b 1)))))))
theorem mF20:SimF P w K mg base k "many_names" nF20 sF20 (q3f t.dis_name) g:=
 fun hw hr hx hu hn=>(q0g (q0o (q0r q1b Z.z4 PySem.boot_len (q0a (q8a ["piece"] [none] rfl (q8u rfl (by decide +kernel) (by decide +kernel) rfl trivial) (q4y (q0b 0)) (fun _ _ _ _ _=>(q1f (i:=0) (show(["piece"]:List Str).Nodup by decide +kernel))) (fun _ _ _ _ _=>(q1h (q0k I.c17 hr z7o (q0a (q0b 0) q0c)))) (fun _ _ _ _ _=>(q0b 0))) q0c))))
theorem mF21:SimF P w K mg base k "close_pair" nF21 sF21 (q3g) g:=
 fun hw hr hx hu hn=>(q0d (q0n 1 hn (q4f (q0b 0) (q2u (q9t q0f)) q4r))
 (q0d (q0w (SimW.t (q2y (q0l (q5u hu) (q0r q1b Z.z4 PySem.boot_len (q0a (q0b 1) q0c)) q0f (q0s _)) (q2y (q0l (q5u hu) (q0m hu (q0b 1) q0f) q0h (q0s _)) (q2y (q0l (q5u hu) (q0m hu (q0b 1) q0f) q0h (q0s _)) (q2y (q0l (q7f hu) (q0m hu (q0b 1) q0f) (q2i Z.g7) (by with_unfolding_all rfl)) (q3b (q0l (q7f hu) (q0m hu (q0b 1) q0f) (q2i Z.g7) (by with_unfolding_all rfl)))))))) (q0g (q1s Z.h0 hx rfl (q0a q0h q0c))) q0q)
 (q0d (y0t (q0b 0) (q2u (q9t q0f)) q4r)
 (q0g (q1g (q1z PySem.F.plainAttrs_list PySem.F.slot_list_append PySem.F.type_list_append q1c (q0b 0) (q0a (q1p (q0a (q0m hu (q0b 1) q0f) (q0a (q0m hu (q0b 1) q0f) q0c))) q0c)))))))
theorem mF22:SimF P w K mg base k "read_kind" nF22 sF22 (q3v t.dpieces_of t.dmany_names t.dclose_pair t.dis_name) g:=
 fun hw hr hx hu hn=>(q0d (q0w (q4g (q1h (q0r q1u Z.z3 L2.q1m (q0a (q0b 0) (q0a (q4v Z.z8 L2.q2k) q0c))))) (q0g (q1s Z.h0 hx rfl (q0a q0h q0c))) q0q)
 (q0d (q0n 1 hn (q0k I.c19 hr hx (q0a (q0b 0) q0c)))
 (q0d (q0w (q0l q4s (q0k I.c20 hr hx (q0a (q0b 1) q0c)) (q2i Z.g6) (q0s _)) (q0g (q1s Z.h0 hx rfl (q0a q0h q0c))) q0q)
 (q0d (q0n 2 hn (q1v q0c))
 (q0d (q5o PassesOwn.leaving rfl (q4y (q0b 1)) (q1f (i:=3) hn) (q0g (q0w (q0l (q1n hu) (q0b 3) q0h (q0s _)) (q0g (q1g (q0k I.c21 hr hx (q0a (q0b 2) q0c)))) (q0g (q0w (SimW.t (q2y (q0l (q7f hu) (q0b 3) (q2i Z.g7) (by with_unfolding_all rfl)) (q3b (q1h (q0k I.c17 hr hx (q0a (q0b 3) q0c)))))) (q0g (q1g (q1z PySem.F.plainAttrs_list PySem.F.slot_list_append PySem.F.type_list_append q1c (q0b 2) (q0a (q0b 3) q0c)))) (q0g (q1s Z.h0 hx rfl (q0a q0h q0c))))))))
 (q0d (q0w (SimW.t (q2y (q0l (q5u hu) (q0r q1b Z.z4 PySem.boot_len (q0a (q0b 2) q0c)) q0f (q0s _)) (q3b (q0l (q7f hu) (q0m hu (q0b 2) q0f) (q2i Z.g7) (by with_unfolding_all rfl))))) (q0g (q1s Z.h0 hx rfl (q0a q0h q0c))) q0q)
 (q0g (q0o (q0m hu (q0b 2) q0f)))))))))
theorem mF23:SimF P w K mg base k "read_fn_kind" nF23 sF23 (q2q t.dread_kind) g:=
 fun hw hr hx hu hn=>(q0g (y5m Z.h2 (z7i (y5k (z3m I.c22 hr (q0a (q0b 0) q0c)))) (fun _=>(q0g y0p))))
theorem mF24:SimF P w K mg base k "token_of" nF24 sF24 (q4b t.dis_name t.dread_number t.dread_fn_kind) g:=
 fun hw hr hx hu hn=>(q0d (q0w (q0l (q7f hu) (q0b 0) (q2i Z.g0) (by with_unfolding_all rfl)) (q0g (q0o (q0b 0))) q0q)
 (q0d (q0w (q1h (q0k I.c17 hr hx (q0a (q0b 0) q0c))) (q0g (q0o (q1p (q0a q0h (q0a (q0b 0) q0c))))) q0q)
 (q0d (q0w (q0l (q1n hu) (q0m hu (q0b 0) q0f) q0h (q0s _)) (q0g (q0o (q1p (q0a q0h (q0a (q0k I.c18 hr hx (q0a (q4f (q0b 0) (q2u q0f) q4r) q0c)) q0c))))) q0q)
 (q0d (q0w (SimW.t (q2s (q0l (q1n hu) (q0m hu (q0b 0) q0f) q0h (q0s _)) (q2n (q0l (q1n hu) (q0m hu (q0b 0) (q9t q0f)) q0h (q0s _))))) (q0g (q0o (q1p (q0a q0h (q0a (q0k I.c23 hr hx (q0a (q4f (q0b 0) (q2u q0f) (q2u (q9t q0f))) q0c)) q0c))))) q0q)
 (q0g (q1s Z.h1 hx rfl (q0a q0h q0c)))))))
theorem mF25:SimF P w K mg base k "tokens_of" nF25 sF25 (q3q t.dtoken_end t.dtoken_of) g:=
 fun hw hr hx hu hn=>(q0d (q0n 1 hn (q1v q0c))
 (q0d (q0n 2 hn q0f)
 (q0d (q4q PassesOwn.leaving (q0l q9y (q0b 2) (q0r q1b Z.z4 PySem.boot_len (q0a (q0b 0) q0c)) (q0s _)) (q0d (q0n 3 hn (q0k I.c16 hr hx (q0a (q0b 0) (q0a (q0b 2) q0c))))
 (q0d (q1g (q1z PySem.F.plainAttrs_list PySem.F.slot_list_append PySem.F.type_list_append q1c (q0b 1) (q0a (q0k I.c24 hr hx (q0a (q4f (q0b 0) (q2u (q0b 2)) (q2u (q0b 3))) q0c)) q0c)))
 (q0g (q0n 2 hn (q0b 3))))))
 (q0g (q0o (q0b 1))))))
theorem mF26:SimF P w K mg base k "close_bracket" nF26 sF26 (q2g) g:=
 fun hw hr hx hu hn=>(q0d (q0w (q4g (q1h (q0b 0))) (q0g (q1s Z.h1 hx rfl (q0a q0h q0c))) q0q)
 (q0d (q0n 2 hn (q0m hu (q5z PySem.F.plainAttrs_list PySem.F.slot_list_pop PySem.F.type_list_pop q6c (q0b 0)) q0f))
 (q0d (q0w (q0l q9z (q0b 2) q6m (q0s _)) (q0g (q0o (q1p (q0a q0h (q0a (q0b 2) (q0a (q0b 1) q0c)))))) q0q)
 (q0d (q0w (q0l (q5u hu) (q0m hu (q0b 1) q0f) q0h (q0s _)) (q0g (q1s Z.h1 hx rfl (q0a q0h q0c))) q0q)
 (q0g (q0o (q1p (q0a q0h (q0a (q0b 1) q0c)))))))))
theorem mF27:SimF P w K mg base k "with_fns" nF27 sF27 (q4a) g:=
 fun hw hr hx hu hn=>(q0d (q0w (SimW.t (q2y (q0l x6b (q0b 1) q6m (q0s _)) (q3b (q0l (q1n hu) (q0m hu (q0b 1) q0f) q0h (q0s _))))) (q0g (q1s Z.h1 hx rfl (q0a q0h q0c))) q0q)
 (q0d (q4q PassesOwn.leaving (SimW.t (q2s (q1h (q0b 0)) (q2n (q0l (q1n hu) (q0m hu (q0m hu (q0b 0) (q9t q0f)) q0f) q0h (q0s _))))) (q0d (q0n 2 hn (q5z PySem.F.plainAttrs_list PySem.F.slot_list_pop PySem.F.type_list_pop q6c (q0b 0)))
 (q0g (q0n 1 hn (q1p (q0a q0h (q0a (q0m hu (q0b 2) q0f) (q0a (q0b 1) q0c))))))))
 (q0g (q0o (q0b 1)))))
theorem mF28:SimF P w K mg base k "unwrapped" nF28 sF28 (q3p) g:=
 fun hw hr hx hu hn=>(q0d (q0w (SimW.t (q2s (q0l q9z (q0b 0) q6m (q0s _)) (q2n (q0l (q1n hu) (q0m hu (q0b 0) q0f) q0h (q0s _))))) (q0g (q0o (q0m hu (q0b 0) q0f))) q0q)
 (q0g (q0o (q0b 0))))
theorem mF29:SimF P w K mg base k "term_of_tokens" nF29 sF29 (q2b t.dclose_bracket t.dwith_fns t.dunwrapped) g:=
 fun hw hr hx hu hn=>(q0d (q0n 1 hn (q1v q0c))
 (q0d (q0n 2 hn q6m)
 (q0d (q5o PassesOwn.leaving rfl (q4y (q0b 0)) (q1f (i:=3) hn) (q0g (q0w (q0l (q1n hu) (q0b 3) q0h (q0s _)) (q0g (q0n 2 hn (q0k I.c26 hr hx (q0a (q0b 1) (q0a (q0k I.c27 hr hx (q0a (q0b 1) (q0a (q0b 2) q0c))) q0c))))) (q0g (q0w (q0l (q1n hu) (q0b 3) q0h (q0s _)) (q0d (q1g (q1z PySem.F.plainAttrs_list PySem.F.slot_list_append PySem.F.type_list_append q1c (q0b 1) (q0a (q1p (q0a q0h (q0a (q0k I.c28 hr hx (q0a (q0b 2) q0c)) q0c))) q0c)))
 (q0g (q0n 2 hn q6m))) (q0g (q0w (q0l q9z (q0b 2) q6m (q0s _)) (q0g (q1s Z.h1 hx rfl (q0a q0h q0c))) (q0g (q0w (q0l (q1n hu) (q0m hu (q0b 3) q0f) q0h (q0s _)) (q0g (q1g (q1z PySem.F.plainAttrs_list PySem.F.slot_list_append PySem.F.type_list_append q1c (q0b 1) (q0a (q0b 3) q0c)))) (q0g (q0n 2 hn (q0b 3))))))))))))
 (q0d (q0n 2 hn (q0k I.c27 hr hx (q0a (q0b 1) (q0a (q0b 2) q0c))))
 (q0d (q0w (q1h (q0b 1)) (q0g (q1s Z.h1 hx rfl (q0a q0h q0c))) q0q)
 (q0g (q0o (q0b 2))))))))
theorem mF30:SimF P w K mg base k "parts_and_fns" nF30 sF30 (q2f) g:=
 fun hw hr hx hu hn=>(q0d (q0n 1 hn (q1v q0c))
 (q0d (q0n 2 hn (q1v (q0a (q1p (q0a (q0b 0) (q0a (q1p q0c) q0c))) q0c)))
 (q0d (q4q PassesOwn.leaving (q1h (q0b 2)) (q0d (q6n (q5z PySem.F.plainAttrs_list PySem.F.slot_list_pop PySem.F.type_list_pop q6c (q0b 2)) (q6z 2 rfl (q2a (q1f (i:=3) hn) (q2a (q1f (i:=4) hn) q5t))))
 (q0d (q0w (q0l (q1n hu) (q0m hu (q0b 3) q0f) q0h (q0s _)) (q0g (q1g (q1z PySem.F.plainAttrs_list PySem.F.slot_list_append PySem.F.type_list_append q1c (q0b 2) (q0a (q1p (q0a (q0m hu (q0b 3) q0f) (q0a (q0j q0t (q0b 4) (q1p (q0a (q0r q1b Z.z4 PySem.boot_len (q0a (q0b 1) q0c)) q0c))) q0c))) q0c)))) (q0g (q0w (q0l (q1n hu) (q0m hu (q0b 3) q0f) q0h (q0s _)) (q0g (q1g (q1z PySem.F.plainAttrs_list PySem.F.slot_list_extend PySem.F.type_list_extend q7b (q0b 2) (q0a (q1v (q0a (q1p (q0a (q0m hu (q0b 3) q0f) (q0a (q0b 4) q0c))) (q0a (q1p (q0a (q0m hu (q0b 3) q0f) (q0a (q0b 4) q0c))) q0c))) q0c)))) q0q)))
 (q0g (q1g (q1z PySem.F.plainAttrs_list PySem.F.slot_list_append PySem.F.type_list_append q1c (q0b 1) (q0a (q1p (q0a (q0b 3) (q0a (q0b 4) q0c))) q0c)))))))
 (q0g (q0o (q0b 1))))))
theorem mF31:SimF P w K mg base k "size_of" nF31 sF31 (q4m t.dparts_and_fns) g:=
 fun hw hr hx hu hn=>(q0g (q0o (q0r q1b Z.z4 PySem.boot_len (q0a (q0k I.c30 hr hx (q0a (q0b 0) q0c)) q0c))))
theorem mF32:SimF P w K mg base k "depth_of" nF32 sF32 (q4d t.dparts_and_fns) g:=
 fun hw hr hx hu hn=>(q0d (q0n 1 hn (q1v q0c))
 (q0d (q5o PassesOwn.leaving rfl (y5q Z.z7 (q0k I.c30 hr hx (q0a (q0b 0) q0c))) (q6z 2 rfl (q2a (q1f (i:=2) hn) (q2a (q1f (i:=3) hn) q5t))) (q0g (q0w (q0l (q1n hu) (q0m hu (q0b 2) q0f) q0h (q0s _)) (q0g (q1g (q1z PySem.F.plainAttrs_list PySem.F.slot_list_append PySem.F.type_list_append q1c (q0b 1) (q0a (q0j q0t q0f (q0r (z0n rfl) Z.z5 L2.z3a (q0a (q5z PySem.F.plainAttrs_list PySem.F.slot_list_pop PySem.F.type_list_pop q6c (q0b 1)) (q0a (q5z PySem.F.plainAttrs_list PySem.F.slot_list_pop PySem.F.type_list_pop q6c (q0b 1)) q0c)))) q0c)))) (q0g (q0w (q0l (q1n hu) (q0m hu (q0b 2) q0f) q0h (q0s _)) (q0g (q1g (q1z PySem.F.plainAttrs_list PySem.F.slot_list_append PySem.F.type_list_append q1c (q0b 1) (q0a (q0j q0t q0f (q5z PySem.F.plainAttrs_list PySem.F.slot_list_pop PySem.F.type_list_pop q6c (q0b 1))) q0c)))) (q0g (q1g (q1z PySem.F.plainAttrs_list PySem.F.slot_list_append PySem.F.type_list_append q1c (q0b 1) (q0a q0f q0c)))))))))
 (q0g (q0o (q0m hu (q0b 1) q0f)))))
theorem mF33:SimF P w K mg base k "owner_of" nF33 sF33 (q4c) g:=
 fun hw hr hx hu hn=>(q0d (q0w (q0l x6c (q0b 1) (q0r q1b Z.z4 PySem.boot_len (q0a (q0b 0) q0c)) (q0s _)) (q0g (q0o q6m)) q0q)
 (q0g (q0o (q0m hu (q0b 0) (q0j q4l (q0j q4l (q0r q1b Z.z4 PySem.boot_len (q0a (q0b 0) q0c)) q0f) (q0b 1))))))
theorem mF34:SimF P w K mg base k "owners_in" nF34 sF34 (q3x t.downer_of t.dparts_and_fns) g:=
 fun hw hr hx hu hn=>(q0g (q0o (q8a ["part", "fns"] [none,none] rfl (q8u rfl (by decide +kernel) (by decide +kernel) rfl trivial) (q4y (q0k I.c30 hr hx (q0a (q0b 0) q0c))) (fun _ _ _ _ _=>(q6z 2 rfl (q2a (q1f (i:=0) (show(["part", "fns"]:List Str).Nodup by decide +kernel)) (q2a (q1f (i:=1) (show(["part", "fns"]:List Str).Nodup by decide +kernel)) q5t)))) (fun _ _ _ _ _=>(q0l (q1n hu) (q0m hu (q0b 0) q0f) q0h (q0s _))) (fun _ _ _ _ _=>(q0k I.c33 hr z7o (q0a (q0b 1) (q0a (q0m hu (q0b 0) q0f) q0c)))))))
theorem mF35:SimF P w K mg base k "is_closed" nF35 sF35 (q3y t.downers_in) g:=
 fun hw hr hx hu hn=>(q0g (q0o (q8b (z3r hu) q6m (q0k I.c34 hr hx (q0a (q0b 0) q0c)) (by with_unfolding_all rfl))))
theorem mF36:SimF P w K mg base k "read_term" nF36 sF36 (q3u t.dtokens_of t.dterm_of_tokens t.dsize_of t.ddepth_of t.dis_closed) g:=
 fun hw hr hx hu hn=>(q0d (q0w (q4g (q1h (q0r q1u Z.z3 L2.q1m (q0a (q0b 0) (q0a (q4v Z.z8 L2.q2k) q0c))))) (q0g (q1s Z.h1 hx rfl (q0a q0h q0c))) q0q)
 (q0d (q0n 1 hn (q0k I.c25 hr hx (q0a (q0b 0) q0c)))
 (q0d (q0w (q0l q4s (q0r q1b Z.z4 PySem.boot_len (q0a (q8a ["token"] [none] rfl (q8u rfl (by decide +kernel) (by decide +kernel) rfl trivial) (q4y (q0b 1)) (fun _ _ _ _ _=>(q1f (i:=0) (show (["token"]:List Str).Nodup by decide +kernel))) (fun _ _ _ _ _=>(q0l (z3r hu) (q0b 0) (q2i Z.g0) (by with_unfolding_all rfl))) (fun _ _ _ _ _=>(q0b 0))) q0c)) (q2i Z.g5) (q0s _)) (q0g (q1s Z.h1 hx rfl (q0a q0h q0c))) q0q)
 (q0d (q0n 2 hn (q0k I.c29 hr hx (q0a (q0b 1) q0c)))
 (q0d (q0w (SimW.t (q2y (q0l q4s (q0k I.c31 hr hx (q0a (q0b 2) q0c)) (q2i Z.g5) (q0s _)) (q3b (q0l q4s (q0k I.c32 hr hx (q0a (q0b 2) q0c)) (q2i Z.g4) (q0s _))))) (q0g (q1s Z.h1 hx rfl (q0a q0h q0c))) q0q)
 (q0d (q0w (q4g (q1h (q0k I.c35 hr hx (q0a (q0b 2) q0c)))) (q0g (q1s Z.h1 hx rfl (q0a q0h q0c))) q0q)
 (q0g (q0o (q0b 2)))))))))
theorem mF37:SimF P w K mg base k "show_kind" nF37 sF37 (q3t) g:=
 fun hw hr hx hu hn=>(q0d (q0n 1 hn (q1v (q0a (q0b 0) q0c)))
 (q0d (q0n 2 hn (q1v q0c))
 (q0d (q4q PassesOwn.leaving (q1h (q0b 1)) (q0d (q0n 3 hn (q5z PySem.F.plainAttrs_list PySem.F.slot_list_pop PySem.F.type_list_pop q6c (q0b 1)))
 (q0g (q0w (q1h (q0r q1u Z.z3 L2.q1m (q0a (q0b 3) (q0a (q4v Z.z8 L2.q2k) q0c)))) (q0g (q1g (q1z PySem.F.plainAttrs_list PySem.F.slot_list_append PySem.F.type_list_append q1c (q0b 2) (q0a (q0b 3) q0c)))) (q0g (q1g (q1z PySem.F.plainAttrs_list PySem.F.slot_list_extend PySem.F.type_list_extend q7b (q0b 1) (q0a (q1v (q0a q0h (q0a (q0m hu (q0b 3) q0f) (q0a q0h (q0a (q0m hu (q0b 3) q0f) (q0a q0h q0c)))))) q0c))))))))
 (q0g (q0o (q1z PySem.F.plainAttrs_str PySem.F.slot_str_join PySem.F.type_str_join z7t q0h (q0a (q0b 2) q0c)))))))
theorem mF38:SimF P w K mg base k "show_term" nF38 sF38 (q3s t.dshow_kind) g:=
 fun hw hr hx hu hn=>(q0d (q0n 1 hn (q1v (q0a (q0b 0) q0c)))
 (q0d (q0n 2 hn (q1v q0c))
 (q0d (q4q PassesOwn.leaving (q1h (q0b 1)) (q0d (q0n 3 hn (q5z PySem.F.plainAttrs_list PySem.F.slot_list_pop PySem.F.type_list_pop q6c (q0b 1)))
 (q0g (q0w (q1h (q0r q1u Z.z3 L2.q1m (q0a (q0b 3) (q0a (q4v Z.z8 L2.q2k) q0c)))) (q0g (q1g (q1z PySem.F.plainAttrs_list PySem.F.slot_list_append PySem.F.type_list_append q1c (q0b 2) (q0a (q0b 3) q0c)))) (q0g (q0w (q0l (q1n hu) (q0m hu (q0b 3) q0f) q0h (q0s _)) (q0g (q1g (q1z PySem.F.plainAttrs_list PySem.F.slot_list_append PySem.F.type_list_append q1c (q0b 2) (q0a (q0m hu (q0b 3) q0f) q0c)))) (q0g (q0w (q0l (q1n hu) (q0m hu (q0b 3) q0f) q0h (q0s _)) (q0g (q1g (q1z PySem.F.plainAttrs_list PySem.F.slot_list_append PySem.F.type_list_append q1c (q0b 2) (q0a (q0j q0t q0h (q5a q6t Z.z8 L2.q2k (q0a (q0m hu (q0b 3) q0f) q0c))) q0c)))) (q0g (q0w (q0l (q1n hu) (q0m hu (q0b 3) q0f) q0h (q0s _)) (q0d (q1g (q1z PySem.F.plainAttrs_list PySem.F.slot_list_append PySem.F.type_list_append q1c (q0b 2) (q0a (q0j q0t (q0j q0t q0h (q0k I.c37 hr hx (q0a (q0m hu (q0b 3) q0f) q0c))) q0h) q0c)))
 (q0g (q1g (q1z PySem.F.plainAttrs_list PySem.F.slot_list_append PySem.F.type_list_append q1c (q0b 1) (q0a (q0m hu (q0b 3) q0f) q0c))))) (q0g (q0w (q0l (q1n hu) (q0m hu (q0m hu (q0b 3) q0f) q0f) q0h (q0s _)) (q0g (q1g (q1z PySem.F.plainAttrs_list PySem.F.slot_list_extend PySem.F.type_list_extend q7b (q0b 1) (q0a (q1v (by (with_reducible refine q0a ?_ ?_ (hs:=?_));(focus exact q0h);rotate_left 1;(focus with_unfolding_all rfl);(with_reducible refine q0a ?_ ?_ (hs:=?_));(focus exact (q0m hu (q0b 3) q0f));rotate_left 1;(focus with_unfolding_all rfl);(with_reducible refine q0a ?_ ?_ (hs:=?_));(focus exact q0h);rotate_left 1;(focus with_unfolding_all rfl);(with_reducible refine q0a ?_ ?_ (hs:=?_));(focus exact q0h);rotate_left 1;(focus with_unfolding_all rfl);(with_reducible refine q0a ?_ ?_ (hs:=?_));(focus exact (q0m hu (q0b 3) q0f));rotate_left 1;(focus with_unfolding_all rfl);(with_reducible refine q0a ?_ ?_ (hs:=?_));(focus exact q0h);rotate_left 1;(focus with_unfolding_all rfl);exact q0c)) q0c)))) (q0g (q1g (q1z PySem.F.plainAttrs_list PySem.F.slot_list_extend PySem.F.type_list_extend q7b (q0b 1) (q0a (q1v (q0a q0h (q0a (q0m hu (q0b 3) q0f) (q0a q0h (q0a (q0m hu (q0b 3) q0f) q0c))))) q0c))))))))))))))))
 (q0g (q0o (q1z PySem.F.plainAttrs_str PySem.F.slot_str_join PySem.F.type_str_join z7t q0h (q0a (q0b 2) q0c)))))))
theorem mF39:SimF P w K mg base k "_law_refused" nF39 sF39 (q4e t.dread_term) g:=
 fun hw hr hx hu hn=>(q0d (q0n 1 hn q7r)
 (q0d (x0p 2 Z.h3 (z7i (y0m (z3m I.c36 hr (q0a (q0b 0) q0c)))) hn (fun _=>(q0d (q0n 3 hn (y0q ["Misfit", "NoBasic", "NoForm", "NoKind", "NoNumber", "NoPlace"] Z.z3 (q0b 2) Z.h4 ⟨rfl,rfl,by decide,⟨rfl,rfl,by decide,⟨rfl,rfl,by decide,⟨rfl,rfl,by decide,⟨rfl,rfl,by decide,⟨rfl,rfl,by decide,trivial⟩⟩⟩⟩⟩⟩) (hs:=by kernel_rfl))
 (q0d (q0n 3 hn (x4v (q0b 3) (q9s (y0q ["NoReading", "NoRow", "NoWord", "TooMany", "Twice"] Z.z3 (q0b 2) Z.h5 ⟨rfl,rfl,by decide,⟨rfl,rfl,by decide,⟨rfl,rfl,by decide,⟨rfl,rfl,by decide,⟨rfl,rfl,by decide,trivial⟩⟩⟩⟩⟩))))
 (q0g (q0n 1 hn (q8c (y0r Z.z3 (q0b 2) Z.h6) (q8c (y0r Z.z3 (q0b 2) Z.h7) (q9s (y0o (q0b 3)))))))))))
 (q0g (q0o (q0b 1)))))
theorem mF40:SimF P w K mg base k "_law_far_bound" nF40 sF40 (q3h t.dLsame t.dread_term t.dshow_term t.dLrefused) g:=
 fun hw hr hx hu hn=>(q0d (q5o PassesOwn.leaving rfl (q4k Z.z6 (q0a q0f q0c)) (q1f (i:=1) hn) (q0d (q0n 2 hn (q1p (q0a q0h (q0a (q0b 0) (q0a (q1p (q0a q0h (q0a (q0b 1) q0c))) q0c)))))
 (q0d (q5o PassesOwn.leaving rfl (q4k Z.z6 (q0a (q0b 1) q0c)) (q1f (i:=3) hn) (q0g (q0n 2 hn (q1p (q0a q0h (q0a (q0b 0) (q0a (q0b 2) q0c)))))))
 (q0d (q0n 4 hn (q0j y6m (q0j q0t (q0j q0t q0h (q0b 0)) q0h) (q0j q0t (q0b 1) q0f)) (hs:=by kernel_rfl))
 (q0d (q0w (SimW.t (q2y (q4g (q1h (q0k I.c14 hr hx (q0a (q0b 2) (q0a (q0k I.c36 hr hx (q0a (q0j q0t (q0j q0t (q0b 4) q0h) (q5a q6t Z.z8 L2.q2k (q0a (q0b 1) q0c))) q0c)) q0c))))) (q3b (q0l (q5u hu) (q0k I.c38 hr hx (q0a (q0b 2) q0c)) (q0j q0t (q0j q0t (q0b 4) q0h) (q5a q6t Z.z8 L2.q2k (q0a (q0b 1) q0c))) (q0s _))))) (q0g (q0o q7r)) q0q)
 (q0g (q0w (q4g (q1h (q0k I.c39 hr hx (q0a (q0j q0t (q0j q0t (q0b 4) q0h) (q5a q6t Z.z8 L2.q2k (q0a (q0j q0t (q0b 1) q0f) q0c))) q0c)))) (q0g (q0o q7r)) q0q)))))))
 (q0g (q0o q7r)))
theorem mF41:SimF P w K mg base k "_law_kind_text" nF41 sF41 (q2m t.dLkind_text) g:=
 fun hw hr hx hu hn=>(q0d (q0w (q1h (q0r q1u Z.z3 L2.q1m (q0a (q0b 0) (q0a (q4v Z.z8 L2.q2k) q0c)))) (q0g (q0o (q0b 0))) q0q)
 (q0g (q0o (q0j q0t (q0j q0t (q0j q0t (q0j q0t q0h (q0k I.c41 hr hx (q0a (q0m hu (q0b 0) q0f) q0c))) q0h) (q0k I.c41 hr hx (q0a (q0m hu (q0b 0) q0f) q0c))) q0h))))
theorem mF42:SimF P w K mg base k "_law_text" nF42 sF42 (q3d t.dLkind_text t.dLtext) g:=
 fun hw hr hx hu hn=>(q0d (q0w (q0l (q1n hu) (q0m hu (q0b 0) q0f) q0h (q0s _)) (q0g (q0o (q0m hu (q0b 0) q0f))) q0q)
 (q0d (q0w (q0l (q1n hu) (q0m hu (q0b 0) q0f) q0h (q0s _)) (q0g (q0o (q0j q0t q0h (q5a q6t Z.z8 L2.q2k (q0a (q0m hu (q0b 0) q0f) q0c))))) q0q)
 (q0d (q0w (q0l (q1n hu) (q0m hu (q0b 0) q0f) q0h (q0s _)) (q0g (q0o (q0j q0t (q0j q0t (q0j q0t q0h (q0k I.c41 hr hx (q0a (q0m hu (q0b 0) q0f) q0c))) q0h) (q0k I.c42 hr hx (q0a (q0m hu (q0b 0) q0f) q0c))))) q0q)
 (q0d (q0n 1 hn (q0k I.c42 hr hx (q0a (q0m hu (q0b 0) q0f) q0c)))
 (q0d (q0w (q0l (q1n hu) (q0m hu (q0m hu (q0b 0) q0f) q0f) q0h (q0s _)) (q0g (q0n 1 hn (q0j q0t (q0j q0t q0h (q0b 1)) q0h))) q0q)
 (q0g (q0o (q0j q0t (q0j q0t (q0j q0t (q0b 1) q0h) (q0k I.c42 hr hx (q0a (q0m hu (q0b 0) q0f) q0c))) q0h))))))))
theorem mF43:SimF P w K mg base k "_law_size" nF43 sF43 (q2p t.dLsize) g:=
 fun hw hr hx hu hn=>(q0d (q0w (q0l (q1n hu) (q0m hu (q0b 0) q0f) q0h (q0s _)) (q0g (q0o (q0j q0t q0f (q0k I.c43 hr hx (q0a (q0m hu (q0b 0) q0f) q0c))))) q0q)
 (q0d (q0w (q0l (q1n hu) (q0m hu (q0b 0) q0f) q0h (q0s _)) (q0g (q0o (q0j q0t (q0j q0t q0f (q0k I.c43 hr hx (q0a (q0m hu (q0b 0) q0f) q0c))) (q0k I.c43 hr hx (q0a (q0m hu (q0b 0) q0f) q0c))))) q0q)
 (q0g (q0o q0f))))
theorem mF44:SimF P w K mg base k "_law_depth" nF44 sF44 (q2r t.dLdepth) g:=
 fun hw hr hx hu hn=>(q0d (q0w (q0l (q1n hu) (q0m hu (q0b 0) q0f) q0h (q0s _)) (q0g (q0o (q0j q0t q0f (q0k I.c44 hr hx (q0a (q0m hu (q0b 0) q0f) q0c))))) q0q)
 (q0d (q0w (q0l (q1n hu) (q0m hu (q0b 0) q0f) q0h (q0s _)) (q0g (q0o (q0j q0t q0f (q0r (z0n rfl) Z.z5 L2.z3a (q0a (q0k I.c44 hr hx (q0a (q0m hu (q0b 0) q0f) q0c)) (q0a (q0k I.c44 hr hx (q0a (q0m hu (q0b 0) q0f) q0c)) q0c)))))) q0q)
 (q0g (q0o q0f))))
theorem mF45:SimF P w K mg base k "law" nF45 sF45 (q6w t.dLdeck t.dLworld t.dLnext t.dLkind t.dLterm t.dLgrown_kind t.dLfar_bound t.dLtext t.dshow_term t.dLsize t.dLdepth t.dLrefused t.dread_term t.dLsame) g:=
 fun hw hr hx hu hn=>(q0d (q0n 1 hn (q0k I.c0 hr hx (q0a (q0b 0) q0c)))
 (q0d (q0n 2 hn (q0k I.c5 hr hx (q0a (q0b 1) (q0a (q0j q0t q0f (q0j q8f (q0j q1q (q0k I.c1 hr hx (q0a (q0b 1) q0c)) q0f) q0f)) (q0a q7r q0c)))))
 (q0d (q0n 3 hn (q0k I.c6 hr hx (q0a (q0b 1) (q0a (q0m hu (q0b 2) q0h) (q0a q0f q0c)))))
 (q0d (q0n 4 hn (q0k I.c12 hr hx (q0a (q0b 1) (q0a (q0b 2) (q0a (q0b 3) (q0a (q1v q0c) (q0a (q0j q0t q0f (q0j q1q (q0k I.c1 hr hx (q0a (q0b 1) q0c)) q0f)) q0c)))))))
 (q0d (q5o PassesOwn.leaving rfl (q4k Z.z6 (q0a (q0r (z0n rfl) Z.z5 L2.z3a (q0a q0f (q0a (q0j q4l (q0j q1q (q0k I.c1 hr hx (q0a (q0b 1) q0c)) q0f) q0f) q0c))) q0c)) (q1f (i:=5) hn) (q0d (q0n 3 hn (q0k I.c6 hr hx (q0a (q0b 1) (q0a (q0m hu (q0b 2) q0h) (q0a q0f q0c)))))
 (q0d (q0w (q0l q9y (q0b 5) q0f (q0s _)) (q0g (q0n 3 hn (q0k I.c13 hr hx (q0a (q0b 1) (q0a (q0j q0t q0f (q0j q1q (q0k I.c1 hr hx (q0a (q0b 1) q0c)) q0f)) q0c))))) q0q)
 (q0g (q0n 4 hn (q1p (q0a q0h (q0a (q0b 3) (q0a (q0b 4) q0c)))))))))
 (q0d (q0w (q4g (q1h (q0k I.c40 hr hx (q0a (q0m hu (q0m hu (q0b 2) q0h) q0f) q0c)))) (q0g (q0o q7r)) q0q)
 (q0d (q0n 6 hn (q0k I.c42 hr hx (q0a (q0b 4) q0c)))
 (q0d (q0n 7 hn (q0k I.c38 hr hx (q0a (q0b 4) q0c)))
 (q0d (q0w (SimW.t (q2y (q4g (q1h (q0r q1u Z.z3 L2.q1m (q0a (q0b 7) (q0a (q4v Z.z8 L2.q2k) q0c))))) (q3b (q0l (q5u hu) (q0b 7) (q0b 6) (q0s _))))) (q0g (q0o q7r)) q0q)
 (q0d (q0w (SimW.t (q2y (q0l q4s (q0k I.c43 hr hx (q0a (q0b 4) q0c)) q0f (q0s _)) (q3b (q0l q4s (q0k I.c44 hr hx (q0a (q0b 4) q0c)) q0f (q0s _))))) (q0g (q0o (q0k I.c39 hr hx (q0a (q0b 6) q0c)))) q0q)
 (q0d (q0n 8 hn (q0k I.c36 hr hx (q0a (q0b 6) q0c)))
 (q0g (q0o (q8c (q0k I.c14 hr hx (q0a (q0b 4) (q0a (q0b 8) q0c))) (q9s (q8b (q1n hu) (q0k I.c38 hr hx (q0a (q0b 8) q0c)) (q0b 6) (q0s _)))))))))))))))))
end
theorem good{P:Program}{w:World}{K:Frag}{mg:Str->Option Value}{base:Heap}{f:Nat->Addr}{fd:Nat->FuncData}(Z:Sta K mg)(l:Locs K mg f fd):∀k,Fns P w K mg base k (tab k) f fd
 |0=>⟨l.l0.cal q1y,l.l1.cal q1y,l.l2.cal q1y,l.l3.cal q1y,l.l4.cal q1y,l.l5.cal q1y,l.l6.cal q1y,l.l7.cal q1y,l.l8.cal q1y,l.l9.cal q1y,l.l10.cal q1y,l.l11.cal q1y,l.l12.cal q1y,l.l13.cal q1y,l.l14.cal q1y,l.l15.cal q1y,l.l16.cal q1y,l.l17.cal q1y,l.l18.cal q1y,l.l19.cal q1y,l.l20.cal q1y,l.l21.cal q1y,l.l22.cal q1y,l.l23.cal q1y,l.l24.cal q1y,l.l25.cal q1y,l.l26.cal q1y,l.l27.cal q1y,l.l28.cal q1y,l.l29.cal q1y,l.l30.cal q1y,l.l31.cal q1y,l.l32.cal q1y,l.l33.cal q1y,l.l34.cal q1y,l.l35.cal q1y,l.l36.cal q1y,l.l37.cal q1y,l.l38.cal q1y,l.l39.cal q1y,l.l40.cal q1y,l.l41.cal q1y,l.l42.cal q1y,l.l43.cal q1y,l.l44.cal q1y,l.l45.cal q1y⟩
 |k+1=>by
  have I:=good (P:=P) (w:=w) (base:=base) Z l k
  exact⟨l.l0.sim (mF0 Z I),l.l1.sim (mF1 Z I),l.l2.sim (mF2 Z I),l.l3.sim (mF3 Z I),l.l4.sim (mF4 Z I),l.l5.sim (mF5 Z I),l.l6.sim (mF6 Z I),l.l7.sim (mF7 Z I),l.l8.sim (mF8 Z I),l.l9.sim (mF9 Z I),l.l10.sim (mF10 Z I),l.l11.sim (mF11 Z I),l.l12.sim (mF12 Z I),l.l13.sim (mF13 Z I),l.l14.sim (mF14 Z I),l.l15.sim (mF15 Z I),l.l16.sim (mF16 Z I),l.l17.sim (mF17 Z I),l.l18.sim (mF18 Z I),l.l19.sim (mF19 Z I),l.l20.sim (mF20 Z I),l.l21.sim (mF21 Z I),l.l22.sim (mF22 Z I),l.l23.sim (mF23 Z I),l.l24.sim (mF24 Z I),l.l25.sim (mF25 Z I),l.l26.sim (mF26 Z I),l.l27.sim (mF27 Z I),l.l28.sim (mF28 Z I),l.l29.sim (mF29 Z I),l.l30.sim (mF30 Z I),l.l31.sim (mF31 Z I),l.l32.sim (mF32 Z I),l.l33.sim (mF33 Z I),l.l34.sim (mF34 Z I),l.l35.sim (mF35 Z I),l.l36.sim (mF36 Z I),l.l37.sim (mF37 Z I),l.l38.sim (mF38 Z I),l.l39.sim (mF39 Z I),l.l40.sim (mF40 Z I),l.l41.sim (mF41 Z I),l.l42.sim (mF42 Z I),l.l43.sim (mF43 Z I),l.l44.sim (mF44 Z I),l.l45.sim (mF45 Z I)⟩
theorem q4i{P:List Value->Prop}{ps:List Str}(hp:ps.length=1)(h:∀a0,P [a0])(us:List Value)(hl:us.length=ps.length):P us:=by
 rw[hp]at hl
 cases us with|nil=>exact absurd hl (by simp)|cons a r=>cases r with|nil=>exact h _|cons b r=>exact absurd hl (by simp)
theorem z0v{P:List Value->Prop}{ps:List Str}(hp:ps.length=2)(h:∀a0 a1,P [a0,a1])(us:List Value)(hl:us.length=ps.length):P us:=by
 rw[hp]at hl
 cases us with|nil=>exact absurd hl (by simp)|cons a r=>cases r with|nil=>exact absurd hl (by simp)|cons b r=>cases r with|nil=>exact h _ _|cons b r=>exact absurd hl (by simp)
theorem y7b{P:List Value->Prop}{ps:List Str}(hp:ps.length=3)(h:∀a0 a1 a2,P [a0,a1,a2])(us:List Value)(hl:us.length=ps.length):P us:=by
 rw[hp]at hl
 cases us with|nil=>exact absurd hl (by simp)|cons a r=>cases r with|nil=>exact absurd hl (by simp)|cons b r=>cases r with|nil=>exact absurd hl (by simp)|cons b r=>cases r with|nil=>exact h _ _ _|cons b r=>exact absurd hl (by simp)
theorem x2d{P:List Value->Prop}{ps:List Str}(hp:ps.length=5)(h:∀a0 a1 a2 a3 a4,P [a0,a1,a2,a3,a4])(us:List Value)(hl:us.length=ps.length):P us:=by
 rw[hp]at hl
 cases us with|nil=>exact absurd hl (by simp)|cons a r=>cases r with|nil=>exact absurd hl (by simp)|cons b r=>cases r with|nil=>exact absurd hl (by simp)|cons b r=>cases r with|nil=>exact absurd hl (by simp)|cons b r=>cases r with|nil=>exact absurd hl (by simp)|cons b r=>cases r with|nil=>exact h _ _ _ _ _|cons b r=>exact absurd hl (by simp)
theorem all_mk{l:PySem.W.OpenLaw}{w:World}{K:Frag}{h:Heap}{mg:Str->Option Value}{fa f0 f1 f2 f3 f4 f5 f6 f7 f8 f9 f10 f11 f12 f13 f14 f15 f16 f17 f18 f19 f20 f21 f22 f23 f24 f25 f26 f27 f28 f29 f30 f31 f32 f33 f34 f35 f36 f37 f38 f39 f40 f41 f42 f43 f44 f45:Addr}(X:K.In h)(G:h.Ns mainGlobals mg)(hfa:mg "law" = some (.ref fa))
    (h0:FnIn K "_law_deck" sF0 f0)
    (h1:FnIn K "_law_next" sF1 f1)
    (h2:FnIn K "_law_spelled" sF2 f2)
    (h3:FnIn K "_law_word" sF3 f3)
    (h4:FnIn K "_law_words" sF4 f4)
    (h5:FnIn K "_law_world" sF5 f5)
    (h6:FnIn K "_law_kind" sF6 f6)
    (h7:FnIn K "_law_fn" sF7 f7)
    (h8:FnIn K "_law_of" sF8 f8)
    (h9:FnIn K "_law_width" sF9 f9)
    (h10:FnIn K "_law_form" sF10 f10)
    (h11:FnIn K "_law_lone" sF11 f11)
    (h12:FnIn K "_law_term" sF12 f12)
    (h13:FnIn K "_law_grown_kind" sF13 f13)
    (h14:FnIn K "_law_same" sF14 f14)
    (h15:FnIn K "run_end" sF15 f15)
    (h16:FnIn K "token_end" sF16 f16)
    (h17:FnIn K "is_name" sF17 f17)
    (h18:FnIn K "read_number" sF18 f18)
    (h19:FnIn K "pieces_of" sF19 f19)
    (h20:FnIn K "many_names" sF20 f20)
    (h21:FnIn K "close_pair" sF21 f21)
    (h22:FnIn K "read_kind" sF22 f22)
    (h23:FnIn K "read_fn_kind" sF23 f23)
    (h24:FnIn K "token_of" sF24 f24)
    (h25:FnIn K "tokens_of" sF25 f25)
    (h26:FnIn K "close_bracket" sF26 f26)
    (h27:FnIn K "with_fns" sF27 f27)
    (h28:FnIn K "unwrapped" sF28 f28)
    (h29:FnIn K "term_of_tokens" sF29 f29)
    (h30:FnIn K "parts_and_fns" sF30 f30)
    (h31:FnIn K "size_of" sF31 f31)
    (h32:FnIn K "depth_of" sF32 f32)
    (h33:FnIn K "owner_of" sF33 f33)
    (h34:FnIn K "owners_in" sF34 f34)
    (h35:FnIn K "is_closed" sF35 f35)
    (h36:FnIn K "read_term" sF36 f36)
    (h37:FnIn K "show_kind" sF37 f37)
    (h38:FnIn K "show_term" sF38 f38)
    (h39:FnIn K "_law_refused" sF39 f39)
    (h40:FnIn K "_law_far_bound" sF40 f40)
    (h41:FnIn K "_law_kind_text" sF41 f41)
    (h42:FnIn K "_law_text" sF42 f42)
    (h43:FnIn K "_law_size" sF43 f43)
    (h44:FnIn K "_law_depth" sF44 f44)
    (h45:FnIn K "law" sF45 f45)
     {a_BRACKETS:Addr} {dd_BRACKETS:Option Addr} {n_BRACKETS:Nat} {sl_BRACKETS:Array (Option Value)} {t_BRACKETS_0:Tok} {t_BRACKETS_1:Tok} {t_FIGURES:Tok} {t_LETTERS:Tok} {t_LONGEST_NAME:Tok} {t_MOST_DEEP:Tok} {t_MOST_PARTS:Tok} {t_MOST_TEXTS:Tok} {a_SIGNS:Addr} {dd_SIGNS:Option Addr} {n_SIGNS:Nat} {sl_SIGNS:Array (Option Value)} {t_SIGNS_0:Tok} {t_SIGNS_1:Tok} {C_Misfit:Addr} {C_NoBasic:Addr} {C_NoForm:Addr} {C_NoKind:Addr} {C_NoNumber:Addr} {C_NoPlace:Addr} {C_NoReading:Addr} {C_NoRow:Addr} {C_NoTerm:Addr} {C_NoWord:Addr} {C_SlashError:Addr} {C_TooMany:Addr} {C_Twice:Addr}
    (gg_BRACKETS:PySem.W.nsIn K mainGlobals "BRACKETS" = some (some (.ref a_BRACKETS)))
    (gl_BRACKETS:K.lookup a_BRACKETS=some ⟨.type "tuple",dd_BRACKETS,.seq #[.str "(" t_BRACKETS_0,.str ")" t_BRACKETS_1] n_BRACKETS,sl_BRACKETS⟩)
    (gg_FIGURES:PySem.W.nsIn K mainGlobals "FIGURES" = some (some (.str "0123456789" t_FIGURES)))
    (gg_LETTERS:PySem.W.nsIn K mainGlobals "LETTERS" = some (some (.str "abcdefghijklmnopqrstuvwxyz" t_LETTERS)))
    (gg_LONGEST_NAME:PySem.W.nsIn K mainGlobals "LONGEST_NAME" = some (some (.int 8 t_LONGEST_NAME)))
    (gg_MOST_DEEP:PySem.W.nsIn K mainGlobals "MOST_DEEP" = some (some (.int 12 t_MOST_DEEP)))
    (gg_MOST_PARTS:PySem.W.nsIn K mainGlobals "MOST_PARTS" = some (some (.int 30 t_MOST_PARTS)))
    (gg_MOST_TEXTS:PySem.W.nsIn K mainGlobals "MOST_TEXTS" = some (some (.int 12 t_MOST_TEXTS)))
    (gg_SIGNS:PySem.W.nsIn K mainGlobals "SIGNS" = some (some (.ref a_SIGNS)))
    (gl_SIGNS:K.lookup a_SIGNS=some ⟨.type "tuple",dd_SIGNS,.seq #[.str "(" t_SIGNS_0,.str ">" t_SIGNS_1] n_SIGNS,sl_SIGNS⟩)
    (xa_Misfit:PySem.W.nsIn K mainGlobals "Misfit" = some (some (.ref C_Misfit)))
    (xa_NoBasic:PySem.W.nsIn K mainGlobals "NoBasic" = some (some (.ref C_NoBasic)))
    (xa_NoForm:PySem.W.nsIn K mainGlobals "NoForm" = some (some (.ref C_NoForm)))
    (xa_NoKind:PySem.W.nsIn K mainGlobals "NoKind" = some (some (.ref C_NoKind)))
    (xa_NoNumber:PySem.W.nsIn K mainGlobals "NoNumber" = some (some (.ref C_NoNumber)))
    (xa_NoPlace:PySem.W.nsIn K mainGlobals "NoPlace" = some (some (.ref C_NoPlace)))
    (xa_NoReading:PySem.W.nsIn K mainGlobals "NoReading" = some (some (.ref C_NoReading)))
    (xa_NoRow:PySem.W.nsIn K mainGlobals "NoRow" = some (some (.ref C_NoRow)))
    (xa_NoTerm:PySem.W.nsIn K mainGlobals "NoTerm" = some (some (.ref C_NoTerm)))
    (xa_NoWord:PySem.W.nsIn K mainGlobals "NoWord" = some (some (.ref C_NoWord)))
    (xa_SlashError:PySem.W.nsIn K mainGlobals "SlashError" = some (some (.ref C_SlashError)))
    (xa_TooMany:PySem.W.nsIn K mainGlobals "TooMany" = some (some (.ref C_TooMany)))
    (xa_Twice:PySem.W.nsIn K mainGlobals "Twice" = some (some (.ref C_Twice)))
    (xe_NoKind:PySem.W.excIn K C_NoKind vErr "ValueError.__new__" = true)
    (xe_NoTerm:PySem.W.excIn K C_NoTerm vErr "ValueError.__new__" = true)
    (xg:PySem.W.specialIn K (.builtin "object.__class__") "__get__" = some (some (.builtin "getset_descriptor.__get__")))
    (xt:PySem.W.takesIn K (.builtin "object.__class__")=some true)
    (x1_NoKind:PySem.W.hasDictIn K C_NoKind=true)
    (x2_NoKind:PySem.W.findIn K (.ref C_NoKind) "__getattribute__" = some (some (.builtin "BaseException.__getattribute__")))
    (x3_NoKind:PySem.W.findIn K (.ref C_NoKind) "__getattr__" = some none)
    (x4_NoKind:PySem.W.findIn K (.ref C_NoKind) "__class__" = some (some (.builtin "object.__class__")))
    (x5_NoKind:PySem.W.mroIn K C_NoKind (.type "object")=some true)
    (x6_NoKind:PySem.W.mroIn K C_NoKind (.type "BaseException")=some true)
    (x1_NoTerm:PySem.W.hasDictIn K C_NoTerm=true)
    (x2_NoTerm:PySem.W.findIn K (.ref C_NoTerm) "__getattribute__" = some (some (.builtin "BaseException.__getattribute__")))
    (x3_NoTerm:PySem.W.findIn K (.ref C_NoTerm) "__getattr__" = some none)
    (x4_NoTerm:PySem.W.findIn K (.ref C_NoTerm) "__class__" = some (some (.builtin "object.__class__")))
    (x5_NoTerm:PySem.W.mroIn K C_NoTerm (.type "object")=some true)
    (x6_NoTerm:PySem.W.mroIn K C_NoTerm (.type "BaseException")=some true)
    (xc_NoKind_NoKind:PySem.W.exmOne K (.ref C_NoKind) (.ref C_NoKind)=some true)
    (xc_SlashError_NoTerm:PySem.W.exmOne K (.ref C_NoTerm) (.ref C_SlashError)=some true)
    (xc_SlashError_NoKind:PySem.W.exmOne K (.ref C_NoKind) (.ref C_SlashError)=some true)
    (xi_Misfit_NoBasic_NoForm_NoKind_NoNumber_NoPlace_NoTerm:PySem.W.kitAny K (.ref C_NoTerm) [.ref C_Misfit,.ref C_NoBasic,.ref C_NoForm,.ref C_NoKind,.ref C_NoNumber,.ref C_NoPlace]=some false)
    (xi_Misfit_NoBasic_NoForm_NoKind_NoNumber_NoPlace_NoKind:PySem.W.kitAny K (.ref C_NoKind) [.ref C_Misfit,.ref C_NoBasic,.ref C_NoForm,.ref C_NoKind,.ref C_NoNumber,.ref C_NoPlace]=some true)
    (xi_NoReading_NoRow_NoWord_TooMany_Twice_NoTerm:PySem.W.kitAny K (.ref C_NoTerm) [.ref C_NoReading,.ref C_NoRow,.ref C_NoWord,.ref C_TooMany,.ref C_Twice]=some false)
    (xi_NoReading_NoRow_NoWord_TooMany_Twice_NoKind:PySem.W.kitAny K (.ref C_NoKind) [.ref C_NoReading,.ref C_NoRow,.ref C_NoWord,.ref C_TooMany,.ref C_Twice]=some false)
    (xi_NoTerm_NoTerm:PySem.W.kitOne K (.ref C_NoTerm) (.ref C_NoTerm)=some true)
    (xi_NoTerm_NoKind:PySem.W.kitOne K (.ref C_NoKind) (.ref C_NoTerm)=some false)
    (xi_ValueError_NoTerm:PySem.W.kitOne K (.ref C_NoTerm) (.type "ValueError")=some true)
    (xi_ValueError_NoKind:PySem.W.kitOne K (.ref C_NoKind) (.type "ValueError")=some true)
    (z_all:PySem.W.nsIn K mainGlobals "all" = some none)
    (z_bool:PySem.W.nsIn K mainGlobals "bool" = some none)
    (z_int:PySem.W.nsIn K mainGlobals "int" = some none)
    (z_isinstance:PySem.W.nsIn K mainGlobals "isinstance" = some none)
    (z_len:PySem.W.nsIn K mainGlobals "len" = some none)
    (z_max:PySem.W.nsIn K mainGlobals "max" = some none)
    (z_range:PySem.W.nsIn K mainGlobals "range" = some none)
    (z_reversed:PySem.W.nsIn K mainGlobals "reversed" = some none)
    (z_str:PySem.W.nsIn K mainGlobals "str" = some none)
    (z_sum:PySem.W.nsIn K mainGlobals "sum" = some none)
    (z_tuple:PySem.W.nsIn K mainGlobals "tuple" = some none)
    (z_zip:PySem.W.nsIn K mainGlobals "zip" = some none)
    (z_ValueError:PySem.W.nsIn K mainGlobals "ValueError" = some none)
    : ∃fd:FuncData,(∀(s:Shared)(v:Value),BindsTo s fd ⟨[v],[]⟩ [("_law_script",v)])/\∀base:Heap,K.In base->base.Ns mainGlobals mg->FnOk l.prog w K mg base (CXE l.prog w) 200 fa fd ["_law_script"] (q1a K (tab 200).dlaw):=by
  cases hfa.symm.trans (h45.gl X G)
  have g_BRACKETS:GlobV K mg "BRACKETS" (.tup [(.str "("),(.str ")")]):=⟨⟨_,.ref a_BRACKETS,PySem.W.mg_of X G gg_BRACKETS,rfl,fun H φ=>⟨a_BRACKETS,[.str "(",.str ")"],rfl,.inr ⟨_,_,_,gl_BRACKETS,rfl,rfl,by show 2<=sizeLine;decide,(.cons ⟨_,rfl⟩ (.cons ⟨_,rfl⟩ .nil))⟩,⟨_,_,rfl,rfl,⟨_,_,rfl,rfl,rfl⟩⟩⟩⟩⟩
  have g_FIGURES:GlobV K mg "FIGURES" (.str "0123456789"):=⟨⟨_,.str "0123456789",PySem.W.mg_of X G gg_FIGURES,⟨_,rfl⟩,fun _ _=>rfl⟩⟩
  have g_LETTERS:GlobV K mg "LETTERS" (.str "abcdefghijklmnopqrstuvwxyz"):=⟨⟨_,.str "abcdefghijklmnopqrstuvwxyz",PySem.W.mg_of X G gg_LETTERS,⟨_,rfl⟩,fun _ _=>rfl⟩⟩
  have g_LONGEST_NAME:GlobV K mg "LONGEST_NAME" (.int 8):=⟨⟨_,.int 8,PySem.W.mg_of X G gg_LONGEST_NAME,⟨_,rfl⟩,fun _ _=>rfl⟩⟩
  have g_MOST_DEEP:GlobV K mg "MOST_DEEP" (.int 12):=⟨⟨_,.int 12,PySem.W.mg_of X G gg_MOST_DEEP,⟨_,rfl⟩,fun _ _=>rfl⟩⟩
  have g_MOST_PARTS:GlobV K mg "MOST_PARTS" (.int 30):=⟨⟨_,.int 30,PySem.W.mg_of X G gg_MOST_PARTS,⟨_,rfl⟩,fun _ _=>rfl⟩⟩
  have g_MOST_TEXTS:GlobV K mg "MOST_TEXTS" (.int 12):=⟨⟨_,.int 12,PySem.W.mg_of X G gg_MOST_TEXTS,⟨_,rfl⟩,fun _ _=>rfl⟩⟩
  have g_SIGNS:GlobV K mg "SIGNS" (.tup [(.str "("),(.str ">")]):=⟨⟨_,.ref a_SIGNS,PySem.W.mg_of X G gg_SIGNS,rfl,fun H φ=>⟨a_SIGNS,[.str "(",.str ">"],rfl,.inr ⟨_,_,_,gl_SIGNS,rfl,rfl,by show 2<=sizeLine;decide,(.cons ⟨_,rfl⟩ (.cons ⟨_,rfl⟩ .nil))⟩,⟨_,_,rfl,rfl,⟨_,_,rfl,rfl,rfl⟩⟩⟩⟩⟩
  have x_NoKind:ExcC K mg "NoKind" :=⟨⟨C_NoKind,xa_NoKind,PySem.W.mg_of X G xa_NoKind,xe_NoKind⟩⟩
  have x_NoTerm:ExcC K mg "NoTerm" :=⟨⟨C_NoTerm,xa_NoTerm,PySem.W.mg_of X G xa_NoTerm,xe_NoTerm⟩⟩
  have k_NoKind:ExcK K C_NoKind:=⟨Ev.z4p x1_NoKind,x2_NoKind,x3_NoKind,x4_NoKind,xg,xt,x5_NoKind,x6_NoKind⟩
  have k_NoTerm:ExcK K C_NoTerm:=⟨Ev.z4p x1_NoTerm,x2_NoTerm,x3_NoTerm,x4_NoTerm,xg,xt,x5_NoTerm,x6_NoTerm⟩
  have y_NoKind:Cau K mg "NoKind" ["NoKind"]:=⟨⟨.ref C_NoKind,PySem.W.mg_of X G xa_NoKind,((.cons xa_NoKind xc_NoKind_NoKind .nil):CauL K (.ref C_NoKind) _)⟩⟩
  have y_SlashError:Cau K mg "SlashError" ["NoKind", "NoTerm"]:=⟨⟨.ref C_SlashError,PySem.W.mg_of X G xa_SlashError,((.cons xa_NoKind xc_SlashError_NoKind (.cons xa_NoTerm xc_SlashError_NoTerm .nil)):CauL K (.ref C_SlashError) _)⟩⟩
  have i_Misfit_NoBasic_NoForm_NoKind_NoNumber_NoPlace_:HIsT K mg ["Misfit", "NoBasic", "NoForm", "NoKind", "NoNumber", "NoPlace"] [("NoKind",true),("NoTerm",false)]:=⟨⟨[.ref C_Misfit,.ref C_NoBasic,.ref C_NoForm,.ref C_NoKind,.ref C_NoNumber,.ref C_NoPlace],⟨.own (PySem.W.mg_of X G xa_Misfit),⟨.own (PySem.W.mg_of X G xa_NoBasic),⟨.own (PySem.W.mg_of X G xa_NoForm),⟨.own (PySem.W.mg_of X G xa_NoKind),⟨.own (PySem.W.mg_of X G xa_NoNumber),⟨.own (PySem.W.mg_of X G xa_NoPlace),trivial⟩⟩⟩⟩⟩⟩,(.cons xa_NoKind k_NoKind xi_Misfit_NoBasic_NoForm_NoKind_NoNumber_NoPlace_NoKind (.cons xa_NoTerm k_NoTerm xi_Misfit_NoBasic_NoForm_NoKind_NoNumber_NoPlace_NoTerm .nil))⟩⟩
  have i_NoReading_NoRow_NoWord_TooMany_Twice_:HIsT K mg ["NoReading", "NoRow", "NoWord", "TooMany", "Twice"] [("NoKind",false),("NoTerm",false)]:=⟨⟨[.ref C_NoReading,.ref C_NoRow,.ref C_NoWord,.ref C_TooMany,.ref C_Twice],⟨.own (PySem.W.mg_of X G xa_NoReading),⟨.own (PySem.W.mg_of X G xa_NoRow),⟨.own (PySem.W.mg_of X G xa_NoWord),⟨.own (PySem.W.mg_of X G xa_TooMany),⟨.own (PySem.W.mg_of X G xa_Twice),trivial⟩⟩⟩⟩⟩,(.cons xa_NoKind k_NoKind xi_NoReading_NoRow_NoWord_TooMany_Twice_NoKind (.cons xa_NoTerm k_NoTerm xi_NoReading_NoRow_NoWord_TooMany_Twice_NoTerm .nil))⟩⟩
  have i_NoTerm:HIs1 K mg "NoTerm" [("NoKind",false),("NoTerm",true)]:=⟨⟨_,.own (PySem.W.mg_of X G xa_NoTerm),(.cons xa_NoKind k_NoKind xi_NoTerm_NoKind (.cons xa_NoTerm k_NoTerm xi_NoTerm_NoTerm .nil))⟩⟩
  have i_ValueError:HIs1 K mg "ValueError" [("NoKind",true),("NoTerm",true)]:=⟨⟨_,.ty (PySem.W.mg_none_of X G z_ValueError) rfl,(.cons xa_NoKind k_NoKind xi_ValueError_NoKind (.cons xa_NoTerm k_NoTerm xi_ValueError_NoTerm .nil))⟩⟩
  obtain ⟨d0,L0,b0⟩:=h0.loc (ps:=pF0) X G fun _ _ _ _ _ _=>q4i rfl fun _=>rfl
  obtain ⟨d1,L1,b1⟩:=h1.loc (ps:=pF1) X G fun _ _ _ _ _ _=>q4i rfl fun _=>rfl
  obtain ⟨d2,L2,b2⟩:=h2.loc (ps:=pF2) X G fun _ _ _ _ _ _=>z0v rfl fun _ _=>rfl
  obtain ⟨d3,L3,b3⟩:=h3.loc (ps:=pF3) X G fun _ _ _ _ _ _=>z0v rfl fun _ _=>rfl
  obtain ⟨d4,L4,b4⟩:=h4.loc (ps:=pF4) X G fun _ _ _ _ _ _=>z0v rfl fun _ _=>rfl
  obtain ⟨d5,L5,b5⟩:=h5.loc (ps:=pF5) X G fun _ _ _ _ _ _=>y7b rfl fun _ _ _=>rfl
  obtain ⟨d6,L6,b6⟩:=h6.loc (ps:=pF6) X G fun _ _ _ _ _ _=>y7b rfl fun _ _ _=>rfl
  obtain ⟨d7,L7,b7⟩:=h7.loc (ps:=pF7) X G fun _ _ _ _ _ _=>x2d rfl fun _ _ _ _ _=>rfl
  obtain ⟨d8,L8,b8⟩:=h8.loc (ps:=pF8) X G fun _ _ _ _ _ _=>x2d rfl fun _ _ _ _ _=>rfl
  obtain ⟨d9,L9,b9⟩:=h9.loc (ps:=pF9) X G fun _ _ _ _ _ _=>q4i rfl fun _=>rfl
  obtain ⟨d10,L10,b10⟩:=h10.loc (ps:=pF10) X G fun _ _ _ _ _ _=>z0v rfl fun _ _=>rfl
  obtain ⟨d11,L11,b11⟩:=h11.loc (ps:=pF11) X G fun _ _ _ _ _ _=>y7b rfl fun _ _ _=>rfl
  obtain ⟨d12,L12,b12⟩:=h12.loc (ps:=pF12) X G fun _ _ _ _ _ _=>x2d rfl fun _ _ _ _ _=>rfl
  obtain ⟨d13,L13,b13⟩:=h13.loc (ps:=pF13) X G fun _ _ _ _ _ _=>z0v rfl fun _ _=>rfl
  obtain ⟨d14,L14,b14⟩:=h14.loc (ps:=pF14) X G fun _ _ _ _ _ _=>z0v rfl fun _ _=>rfl
  obtain ⟨d15,L15,b15⟩:=h15.loc (ps:=pF15) X G fun _ _ _ _ _ _=>y7b rfl fun _ _ _=>rfl
  obtain ⟨d16,L16,b16⟩:=h16.loc (ps:=pF16) X G fun _ _ _ _ _ _=>z0v rfl fun _ _=>rfl
  obtain ⟨d17,L17,b17⟩:=h17.loc (ps:=pF17) X G fun _ _ _ _ _ _=>q4i rfl fun _=>rfl
  obtain ⟨d18,L18,b18⟩:=h18.loc (ps:=pF18) X G fun _ _ _ _ _ _=>q4i rfl fun _=>rfl
  obtain ⟨d19,L19,b19⟩:=h19.loc (ps:=pF19) X G fun _ _ _ _ _ _=>q4i rfl fun _=>rfl
  obtain ⟨d20,L20,b20⟩:=h20.loc (ps:=pF20) X G fun _ _ _ _ _ _=>q4i rfl fun _=>rfl
  obtain ⟨d21,L21,b21⟩:=h21.loc (ps:=pF21) X G fun _ _ _ _ _ _=>q4i rfl fun _=>rfl
  obtain ⟨d22,L22,b22⟩:=h22.loc (ps:=pF22) X G fun _ _ _ _ _ _=>q4i rfl fun _=>rfl
  obtain ⟨d23,L23,b23⟩:=h23.loc (ps:=pF23) X G fun _ _ _ _ _ _=>q4i rfl fun _=>rfl
  obtain ⟨d24,L24,b24⟩:=h24.loc (ps:=pF24) X G fun _ _ _ _ _ _=>q4i rfl fun _=>rfl
  obtain ⟨d25,L25,b25⟩:=h25.loc (ps:=pF25) X G fun _ _ _ _ _ _=>q4i rfl fun _=>rfl
  obtain ⟨d26,L26,b26⟩:=h26.loc (ps:=pF26) X G fun _ _ _ _ _ _=>z0v rfl fun _ _=>rfl
  obtain ⟨d27,L27,b27⟩:=h27.loc (ps:=pF27) X G fun _ _ _ _ _ _=>z0v rfl fun _ _=>rfl
  obtain ⟨d28,L28,b28⟩:=h28.loc (ps:=pF28) X G fun _ _ _ _ _ _=>q4i rfl fun _=>rfl
  obtain ⟨d29,L29,b29⟩:=h29.loc (ps:=pF29) X G fun _ _ _ _ _ _=>q4i rfl fun _=>rfl
  obtain ⟨d30,L30,b30⟩:=h30.loc (ps:=pF30) X G fun _ _ _ _ _ _=>q4i rfl fun _=>rfl
  obtain ⟨d31,L31,b31⟩:=h31.loc (ps:=pF31) X G fun _ _ _ _ _ _=>q4i rfl fun _=>rfl
  obtain ⟨d32,L32,b32⟩:=h32.loc (ps:=pF32) X G fun _ _ _ _ _ _=>q4i rfl fun _=>rfl
  obtain ⟨d33,L33,b33⟩:=h33.loc (ps:=pF33) X G fun _ _ _ _ _ _=>z0v rfl fun _ _=>rfl
  obtain ⟨d34,L34,b34⟩:=h34.loc (ps:=pF34) X G fun _ _ _ _ _ _=>q4i rfl fun _=>rfl
  obtain ⟨d35,L35,b35⟩:=h35.loc (ps:=pF35) X G fun _ _ _ _ _ _=>q4i rfl fun _=>rfl
  obtain ⟨d36,L36,b36⟩:=h36.loc (ps:=pF36) X G fun _ _ _ _ _ _=>q4i rfl fun _=>rfl
  obtain ⟨d37,L37,b37⟩:=h37.loc (ps:=pF37) X G fun _ _ _ _ _ _=>q4i rfl fun _=>rfl
  obtain ⟨d38,L38,b38⟩:=h38.loc (ps:=pF38) X G fun _ _ _ _ _ _=>q4i rfl fun _=>rfl
  obtain ⟨d39,L39,b39⟩:=h39.loc (ps:=pF39) X G fun _ _ _ _ _ _=>q4i rfl fun _=>rfl
  obtain ⟨d40,L40,b40⟩:=h40.loc (ps:=pF40) X G fun _ _ _ _ _ _=>q4i rfl fun _=>rfl
  obtain ⟨d41,L41,b41⟩:=h41.loc (ps:=pF41) X G fun _ _ _ _ _ _=>q4i rfl fun _=>rfl
  obtain ⟨d42,L42,b42⟩:=h42.loc (ps:=pF42) X G fun _ _ _ _ _ _=>q4i rfl fun _=>rfl
  obtain ⟨d43,L43,b43⟩:=h43.loc (ps:=pF43) X G fun _ _ _ _ _ _=>q4i rfl fun _=>rfl
  obtain ⟨d44,L44,b44⟩:=h44.loc (ps:=pF44) X G fun _ _ _ _ _ _=>q4i rfl fun _=>rfl
  obtain ⟨d45,L45,b45⟩:=h45.loc (ps:=pF45) X G fun _ _ _ _ _ _=>q4i rfl fun _=>rfl
  exact ⟨d45,fun s v=>.of_eq (b45 [v] rfl),fun base _ _=>(good (f:=fun i=>[f0,f1,f2,f3,f4,f5,f6,f7,f8,f9,f10,f11,f12,f13,f14,f15,f16,f17,f18,f19,f20,f21,f22,f23,f24,f25,f26,f27,f28,f29,f30,f31,f32,f33,f34,f35,f36,f37,f38,f39,f40,f41,f42,f43,f44,fa].getD i fa) (fd:=fun i=>[d0,d1,d2,d3,d4,d5,d6,d7,d8,d9,d10,d11,d12,d13,d14,d15,d16,d17,d18,d19,d20,d21,d22,d23,d24,d25,d26,d27,d28,d29,d30,d31,d32,d33,d34,d35,d36,d37,d38,d39,d40,d41,d42,d43,d44,d45].getD i d0) (⟨PySem.W.mg_none_of X G z_all,PySem.W.mg_none_of X G z_bool,PySem.W.mg_none_of X G z_int,PySem.W.mg_none_of X G z_isinstance,PySem.W.mg_none_of X G z_len,PySem.W.mg_none_of X G z_max,PySem.W.mg_none_of X G z_range,PySem.W.mg_none_of X G z_reversed,PySem.W.mg_none_of X G z_str,PySem.W.mg_none_of X G z_sum,PySem.W.mg_none_of X G z_tuple,PySem.W.mg_none_of X G z_zip,g_BRACKETS,g_FIGURES,g_LETTERS,g_LONGEST_NAME,g_MOST_DEEP,g_MOST_PARTS,g_MOST_TEXTS,g_SIGNS,x_NoKind,x_NoTerm,y_NoKind,y_SlashError,i_Misfit_NoBasic_NoForm_NoKind_NoNumber_NoPlace_,i_NoReading_NoRow_NoWord_TooMany_Twice_,i_NoTerm,i_ValueError⟩:Sta K mg) ⟨L0,L1,L2,L3,L4,L5,L6,L7,L8,L9,L10,L11,L12,L13,L14,L15,L16,L17,L18,L19,L20,L21,L22,L23,L24,L25,L26,L27,L28,L29,L30,L31,L32,L33,L34,L35,L36,L37,L38,L39,L40,L41,L42,L43,L44,L45⟩ 200).c45.G⟩
theorem walk{l:PySem.W.OpenLaw}{q:Program}{loose:List Str}{XP:(Str->Option Value)->Heap->Prop}{YP:World->Heap->Prop}{d:DefRec}{K:Params->Frag}(hlaw:LawP (tab 200).dlaw)(hn:l.most=some 63)(hdf:d.params.defaults=[])
  (hY:∀(w:World)(h:Heap),YP w h->(K w.params).In h)
  (F:∀(w:World)(mg:Str->Option Value)(fa:Addr)(h:Heap),(K w.params).In h->h.Ns mainGlobals mg->mg d.name=some (.ref fa)->
   ∃fd:FuncData,(∀(s:Shared)(u:Value),BindsTo s fd ⟨[u],[]⟩ [("_law_script",u)])/\∀base:Heap,(K w.params).In base->base.Ns mainGlobals mg->FnOk l.prog w (K w.params) mg base (CXE l.prog w) 200 fa fd ["_law_script"] (q1a (K w.params) (tab 200).dlaw)) :
  PySem.W.WalkO q loose XP YP l.row.toRowW d [] (fun f vs=>PySem.call f vs):=
 L2.z9v (n:=63) (k:=200) (x:= "_law_script") (CX:=fun w=>CXE l.prog w) (sp:=fun w=>q1a (K w.params) (tab 200).dlaw) hn (by decide) hdf ⟨rfl,by decide,by decide⟩ hY F (fun _ H a ns hl hO hS=>x6x hlaw H a ns hl hO hS) fun _ _ _ _ _ hh1=>by obtain⟨_,_,_,_,_,_,_,_,_,_,_,z⟩:=hh1;exact(z)
end
theorem z0f(n:Nat):z7a (tab (n+1)).dLnext:=x1x
theorem y2t(n:Nat):z3c (tab (n+1)).dLspelled:=z8t
theorem y9h(n:Nat):z8l (tab (n+2)).dLword:=y4s (z0f n) (y2t n)
theorem y2s(n:Nat):z8k (tab (n+3)).dLwords:=y4r (y4t (y9h n))
theorem x7h(n:Nat):x9h (tab (n+1)).dLdeck:=x3f
theorem x2i(n:Nat):x0a (tab (n+4)).dLgrown_kind:=y7n (y2s n) (z0f (n+2))
theorem x2h(n:Nat):y9y (tab (n+4)).dLworld:=z9t (y2s n)
theorem y9l(n:Nat):x9g (tab (n+4)).dLkind:=fun d c b ws S E Q h1 h2 h3 h3' h4 h5 h6=>y7e (T:=fun n=>(tab n).dLkind) (N:=fun n=>(tab n).dLnext) (fun _=>rfl) (fun n=>z0f n) 2 (n+4) (by omega) d c b ws S E Q h1 h2 h3 h3' h4 h5 h6
theorem y9k(n:Nat):x3s (tab (n+9)).dLlone:=y6z (y9h (n+6))
theorem y9i:∀(dd n:Nat),dd<=5->y4m (tab (n+10+3*dd)).dLterm dd
 |0,n,_=>z7g (z0f (n+8)) (y9k n) (fun e h=>by omega) (fun e h=>by omega) (by omega)
 |dd+1,n,h5=>by
  have ih:=fun n=>y9i dd n (by omega)
  rw[show n+10+3*(dd+1)=n+10+3*dd+2+1 by omega]
  have hf:∀j,Fn8 (tab (j+10+3*dd+1)).dLfn dd:=fun j=>x7t (ih j)
  refine z7g (z0f (n+10+3*dd+1)) (by have:=y9k (n+3+3*dd);rw[show n+3+3*dd+9=n+10+3*dd+2 by omega]at this;exact this) (fun e h=>?_) (fun e h=>?_) h5
  ·obtain rfl:e=dd:=by omega
   have:=hf (n+1)
   rw[show n+1+10+3*e+1=n+10+3*e+2 by omega]at this
   exact this
  ·obtain rfl:e=dd:=by omega
   refine x6l (by have:=y9l (n+7+3*e);rw[show n+7+3*e+4=n+10+3*e+1 by omega]at this;exact this) (z0f (n+10+3*e)) (hf n) ?_
   have:=ih (n+1)
   rw[show n+1+10+3*e=n+10+3*e+1 by omega]at this
   exact this
theorem z2p(n:Nat):z0q (tab (n+1)).dis_name:=fun _ _ _ _ h1 h2=>z6r h1 h2
theorem y7h(n:Nat):PcsK (tab (n+1)).dpieces_of:=fun z _ _ _ h1 h2=>y1i (z:=mk z) (by rw[q0y];exact h1) h2
theorem x7g(n:Nat):x9f (tab (n+2)).dmany_names:=fun _ _ _ _ _ h1 h2 h3 h4=>x2a (z2p n) h1 h2 h3 h4
theorem x2j(n:Nat):CloK (tab (n+1)).dclose_pair:=cloK
theorem x7f(n:Nat):RkD (tab (n+3)).dread_kind:=rkD (y7h (n+1)) (x7g n) (x2j (n+1)) (z2p (n+1))
theorem w0x(n:Nat):TokD (tab (n+5)).dtoken_of:=x4m (z2p (n+3)) (x6m:NumD (tab (n+4)).dread_number) (w1c (x7f n):FkD (tab (n+4)).dread_fn_kind)
theorem x7e(n:Nat):x3p (tab (n+6)).dtokens_of:=x0h (x8d (x4w:RunD (tab (n+4)).drun_end):EndD (tab (n+5)).dtoken_end) (w0x n)
theorem w0w(n:Nat):TotD (tab (n+2)).dterm_of_tokens:=x4l (w1k:CbD (tab (n+1)).dclose_bracket) (x9j:WfD (tab (n+1)).dwith_fns) (x9k:UnD (tab (n+1)).dunwrapped)
theorem k_rt(n:Nat):RtD (tab (n+7)).dread_term:=x0v (x7e n) (w0w (n+4)) (fun h1 h2=>y0l (z2g:z0p (tab (n+5)).dparts_and_fns) h1 h2) (y7v (z2g:z0p (tab (n+5)).dparts_and_fns):DepD (tab (n+6)).ddepth_of)
 (fun h1 h2=>y4c (y1q ((fun _ _ _ _ _ h=>y6l h):y9z (tab (n+4)).downer_of) (z2g:z0p (tab (n+4)).dparts_and_fns):z6z (tab (n+5)).downers_in) h1 h2)
theorem k_st(n:Nat):StD (tab (n+2)).dshow_term:=x0q fun h1 h2 h3=>z3o h1 h2 h3
theorem k_rf(n:Nat):Rf8 (tab (n+8)).dLrefused:=x4y (k_rt n)
theorem y9j(n:Nat):∀(t:T8)(m:Nat),t.ok m->t.tm.dp<=50->∀(S:q0i)(E:EK)(Q:VC),(∀S',Ex [] S S'->Q (.bl true) S')->(tab (n+80)).dLsame [t.tm.pv,t.tm.pv] S E Q:=fun t m ok hd=>z2a (T:=fun n=>(tab n).dLsame) (fun _=>rfl) t (n+80) m ok (by omega)
theorem w0y(n:Nat):FarD (tab (n+90)).dLfar_bound:=x7v (y9j (n+9)) (k_rt (n+82)) (k_st (n+87)) (k_rf (n+81))
theorem z2i:∀{t:T8}{n m:Nat},t.ok n->n<=m->t.ok m
 |.nm _,_,_,h,_=>h
 |.bd k,n,m,h,l=>by have h':k<n:=h;show k<m;omega
 |.fn q t,n,m,h,l=>⟨h.1,z2i h.2 (by omega)⟩
 |.ap f a,n,m,h,l=>⟨z2i h.1 l,z2i h.2 l⟩
theorem law_ok:LawP (tab 200).dlaw:=by
 intro ns hns
 have hdeck:=x7h 198
 have hworld:=x2h 195
 have hnext:=z0f 198
 have hkind:=y9l 195
 have hterm:∀dd,dd<=5->y4m (tab 199).dLterm dd:=fun dd h=>by
  have:=y9i dd (189-3*dd) h
  rw[show 189-3*dd+10+3*dd=199 by omega]at this
  exact this
 have hgrown:=x2i 195
 have hfar:=w0y 109
 have htext:∀(t:T8),t.ok 0->t.tm.dp<=50->t.tm.sz<=1000->∀(S:q0i)(E:EK)(Q:VC),Q (.str (mk t.tx)) S->(tab 199).dLtext [t.tm.pv] S E Q:=fun t ok hd hz=>
  y2m (T:=fun n=>(tab n).dLtext) (Y:=fun n=>(tab n).dLkind_text) (fun _=>rfl) (fun k n=>q8k (T:=fun n=>(tab n).dLkind_text) (fun _=>rfl) k n) t 199 0 ok (by omega) hz (by omega)
 have hshow:=k_st 197
 have hsize:∀(t:Tm),t.dp<=50->∀(S:q0i)(E:EK)(Q:VC),Q (.int t.sz) S->(tab 199).dLsize [t.pv] S E Q:=fun t hd=>x0o (T:=fun n=>(tab n).dLsize) (fun _=>rfl) t 199 (by omega)
 have hdepth:∀(t:T8),t.tm.dp<=50->∀(S:q0i)(E:EK)(Q:VC),Q (.int t.tm.dp) S->(tab 199).dLdepth [t.tm.pv] S E Q:=fun t hd=>z9c (T:=fun n=>(tab n).dLdepth) (fun _=>rfl) t 199 (by omega)
 have href:=k_rf 191
 have hrt:=k_rt 192
 have hsame:=y9j 119
 show fnP 1 9 (q6w (tab 199).dLdeck (tab 199).dLworld (tab 199).dLnext (tab 199).dLkind (tab 199).dLterm (tab 199).dLgrown_kind (tab 199).dLfar_bound (tab 199).dLtext (tab 199).dshow_term (tab 199).dLsize (tab 199).dLdepth (tab 199).dLrefused (tab 199).dread_term (tab 199).dLsame) _ _ _ _
 generalize (tab 199).dLdeck=s1,(tab 199).dLworld=s2,(tab 199).dLnext=s3,(tab 199).dLkind=s4,(tab 199).dLterm=s5,(tab 199).dLgrown_kind=s6,(tab 199).dLfar_bound=s7,(tab 199).dLtext=s8,(tab 199).dshow_term=s9,(tab 199).dLsize=s10,(tab 199).dLdepth=s11,(tab 199).dLrefused=s12,(tab 199).dread_term=s13,(tab 199).dLsame=s14 at *
 refine⟨rfl,?_⟩
 unfold q6w
 refine seqI fun K hK=>?_
 dsimp![true_and]
 refine hdeck ns _ _ _ hns fun d c S1 hd1 _ _ _=>hK _ _ ?_
 clear hK K
 refine seqI fun K hK=>?_
 dsimp![true_and]
 refine hnext d c _ _ _ hd1 fun n1 S2 n10 n11 hd2 _=>?_
 dsimp![true_and]
 refine⟨by decide,z8b (by decide) (by decide),?_⟩
 refine hworld d c _ _ _ _ hd2 fun w b m S3 hW3=>hK _ _ ?_
 clear hK K
 obtain⟨u,gw⟩:=hW3.wd
 obtain⟨ws,gb,hws,hwn⟩:=hW3.bs
 refine seqI fun K hK=>?_
 dsimp![gw,q6v]
 refine hkind d c b ws _ _ _ hW3.dk gb hws hwn hW3.ne.2.1.1 hW3.ne.2.1.2 fun k S4 k2 ko hd4 hx4=>hK _ _ ?_
 clear hK K
 have hW4:=hW3.nx hd4 hx4
 refine seqI fun K hK=>?_
 have hwl:w<S4.length:=by obtain⟨u,g⟩:=hW4.wd;exact q1e g
 have hbl:b<S4.length:=by obtain⟨ws,g,_⟩:=hW4.bs;exact q1e g
 have hml:m<S4.length:=by obtain⟨ws,g,_⟩:=hW4.nm;exact q1e g
 have hdl:d<S4.length:=by obtain⟨⟨_,_,_,_,_,_,g,_⟩,_⟩:=hW4.dk;exact q1e g
 have hcl:c<S4.length:=by obtain⟨⟨_,_,_,_,_,_,_,g,_⟩,_⟩:=hW4.dk;exact q1e g
 dsimp![true_and]
 refine⟨big (by decide),?_⟩
 have hW5:=hW4.ex (Ex.new [] S4 [.lst []]) (by simp) (by simp) (by simp) (by simp) (by simp)
 refine hnext d c _ _ _ hW5.dk fun n6 S6 n60 n61 hd6 hx6=>?_
 dsimp![true_and]
 have hW6:=hW5.nx hd6 hx6
 obtain⟨dd,hdd,hd1',hd4'⟩:∃dd:Nat,1+n6 % 4=(dd:Int)/\1<=dd/\dd<=4:=⟨(1+n6 % 4).toNat,by omega,by omega,by omega⟩
 refine⟨by decide,?_⟩
 rw[hdd]
 have p16:2 ^ dd<=16:=Nat.pow_le_pow_right (n:=2) (by decide) hd4'
 refine hterm dd (by omega) w b m d c 0 S4.length [] k _ _ _ hW6 ⟨hx6.get (q1t _ _) (by simp;omega),by simp,fun r hr=>by simp at hr;subst hr;exact⟨by omega,by omega,by omega,by omega,by omega⟩,by simp⟩ (by omega) (by omega) (x1u ko (by omega)) (by simp;omega) fun t0 S7 t1 t2 tg hW7 _=>hK _ _ ?_
 clear hK K
 obtain⟨t,rfl,ok⟩:=y6s tg
 have hd7:=hW7.dk
 refine seqI fun K hK=>?_
 dsimp![true_and]
 refine hnext d c _ _ _ hd7 fun n8 S8 n80 n81 hd8 hx8=>?_
 have hW8:=hW7.nx hd8 hx8
 dsimp![fMax]
 obtain⟨nn,hnn,n12⟩:∃nn:Nat,(if n8 % 17-4 > 0 then n8 % 17-4 else 0)=(nn:Int)/\nn<=12:=⟨(if n8 % 17-4 > 0 then n8 % 17-4 else 0).toNat,by split<;>omega,by split<;>omega⟩
 refine⟨by decide,?_⟩
 rw[hnn]
 refine⟨⟨by omega,by omega⟩,?_⟩
 obtain⟨u7,gw7⟩:=hW7.wd
 refine forI (fun rest σ S9=>(∀x∈rest,∃j:Nat,j<nn/\x=.int j)/\∃(t':T8)(k' v:Option PV),σ=[some (.frl (ns.map .int)),some (.ref d),some (.ref w),k',some t'.tm.pv,v,none,none,none]/\t'.ok 0/\t'.tm.dp+rest.length<=20/\t'.tm.sz+rest.length<=60/\W8 w b m d c (0+2 ^ dd) S9) ?_ ?_ _ _ _ ⟨fun x hx=>z5t hx,t,some k.pv,none,rfl,ok,by rw[q6b];omega,by rw[q6b];omega,hW8⟩
 ·rintro σ S9 ⟨-,t',k',v,rfl,ok9,dp9,sz9,hW9⟩
  simp only[List.length_nil,Nat.add_zero]at dp9 sz9
  refine⟨trivial,hK _ _ ?_⟩
  clear hK K
  obtain⟨u9,gw9⟩:=hW9.wd
  obtain⟨ws9,gb9,hws9,hwn9⟩:=hW9.bs
  obtain⟨w0,wr,rfl⟩:∃a r,ws9=a::r:=by
   cases ws9 with
   |nil=>exact absurd rfl hws9
   |cons a r=>exact⟨a,r,rfl⟩
  rw[List.map_cons]at gb9
  refine seqI fun K hK=>?_
  dsimp![gw9,q6v,gb9,q0p]
  refine hfar w0 _ _ _ (hwn9 w0 (by simp)) fun S10 x10=>?_
  dsimp![Bool.true_eq_false]
  refine hK _ _ ?_
  clear hK K
  refine seqI fun K hK=>?_
  dsimp![true_and]
  refine htext t' ok9 (by omega) (by omega) _ _ _ (hK _ _ ?_)
  clear hK K
  refine seqI fun K hK=>?_
  dsimp![true_and]
  refine hshow t' 0 _ _ _ ok9 (by omega) (by omega) fun S11 x11=>hK _ _ ?_
  clear hK K
  refine seqI fun K hK=>?_
  dsimp![Bool.true_eq_false]
  refine hK _ _ ?_
  clear hK K
  have own8:=q7t t' [] 0 ok9
  have read:z9o t'->(wSeq (wSet 8 (q0v s13 (q0e (wVar 6) wNil)))
    (wRet (z0r (q0v s14 (q0e (wVar 4) (q0e (wVar 8) wNil))) (wBin cEq (q0v s9 (q0e (wVar 8) wNil)) (wVar 6))))) {nx:=fun _ S'=>(fun (v:PV) (_:q0i)=>v=.bl true) .non S',rt:=fun (v:PV) (_:q0i)=>v=.bl true} NoX [some (.frl (ns.map .int)),some (.ref d),some (.ref w),k',some t'.tm.pv,v,some (.str (mk t'.tx)),some (.str (mk t'.tx)),none] S11:=by
   intro fit
   refine seqI fun K2 hK2=>?_
   dsimp![true_and]
   refine hrt t' 0 _ _ _ ok9 (by omega) (by omega) (fun _ S12 x12=>hK2 _ _ ?_) (fun q=>absurd fit q)
   clear hK2 K2
   dsimp![true_and]
   refine hsame t' 0 ok9 (by omega) _ _ _ fun S13 x13=>?_
   dsimp![true_and]
   refine hshow t' 0 _ _ _ ok9 (by omega) (by omega) fun S14 x14=>?_
   dsimp![true_and]
  refine seqI fun K hK=>?_
  dsimp![true_and]
  refine hsize t'.tm (by omega) _ _ _ ?_
  refine ite2 (fun z=>href t' 0 _ _ _ ok9 (by omega) (by omega) (fun q=>by have:=q.1;omega) fun S12 x12=>rfl) (fun z=>?_)
  refine hdepth t' (by omega) _ _ _ ?_
  refine ite2 (fun z2=>href t' 0 _ _ _ ok9 (by omega) (by omega) (fun q=>by have:=q.2.1;omega) fun S12 x12=>rfl) (fun z2=>hK _ _ ?_)
  exact read ⟨by omega,by omega,own8⟩
 ·rintro x rest σ S9 ⟨hx,t',k',v,rfl,ok9,dp9,sz9,hW9⟩ N hN
  obtain⟨j,hj,rfl⟩:=hx x (by simp)
  rw[List.length_cons]at dp9 sz9
  refine⟨trivial,?_⟩
  clear hK
  obtain⟨u9,gw9⟩:=hW9.wd
  obtain⟨ws9,gb9,hws9,hwn9⟩:=hW9.bs
  have fin:∀(q:Kd)(S':q0i),q.ok->q.lv<=12->W8 w b m d c (0+2 ^ dd) S'->wSet 4 (wTup (q0e (wC (.str "fn")) (q0e (wVar 3) (q0e (wVar 4) wNil)))) {nx:=N,rt:=fun v _=>v=.bl true,ct:=N,bk:=K} NoX [some (.frl (ns.map .int)),some (.ref d),some (.ref w),some q.pv,some t'.tm.pv,some (.int j),none,none,none] S':=fun q S' q1 q2 hW'=>by
   dsimp![true_and]
   exact⟨big (by decide),hN _ _ ⟨fun x z=>hx x (by simp[z]),.fn q t',_,_,rfl,⟨⟨q1,q2⟩,z2i ok9 (by omega)⟩,by simp only[T8.tm,Tm.dp];omega,by simp only[T8.tm,Tm.sz];omega,hW'⟩⟩
  dsimp![true_and]
  refine seqI fun K hK=>?_
  dsimp![gw9,q6v]
  refine hkind d c b ws9 _ _ _ hW9.dk gb9 hws9 hwn9 hW9.ne.2.1.1 hW9.ne.2.1.2 fun q S10 q2 qo hd10 hx10=>hK _ _ ?_
  clear hK K
  have hW10:=hW9.nx hd10 hx10
  have qv:q.lv<=12:=by have:=y2d q;have:=Nat.pow_le_pow_right (n:=2) (by decide) q2;omega
  refine seqI fun K hK=>?_
  dsimp![true_and]
  refine ite2 (fun z=>?_) (fun z=>hK _ _ ?_)
  ·refine hnext d c _ _ _ hd10 fun n11 S11 n110 n111 hd11 hx11=>?_
   dsimp![true_and]
   obtain⟨mm,hmm,m1,m12⟩:∃mm:Nat,1+n11 % 12=(mm:Int)/\1<=mm/\mm<=12:=⟨(1+n11 % 12).toNat,by omega,by omega,by omega⟩
   refine⟨by decide,?_⟩
   rw[hmm]
   refine hgrown d c mm _ _ _ hd11 m1 m12 fun q' S12 q1' qv' hd12 hx12=>hK _ _ ?_
   exact fin q' S12 q1' (by omega) ((hW10.nx hd11 hx11).nx hd12 hx12)
  ·exact fin q S10 qo qv hW10
end My
open PySem PySem.W PyProof.Rows
def PySem.W.Fast.tw9157911799038024685:Unit:=()
def PySem.W.Fast.tw11284712609372376535:Unit:=()
def PySem.W.Fast.tw17642803681627573583:Unit:=()
def PySem.W.Fast.tw9800341644296489959:Unit:=()
def PySem.W.Fast.tw17194012024687477477:Unit:=()
def PySem.W.Fast.tw8120775168264235215:Unit:=()
def PySem.W.Fast.tw18039092425647490361:Unit:=()
def PySem.W.Fast.tw4183413836443296470:Unit:=()
def PySem.W.Fast.tw5345855763633056430:Unit:=()
def PySem.W.Fast.tw14648261166477804724:Unit:=()
def PySem.W.Fast.tw5024464831557283341:Unit:=()
def PySem.W.Fast.tw1388941603614085479:Unit:=()
def PySem.W.Fast.tw7157001571628507540:Unit:=()
def PySem.W.Fast.tw3848439510212334883:Unit:=()
def PySem.W.Fast.tw9495589843483388438:Unit:=()
def PySem.W.Fast.tw8665899440348690245:Unit:=()
def PySem.W.Fast.tw7068440641160740552:Unit:=()
def PySem.W.Fast.tw9138540488665552571:Unit:=()
def PySem.W.Fast.tw5251566554431836682:Unit:=()
def PySem.W.Fast.tw9017283328052862751:Unit:=()
def PySem.W.Fast.tw10052286994630566611:Unit:=()
def PySem.W.Fast.tw15575559116155364537:Unit:=()
def PySem.W.Fast.tw13562760975902504127:Unit:=()
def PySem.W.Fast.tw18084621234583890587:Unit:=()
def PySem.W.Fast.tw11062624872042734638:Unit:=()
def PySem.W.Fast.tw9364296321481341720:Unit:=()
def PySem.W.Fast.tw9839215924284866885:Unit:=()
def PySem.W.Fast.tw12210519386810574342:Unit:=()
def PySem.W.Fast.tw15919362603887370773:Unit:=()
def PySem.W.Fast.tw16498017768465933972:Unit:=()
def PySem.W.Fast.tw3148282324009054430:Unit:=()
def PySem.W.Fast.tw2476888785415458306:Unit:=()
def PySem.W.Fast.tw9584621103617597579:Unit:=()
def PySem.W.Fast.tw17290604763820663538:Unit:=()
def PySem.W.Fast.tw8150042274549584602:Unit:=()
def PySem.W.Fast.tw9943590359873517336:Unit:=()
def PySem.W.Fast.tw5134882242907216747:Unit:=()
def PySem.W.Fast.tw18317941821452804835:Unit:=()
def PySem.W.Fast.tw4988236003536294079:Unit:=()
def PySem.W.Fast.tw7820372529634690261:Unit:=()
def PySem.W.Fast.tw16246999417646313019:Unit:=()
def PySem.W.Fast.tw16321297172424216251:Unit:=()
def PySem.W.Fast.tw617770846278177820:Unit:=()
def PySem.W.Fast.tw10780275432125999018:Unit:=()
def PySem.W.Fast.tw10351699202391152045:Unit:=()
def PySem.W.Fast.tw1889281144644213141:Unit:=()
def PySem.W.Fast.tw86652116270950997:Unit:=()
def PySem.W.Fast.tw8204270535781431423:Unit:=()
def PySem.W.Fast.tw5779079857024981775:Unit:=()
def PySem.W.Fast.tw3321924874734363822:Unit:=()
def PySem.W.Fast.tw11803325693782810052:Unit:=()
def PySem.W.Fast.tw2106961469446327139:Unit:=()
def PySem.W.Fast.tw12017871783443941007:Unit:=()
def PySem.W.Fast.tw12493530831656891050:Unit:=()
def PySem.W.Fast.tw16192535088911464145:Unit:=()
def PySem.W.Fast.tw5476394017116107296:Unit:=()
def PySem.W.Fast.tw18246175883374612344:Unit:=()
def PySem.W.Fast.tw8511360512288179432:Unit:=()
def PySem.W.Fast.tw10928896995878496560:Unit:=()
def PySem.W.Fast.tw4176600192542111438:Unit:=()
def PySem.W.Fast.tw16818994472838252858:Unit:=()
def PySem.W.Fast.tw12873673395240456375:Unit:=()
def PySem.W.Fast.tw12151002148174779664:Unit:=()
def PySem.W.Fast.tw13553694983749889257:Unit:=()
def PySem.W.Fast.tw6455510174349853875:Unit:=()
def PySem.W.Fast.tw6093812253610947415:Unit:=()
def PySem.W.Fast.tw5756533125902192482:Unit:=()
def PySem.W.Fast.tw7040088722832282143:Unit:=()
def PySem.W.Fast.tw6579731993264720855:Unit:=()
def PySem.W.Fast.tw11253567342638543607:Unit:=()
def PySem.W.Fast.tw3325772608477789585:Unit:=()
def PySem.W.Fast.tw16645040790524027627:Unit:=()
def PySem.W.Fast.tw16197051946467318810:Unit:=()
def PySem.W.Fast.tw368425332979599574:Unit:=()
def PySem.W.Fast.tw13716559121161874473:Unit:=()
def PySem.W.Fast.tw1425314920211010701:Unit:=()
def PySem.W.Fast.tw2826794794153546026:Unit:=()
def PySem.W.Fast.tw4138301023996820230:Unit:=()
def PySem.W.Fast.tw7431005767371614700:Unit:=()
def PySem.W.Fast.tw13460452548654561671:Unit:=()
def PySem.W.Fast.tw7404536494048978851:Unit:=()
def PySem.W.Fast.tw12010821815333657641:Unit:=()
def PySem.W.Fast.tw15067790448819533810:Unit:=()
def PySem.W.Fast.tw2597368619931068983:Unit:=()
def PySem.W.Fast.tw2871153610773329056:Unit:=()
def PySem.W.Fast.tw2091859473072784250:Unit:=()
def PySem.W.Fast.tw7061402872484237297:Unit:=()
def PySem.W.Fast.tw2792201818172990650:Unit:=()
def PySem.W.Fast.tw7883481692854554278:Unit:=()
def PySem.W.Fast.tw1710584907182133740:Unit:=()
def PySem.W.Fast.tw14189715730572499962:Unit:=()
def PySem.W.Fast.tw4583502419711996883:Unit:=()
def PySem.W.Fast.tw1462533152855241622:Unit:=()
def PySem.W.Fast.tw14937532478389721966:Unit:=()
def PySem.W.Fast.tw10772321262564868172:Unit:=()
def PySem.W.Fast.tw10950771780798135278:Unit:=()
def PySem.W.Fast.tw14101562530609769446:Unit:=()
def PySem.W.Fast.tw15471229235523249234:Unit:=()
def PySem.W.Fast.tw5521614873334452082:Unit:=()
def PySem.W.Fast.tw4377065401391163022:Unit:=()
def PySem.W.Fast.tw10361644721823506723:Unit:=()
def PySem.W.Fast.tw9329682750075420349:Unit:=()
def PySem.W.Fast.tw11992154848882256955:Unit:=()
def PySem.W.Fast.tw16923547978959593536:Unit:=()
def PySem.W.Fast.tw12555045278580078109:Unit:=()
def PySem.W.Fast.tw185999680173522613:Unit:=()
def PySem.W.Fast.tw7428872493287117334:Unit:=()
def PySem.W.Fast.tw9749090873389712142:Unit:=()
def PySem.W.Fast.tw12502460879120520460:Unit:=()
def PySem.W.Fast.tw7896114710467727438:Unit:=()
def PySem.W.Fast.tw2858432454086388879:Unit:=()
def PySem.W.Fast.tw16164503274808207766:Unit:=()
def PySem.W.Fast.tw9137501639595403755:Unit:=()
def PySem.W.Fast.tw16766800150477724758:Unit:=()
def PySem.W.Fast.tw3514242833332398940:Unit:=()
def PySem.W.Fast.tw179167863479756640:Unit:=()
def PySem.W.Fast.tw16925233003320445841:Unit:=()
def PySem.W.Fast.tw2036451569853291700:Unit:=()
def PySem.W.Fast.tw476349587492642266:Unit:=()
def PySem.W.Fast.tw4616991150796284435:Unit:=()
def PySem.W.Fast.tw11843221980153150334:Unit:=()
def PySem.W.Fast.tw8427598485096892818:Unit:=()
def PySem.W.Fast.tw4647010238807502040:Unit:=()
def PySem.W.Fast.tw16273013635513530959:Unit:=()
set_option maxRecDepth 100000 in
set_option maxHeartbeats 0 in
theorem PySem.Challenge.cw_slashwise_k18_terms_written_holds : PySem.Challenge.rw_slashwise_k18_terms_written.Holds := by
 w_on; o_law; k_head; (case hw => w_witness2)
 k_fill
 refine My.walk (l := PySem.Challenge.rw_slashwise_k18_terms_written) My.law_ok rfl rfl (fun w h Y => PySem.W.kIn_of Y) ?F
 case F =>
  intro w mg fa h KX G hmg
  refine' My.all_mk KX G hmg (.mk ?a0 ?l0 ?c0 ?k0) (.mk ?a1 ?l1 ?c1 ?k1) (.mk ?a2 ?l2 ?c2 ?k2) (.mk ?a3 ?l3 ?c3 ?k3) (.mk ?a4 ?l4 ?c4 ?k4) (.mk ?a5 ?l5 ?c5 ?k5) (.mk ?a6 ?l6 ?c6 ?k6) (.mk ?a7 ?l7 ?c7 ?k7) (.mk ?a8 ?l8 ?c8 ?k8) (.mk ?a9 ?l9 ?c9 ?k9) (.mk ?a10 ?l10 ?c10 ?k10) (.mk ?a11 ?l11 ?c11 ?k11) (.mk ?a12 ?l12 ?c12 ?k12) (.mk ?a13 ?l13 ?c13 ?k13) (.mk ?a14 ?l14 ?c14 ?k14) (.mk ?a15 ?l15 ?c15 ?k15) (.mk ?a16 ?l16 ?c16 ?k16) (.mk ?a17 ?l17 ?c17 ?k17) (.mk ?a18 ?l18 ?c18 ?k18) (.mk ?a19 ?l19 ?c19 ?k19) (.mk ?a20 ?l20 ?c20 ?k20) (.mk ?a21 ?l21 ?c21 ?k21) (.mk ?a22 ?l22 ?c22 ?k22) (.mk ?a23 ?l23 ?c23 ?k23) (.mk ?a24 ?l24 ?c24 ?k24) (.mk ?a25 ?l25 ?c25 ?k25) (.mk ?a26 ?l26 ?c26 ?k26) (.mk ?a27 ?l27 ?c27 ?k27) (.mk ?a28 ?l28 ?c28 ?k28) (.mk ?a29 ?l29 ?c29 ?k29) (.mk ?a30 ?l30 ?c30 ?k30) (.mk ?a31 ?l31 ?c31 ?k31) (.mk ?a32 ?l32 ?c32 ?k32) (.mk ?a33 ?l33 ?c33 ?k33) (.mk ?a34 ?l34 ?c34 ?k34) (.mk ?a35 ?l35 ?c35 ?k35) (.mk ?a36 ?l36 ?c36 ?k36) (.mk ?a37 ?l37 ?c37 ?k37) (.mk ?a38 ?l38 ?c38 ?k38) (.mk ?a39 ?l39 ?c39 ?k39) (.mk ?a40 ?l40 ?c40 ?k40) (.mk ?a41 ?l41 ?c41 ?k41) (.mk ?a42 ?l42 ?c42 ?k42) (.mk ?a43 ?l43 ?c43 ?k43) (.mk ?a44 ?l44 ?c44 ?k44) (.mk ?a45 ?l45 ?c45 ?k45) ?gg_BRACKETS ?gl_BRACKETS ?gg_FIGURES ?gg_LETTERS ?gg_LONGEST_NAME ?gg_MOST_DEEP ?gg_MOST_PARTS ?gg_MOST_TEXTS ?gg_SIGNS ?gl_SIGNS ?xa_Misfit ?xa_NoBasic ?xa_NoForm ?xa_NoKind ?xa_NoNumber ?xa_NoPlace ?xa_NoReading ?xa_NoRow ?xa_NoTerm ?xa_NoWord ?xa_SlashError ?xa_TooMany ?xa_Twice ?xe_NoKind ?xe_NoTerm ?xg ?xt ?x1_NoKind ?x2_NoKind ?x3_NoKind ?x4_NoKind ?x5_NoKind ?x6_NoKind ?x1_NoTerm ?x2_NoTerm ?x3_NoTerm ?x4_NoTerm ?x5_NoTerm ?x6_NoTerm ?xc_NoKind_NoKind ?xc_SlashError_NoTerm ?xc_SlashError_NoKind ?xi_Misfit_NoBasic_NoForm_NoKind_NoNumber_NoPlace_NoTerm ?xi_Misfit_NoBasic_NoForm_NoKind_NoNumber_NoPlace_NoKind ?xi_NoReading_NoRow_NoWord_TooMany_Twice_NoTerm ?xi_NoReading_NoRow_NoWord_TooMany_Twice_NoKind ?xi_NoTerm_NoTerm ?xi_NoTerm_NoKind ?xi_ValueError_NoTerm ?xi_ValueError_NoKind ?z_all ?z_bool ?z_int ?z_isinstance ?z_len ?z_max ?z_range ?z_reversed ?z_str ?z_sum ?z_tuple ?z_zip ?z_ValueError
  (case a0 | l0 | c0 | k0 | a1 | l1 | c1 | k1 | a2 | l2 | c2 | k2 | a3 | l3 | c3 | k3 | a4 | l4 | c4 | k4 | a5 | l5 | c5 | k5 | a6 | l6 | c6 | k6 | a7 | l7 | c7 | k7 | a8 | l8 | c8 | k8 | a9 | l9 | c9 | k9 | a10 | l10 | c10 | k10 | a11 | l11 | c11 | k11 | a12 | l12 | c12 | k12 | a13 | l13 | c13 | k13 | a14 | l14 | c14 | k14 | a15 | l15 | c15 | k15 | a16 | l16 | c16 | k16 | a17 | l17 | c17 | k17 | a18 | l18 | c18 | k18 | a19 | l19 | c19 | k19 | a20 | l20 | c20 | k20 | a21 | l21 | c21 | k21 | a22 | l22 | c22 | k22 | a23 | l23 | c23 | k23 | a24 | l24 | c24 | k24 | a25 | l25 | c25 | k25 | a26 | l26 | c26 | k26 | a27 | l27 | c27 | k27 | a28 | l28 | c28 | k28 | a29 | l29 | c29 | k29 | a30 | l30 | c30 | k30 | a31 | l31 | c31 | k31 | a32 | l32 | c32 | k32 | a33 | l33 | c33 | k33 | a34 | l34 | c34 | k34 | a35 | l35 | c35 | k35 | a36 | l36 | c36 | k36 | a37 | l37 | c37 | k37 | a38 | l38 | c38 | k38 | a39 | l39 | c39 | k39 | a40 | l40 | c40 | k40 | a41 | l41 | c41 | k41 | a42 | l42 | c42 | k42 | a43 | l43 | c43 | k43 | a44 | l44 | c44 | k44 | a45 | l45 | c45 | k45 | gg_BRACKETS | gl_BRACKETS | gg_FIGURES | gg_LETTERS | gg_LONGEST_NAME | gg_MOST_DEEP | gg_MOST_PARTS | gg_MOST_TEXTS | gg_SIGNS | gl_SIGNS | xa_Misfit | xa_NoBasic | xa_NoForm | xa_NoKind | xa_NoNumber | xa_NoPlace | xa_NoReading | xa_NoRow | xa_NoTerm | xa_NoWord | xa_SlashError | xa_TooMany | xa_Twice => k_is)
  (case xe_NoKind | xe_NoTerm => k_exc)
  (case xg | xt | x1_NoKind | x2_NoKind | x3_NoKind | x4_NoKind | x5_NoKind | x6_NoKind | x1_NoTerm | x2_NoTerm | x3_NoTerm | x4_NoTerm | x5_NoTerm | x6_NoTerm => k_is)
  (case xc_NoKind_NoKind | xc_SlashError_NoTerm | xc_SlashError_NoKind => kts_exm)
  (case xi_Misfit_NoBasic_NoForm_NoKind_NoNumber_NoPlace_NoTerm | xi_Misfit_NoBasic_NoForm_NoKind_NoNumber_NoPlace_NoKind | xi_NoReading_NoRow_NoWord_TooMany_Twice_NoTerm | xi_NoReading_NoRow_NoWord_TooMany_Twice_NoKind | xi_NoTerm_NoTerm | xi_NoTerm_NoKind | xi_ValueError_NoTerm | xi_ValueError_NoKind => kit_is)
  (case z_all | z_bool | z_int | z_isinstance | z_len | z_max | z_range | z_reversed | z_str | z_sum | z_tuple | z_zip | z_ValueError => k_is)
#print axioms PySem.Challenge.cw_slashwise_k18_terms_written_holds
