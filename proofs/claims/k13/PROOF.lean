import PyProof.Rows.All
import PyProof.DictRoadsH
import Wide.All
import OpenK.AllK
import Wide.FinOn
import Lean
import PyProof.EqAt
import PyProof.EqKinds
import PyProof.TupleCall
import KE.KTryMore
import PyProof.StationsW
import PyProof.ExcBaseAll.ValueError
import PyProof.Rows.CatchOwn
import PyProof.ZipIter
import PyProof.Rows.TupAdd
import PyProof.NeKinds
import KE.KUnpack
import KE.KRevSl
import PyProof.FitsBits
import PyProof.RulesAs
import PyProof.NsDelKeeps
import PyProof.ExcArgsOwn
import OpenK.KDescr
import KE.KIsNot
import PyProof.ExcAttrAll.ValueError
import PyProof.StrOps2
import PyProof.EnumFor
import PyProof.EnumMake
import PyProof.DictCompW
import PyProof.ListRange
import PySem.Challenge.RW_slashwise_k13_kinds_of_terms
set_option Elab.async false
set_option linter.all false
set_option maxRecDepth 100000
set_option maxHeartbeats 4000000
noncomputable section
namespace L2
open PySem PySem.Spec PyProof.Rows
abbrev Key:=Sum Int Str
def keyIs:Key→Value→Bool
 | .inl k,v=>Value.isInt k v
 | .inr x,v=>Value.isStrOf x v
def keyH (w:World):Key→Int
 | .inl k=>hashInt k
 | .inr x=>hashStr w x
theorem q2p:∀{k:Key} {v:Value},keyIs k v=true→(∃i t,k=Sum.inl i∧v=Value.int i t)∨(∃x t,k=Sum.inr x∧v=Value.str x t)
 | .inl i,v,h=>by
  obtain ⟨t,e⟩:=Value.isInt_shape (k:=i) (v:=v) h
  exact .inl ⟨i,t,rfl,e⟩
 | .inr x,v,h=>by
  obtain ⟨t,e⟩:=Value.isStrOf_shape (x:=x) (v:=v) h
  exact .inr ⟨x,t,rfl,e⟩
theorem keyIs_int (i:Int) (t:Tok):keyIs (.inl i) (.int i t)=true:=by simp [keyIs,Value.isInt]
theorem keyIs_str (x:Str) (t:Tok):keyIs (.inr x) (.str x t)=true:=by simp [keyIs,Value.isStrOf]
theorem key_ll (a b:Int):decide ((Sum.inl a:Key)=Sum.inl b)=(a == b):=by
 by_cases e:a=b
 ·subst e; simp
 ·have h:¬(Sum.inl a:Key)=Sum.inl b:=fun q=>e (Sum.inl.inj q)
  rw [decide_eq_false h]
  exact (beq_eq_false_iff_ne.mpr e).symm
theorem key_rr (a b:Str):decide ((Sum.inr a:Key)=Sum.inr b)=decide (a=b):=by
 by_cases e:a=b
 ·subst e; simp
 ·have h:¬(Sum.inr a:Key)=Sum.inr b:=fun q=>e (Sum.inr.inj q)
  rw [decide_eq_false h,decide_eq_false e]
theorem key_lr (a:Int) (b:Str):decide ((Sum.inl a:Key)=Sum.inr b)=false:=decide_eq_false (fun q=>nomatch q)
theorem key_rl (a:Str) (b:Int):decide ((Sum.inr a:Key)=Sum.inl b)=false:=decide_eq_false (fun q=>nomatch q)
def q1n (prog:Program) (w:World):PySem.KeyKind prog w Key where
 is:=keyIs
 hash:=keyH w
 inj:=fun v a b ha hb=>by
  rcases q2p ha with ⟨i,t,rfl,rfl⟩ | ⟨x,t,rfl,rfl⟩
  ·rcases q2p hb with ⟨j,u,rfl,e⟩ | ⟨y,u,rfl,e⟩
   ·injection e with e1 _; rw [e1]
   ·exact nomatch e
  ·rcases q2p hb with ⟨j,u,rfl,e⟩ | ⟨y,u,rfl,e⟩
   ·exact nomatch e
   ·injection e with e1 _; rw [e1]
 byValue:=fun k v h=>by
  rcases q2p h with ⟨i,t,rfl,rfl⟩ | ⟨x,t,rfl,rfl⟩<;>rfl
 pyHash:=fun hv h=>by
  rcases q2p hv with ⟨i,t,rfl,rfl⟩ | ⟨x,t,rfl,rfl⟩
  ·exact wpAny_pyHash_int h
  ·exact wpAny_pyHash_str h
 eqBool:=fun hu hv h=>by
  rcases q2p hu with ⟨i,t,rfl,rfl⟩ | ⟨x,t,rfl,rfl⟩
  ·rcases q2p hv with ⟨j,u,rfl,rfl⟩ | ⟨y,u,rfl,rfl⟩
   ·rw [key_ll] at h; exact wpAny_eqBool_int h
   ·rw [key_lr] at h; exact SeqAt.EqAt.int_str i t y u _ _ _ _ h
  ·rcases q2p hv with ⟨j,u,rfl,rfl⟩ | ⟨y,u,rfl,rfl⟩
   ·rw [key_rl] at h; exact SeqAt.EqAt.str_int x t j u _ _ _ _ h
   ·rw [key_rr] at h; exact wpAny_eqBool_str h
 «strs»:=fun k x t v h=>by
  rcases q2p h with ⟨i,u,rfl,e⟩ | ⟨y,u,rfl,e⟩
  ·exact nomatch e
  ·injection e with e1 _
   subst e1
   cases v<;>rfl
theorem q9d (prog:Program) (w:World) (i:Int) (t:Tok):(q1n prog w).is (.inl i) (.int i t)=true:=keyIs_int i t
theorem q9c (prog:Program) (w:World) (x:Str) (t:Tok):(q1n prog w).is (.inr x) (.str x t)=true:=keyIs_str x t
end L2
namespace L2
open PySem PySem.Spec PyProof.Rows
inductive V where
 | non | bl (b:Bool) | int (i:Int) | str (x:Str) | byt (b:Array UInt8) | flt (b:UInt64) | ref (a:Addr) | ty (n:String)
 deriving DecidableEq
def RelV:V→Value→Prop
 | .non,u=>u=Value.none
 | .bl b,u=>u=Value.bool b
 | .int i,u=>∃t,u=Value.int i t
 | .str x,u=>∃t,u=Value.str x t
 | .byt b,u=>∃t,u=Value.bytes b t
 | .flt b,u=>∃t,u=Value.float b t
 | .ref a,u=>u=Value.ref a
 | .ty n,u=>u=Value.type n
abbrev Vals:List V→List Value→Prop:=Paired RelV
theorem Vals.length {xs:List V} {us:List Value} (r:Vals xs us):xs.length=us.length:=Paired.length r
theorem Vals.get:∀{xs:List V} {us:List Value} {i:Nat} {x:V},Vals xs us→xs[i]?=some x→∃u,us[i]?=some u∧RelV x u
 | _,_,_,_,.nil,e=>by simp at e
 | _,_,0,_,.cons r _,e=>by simp at e; subst e; exact ⟨_,rfl,r⟩
 | _,_,i+1,x,.cons _ t,e=>by
  obtain ⟨u,h1,h2⟩:=Vals.get (i:=i) (x:=x) t (by simpa using e)
  exact ⟨u,by simpa using h1,h2⟩
theorem Vals.set {x:V} {u:Value} (r:RelV x u):∀{xs:List V} {us:List Value} (i:Nat),Vals xs us→Vals (xs.set i x) (us.set i u)
 | _,_,_,.nil=>.nil
 | _,_,0,.cons _ t=>.cons r t
 | _,_,i+1,.cons q t=>.cons q (Vals.set r i t)
theorem Vals.append:∀{xs ys:List V} {us ws:List Value},Vals xs us→Vals ys ws→Vals (xs++ys) (us++ws)
 | _,_,_,_,.nil,s=>s
 | _,_,_,_,.cons r t,s=>.cons r (Vals.append t s)
theorem Vals.take:∀{xs:List V} {us:List Value} (n:Nat),Vals xs us→Vals (xs.take n) (us.take n)
 | _,_,0,_=>.nil
 | _,_,_+1,.nil=>.nil
 | _,_,n+1,.cons r t=>.cons r (Vals.take n t)
theorem Vals.drop:∀{xs:List V} {us:List Value} (n:Nat),Vals xs us→Vals (xs.drop n) (us.drop n)
 | _,_,0,r=>r
 | _,_,_+1,.nil=>.nil
 | _,_,n+1,.cons _ t=>Vals.drop n t
def RelO:Option V→Option Value→Prop
 | some v,some u=>RelV v u
 | none,none=>True
 | _,_=>False
def KV {κ:Type}:List (κ×V)→List (κ×Value)→Prop:=Paired fun (p:κ×V) (q:κ×Value)=>p.1=q.1∧RelV p.2 q.2
def kV:Key→V
 | .inl i=>.int i
 | .inr x=>.str x
inductive KTr where
 | int (i:Int) | str (x:Str) | tup (xs:List KTr)
instance ktDec:DecidableEq KTr:=fun _ _=>Classical.propDecidable _
mutual
def kdep:KTr→Nat
 | .tup xs=>1+kdeps xs
 | _=>0
def kdeps:List KTr→Nat
 | []=>0
 | x::xs=>max (kdep x) (kdeps xs)
end
theorem q7g:∀{xs:List KTr} {j:Nat} {x:KTr},xs[j]?=some x→kdep x≤kdeps xs
 | [],_,_,e=>by simp at e
 | x::xs,0,y,e=>by simp at e; subst e; simp only [kdeps]; omega
 | x::xs,j+1,y,e=>by simp at e; have:=q7g e; simp only [kdeps]; omega
theorem kin1_units (A:Around):A.in1.units=A.units+1:=rfl
theorem kgetD_some {xs:List KTr} {j:Nat} {x:KTr} (e:xs[j]?=some x):xs.getD j (.int 0)=x:=by rw [List.getD_eq_getElem?_getD,e]; rfl
mutual
def TrA (h:Heap):KTr→Value→Prop
 | .int i,v=>∃t,v=.int i t
 | .str x,v=>∃t,v=.str x t
 | .tup xs,v=>∃(a:Addr) (its:List Value),v=.ref a∧IsTup h a its.toArray∧TrAs h xs its
def TrAs (h:Heap):List KTr→List Value→Prop
 | [],vs=>vs=[]
 | x::xs,vs=>∃y ys,vs=y::ys∧TrA h x y∧TrAs h xs ys
end
theorem IsTup.same {h:Heap} {a:Addr} {xs ys:List Value} (p:IsTup h a xs.toArray) (q:IsTup h a ys.toArray):xs=ys:=by
 obtain ⟨o,e,_,n,d⟩:=p
 obtain ⟨o',e',_,n',d'⟩:=q
 obtain rfl:o=o':=Option.some.inj (e.symm.trans e')
 rw [d] at d'
 injection d' with h1 _
 simpa using h1
mutual
theorem TrA.inj {h:Heap}:∀{x y:KTr} {v:Value},TrA h x v→TrA h y v→x=y
 | .int i,y,v,⟨t,e⟩,q=>by
  subst e
  cases y with
  | int j=>obtain ⟨t',e⟩:=q; cases e; rfl
  | str z=>obtain ⟨t',e⟩:=q; cases e
  | tup ys=>obtain ⟨a,its,e,_⟩:=q; cases e
 | .str x,y,v,⟨t,e⟩,q=>by
  subst e
  cases y with
  | int j=>obtain ⟨t',e⟩:=q; cases e
  | str z=>obtain ⟨t',e⟩:=q; cases e; rfl
  | tup ys=>obtain ⟨a,its,e,_⟩:=q; cases e
 | .tup xs,y,v,⟨a,its,e,p,r⟩,q=>by
  subst e
  cases y with
  | int j=>obtain ⟨t',e⟩:=q; cases e
  | str z=>obtain ⟨t',e⟩:=q; cases e
  | tup ys=>
   obtain ⟨b,its2,e,p2,r2⟩:=q
   cases e
   have:=IsTup.same p p2
   subst this
   rw [TrAs.inj r r2]
theorem TrAs.inj {h:Heap}:∀{xs ys:List KTr} {vs:List Value},TrAs h xs vs→TrAs h ys vs→xs=ys
 | [],[],_,_,_=>rfl
 | [],_::_,_,h,⟨_,_,e,_⟩=>by rw [show _=[] from h] at e; cases e
 | _::_,[],_,⟨_,_,e,_⟩,h=>by rw [show _=[] from h] at e; cases e
 | x::xs,y::ys,_,⟨a,b,e,r,t⟩,⟨a',b',e',r',t'⟩=>by
  subst e
  cases e'
  rw [TrA.inj r r',TrAs.inj t t']
end
mutual
theorem TrA.at {h h':Heap} (k:∀a its,IsTup h a its→IsTup h' a its):∀{x:KTr} {v:Value},TrA h x v→TrA h' x v
 | .int i,_,h=>h
 | .str x,_,h=>h
 | .tup xs,_,⟨a,its,e,p,r⟩=>⟨a,its,e,k _ _ p,TrAs.at k r⟩
theorem TrAs.at {h h':Heap} (k:∀a its,IsTup h a its→IsTup h' a its):∀{xs:List KTr} {vs:List Value},TrAs h xs vs→TrAs h' xs vs
 | [],_,h=>h
 | x::xs,_,⟨y,ys,e,r,t⟩=>⟨y,ys,e,TrA.at k r,TrAs.at k t⟩
end
theorem TrAs.length {h:Heap}:∀{xs:List KTr} {vs:List Value},TrAs h xs vs→xs.length=vs.length
 | [],_,h=>by rw [show _=[] from h]; rfl
 | _::xs,_,⟨y,ys,e,_,t⟩=>by rw [e,List.length_cons,List.length_cons,TrAs.length t]
theorem TrAs.get {h:Heap}:∀{xs:List KTr} {vs:List Value} {i:Nat} {x:KTr},TrAs h xs vs→xs[i]?=some x→∃y,vs[i]?=some y∧TrA h x y
 | [],_,_,_,_,e=>by simp at e
 | x::xs,_,0,x',⟨y,ys,e,r,t⟩,q=>by
  simp at q; subst q; subst e
  exact ⟨y,by simp,r⟩
 | x::xs,_,i+1,x',⟨y,ys,e,r,t⟩,q=>by
  subst e
  obtain ⟨z,h1,h2⟩:=TrAs.get (i:=i) t (by simpa using q)
  exact ⟨z,by simpa using h1,h2⟩
theorem all_dec (xs ys:List KTr):((List.range (min xs.length ys.length)).all (fun j=>decide (xs.getD j (.int 0)=ys.getD j (.int 0))) && xs.length == ys.length)=decide (KTr.tup xs=KTr.tup ys):=by
 rw [Bool.eq_iff_iff]
 simp only [Bool.and_eq_true,List.all_eq_true,List.mem_range,decide_eq_true_eq,beq_iff_eq,KTr.tup.injEq]
 constructor
 ·rintro ⟨h,hl⟩
  apply List.ext_getElem hl
  intro n h1 h2
  have:=h n (by omega)
  rw [List.getD_eq_getElem?_getD,List.getD_eq_getElem?_getD,List.getElem?_eq_getElem h1,List.getElem?_eq_getElem h2] at this
  exact this
 ·rintro rfl
  exact ⟨fun _ _=>rfl,rfl⟩
theorem tr_eq {s:Shared}:∀(d:Nat) (A:Around) (x y:KTr) (v u:Value),kdep x≤d→A.units+d<cLine→TrA s.heap x v→TrA s.heap y u→SeqAt.EqAt A s v u (decide (x=y)):=by
 intro d
 induction d with
 | zero=>
  intro A x y v u hd hu rx ry
  cases x with
  | tup xs=>simp [kdep] at hd
  | int a=>
   obtain ⟨t,rfl⟩:=rx
   cases y with
   | int b=>obtain ⟨t',rfl⟩:=ry; rw [show decide (KTr.int a=KTr.int b)=(a == b) by rw [Bool.eq_iff_iff]; simp]; exact .int_int a t b t'
   | str b=>obtain ⟨t',rfl⟩:=ry; simpa using SeqAt.EqAt.int_str (A:=A) (s:=s) a t b t'
   | tup ys=>obtain ⟨b,its,rfl,p,_⟩:=ry; simpa using SeqAt.EqAt.int_tuple (A:=A) (s:=s) a t p (by omega)
  | str a=>
   obtain ⟨t,rfl⟩:=rx
   cases y with
   | int b=>obtain ⟨t',rfl⟩:=ry; simpa using SeqAt.EqAt.str_int (A:=A) (s:=s) a t b t'
   | str b=>obtain ⟨t',rfl⟩:=ry; rw [show decide (KTr.str a=KTr.str b)=(a == b) by rw [Bool.eq_iff_iff]; simp]; exact .str_str a t b t'
   | tup ys=>obtain ⟨b,its,rfl,p,_⟩:=ry; simpa using SeqAt.EqAt.str_tuple (A:=A) (s:=s) a t p (by omega)
 | succ d ih=>
  intro A x y v u hd hu rx ry
  cases x with
  | tup xs=>
   obtain ⟨a,its,rfl,p1,r1⟩:=id rx
   cases y with
   | int b=>obtain ⟨t',rfl⟩:=ry; simpa using SeqAt.EqAt.tuple_int (A:=A) (s:=s) b t' p1 (by omega)
   | str b=>obtain ⟨t',rfl⟩:=ry; simpa using SeqAt.EqAt.tuple_str (A:=A) (s:=s) b t' p1 (by omega)
   | tup ys=>
    obtain ⟨b,its2,rfl,p2,r2⟩:=id ry
    by_cases hab:a=b
    ·subst hab
     rw [decide_eq_true (TrA.inj rx ry)]
     exact .same _
    ·refine .of_refs hab ?_
     have e:decide (KTr.tup xs=KTr.tup ys)=((List.range (min its.toArray.size its2.toArray.size)).all (fun j=>decide (xs.getD j (.int 0)=ys.getD j (.int 0))) && its.toArray.size == its2.toArray.size):=by
      rw [List.size_toArray,List.size_toArray,←r1.length,←r2.length,all_dec]
     rw [e]
     refine .tuples p1 p2 (by omega) fun j h1 h2=>?_
     have hj1:j<xs.length:=by rw [r1.length]; simpa using h1
     have hj2:j<ys.length:=by rw [r2.length]; simpa using h2
     have e1:xs[j]?=some xs[j]:=List.getElem?_eq_getElem hj1
     have e2:ys[j]?=some ys[j]:=List.getElem?_eq_getElem hj2
     obtain ⟨v1,g1,q1⟩:=r1.get e1
     obtain ⟨v2,g2,q2⟩:=r2.get e2
     have l1:j<its.length:=by simpa using h1
     have l2:j<its2.length:=by simpa using h2
     rw [kgetD_some e1,kgetD_some e2]
     rw [List.getElem?_eq_getElem l1] at g1
     rw [List.getElem?_eq_getElem l2] at g2
     cases g1
     cases g2
     have hdd:=q7g e1
     simp only [kdep] at hd
     exact ih A.in1 _ _ _ _ (by omega) (by rw [kin1_units]; omega) (by simpa using q1) (by simpa using q2)
  | int a=>exact ih A _ _ v u (Nat.zero_le _) (by omega) rx ry
  | str a=>exact ih A _ _ v u (Nat.zero_le _) (by omega) rx ry
mutual
def trH (P:Program) (w:World):KTr→Int
 | .int i=>(q1n P w).hash (.inl i)
 | .str x=>(q1n P w).hash (.inr x)
 | .tup xs=>reduceHash (Builtin.Tuple.tupleHashOf (trHs P w xs))
def trHs (P:Program) (w:World):List KTr→List Int
 | []=>[]
 | x::xs=>trH P w x::trHs P w xs
end
mutual
def trD:KTr→Nat
 | .tup xs=>trDs xs+1
 | _=>1
def trDs:List KTr→Nat
 | []=>0
 | x::xs=>trD x+trDs xs
end
def HsAt (P:Program) (w:World) (A:Around) (h:Heap) (v:Value) (x:Int) (d:Nat):Prop:=∀(E:Value→Shared→Prop) (s:Shared) (Q:Int→Shared→Prop),s.heap=h→Q x { s with toks:=s.toks+d }→wpAny (model P w) A (pyHash v) Q E s
theorem hs_tup {P:Program} {w:World} {A:Around} {h:Heap} {a:Addr} {its:List Value} {xs:List KTr} (hu:A.units<cLine) (p:IsTup h a its.toArray) (hl:xs.length=its.length) (hi:∀(j:Nat) (x:KTr) (v:Value),xs[j]?=some x→its[j]?=some v→HsAt P w A.in1 h v (trH P w x) (trD x)) :
  HsAt P w A h (.ref a) (trH P w (.tup xs)) (trD (.tup xs)):=by
 intro E s Q eh hQ
 subst eh
 obtain ⟨o,ho,hc,n,hd⟩:=p
 have hT:s.TypeIs (.ref a) "tuple" :=⟨o,ho,hc⟩
 unfold pyHash
 first | unfold pyHashByItsType | skip
 first | refine wpAny_bind (wpAny_cRoomFor_or (.inr hu) ?_) | skip
 refine wpAny_bind (wpAny_specialOf hT F.slot_tuple_hash.lookup ?_)
 show wpAny _ _ (if (some (Value.builtin "tuple.__hash__") == some Value.none)=true then _ else _) Q E s
 rw [if_neg (by rw [beq_builtin_none]; exact Bool.false_ne_true)]
 refine wpAny_bind (wpAny_specialOf hT F.slot_tuple_hash.lookup ?_)
 show wpAny _ _ (callSpecialIfBoundUnlessNone? (.ref a) "__hash__" _ >>= _) Q E s
 refine wpAny_bind (wpAny_callSpecialIfBoundUnlessNone?_slot hT F.slot_tuple_hash (wpAny_call_entry F.slot_tuple_hash hT F.entry_tuple_hash ?_ (F.args_tuple_hash_1 _)))
 show wpAny _ _ (Builtin.Tuple.tupleItemsOf (.ref a) >>= _) _ _ s
 refine wpAny_bind (wpAny_tupleItemsOf ho hd ?_)
 refine wpAny_bind ?_
 rw [←Array.forIn_toList]
 refine wpAny_forIn_list _
  (fun rest (b:Array Int) s'=>∃(done left:List KTr),xs=done++left∧its.drop done.length=rest∧b.toList=trHs P w done∧s'={ s with toks:=s.toks+trDs done })
  _ ?_ ?_ _ _ ⟨[],xs,rfl,rfl,rfl,rfl⟩
 ·rintro v rest b s' ⟨done,left,e1,e2,hb,rfl⟩
  have hlt:done.length<its.length:=by
   rcases Nat.lt_or_ge done.length its.length with z | z
   ·exact z
   ·rw [List.drop_eq_nil_of_le z] at e2; cases e2
  rw [List.drop_eq_getElem_cons hlt] at e2
  obtain ⟨ev,er⟩:=List.cons.inj e2
  obtain ⟨x,left',rfl⟩:∃x l,left=x::l:=by
   cases left with
   | nil=>rw [List.append_nil] at e1; subst e1; omega
   | cons x l=>exact ⟨x,l,rfl⟩
  have hx:xs[done.length]?=some x:=by rw [e1,List.getElem?_append_right (Nat.le_refl _),Nat.sub_self]; rfl
  have hv:its[done.length]?=some v:=by rw [List.getElem?_eq_getElem hlt,ev]
  have sn:∀(l:List KTr),trHs P w (l++[x])=trHs P w l++[trH P w x]:=fun l=>by
   induction l with
   | nil=>rfl
   | cons a r ih=>simp only [List.cons_append,trHs,ih]
  have sd:∀(l:List KTr),trDs (l++[x])=trDs l+trD x:=fun l=>by
   induction l with
   | nil=>simp [trDs]
   | cons a r ih=>simp only [List.cons_append,trDs,ih]; omega
  refine wpAny_bind (hi done.length x v hx hv _ _ _ rfl ?_)
  have fin:∃(done' left'':List KTr),xs=done'++left''∧its.drop done'.length=rest∧(b.push (trH P w x)).toList=trHs P w done'∧({ s with toks:=s.toks+trDs done+trD x }:Shared)={ s with toks:=s.toks+trDs done' }:=
   ⟨done++[x],left',by rw [e1]; simp,by rw [List.length_append,List.length_singleton]; exact er,by rw [sn,Array.toList_push,hb],by rw [sd,Nat.add_assoc]⟩
  first
   | exact wpAny_pure fin
   | exact wpAny_bind (wpAny_pure (wpAny_pure fin))
 ·rintro b s' ⟨done,left,e1,e2,hb,rfl⟩
  have hz:left=[]:=by
   have h1:its.length≤done.length:=List.drop_eq_nil_iff.mp e2
   have h2:=congrArg List.length e1
   rw [List.length_append] at h2
   cases left with
   | nil=>rfl
   | cons _ _=>simp at h2; omega
  subst hz
  rw [List.append_nil] at e1
  subst e1
  show wpAny _ _ (retInt (Builtin.Tuple.tupleHashOf b.toList)) _ _ _
  rw [hb]
  refine wpAny_ret_mkInt ?_
  show wpAny _ _ (if (decide (-(2:Int) ^ 63≤Builtin.Tuple.tupleHashOf (trHs P w xs)) && decide (Builtin.Tuple.tupleHashOf (trHs P w xs)<2 ^ 63))=true then _ else _) Q E _
  simp only [trH,trD] at hQ
  unfold reduceHash at hQ
  by_cases hr:(decide (-(2:Int) ^ 63≤Builtin.Tuple.tupleHashOf (trHs P w xs)) && decide (Builtin.Tuple.tupleHashOf (trHs P w xs)<2 ^ 63))=true
  ·rw [if_pos hr]
   rw [if_pos hr] at hQ
   exact wpAny_pure (by simpa [Nat.add_assoc] using hQ)
  ·rw [if_neg hr]
   rw [if_neg hr] at hQ
   exact wpAny_bind (wpAny_rule (wpAny_pure (by simpa [Nat.add_assoc] using hQ)))
theorem tr_hash {P:Program} {w:World} {h:Heap}:∀(d:Nat) (A:Around) (x:KTr) (v:Value),kdep x≤d→A.units+d<cLine→TrA h x v→HsAt P w A h v (trH P w x) (trD x):=by
 intro d
 have atom:∀(A:Around) (k:Key) (v:Value),(q1n P w).is k v=true→HsAt P w A h v ((q1n P w).hash k) 1:=fun A k v hk E s Q eh hQ=>(q1n P w).pyHash hk hQ
 induction d with
 | zero=>
  intro A x v hd hu r
  cases x with
  | tup xs=>simp [kdep] at hd
  | int a=>obtain ⟨t,rfl⟩:=r; exact atom A (.inl a) _ (q9d P w a t)
  | str a=>obtain ⟨t,rfl⟩:=r; exact atom A (.inr a) _ (q9c P w a t)
 | succ d ih=>
  intro A x v hd hu r
  cases x with
  | tup xs=>
   obtain ⟨a,its,rfl,p,q⟩:=r
   refine hs_tup (by omega) p q.length fun j x v e1 e2=>?_
   obtain ⟨v',g,q'⟩:=q.get e1
   rw [e2] at g
   cases g
   have:=q7g e1
   simp only [kdep] at hd
   exact ih A.in1 x v (by omega) (by rw [kin1_units]; omega) q'
  | int a=>exact ih A _ v (Nat.zero_le _) (by omega) r
  | str a=>exact ih A _ v (Nat.zero_le _) (by omega) r
theorem tr_quiet {P:Program} {w:World} {A:Around} {E:Value→Shared→Prop} {s:Shared}:∀(n:Nat) (x:KTr) (v:Value) (Q:Bool→Shared→Prop),kdep x≤n→TrA s.heap x v→Q true s→wpAny (model P w) A (eqIsQuiet n v) Q E s:=by
 intro n
 induction n with
 | zero=>
  intro x v Q hd r hQ
  cases x with
  | tup xs=>simp [kdep] at hd
  | int a=>obtain ⟨t,rfl⟩:=r; rw [eqIsQuiet_byValue 0 rfl]; exact wpAny_pure hQ
  | str a=>obtain ⟨t,rfl⟩:=r; rw [eqIsQuiet_byValue 0 rfl]; exact wpAny_pure hQ
 | succ n ih=>
  intro x v Q hd r hQ
  cases x with
  | int a=>obtain ⟨t,rfl⟩:=r; rw [eqIsQuiet_byValue _ rfl]; exact wpAny_pure hQ
  | str a=>obtain ⟨t,rfl⟩:=r; rw [eqIsQuiet_byValue _ rfl]; exact wpAny_pure hQ
  | tup xs=>
   obtain ⟨a,its,rfl,⟨o,ho,hc,n',hd'⟩,q⟩:=r
   have hT:s.TypeIs (.ref a) "tuple" :=⟨o,ho,hc⟩
   simp only [kdep] at hd
   unfold eqIsQuiet
   refine wpAny_bind (wpAny_specialOf hT F.slot_tuple_eq.lookup ?_)
   show wpAny _ _ (isInstance (.ref a) (.type "tuple") >>= _) _ _ s
   refine wpAny_bind (wpAny_isInstance hT isSubtype_tuple_tuple ?_)
   simp only [Bool.not_true,Bool.false_eq_true,if_false]
   refine wpAny_bind (wpAny_seqItems ho hd' ?_)
   refine wpAny_bind ?_
   show wpAny _ _ (forIn its.toArray _ _) _ _ s
   rw [←Array.forIn_toList]
   refine wpAny_forIn_list _ (fun rest r s'=>r.1=none∧s'=s∧∀v∈rest,∃y,kdep y≤n∧TrA s.heap y v) _ ?_ ?_ _ _ ⟨rfl,rfl,fun v hv=>?_⟩
   ·rintro v rest r s' ⟨hr,rfl,hall⟩
    obtain ⟨y,h1,h2⟩:=hall v List.mem_cons_self
    refine wpAny_bind (ih y v _ h1 h2 ?_)
    simp only [Bool.not_true,Bool.false_eq_true,if_false]
    exact wpAny_pure ⟨rfl,rfl,fun u hu'=>hall u (List.mem_cons_of_mem _ hu')⟩
   ·rintro ⟨r1,r2⟩ s' ⟨hr,rfl,_⟩
    simp only at hr
    subst hr
    exact wpAny_pure hQ
   ·obtain ⟨j,hj⟩:=List.mem_iff_getElem?.mp hv
    have hjl:j<its.length:=by
     have:=(List.getElem?_eq_some_iff.mp hj).1
     simpa using this
    have hjx:j<xs.length:=by rw [q.length]; exact hjl
    obtain ⟨v',g,q'⟩:=q.get (List.getElem?_eq_getElem hjx)
    have:v'=v:=by
     have hj':its[j]?=some v:=by simpa using hj
     rw [hj'] at g
     exact (Option.some.inj g).symm
    subst this
    have:=q7g (List.getElem?_eq_getElem hjx)
    exact ⟨_,by omega,q'⟩
def treeKind (P:Program) (w:World):HeapKind P w KTr where
 is:=fun h x a=>(∃xs,x=.tup xs)∧kdep x≤8∧TrA h x (.ref a)
 hash:=trH P w
 draws:=trD
 room:=fun A=>A.units+8<cLine
 inj:=fun hx hy=>TrA.inj hx.2.2 hy.2.2
 keeps:=fun {h h' k a d o es ep} hk ho hd hs=>⟨hk.1,hk.2.1,TrA.at (fun b its ⟨o',e,c,n,q⟩=>⟨o',(hs.2 b (by
  rintro rfl
  obtain rfl:o'=o:=Option.some.inj (e.symm.trans ho)
  rw [hd] at q; exact nomatch q)).trans e,c,n,q⟩) hk.2.2⟩
 pyHash:=fun hu hk h=>tr_hash 8 _ _ _ hk.2.1 hu hk.2.2 _ _ _ rfl h
 eqBool:=fun {A E s x y a b Q} hu hx hy h=>tr_eq 8 A x y _ _ hx.2.1 hu hx.2.2 hy.2.2 _ _ _ _ h
 quiet:=fun hk h=>tr_quiet 8 _ _ _ hk.2.1 hk.2.2 h
inductive HO where
 | lst (xs:List V)
 | tup (xs:List V)
 | dK (kvs:List (Key×V)) | dT (kvs:List (List Key×V)) | dH (kvs:List (KTr×Addr×V))
 | set (S:Int→Bool) (n:Nat)
 | ins (C dx:Addr) (fs:List (Str×V))
 | own (x:Addr)
 | xd (fs:List (Str×V))
 | met (f x:Addr)
 | rng (lo hi:Int)
 | frz (o:Obj) (u:HO)
 | tbl (ps:Array Value)
 | ext (φ:Heap→Prop)
abbrev Hp:=Addr→Option HO
def upd (H:Hp) (a:Addr) (o:HO):Hp:=fun b=>if b=a then some o else H b
theorem q1w {H:Hp} {a:Addr} {o:HO}:upd H a o a=some o:=by unfold upd; rw [if_pos rfl]
theorem q0w {H:Hp} {a b:Addr} {o:HO} (h:b≠a):upd H a o b=H b:=by unfold upd; rw [if_neg h]
theorem ne_of {H:Hp} {a b:Addr} {o u:HO} (h:H a=some o) (h':H b=some u) (d:o≠u):a≠b:=by
 intro e; subst e; rw [h] at h'; exact d (Option.some.inj h')
theorem q2r {H:Hp} {a b:Addr} {o:HO} (h:H a=some o) (h':H b=none):a≠b:=by
 intro e; subst e; rw [h] at h'; cases h'
section
variable (P:Program) (w:World)
def q3a (H:Hp) (h:Heap) (a:Addr):HO→Prop
 | .lst xs=>xs.length≤sizeLine∧∃(its:List Value) (n:Nat),Vals xs its∧h.get? a=some { cls:=.type "list",data:=.seq its.toArray n }
 | .tup xs=>xs.length≤sizeLine∧∃its:List Value,Vals xs its∧IsTup h a its.toArray
 | .dK kvs=>kvs.length≤sizeLine∧(a == sysModules)=false∧∃vs,KV kvs vs∧h.DictOf (q1n P w) a vs
 | .dT kvs=>kvs.length≤sizeLine∧(a == sysModules)=false∧∃xs:List (List Key×Addr×Value),
   Paired (fun (p:List Key×V) (q:List Key×Addr×Value)=>p.1=q.1∧H q.2.1=some (.tup (p.1.map kV))∧RelV p.2 q.2.2) kvs xs∧
   ∃o es ep,h.get? a=some o∧o.ExactDict∧o.data=.dict es ep∧es.toList=xs.map (entryOfKey (tupleKind (q1n P w)))∧(xs.map (·.1)).Nodup
 | .dH kvs=>kvs.length≤sizeLine∧(a == sysModules)=false∧∃xs:List (KTr×Addr×Value),
   Paired (fun (p:KTr×Addr×V) (q:KTr×Addr×Value)=>p.1=q.1∧p.2.1=q.2.1∧RelV p.2.2 q.2.2) kvs xs∧
   ∃o es ep,h.get? a=some o∧o.ExactDict∧o.data=.dict es ep∧es.toList=xs.map (entryOfKey (treeKind P w))∧(xs.map (·.1)).Nodup
 | .set S n=>h.SetOf (intKind P w) a S n
 | .ins C dx fs=>H dx=some (.own a)∧fs.length≤1000∧dx≠a∧h.get? a=some (PySem.W.instObj C dx)∧
   ∃mA,h.Ns1 dx mA∧(∀f,RelO (fs.lookup f) (mA f))∧PySem.Within mA (fs.map (·.1))
 | .own _=>∃o,h.get? a=some o
 | .xd fs=>∃mA,h.Ns1 a mA∧∀f,RelO (fs.lookup f) (mA f)
 | .rng lo hi=>∃t u v,h.get? a=some { cls:=.type "range",data:=.fields #[.int lo t,.int hi u,.int 1 v] }
 | .frz o u=>h.get? a=some o∧q3a H h a u
 | .tbl ps=>h.get? a=some { cls:=.none,data:=.fields ps }
 | .met f x=>h.get? a=some (PySem.W.methodObj (.ref f) (.ref x))
 | .ext φ=>φ h∧(∃o,h.get? a=some o)∧∀h1 h2:Heap,φ h1→(∀o,h1.get? a=some o→h2.get? a=some o)→φ h2
def HOk (H:Hp) (h:Heap):Prop:=∀a o,H a=some o→q3a P w H h a o
end
section
variable {P:Program} {w:World} {H H':Hp} {h h':Heap} {a:Addr} {o:HO}
theorem q3a.lt (x:q3a P w H h a o):a<h.objs.size:=by
 cases o with
 | lst xs=>obtain ⟨_,_,_,_,e⟩:=x; exact Heap.lt_size e
 | tup xs=>obtain ⟨_,_,_,p⟩:=x; exact p.lt
 | dK kvs=>obtain ⟨_,_,_,_,o,_,_,e,_⟩:=x; exact Heap.lt_size e
 | dT kvs=>obtain ⟨_,_,_,_,o,_,_,e,_⟩:=x; exact Heap.lt_size e
 | dH kvs=>obtain ⟨_,_,_,_,o,_,_,e,_⟩:=x; exact Heap.lt_size e
 | set S n=>obtain ⟨o,_,_,_,e,_⟩:=x; exact Heap.lt_size e
 | ins C dx fs=>obtain ⟨_,_,_,e,_⟩:=x; exact Heap.lt_size e
 | own y=>obtain ⟨_,e⟩:=x; exact Heap.lt_size e
 | xd fs=>obtain ⟨_,⟨_,_,_,e,_⟩,_⟩:=x; exact Heap.lt_size e
 | rng lo hi=>obtain ⟨_,_,_,e⟩:=x; exact Heap.lt_size e
 | frz ob u=>obtain ⟨e,_⟩:=x; exact Heap.lt_size e
 | tbl ps=>exact Heap.lt_size (show h.get? a=some _ from x)
 | met f y=>exact Heap.lt_size (show h.get? a=some _ from x)
 | ext φ=>obtain ⟨_,⟨_,e⟩,_⟩:=x; exact Heap.lt_size e
theorem Paired.mapP {α β:Type} {F G:α→β→Prop}:∀{l₁:List α} {l₂:List β},Paired F l₁ l₂→(∀a b,F a b→G a b)→Paired G l₁ l₂
 | _,_,.nil,_=>.nil
 | _,_,.cons r t,f=>.cons (f _ _ r) (Paired.mapP t f)
theorem q3a.stay (x:q3a P w H h a o) (k:∀b u,(b=a∨H b=some (.own a))→h.get? b=some u→h'.get? b=some u)
  (ho:∀b,H b=some (.own a)→H' b=some (.own a)) (ht:∀b xs,H b=some (.tup xs)→H' b=some (.tup xs)):q3a P w H' h' a o:=by
 induction o with
 | lst xs=>obtain ⟨z,its,n,r,e⟩:=x; exact ⟨z,its,n,r,k _ _ (.inl rfl) e⟩
 | tup xs=>obtain ⟨z,its,r,ob,e,c⟩:=x; exact ⟨z,its,r,ob,k _ _ (.inl rfl) e,c⟩
 | dK kvs=>obtain ⟨z,y,vs,r,ob,es,ep,e,c⟩:=x; exact ⟨z,y,vs,r,ob,es,ep,k _ _ (.inl rfl) e,c⟩
 | dT kvs=>
  obtain ⟨z,y,xs,r,ob,es,ep,e,c⟩:=x
  exact ⟨z,y,xs,Paired.mapP r fun p q z=>⟨z.1,ht _ _ z.2.1,z.2.2⟩,ob,es,ep,k _ _ (.inl rfl) e,c⟩
 | dH kvs=>obtain ⟨z,y,xs,r,ob,es,ep,e,c⟩:=x; exact ⟨z,y,xs,r,ob,es,ep,k _ _ (.inl rfl) e,c⟩
 | set S n=>obtain ⟨ob,es,ep,t,e,c⟩:=x; exact ⟨ob,es,ep,t,k _ _ (.inl rfl) e,c⟩
 | ins C dx fs=>
  obtain ⟨d,z,ne,e,mA,⟨od,es,ep,e2,c⟩,r⟩:=x
  exact ⟨ho _ d,z,ne,k _ _ (.inl rfl) e,mA,⟨od,es,ep,k _ _ (.inr d) e2,c⟩,r⟩
 | own y=>obtain ⟨ob,e⟩:=x; exact ⟨ob,k _ _ (.inl rfl) e⟩
 | xd fs=>obtain ⟨mA,⟨od,es,ep,e,c⟩,r⟩:=x; exact ⟨mA,⟨od,es,ep,k _ _ (.inl rfl) e,c⟩,r⟩
 | rng lo hi=>obtain ⟨t,u,v,e⟩:=x; exact ⟨t,u,v,k _ _ (.inl rfl) e⟩
 | frz ob u ih=>obtain ⟨e,q⟩:=x; exact ⟨k _ _ (.inl rfl) e,ih q⟩
 | tbl ps=>
  have e:h.get? a=some { cls:=.none,data:=.fields ps }:=x
  show h'.get? a=some { cls:=.none,data:=.fields ps }
  exact k a _ (.inl rfl) e
 | met f y=>
  have e:h.get? a=some (PySem.W.methodObj (.ref f) (.ref y)):=x
  show h'.get? a=some (PySem.W.methodObj (.ref f) (.ref y))
  exact k a _ (.inl rfl) e
 | ext φ=>obtain ⟨p,⟨o,e⟩,st⟩:=x; exact ⟨st _ _ p fun o q=>k _ _ (.inl rfl) q,⟨o,k _ _ (.inl rfl) e⟩,st⟩
theorem HOk.lt (x:HOk P w H h) (e:H a=some o):a<h.objs.size:=(x a o e).lt
theorem HOk.fresh (x:HOk P w H h) (e:h.objs.size≤a):H a=none:=by
 cases q:H a with
 | none=>rfl
 | some u=>exact absurd (Nat.lt_of_lt_of_le (x.lt q) e) (Nat.lt_irrefl _)
theorem HOk.kept (x:HOk P w H h) (k:∀b u,h.get? b=some u→h'.get? b=some u):HOk P w H h':=fun a o e=>
 (x a o e).stay (fun b u _ q=>k b u q) (fun _ q=>q) fun _ _ q=>q
theorem HOk.laid (x:HOk P w H h) (k:∀b u,h.get? b=some u→h'.get? b=some u) (hp:h.objs.size≤a) (new:q3a P w (upd H a o) h' a o):HOk P w (upd H a o) h':=fun b u e=>by
 have hn:=x.fresh hp
 by_cases hb:b=a
 ·subst hb; rw [q1w] at e; cases e; exact new
 ·rw [q0w hb] at e
  exact (x b u e).stay (fun c v _ q=>k c v q) (fun c q=>by rw [q0w (q2r q hn)]; exact q) fun c xs q=>by rw [q0w (q2r q hn)]; exact q
end
def Rd (H:Hp) (a:Addr) (u:HO):Prop:=H a=some u∨∃o,H a=some (.frz o u)
theorem Rd.ok {P:Program} {w:World} {H:Hp} {h:Heap} {a:Addr} {u:HO} (r:Rd H a u) (x:HOk P w H h):q3a P w H h a u:=by
 rcases r with r | ⟨o,r⟩
 ·exact x a u r
 ·obtain ⟨_,q⟩:=x a _ r
  exact q
def Mut:Option HO→Prop
 | some (.lst _)=>True
 | some (.dK _)=>True
 | some (.dT _)=>True
 | some (.dH _)=>True
 | some (.set _ _)=>True
 | some (.ins _ _ _)=>True
 | some (.ext _)=>True
 | _=>False
section
variable {P:Program} {w:World} {H:Hp} {h h':Heap} {x e:Addr} {o':HO}
theorem HOk.write (ok:HOk P w H h) (mu:Mut (H x)) (he:e=x∨H e=some (.own x)) (k:∀b u,b≠e→h.get? b=some u→h'.get? b=some u) (heo:∃u,h'.get? e=some u)
  (new:q3a P w (upd H x o') h' x o'):HOk P w (upd H x o') h':=fun b u q=>by
 have nown:∀c y,H c=some (.own y)→c≠x:=fun c y r z=>by subst z; rw [r] at mu; exact mu
 have ntup:∀c xs,H c=some (.tup xs)→c≠x:=fun c xs r z=>by subst z; rw [r] at mu; exact mu
 by_cases hb:b=x
 ·subst hb; rw [q1w] at q; cases q; exact new
 ·rw [q0w hb] at q
  by_cases hbe:b=e
  ·have q':H b=some (.own x):=by
    rcases he with z | z
    ·exact absurd (hbe.trans z) hb
    ·rw [hbe]; exact z
   rw [q] at q'; cases q'
   obtain ⟨v,hv⟩:=heo
   exact ⟨v,by rw [hbe]; exact hv⟩
  ·refine (ok b u q).stay (fun c v hc r=>k c v ?_ r) (fun c r=>by rw [q0w (nown c b r)]; exact r) fun c xs r=>by rw [q0w (ntup c xs r)]; exact r
   rcases hc with rfl | hc
   ·exact hbe
   ·rintro rfl
    rcases he with z | z
    ·exact nown c b hc z
    ·rw [hc] at z; cases z; exact hb rfl
end
structure Un (fs ex:List Addr) (H H':Hp) (h h':Heap):Prop where
 keep:∀b o,h.get? b=some o→H b=none→b∉fs→b∉ex→h'.get? b=some o
 slot:∀b o,h.get? b=some o→H b=none→b∈fs→b∉ex→∃sl,h'.get? b=some { o with slots:=sl }
 free:∀b o,h.get? b=some o→H b=none→b∉ex→H' b=none
 there:∀b o,h.get? b=some o→b∉ex→∃o',h'.get? b=some o'
 tups:∀b xs,H b=some (.tup xs)→H' b=some (.tup xs)
 frzs:∀b o u,H b=some (.frz o u)→H' b=some (.frz o u)
 tbls:∀b ps,H b=some (.tbl ps)→∃more,H' b=some (.tbl (ps++more))
section
variable {fs fs' ex ex':List Addr} {H H1 H2:Hp} {h h1 h2 h':Heap} {a x e:Addr} {o:HO}
theorem Un.any (u:Un fs ex H H1 h h1) {b:Addr} {ob:Obj} (q:h.get? b=some ob) (n:H b=none) (hx:b∉ex):∃sl,h1.get? b=some { ob with slots:=sl }:=by
 by_cases hb:b∈fs
 ·exact u.slot b ob q n hb hx
 ·exact ⟨ob.slots,u.keep b ob q n hb hx⟩
theorem Un.kept (k:∀b u,h.get? b=some u→h'.get? b=some u):Un fs ex H H h h':=
 ⟨fun b ob q _ _ _=>k b ob q,fun b ob q _ _ _=>⟨ob.slots,k b ob q⟩,fun _ _ _ n _=>n,fun b ob q _=>⟨ob,k b ob q⟩,fun _ _ q=>q,fun _ _ _ q=>q,fun _ ps q=>⟨#[],by rw [q]; simp⟩⟩
theorem Un.refl:Un fs ex H H h h:=Un.kept fun _ _ q=>q
theorem Un.laid (k:∀b u,h.get? b=some u→h'.get? b=some u) (hp:h.objs.size≤a) (hn:H a=none):Un fs ex H (upd H a o) h h' where
 keep:=fun b u q _ _ _=>k b u q
 slot:=fun b u q _ _ _=>⟨u.slots,k b u q⟩
 free:=fun b u q n _=>by rw [q0w (Nat.ne_of_lt (Nat.lt_of_lt_of_le (Heap.lt_size q) hp))]; exact n
 there:=fun b u q _=>⟨u,k b u q⟩
 tups:=fun b xs q=>by rw [q0w (q2r q hn)]; exact q
 frzs:=fun b u xs q=>by rw [q0w (q2r q hn)]; exact q
 tbls:=fun b ps q=>⟨#[],by rw [q0w (q2r q hn),q]; simp⟩
theorem Un.write (mu:Mut (H x)) (he:e=x∨H e=some (.own x)) (k:∀b u,b≠e→h.get? b=some u→h'.get? b=some u) (heo:∃u,h'.get? e=some u):Un fs ex H (upd H x o) h h':=by
 have hx:∀b,H b=none→b≠x:=fun b n z=>by subst z; rw [n] at mu; exact mu
 have hb:∀b,H b=none→b≠e:=fun b n z=>by
  subst z
  rcases he with r | r
  ·exact hx b n r
  ·rw [n] at r; cases r
 have hm:∀b u,H b=some u→¬Mut (some u)→b≠x:=fun b u q nm z=>by subst z; rw [q] at mu; exact nm mu
 refine ⟨fun b u q n _ _=>k b u (hb b n) q,fun b u q n _ _=>⟨u.slots,k b u (hb b n) q⟩,fun b u q n _=>by rw [q0w (hx b n)]; exact n,fun b u q _=>?_,
  fun b xs q=>by rw [q0w (hm b _ q fun z=>z)]; exact q,fun b u xs q=>by rw [q0w (hm b _ q fun z=>z)]; exact q,fun b ps q=>⟨#[],by rw [q0w (hm b _ q fun z=>z),q]; simp⟩⟩
 by_cases hbe:b=e
 ·subst hbe; exact heo
 ·exact ⟨u,k b u hbe q⟩
end
def trk (h:Heap) (H:Hp):List Addr:=(List.range h.objs.size).filter fun a=>(H a).isSome
def hidT (h:Heap) (H:Hp):Heap:=PySem.W.hideAll h (trk h H)
theorem hidT_size (h:Heap) (H:Hp):(hidT h H).objs.size=h.objs.size:=PySem.W.hideAll_size _ _
theorem hidT_get {h:Heap} {H:Hp} {b:Addr} {o:Obj} (e:h.get? b=some o) (n:H b=none):(hidT h H).get? b=some o:=
 PySem.W.hideAll_get _ e fun hm=>by
  have q:(H b).isSome=true:=(List.mem_filter.mp hm).2
  rw [n] at q; simp at q
theorem of_hidT {h:Heap} {H:Hp} {b:Addr} {o:Obj} (e:(hidT h H).get? b=some o):h.get? b=some o∧H b=none:=by
 have e':h.get? b=some o:=PySem.W.of_hideAll (trk h H) e
 refine ⟨e',?_⟩
 cases q:H b with
 | none=>rfl
 | some x=>
  have hm:b∈trk h H:=List.mem_filter.mpr ⟨List.mem_range.mpr (Heap.lt_size e'),by simp [q]⟩
  have z:(hidT h H).get? b=none:=PySem.W.hideAll_none (trk h H) hm
  rw [z] at e; cases e
end L2
namespace L2
open PySem PySem.Spec PyProof.Rows
structure Mod (K:PySem.W.Frag) (mg:Str→Option Value) (base:Heap):Prop where
 kin:K.In base
 glob:base.Ns mainGlobals mg
 blt:∃mb,base.Ns builtinsNs mb∧∀x:Str,x≠ "__name__" →mb x=bootBuiltins x
 nolimit:base.NoLimit
/-- the context: a def's body (or a comprehension's block) running. base: fixed through the whole law; s₀,H₀: the entry; outer: the frames whose slots others may change (a def's callers); stack: all frames that run;
   ex: iterators that were made ahead of the entry and are walked here (a comprehension's); fn: the names whose cells were made at the entry (a def: all; a comprehension's block: its own); calm: not within an except suite; pn: pins that every state bears; xe: what is wanted of an exception that leaves the code -/
structure Cx where
 prog:Program
 w:World
 K:PySem.W.Frag
 mg:Str→Option Value
 base:Heap
 A:Around
 N:List Str
 s₀:Shared
 H₀:Hp
 env:Env
 outer:List Env
 stack:List Env
 ex:List Addr
 fn:Str→Bool
 calm:Bool
 pn:List (Addr×Obj)
 xe:Value→Shared→Prop
def frs (l:List Env):List Addr:=l.filterMap (·.frame)
abbrev Cx.fs (X:Cx):List Addr:=frs X.outer
def Vis (sc:Scope) (x:Str):Prop:=sc.names.lookup x=some .local∨sc.names.lookup x=some .cell∨sc.names.lookup x=some .free
def Loc (sc:Scope) (x:Str):Prop:=sc.names.lookup x=some .local∨sc.names.lookup x=some .cell
def Look (env:Env) (h:Heap) (m:Str→Option Value) (x:Str) (u:Value):Prop:=
 (env.kindOf x=some .local∧m x=some u)∨((env.kindOf x=some .cell∨env.kindOf x=some .free)∧∃c,env.cells.lookup x=some c∧h.IsCell c (some u))
structure Cx.Ok (X:Cx):Prop where
 mod:Mod X.K X.mg X.base
 kind:X.env.scope.kind=.function
 glob:X.env.globals=mainGlobals
 blt:X.env.builtins=builtinsNs
 above:X.s₀.heap.objs.size≤X.env.locals
 inj:∀x y c,X.env.cells.lookup x=some c→X.env.cells.lookup y=some c→x=y
 has:∀x,(X.env.kindOf x=some .cell∨X.env.kindOf x=some .free)→∃c,X.env.cells.lookup x=some c
 cab:∀x c,X.fn x=true→X.env.cells.lookup x=some c→X.s₀.heap.objs.size≤c
 hd:X.calm=true→X.A.handled=none
 frames:X.A.frames=some X.stack
 stk:X.stack=X.outer∨(X.stack=X.env::X.outer∧X.env.frame=some X.env.locals)
 exf:∀b∈X.ex,b≠X.env.locals∧∀x c,X.env.cells.lookup x=some c→c≠b
 bs:∀b o,X.base.get? b=some o→X.s₀.heap.get? b=some o∧X.H₀ b=none
 bsz:X.base.objs.size≤X.s₀.heap.objs.size
 noex:∀b o,X.base.get? b=some o→b∉X.ex
 exfs:∀b∈X.ex,b∉X.fs
 funs:X.s₀.heap.FunFrames X.base X.outer
 frf:∀b∈X.fs,X.H₀ b=none
structure Inv (X:Cx) (pins:List (Addr×Obj)) (σ:List (Option V)) (H:Hp) (s:Shared):Prop where
 ok:X.Ok
 os:s.os=X.s₀.os
 bare:AllBare s.gens
 base:Un X.fs X.ex X.H₀ H X.s₀.heap s.heap
 loc:∃m,s.heap.Ns X.env.locals m∧∀(i:Nat) (x:Str) (v:V),X.N[i]?=some x→σ[i]?=some (some v)→Vis X.env.scope x→∃u,RelV v u∧Look X.env s.heap m x u
 cell:∀x c,X.env.cells.lookup x=some c→∃v,s.heap.IsCell c v
 free:H X.env.locals=none
 freeC:∀x c,X.env.cells.lookup x=some c→H c=none
 pin:∀p∈X.pn++pins,s.heap.get? p.1=some p.2∧H p.1=none∧p.1≠X.env.locals∧p.1∉X.fs∧∀v,p.2.data≠.cell v
 hok:HOk X.prog X.w H s.heap
 len:σ.length=X.N.length
section
variable {X:Cx} {pins:List (Addr×Obj)} {σ:List (Option V)} {H H':Hp} {s:Shared} {h':Heap}
theorem Cx.Ok.nofr (ok:X.Ok) {b:Addr} {o:Obj} (e:X.base.get? b=some o):b∉X.fs:=fun hb=>by
 have:=(ok.funs.mem hb).1
 rw [e] at this; cases this
theorem Inv.bs (I:Inv X pins σ H s):∀b o,X.base.get? b=some o→s.heap.get? b=some o∧H b=none:=fun b o e=>
 ⟨I.base.keep b o (I.ok.bs b o e).1 (I.ok.bs b o e).2 (I.ok.nofr e) (I.ok.noex b o e),I.base.free b o (I.ok.bs b o e).1 (I.ok.bs b o e).2 (I.ok.noex b o e)⟩
theorem Inv.bk (I:Inv X pins σ H s):∀b o,X.base.get? b=some o→s.heap.get? b=some o:=fun b o e=>(I.bs b o e).1
theorem Inv.mod (I:Inv X pins σ H s):Mod X.K X.mg X.base:=I.ok.mod
theorem Inv.kIn (I:Inv X pins σ H s):X.K.In s.heap:=I.ok.mod.kin.keeps I.bk
theorem Inv.lt (I:Inv X pins σ H s):X.env.locals<s.heap.objs.size:=let ⟨_,hn,_⟩:=I.loc; hn.lt
theorem Inv.sz (I:Inv X pins σ H s):X.s₀.heap.objs.size≤s.heap.objs.size:=Nat.le_trans I.ok.above (Nat.le_of_lt I.lt)
theorem Inv.nofs (I:Inv X pins σ H s) {a:Addr} (h:s.heap.objs.size≤a):a∉X.fs:=fun hb=>by
 obtain ⟨_,o,ho,_⟩:=I.ok.funs.mem hb
 exact absurd (Nat.lt_of_lt_of_le (Heap.lt_size ho) (Nat.le_trans I.sz h)) (Nat.lt_irrefl _)
theorem Inv.cne (I:Inv X pins σ H s):∀x c,X.env.cells.lookup x=some c→c≠X.env.locals:=fun x c e z=>by
 obtain ⟨v,o,ho,hd⟩:=I.cell x c e
 obtain ⟨m,⟨o',es,ep,ho',hd',_⟩,_⟩:=I.loc
 rw [z,ho'] at ho; cases ho; rw [hd'] at hd; cases hd
theorem Inv.funs (I:Inv X pins σ H s):s.heap.FunFrames X.base X.outer:=by
 have all:∀(l:List Env),(∀b∈frs l,b∈X.fs)→X.s₀.heap.FunFrames X.base l→s.heap.FunFrames X.base l:=by
  intro l
  induction l with
  | nil=>intro _ _; trivial
  | cons env r ih=>
   intro hs hl
   obtain ⟨hk,⟨L,o,hf,hn,ho,hd⟩,hr⟩:=hl
   have hL:L∈X.fs:=hs L (by unfold frs; rw [List.filterMap_cons,hf]; exact List.mem_cons_self)
   obtain ⟨sl,e⟩:=I.base.slot L o ho (I.ok.frf L hL) hL fun z=>I.ok.exfs L z hL
   exact ⟨hk,⟨L,_,hf,hn,e,hd⟩,ih (fun b hb=>hs b (by unfold frs; rw [List.filterMap_cons,hf]; exact List.mem_cons_of_mem _ hb)) hr⟩
 exact all X.outer (fun _ hb=>hb) I.ok.funs
theorem Inv.stack (I:Inv X pins σ H s):s.heap.FunFrames X.base X.stack:=by
 rcases I.ok.stk with e | ⟨e,hf⟩
 ·rw [e]; exact I.funs
 ·rw [e]
  obtain ⟨m,hn,_⟩:=I.loc
  refine .cons (by rw [I.ok.kind]; decide) hf hn ?_ I.funs
  exact Heap.get?_none_of_le (Nat.le_trans I.ok.bsz I.ok.above)
theorem Inv.stkSub (I:Inv X pins σ H s):∀b∈frs X.stack,b∈X.env.locals::X.fs:=fun b hb=>by
 rcases I.ok.stk with e | ⟨e,hf⟩
 ·rw [e] at hb; exact List.mem_cons_of_mem _ hb
 ·rw [e] at hb
  unfold frs at hb
  rw [List.filterMap_cons,hf] at hb
  exact hb
theorem Inv.stkFree (I:Inv X pins σ H s):∀b∈frs X.stack,H b=none:=fun b hb=>by
 rcases List.mem_cons.mp (I.stkSub b hb) with e | hb
 ·rw [e]; exact I.free
 ·obtain ⟨_,o,ho,_⟩:=I.ok.funs.mem hb
  exact I.base.free b o ho (I.ok.frf b hb) fun z=>I.ok.exfs b z hb
theorem Inv.step {g':Array GenState} {t':Nat} {d':Drawn} {ch:List Addr} (I:Inv X pins σ H s)
  (hch:∀b∈ch,(b∈X.ex∨X.s₀.heap.objs.size≤b)∧b≠X.env.locals∧(∀x c,X.env.cells.lookup x=some c→c≠b)∧∀p∈X.pn++pins,p.1≠b)
  (keep:∀b o,b≠X.env.locals→b∉X.fs→b∉ch→s.heap.get? b=some o→H b=none→h'.get? b=some o)
  (slot:∀b o,b≠X.env.locals→b∈X.fs→b∉ch→s.heap.get? b=some o→H b=none→∃sl,h'.get? b=some { o with slots:=sl }) (free:∀b o,b∉ch→s.heap.get? b=some o→H b=none→H' b=none)
  (there:∀b o,b∉ch→s.heap.get? b=some o→∃o',h'.get? b=some o')
  (tups:∀b xs,H b=some (.tup xs)→H' b=some (.tup xs)) (frzs:∀b o u,H b=some (.frz o u)→H' b=some (.frz o u)) (tbls:∀b ps,H b=some (.tbl ps)→∃more,H' b=some (.tbl (ps++more)))
  (ns:∀m,s.heap.Ns X.env.locals m→h'.Ns X.env.locals m) (hok:HOk X.prog X.w H' h') (hg:AllBare g') :
  Inv X pins σ H' { s with heap:=h',gens:=g',drawn:=d',toks:=t' }:=by
 have neL:∀b o,X.s₀.heap.get? b=some o→b≠X.env.locals:=fun b o e=>Nat.ne_of_lt (Nat.lt_of_lt_of_le (Heap.lt_size e) I.ok.above)
 have neC:∀b o,X.s₀.heap.get? b=some o→b∉X.ex→b∉ch:=fun b o e hx hb=>by
  rcases (hch b hb).1 with z | z
  ·exact hx z
  ·exact absurd (Nat.lt_of_lt_of_le (Heap.lt_size e) z) (Nat.lt_irrefl _)
 have cellK:∀x c,X.env.cells.lookup x=some c→∀v,s.heap.IsCell c v→h'.IsCell c v:=fun x c e v hh1=>by
  obtain ⟨o,ho,hd⟩:=hh1
  have nch:c∉ch:=fun z=>(hch c z).2.2.1 x c e rfl
  by_cases hc:c∈X.fs
  ·obtain ⟨sl,q⟩:=slot c o (I.cne x c e) hc nch ho (I.freeC x c e)
   exact ⟨_,q,hd⟩
  ·exact ⟨o,keep c o (I.cne x c e) hc nch ho (I.freeC x c e),hd⟩
 refine ⟨I.ok,I.os,hg,⟨fun b o e n hb hx=>?_,fun b o e n hb hx=>?_,fun b o e n hx=>?_,fun b o e hx=>?_,fun b xs e=>tups b xs (I.base.tups b xs e),fun b o xs e=>frzs b o xs (I.base.frzs b o xs e),fun b ps e=>?_⟩,?_,fun x c e=>?_,?_,fun x c e=>?_,fun p hp=>?_,hok,I.len⟩
 ·exact keep b o (neL b o e) hb (neC b o e hx) (I.base.keep b o e n hb hx) (I.base.free b o e n hx)
 ·obtain ⟨sl,e1⟩:=I.base.slot b o e n hb hx
  obtain ⟨sl',e2⟩:=slot b _ (neL b o e) hb (neC b o e hx) e1 (I.base.free b o e n hx)
  exact ⟨sl',e2⟩
 ·obtain ⟨o',e1⟩:=I.base.there b o e hx
  exact free b o' (neC b o e hx) e1 (I.base.free b o e n hx)
 ·obtain ⟨o',e1⟩:=I.base.there b o e hx
  exact there b o' (neC b o e hx) e1
 ·obtain ⟨m1,e1⟩:=I.base.tbls b ps e
  obtain ⟨m2,e2⟩:=tbls b _ e1
  exact ⟨m1++m2,by rw [e2,Array.append_assoc]⟩
 ·obtain ⟨m,hn,hl⟩:=I.loc
  refine ⟨m,ns m hn,fun i x v e1 e2 e3=>?_⟩
  obtain ⟨u,r,l⟩:=hl i x v e1 e2 e3
  refine ⟨u,r,?_⟩
  rcases l with l | ⟨k,c,e,z⟩
  ·exact .inl l
  ·exact .inr ⟨k,c,e,cellK x c e _ z⟩
 ·obtain ⟨v,z⟩:=I.cell x c e
  exact ⟨v,cellK x c e v z⟩
 ·obtain ⟨m,⟨o,_,_,ho,_⟩,_⟩:=I.loc
  exact free _ o (fun z=>(hch _ z).2.1 rfl) ho I.free
 ·obtain ⟨v,o,ho,hd⟩:=I.cell x c e
  exact free c o (fun z=>(hch c z).2.2.1 x c e rfl) ho (I.freeC x c e)
 ·obtain ⟨e,n,ne,nf,d⟩:=I.pin p hp
  have nch:p.1∉ch:=fun z=>(hch p.1 z).2.2.2 p hp rfl
  exact ⟨keep p.1 p.2 ne nf nch e n,free p.1 p.2 nch e n,ne,nf,d⟩
theorem Inv.un {t':Nat} (I:Inv X pins σ H s) (u:Un X.fs [] H H' s.heap h') (hok:HOk X.prog X.w H' h'):Inv X pins σ H' { s with heap:=h',toks:=t' }:=by
 obtain ⟨m,⟨o,es,ep,ho,r⟩,_⟩:=id I.loc
 obtain ⟨sl,hL⟩:=u.any ho I.free (by simp)
 exact I.step (g':=s.gens) (d':=s.drawn) (ch:=[]) (fun _ z=>nomatch z) (fun b o _ hb _ e n=>u.keep b o e n hb (by simp)) (fun b o _ hb _ e n=>u.slot b o e n hb (by simp)) (fun b o _ e n=>u.free b o e n (by simp)) (fun b o _ e=>u.there b o e (by simp)) u.tups u.frzs u.tbls (fun m' hm=>by
  obtain ⟨o',es',ep',ho',r'⟩:=hm
  rw [ho] at ho'; cases ho'
  exact ⟨_,es',ep',hL,r'⟩) hok I.bare
theorem Inv.call {g':Array GenState} {t':Nat} {d':Drawn} {ch:List Addr} (I:Inv X pins σ H s) (u:Un (frs X.stack) ch H H' s.heap h') (hok:HOk X.prog X.w H' h') (hg:AllBare g')
  (hch:∀b∈ch,(b∈X.ex∨X.s₀.heap.objs.size≤b)∧b≠X.env.locals∧(∀x c,X.env.cells.lookup x=some c→c≠b)∧∀p∈X.pn++pins,p.1≠b) :
  Inv X pins σ H' { s with heap:=h',gens:=g',drawn:=d',toks:=t' }:=by
 obtain ⟨m,⟨o,es,ep,ho,r⟩,_⟩:=id I.loc
 obtain ⟨sl,hL⟩:=u.any ho I.free fun z=>(hch _ z).2.1 rfl
 exact I.step (ch:=ch) hch (fun b o hL hb hc e n=>u.keep b o e n (fun z=>(List.mem_cons.mp (I.stkSub b z)).elim hL hb) hc) (fun b o _ _ hc e n=>u.any e n hc) (fun b o hc e n=>u.free b o e n hc) (fun b o hc e=>u.there b o e hc) u.tups u.frzs u.tbls (fun m' hm=>by
  obtain ⟨o',es',ep',ho',r'⟩:=hm
  rw [ho] at ho'; cases ho'
  exact ⟨_,es',ep',hL,r'⟩) hok hg
theorem Inv.turned {t':Nat} {it:Addr} (I:Inv X pins σ H s) (k:∀b o,b≠it→s.heap.get? b=some o→h'.get? b=some o) (hn:H it=none) (hL:it≠X.env.locals)
  (h1:it∈X.ex∨X.s₀.heap.objs.size≤it) (h2:∀x c,X.env.cells.lookup x=some c→c≠it) (h3:∀p∈X.pn++pins,p.1≠it):Inv X pins σ H { s with heap:=h',toks:=t' }:=by
 have nit:∀b u,H b=some u→b≠it:=fun b u e z=>by rw [z,hn] at e; cases e
 refine I.step (g':=s.gens) (d':=s.drawn) (ch:=[it]) (fun b hb=>?_) (fun b o _ _ hc e _=>k b o (fun z=>hc (by simp [z])) e) (fun b o _ _ hc e _=>⟨o.slots,k b o (fun z=>hc (by simp [z])) e⟩) (fun _ _ _ _ n=>n)
  (fun b o hc e=>⟨o,k b o (fun z=>hc (by simp [z])) e⟩) (fun _ _ e=>e) (fun _ _ _ e=>e) (fun b ps e=>⟨#[],by rw [e]; simp⟩) (fun m hm=>?_) (fun b u e=>?_) I.bare
 ·have e:b=it:=by simpa using hb
  subst e
  exact ⟨h1,hL,h2,h3⟩
 ·obtain ⟨o,es,ep,ho,r⟩:=hm
  exact ⟨o,es,ep,k _ o (Ne.symm hL) ho,r⟩
 ·refine (I.hok b u e).stay (fun c v hc q=>k c v ?_ q) (fun _ q=>q) fun _ _ q=>q
  rcases hc with z | z
  ·rw [z]; exact nit b u e
  ·exact nit c _ z
theorem Inv.tok (I:Inv X pins σ H s) (t:Nat):Inv X pins σ H { s with toks:=t }:=I.un (h':=s.heap) (t':=t) Un.refl I.hok
theorem Inv.kept {t':Nat} (I:Inv X pins σ H s) (k:∀b u,s.heap.get? b=some u→h'.get? b=some u):Inv X pins σ H { s with heap:=h',toks:=t' }:=I.un (Un.kept k) (I.hok.kept k)
theorem Inv.laid {a:Addr} {o:HO} {t':Nat} (I:Inv X pins σ H s) (k:∀b u,s.heap.get? b=some u→h'.get? b=some u) (hp:s.heap.objs.size≤a) (new:q3a X.prog X.w (upd H a o) h' a o) :
  Inv X pins σ (upd H a o) { s with heap:=h',toks:=t' }:=I.un (Un.laid k hp (I.hok.fresh hp)) (I.hok.laid k hp new)
theorem Inv.write {x e:Addr} {o:HO} {t':Nat} (I:Inv X pins σ H s) (mu:Mut (H x)) (he:e=x∨H e=some (.own x)) (k:∀b u,b≠e→s.heap.get? b=some u→h'.get? b=some u) (heo:∃u,h'.get? e=some u)
  (new:q3a X.prog X.w (upd H x o) h' x o):Inv X pins σ (upd H x o) { s with heap:=h',toks:=t' }:=I.un (Un.write mu he k heo) (I.hok.write mu he k heo new)
theorem Inv.pins_of {pins':List (Addr×Obj)} (I:Inv X pins σ H s) (h:∀p∈pins',s.heap.get? p.1=some p.2∧H p.1=none∧p.1≠X.env.locals∧p.1∉X.fs∧∀v,p.2.data≠.cell v):Inv X pins' σ H s:=
 ⟨I.ok,I.os,I.bare,I.base,I.loc,I.cell,I.free,I.freeC,fun p hp=>(List.mem_append.mp hp).elim (fun z=>I.pin p (List.mem_append_left _ z)) (h p),I.hok,I.len⟩
theorem nodup_ix {N:List Str} (hN:N.Nodup) {i j:Nat} {x:Str} (a:N[i]?=some x) (b:N[j]?=some x):i=j:=by
 obtain ⟨h1,e1⟩:=List.getElem?_eq_some_iff.mp a
 obtain ⟨h2,e2⟩:=List.getElem?_eq_some_iff.mp b
 exact (List.getElem_inj hN).mp (e1.trans e2.symm)
theorem q8n {M:Model} {A:Around} {E:Value→Shared→Prop} {i:Nat} {x:Str} {v:V} {u:Value} {Q:Unit→Shared→Prop} (I:Inv X pins σ H s) (hN:X.N.Nodup) (hi:X.N[i]?=some x) (hx:Loc X.env.scope x) (r:RelV v u)
  (h:∀s',Inv X pins (σ.set i (some v)) H s'→(∃a,Heap.SameBut a s.heap s'.heap∧(a=X.env.locals∨X.env.cells.lookup x=some a))→Q () s') (hf:X.fn x=true∨X.env.scope.names.lookup x=some .local:=by first | exact .inl rfl | exact .inr rfl | assumption):wpAny M A (storeName X.env x u) Q E s:=by
 obtain ⟨m,hn,hl⟩:=id I.loc
 have hcls:(X.env.scope.kind == .class || (X.env.scope.kind == .module && X.env.locals != X.env.globals))=false:=by rw [I.ok.kind]; rfl
 have hiσ:i<σ.length:=by rw [I.len]; exact (List.getElem?_eq_some_iff.mp hi).1
 have cne:=I.cne
 have tracked:∀{a:Addr} {h':Heap},(∃o,s.heap.get? a=some o∧H a=none)→Heap.SameBut a s.heap h'→HOk X.prog X.w H h':=fun {a h'} ha hs b ob e=>by
  obtain ⟨_,_,hfree⟩:=ha
  refine (I.hok b ob e).stay (fun c w' hc q=>(hs.2 c ?_).trans q) (fun _ q=>q) fun _ _ q=>q
  rintro rfl
  rcases hc with rfl | hc
  ·rw [hfree] at e; cases e
  ·rw [hfree] at hc; cases hc
 rcases hx with hk | hk
 ·refine wpAny_storeName_local hk hn (fun h' hn' hs=>?_) hcls
  obtain ⟨oL,_,_,hoL,_⟩:=id hn
  refine h _ ⟨I.ok,I.os,I.bare,⟨fun b o e n hb hx=>?_,fun b o e n hb hx=>?_,I.base.free,fun b o e hx=>?_,I.base.tups,I.base.frzs,I.base.tbls⟩,⟨_,hn',fun j y v' e1 e2 e3=>?_⟩,fun y c e=>?_,I.free,I.freeC,fun p hp=>?_,tracked ⟨oL,hoL,I.free⟩ hs,by simpa using I.len⟩ ⟨_,hs,.inl rfl⟩
  ·exact (hs.2 b (Nat.ne_of_lt (Nat.lt_of_lt_of_le (Heap.lt_size e) I.ok.above))).trans (I.base.keep b o e n hb hx)
  ·obtain ⟨sl,e1⟩:=I.base.slot b o e n hb hx
   exact ⟨sl,(hs.2 b (Nat.ne_of_lt (Nat.lt_of_lt_of_le (Heap.lt_size e) I.ok.above))).trans e1⟩
  ·obtain ⟨o',e1⟩:=I.base.there b o e hx
   exact ⟨o',(hs.2 b (Nat.ne_of_lt (Nat.lt_of_lt_of_le (Heap.lt_size e) I.ok.above))).trans e1⟩
  ·by_cases hj:j=i
   ·subst hj
    rw [hi] at e1; cases e1
    rw [List.getElem?_set_self hiσ] at e2
    cases e2
    exact ⟨u,r,.inl ⟨hk,by simp⟩⟩
   ·rw [List.getElem?_set_ne (Ne.symm hj)] at e2
    obtain ⟨u',r',q⟩:=hl j y v' e1 e2 e3
    refine ⟨u',r',?_⟩
    rcases q with ⟨k,e⟩ | ⟨k,c,e,z⟩
    ·refine .inl ⟨k,?_⟩
     have:y≠x:=fun e=>hj (nodup_ix hN e1 (e▸hi))
     simp [this,e]
    ·exact .inr ⟨k,c,e,z.sameBut hs (cne y c e)⟩
  ·obtain ⟨w',z⟩:=I.cell y c e
   exact ⟨w',z.sameBut hs (cne y c e)⟩
  ·obtain ⟨e,n,ne,nf,d⟩:=I.pin p hp
   exact ⟨(hs.2 p.1 ne).trans e,n,ne,nf,d⟩
 ·have hfn:X.fn x=true:=by
   rcases hf with z | z
   ·exact z
   ·rw [z] at hk; cases hk
  obtain ⟨c,hc⟩:=I.ok.has x (.inl hk)
  obtain ⟨w',z⟩:=I.cell x c hc
  refine wpAny_storeName_cell I.ok.kind hk hc z (fun h' hc' hs=>?_)
  obtain ⟨oc,hoc,hocd⟩:=id z
  refine h { s with heap:=h' } ⟨I.ok,I.os,I.bare,⟨fun b o e n hb hx=>?_,fun b o e n hb hx=>?_,I.base.free,fun b o e hx=>?_,I.base.tups,I.base.frzs,I.base.tbls⟩,⟨m,hn.sameBut hs (Ne.symm (cne x c hc)),fun j y v' e1 e2 e3=>?_⟩,fun y c' e=>?_,I.free,I.freeC,fun p hp=>?_,tracked ⟨oc,hoc,I.freeC x c hc⟩ hs,by simpa using I.len⟩ ⟨c,hs,.inr hc⟩
  ·exact (hs.2 b (Nat.ne_of_lt (Nat.lt_of_lt_of_le (Heap.lt_size e) (I.ok.cab x c hfn hc)))).trans (I.base.keep b o e n hb hx)
  ·obtain ⟨sl,e1⟩:=I.base.slot b o e n hb hx
   exact ⟨sl,(hs.2 b (Nat.ne_of_lt (Nat.lt_of_lt_of_le (Heap.lt_size e) (I.ok.cab x c hfn hc)))).trans e1⟩
  ·obtain ⟨o',e1⟩:=I.base.there b o e hx
   exact ⟨o',(hs.2 b (Nat.ne_of_lt (Nat.lt_of_lt_of_le (Heap.lt_size e) (I.ok.cab x c hfn hc)))).trans e1⟩
  ·by_cases hj:j=i
   ·subst hj
    rw [hi] at e1; cases e1
    rw [List.getElem?_set_self hiσ] at e2
    cases e2
    exact ⟨u,r,.inr ⟨.inl hk,c,hc,hc'⟩⟩
   ·rw [List.getElem?_set_ne (Ne.symm hj)] at e2
    obtain ⟨u',r',q⟩:=hl j y v' e1 e2 e3
    refine ⟨u',r',?_⟩
    rcases q with q | ⟨k,c',e,z'⟩
    ·exact .inl q
    ·refine .inr ⟨k,c',e,z'.sameBut hs ?_⟩
     rintro rfl
     exact hj (nodup_ix hN e1 (I.ok.inj _ _ _ e hc▸hi))
  ·by_cases hcc:c'=c
   ·subst hcc; exact ⟨_,hc'⟩
   ·obtain ⟨w2,z2⟩:=I.cell y c' e
    exact ⟨w2,z2.sameBut hs hcc⟩
  ·obtain ⟨e,n,ne,nf,d⟩:=I.pin p hp
   refine ⟨(hs.2 p.1 ?_).trans e,n,ne,nf,d⟩
   intro q
   rw [q,hoc] at e
   have q':oc=p.2:=Option.some.inj e
   exact d w' (by rw [←q']; exact hocd)
theorem store_ok {M:Model} {A:Around} {E:Value→Shared→Prop} {i:Nat} {x:Str} {v:V} {u:Value} {Q:Unit→Shared→Prop} (I:Inv X pins σ H s) (hN:X.N.Nodup) (hi:X.N[i]?=some x) (hx:Loc X.env.scope x) (r:RelV v u)
  (h:∀s',Inv X pins (σ.set i (some v)) H s'→Q () s') (hf:X.fn x=true∨X.env.scope.names.lookup x=some .local:=by first | exact .inl rfl | exact .inr rfl | assumption):wpAny M A (storeName X.env x u) Q E s:=
 q8n I hN hi hx r (fun s' I' _=>h s' I') hf
theorem Inv.call' {s':Shared} {ch:List Addr} (I:Inv X pins σ H s) (ho:s'.os=s.os) (u:Un (frs X.stack) ch H H' s.heap s'.heap) (hok:HOk X.prog X.w H' s'.heap) (hg:AllBare s'.gens)
  (hch:∀b∈ch,(b∈X.ex∨X.s₀.heap.objs.size≤b)∧b≠X.env.locals∧(∀x c,X.env.cells.lookup x=some c→c≠b)∧∀p∈X.pn++pins,p.1≠b):Inv X pins σ H' s':=by
 obtain ⟨h',g',d',t',o'⟩:=s'
 have e:o'=s.os:=ho
 subst e
 exact I.call (g':=g') (t':=t') (d':=d') u hok hg hch
end
abbrev XK:=Value→Option Addr→Hp→Prop
abbrev St:=List (Option V)
abbrev VK:=V→Hp→Prop
abbrev TE:=St→Hp→VK→Prop
abbrev TT:=St→Hp→(Bool→Hp→Prop)→Prop
abbrev TA:=St→Hp→(List V→Hp→Prop)→Prop
structure Ends where
 nx:St→Hp→Prop
 rt:VK
 bk:St→Hp→Prop:=fun _ _=>False
 ct:St→Hp→Prop:=fun _ _=>False
abbrev TS:=Ends→St→Hp→Prop
def EP (X:Cx) (pins:List (Addr×Obj)) (σ:St) (Q:VK) (u:Value) (s':Shared):Prop:=∃v H',Inv X pins σ H' s'∧RelV v u∧Q v H'
def TP (X:Cx) (pins:List (Addr×Obj)) (σ:St) (Q:Bool→Hp→Prop) (b:Bool) (s':Shared):Prop:=∃H',Inv X pins σ H' s'∧Q b H'
def AP (X:Cx) (pins:List (Addr×Obj)) (σ:St) (Q:List V→Hp→Prop) (us:List Value) (s':Shared):Prop:=∃vs H',Inv X pins σ H' s'∧Vals vs us∧Q vs H'
def SP (X:Cx) (pins:List (Addr×Obj)) (D:Ends) (f:Flow) (s':Shared):Prop:=
 match f with
 | .next=>∃σ' H',Inv X pins σ' H' s'∧D.nx σ' H'
 | .brk=>∃σ' H',Inv X pins σ' H' s'∧D.bk σ' H'
 | .cont=>∃σ' H',Inv X pins σ' H' s'∧D.ct σ' H'
 | .ret u=>∃v σ' H',Inv X pins σ' H' s'∧RelV v u∧D.rt v H'
def PE (X:Cx) (e:Expr) (t:TE):Prop:=
 ∀(pins:List (Addr×Obj)) (s:Shared) (σ:St) (H:Hp) (Q:VK),Inv X pins σ H s→t σ H Q→wpAny (model X.prog X.w) X.A (eval e X.env) (EP X pins σ Q) X.xe s
def PT (X:Cx) (e:Expr) (t:TT):Prop:=
 ∀(pins:List (Addr×Obj)) (s:Shared) (σ:St) (H:Hp) (Q:Bool→Hp→Prop),Inv X pins σ H s→t σ H Q→wpAny (model X.prog X.w) X.A (isTrue e X.env (eval e X.env)) (TP X pins σ Q) X.xe s
def PW (X:Cx) (e:Expr) (t:TT):Prop:=
 ∀(whole:Sem Value) (pins:List (Addr×Obj)) (s:Shared) (σ:St) (H:Hp) (Q:Bool→Hp→Prop),Inv X pins σ H s→t σ H Q→wpAny (model X.prog X.w) X.A (isTrue e X.env whole) (TP X pins σ Q) X.xe s
def PA (X:Cx) (es:List Expr) (t:TA):Prop:=
 ∀(pos:Pos) (pins:List (Addr×Obj)) (s:Shared) (σ:St) (H:Hp) (Q:List V→Hp→Prop),Inv X pins σ H s→t σ H Q→wpAny (model X.prog X.w) X.A (spliced (backTo pos (starEach es X.env))) (AP X pins σ Q) X.xe s
def PS (X:Cx) (st:Stmt) (t:TS):Prop:=
 ∀(pins:List (Addr×Obj)) (s:Shared) (σ:St) (H:Hp) (D:Ends),Inv X pins σ H s→t D σ H→wpAny (model X.prog X.w) X.A (exec st X.env) (SP X pins D) X.xe s
def PSs (X:Cx) (st:List Stmt) (t:TS):Prop:=
 ∀(pins:List (Addr×Obj)) (s:Shared) (σ:St) (H:Hp) (D:Ends),Inv X pins σ H s→t D σ H→wpAny (model X.prog X.w) X.A (execs st X.env) (SP X pins D) X.xe s
theorem thn {α:Type} {t:Sem α} {Q Q':α→Shared→Prop} {M:Model} {A:Around} {E:Value→Shared→Prop} {s:Shared} (h:wpAny M A t Q E s) (hQ:∀a s,Q a s→Q' a s):wpAny M A t Q' E s:=wpAny_mono h hQ fun _ _ x=>x
end L2
namespace L2
open PySem PySem.Spec PyProof.Rows
section
variable {X:Cx}
def tVar (i:Nat):TE:=fun σ H Q=>∃v,σ[i]?=some (some v)∧Q v H
def tC (v:V):TE:=fun _ H Q=>Q v H
theorem pe_var {i:Nat} {x:Str} {pos:Pos} (hN:X.N[i]?=some x) (hv:Vis X.env.scope x) (hd:(x == ("__debug__" : Str))=false:=by decide) (hcd:(x == ("__classdict__" : Str))=false:=by decide):PE X (.Name x pos) (tVar i):=by
 intro pins s σ H Q I h
 obtain ⟨v,e,h⟩:=h
 obtain ⟨m,hn,hl⟩:=I.loc
 obtain ⟨u,r,l⟩:=hl i x v hN e hv
 have fin:EP X pins σ Q u s:=⟨v,H,I,r,h⟩
 rcases l with ⟨hk,hm⟩ | ⟨hk,c,hc,hcell⟩
 ·exact wpAny_Name (wpAny_loadName_local I.ok.kind hk hn hm fin) hd
 ·rcases hk with hk | hk
  ·exact wpAny_Name (wpAny_loadName_cell I.ok.kind hk hc hcell fin) hd
  ·exact wpAny_Name (wpAny_loadName_free I.ok.kind hk hc hcell fin hcd) hd
theorem pe_int {i j pos}:PE X (.Constant (.int i) j pos) (tC (.int i)):=fun _ _ _ H _ I h=>wpAny_Constant_int ⟨.int i,H,I.tok _,⟨_,rfl⟩,h⟩
theorem pe_bl {b j pos}:PE X (.Constant (.bool b) j pos) (tC (.bl b)):=fun _ _ _ H _ I h=>Constant_bool ⟨.bl b,H,I,rfl,h⟩
theorem pe_non {j pos}:PE X (.Constant .none j pos) (tC .non):=fun _ _ _ H _ I h=>Constant_none ⟨.non,H,I,rfl,h⟩
theorem pe_str {x j pos}:PE X (.Constant (.str x) j pos) (tC (.str x)):=fun _ _ _ H _ I h=>Calls.Constant_str ⟨.str x,H,I.tok _,⟨_,rfl⟩,h⟩
def Gl (X:Cx) (x:Str):Prop:=X.env.kindOf x=some .globalImplicit
theorem q9h {E:Value→Shared→Prop} {pins:List (Addr×Obj)} {s:Shared} {σ:St} {H:Hp} {x:Str} {u:Value} {pos:Pos} {Q:Value→Shared→Prop} (I:Inv X pins σ H s) (hg:Gl X x) (hm:X.mg x=some u) (h:Q u s)
  (hd:(x == ("__debug__" : Str))=false:=by decide):wpAny (model X.prog X.w) X.A (eval (.Name x pos) X.env) Q E s:=
 Calls.Name_function_global I.ok.kind hg (Calls.loadGlobal_global (by rw [I.ok.glob]; exact I.mod.glob.keeps I.bk) hm h) hd
theorem ld_blt {E:Value→Shared→Prop} {pins:List (Addr×Obj)} {s:Shared} {σ:St} {H:Hp} {x:Str} {u:Value} {pos:Pos} {Q:Value→Shared→Prop} (I:Inv X pins σ H s) (hg:Gl X x) (hm:X.mg x=none) (hv:bootBuiltins x=some u) (h:Q u s)
  (hn:x≠ "__name__" :=by decide) (hd:(x == ("__debug__" : Str))=false:=by decide):wpAny (model X.prog X.w) X.A (eval (.Name x pos) X.env) Q E s:=by
 obtain ⟨mb,h1,h2⟩:=I.mod.blt
 exact Calls.Name_function_global I.ok.kind hg (Calls.loadGlobal_builtin (by rw [I.ok.glob]; exact I.mod.glob.keeps I.bk) hm (by rw [I.ok.blt]; exact h1.keeps I.bk) ((h2 x hn).trans hv) h) hd
theorem pe_glob {x:Str} {v:V} {u:Value} {pos:Pos} (hg:Gl X x) (hm:X.mg x=some u) (r:RelV v u) (hd:(x == ("__debug__" : Str))=false:=by decide):PE X (.Name x pos) (tC v):=
 fun _ _ _ H _ I h=>q9h I hg hm ⟨v,H,I,r,h⟩ hd
theorem pe_bltn {x:Str} {v:V} {u:Value} {pos:Pos} (hg:Gl X x) (hm:X.mg x=none) (hv:bootBuiltins x=some u) (r:RelV v u) (hn:x≠ "__name__" :=by decide) (hd:(x == ("__debug__" : Str))=false:=by decide):PE X (.Name x pos) (tC v):=
 fun _ _ _ H _ I h=>ld_blt I hg hm hv ⟨v,H,I,r,h⟩ hn hd
variable {a b:Expr} {ta tb:TE} {pos:Pos}
variable {tA tB':TT} {rest:List Expr}
def tAnd (t u:TT):TT:=fun σ H Q=>t σ H fun c H1=>if c=true then u σ H1 Q else Q false H1
def tOr (t u:TT):TT:=fun σ H Q=>t σ H fun c H1=>if c=true then Q true H1 else u σ H1 Q
def tNot (t:TT):TT:=fun σ H Q=>t σ H fun c H1=>Q (!c) H1
theorem pw_and1 (ha:PT X a tA):PW X (.BoolOp .And [a] pos) tA:=by
 intro wh pins s σ H Q I h
 refine isTrue_and (thn (ha pins s σ H Q I h) fun c s1 e=>?_)
 cases c with
 | true=>exact isTrue_and_nil e
 | false=>exact e
theorem pw_or1 (ha:PT X a tA):PW X (.BoolOp .Or [a] pos) tA:=by
 intro wh pins s σ H Q I h
 refine isTrue_or (thn (ha pins s σ H Q I h) fun c s1 e=>?_)
 cases c with
 | false=>exact isTrue_or_nil e
 | true=>exact e
theorem pw_and (ha:PT X a tA) (hb:PW X (.BoolOp .And (b::rest) pos) tB'):PW X (.BoolOp .And (a::b::rest) pos) (tAnd tA tB'):=by
 intro wh pins s σ H Q I h
 refine isTrue_and (thn (ha pins s σ H _ I h) fun c s1 hh1=>?_)
 obtain ⟨H1,I1,q1⟩:=hh1
 cases c with
 | true=>exact hb wh pins s1 σ H1 Q I1 q1
 | false=>exact ⟨H1,I1,q1⟩
theorem pw_or (ha:PT X a tA) (hb:PW X (.BoolOp .Or (b::rest) pos) tB'):PW X (.BoolOp .Or (a::b::rest) pos) (tOr tA tB'):=by
 intro wh pins s σ H Q I h
 refine isTrue_or (thn (ha pins s σ H _ I h) fun c s1 hh1=>?_)
 obtain ⟨H1,I1,q1⟩:=hh1
 cases c with
 | true=>exact ⟨H1,I1,q1⟩
 | false=>exact hb wh pins s1 σ H1 Q I1 q1
theorem pt_not (ha:PT X a tA):PT X (.UnaryOp .Not a pos) (tNot tA):=by
 intro pins s σ H Q I h
 exact isTrue_not (ha pins s σ H (fun c H1=>Q (!c) H1) I h)
def tAndV (ta tb:TE):TE:=fun σ H Q=>ta σ H fun x H1=>∃c,x=.bl c∧if c=true then tb σ H1 Q else Q (.bl false) H1
def tOrV (ta tb:TE):TE:=fun σ H Q=>ta σ H fun x H1=>∃c,x=.bl c∧if c=true then Q (.bl true) H1 else tb σ H1 Q
def tNotV (ta:TE):TE:=fun σ H Q=>ta σ H fun x H1=>∃c,x=.bl c∧Q (.bl (!c)) H1
theorem pe_one {op} {t:TE} (h:PE X a t):PE X (.BoolOp op [a] pos) t:=fun pins s σ H Q I hw=>BoolOp_one (h pins s σ H Q I hw)
theorem pe_and (ha:PE X a ta) (hb:PE X (.BoolOp .And (b::rest) pos) tb):PE X (.BoolOp .And (a::b::rest) pos) (tAndV ta tb):=by
 intro pins s σ H Q I h
 refine BoolOp_and (thn (ha pins s σ H _ I h) fun v s1 hh1=>?_)
 obtain ⟨x,H1,I1,r1,q1⟩:=hh1
 obtain ⟨c,rfl,q1⟩:=q1
 cases r1
 refine wpAny_truthy_bool ?_
 cases c with
 | true=>exact hb pins s1 σ H1 Q I1 q1
 | false=>exact ⟨.bl false,H1,I1,rfl,q1⟩
theorem pe_or (ha:PE X a ta) (hb:PE X (.BoolOp .Or (b::rest) pos) tb):PE X (.BoolOp .Or (a::b::rest) pos) (tOrV ta tb):=by
 intro pins s σ H Q I h
 refine BoolOp_or (thn (ha pins s σ H _ I h) fun v s1 hh1=>?_)
 obtain ⟨x,H1,I1,r1,q1⟩:=hh1
 obtain ⟨c,rfl,q1⟩:=q1
 cases r1
 refine wpAny_truthy_bool ?_
 cases c with
 | false=>exact hb pins s1 σ H1 Q I1 q1
 | true=>exact ⟨.bl true,H1,I1,rfl,q1⟩
theorem pe_not (ha:PE X a ta):PE X (.UnaryOp .Not a pos) (tNotV ta):=by
 intro pins s σ H Q I h
 refine UnaryOp_ (thn (ha pins s σ H _ I h) fun v s1 hh1=>?_)
 obtain ⟨x,H1,I1,r1,q1⟩:=hh1
 obtain ⟨c,rfl,q1⟩:=q1
 cases r1
 exact not_of (wpAny_truthy_bool ⟨.bl (!c),H1,I1,rfl,q1⟩)
end
end L2
namespace L2
open PySem PySem.Spec PyProof.Rows
def SqL (K:PySem.W.Frag) (H:Hp) (a:Addr) (xs:List V):Prop:=
 Rd H a (.lst xs)∨
  ∃(o:Obj) (its:Array Value) (n:Nat),K.lookup a=some o∧o.cls=.type "list" ∧o.dict=none∧o.data=.seq its n∧its.size≤sizeLine∧Vals xs its.toList
def SqT (K:PySem.W.Frag) (H:Hp) (a:Addr) (xs:List V):Prop:=
 Rd H a (.tup xs)∨
  ∃(o:Obj) (its:Array Value) (n:Nat),K.lookup a=some o∧o.cls=.type "tuple" ∧o.data=.seq its n∧its.size≤sizeLine∧Vals xs its.toList
def absV:Value→Option V
 | .none=>some .non
 | .bool b=>some (.bl b)
 | .int i _=>some (.int i)
 | .str x _=>some (.str x)
 | .bytes b _=>some (.byt b)
 | .float b _=>some (.flt b)
 | .ref a=>some (.ref a)
 | .type n=>some (.ty n)
 | _=>none
theorem RelV.abs {x:V} {u:Value} (r:RelV x u):absV u=some x:=by
 cases x with
 | non=>cases r; rfl
 | bl _=>cases r; rfl
 | int _=>obtain ⟨t,rfl⟩:=r; rfl
 | str _=>obtain ⟨t,rfl⟩:=r; rfl
 | byt _=>obtain ⟨t,rfl⟩:=r; rfl
 | flt _=>obtain ⟨t,rfl⟩:=r; rfl
 | ref _=>cases r; rfl
 | ty _=>cases r; rfl
theorem RelV.inj {x y:V} {u:Value} (r:RelV x u) (q:RelV y u):x=y:=Option.some.inj (r.abs.symm.trans q.abs)
theorem Vals.inj:∀{xs ys:List V} {us:List Value},Vals xs us→Vals ys us→xs=ys
 | _,_,_,.nil,.nil=>rfl
 | _,_,_,.cons r t,.cons r' t'=>by rw [r.inj r',Vals.inj t t']
section
variable {X:Cx} {pins:List (Addr×Obj)} {σ:St} {H:Hp} {s:Shared} {a:Addr} {xs ys:List V}
theorem SqL.of {K:PySem.W.Frag} (h:H a=some (.lst xs)):SqL K H a xs:=.inl (.inl h)
theorem SqT.of {K:PySem.W.Frag} (h:H a=some (.tup xs)):SqT K H a xs:=.inl (.inl h)
theorem Inv.list (I:Inv X pins σ H s) (h:SqL X.K H a xs):∃its:List Value,Vals xs its∧PlainL s.heap a its.toArray∧xs.length≤sizeLine:=by
 rcases h with h | ⟨o,its,n,hk,hc,hd,hs,hz,r⟩
 ·obtain ⟨z,its,n,r,e⟩:=h.ok I.hok
  exact ⟨its,r,⟨_,n,e,rfl,rfl,rfl⟩,z⟩
 ·refine ⟨its.toList,r,⟨o,n,I.kIn a o hk,hc,hd,by simpa using hs⟩,?_⟩
  have e:=r.length
  simp only [Array.length_toList] at e
  omega
theorem Inv.tuple (I:Inv X pins σ H s) (h:SqT X.K H a xs):∃its:List Value,Vals xs its∧IsTup s.heap a its.toArray∧xs.length≤sizeLine:=by
 rcases h with h | ⟨o,its,n,hk,hc,hs,hz,r⟩
 ·obtain ⟨z,its,r,p⟩:=h.ok I.hok
  exact ⟨its,r,p,z⟩
 ·refine ⟨its.toList,r,⟨o,I.kIn a o hk,hc,n,by simpa using hs⟩,?_⟩
  have e:=r.length
  simp only [Array.length_toList] at e
  omega
theorem Inv.list_inj (I:Inv X pins σ H s) (h:SqL X.K H a xs) (h':SqL X.K H a ys):xs=ys:=by
 obtain ⟨its,r,⟨o,n,e,_,_,d⟩,_⟩:=I.list h
 obtain ⟨its',r',⟨o',n',e',_,_,d'⟩,_⟩:=I.list h'
 rw [e] at e'; cases e'
 rw [d] at d'
 injection d' with d1 _
 have:its=its':=by simpa using congrArg Array.toList d1
 subst this
 exact r.inj r'
theorem Inv.tuple_inj (I:Inv X pins σ H s) (h:SqT X.K H a xs) (h':SqT X.K H a ys):xs=ys:=by
 obtain ⟨its,r,⟨o,e,_,n,d⟩,_⟩:=I.tuple h
 obtain ⟨its',r',⟨o',e',_,n',d'⟩,_⟩:=I.tuple h'
 rw [e] at e'; cases e'
 rw [d] at d'
 injection d' with d1 _
 have:its=its':=by simpa using congrArg Array.toList d1
 subst this
 exact r.inj r'
end
section
variable {X:Cx} {pins:List (Addr×Obj)} {σ:St} {H:Hp} {s:Shared} {E:Value→Shared→Prop}
end
section
variable {X:Cx} {st:Stmt} {rest:List Stmt} {t u:TS} {e:Expr} {te:TE} {pos:Pos}
def tNext:TS:=fun D σ H=>D.nx σ H
def tSeq (t u:TS):TS:=fun D σ H=>t { D with nx:=u D } σ H
theorem pss_nil:PSs X [] tNext:=fun _ _ σ H _ I h=>wpAny_execs_nil ⟨σ,H,I,h⟩
theorem pss_cons (h1:PS X st t) (h2:PSs X rest u):PSs X (st::rest) (tSeq t u):=by
 intro pins s σ H D I h
 refine wpAny_execs_cons (thn (h1 pins s σ H { D with nx:=u D } I h) fun f s1 q=>?_)
 cases f with
 | next=>
  obtain ⟨σ',H',I',q⟩:=q
  exact h2 pins s1 σ' H' D I' q
 | ret v=>exact q
 | brk=>exact q
 | cont=>exact q
theorem pss_one (h1:PS X st t):PSs X [st] t:=by
 intro pins s σ H D I h
 refine wpAny_execs_cons (thn (h1 pins s σ H D I h) fun f s1 q=>?_)
 cases f with
 | next=>exact wpAny_execs_nil q
 | ret v=>exact q
 | brk=>exact q
 | cont=>exact q
theorem Inv.quiet {pins:List (Addr×Obj)} {σ:St} {H:Hp} {s:Shared} (I:Inv X pins σ H s):interactive X.env=false:=by simp [interactive,I.ok.kind]
def tDrop (te:TE):TS:=fun D σ H=>te σ H fun _ H1=>D.nx σ H1
theorem ps_expr (he:PE X e te) (hs:swapsWith e none pos.line X.env=pure false:=by rfl):PS X (.Expr e pos) (tDrop te):=by
 intro pins s σ H D I h
 exact wpAny_Expr_any (thn (he pins s σ H _ I h) fun v s1 hh1=>by obtain ⟨x,H1,I1,r1,q1⟩:=hh1; exact (⟨σ,H1,I1,q1⟩)) I.quiet hs
def tRet (te:TE):TS:=fun D σ H=>te σ H D.rt
theorem ps_ret (he:PE X e te):PS X (.Return (some e) pos) (tRet te):=by
 intro pins s σ H D I h
 exact wpAny_Return_some (thn (he pins s σ H _ I h) fun v s1 hh1=>by obtain ⟨x,H1,I1,r1,q1⟩:=hh1; exact (⟨x,σ,H1,I1,r1,q1⟩))
def tIfS (c:TT) (t u:TS):TS:=fun D σ H=>c σ H fun b H1=>if b=true then t D σ H1 else u D σ H1
theorem ps_if {c:Expr} {a b:List Stmt} {tc:TT} (hc:PT X c tc) (ha:PSs X a t) (hb:PSs X b u):PS X (.If c a b pos) (tIfS tc t u):=by
 intro pins s σ H D I h
 refine wpAny_If (thn (hc pins s σ H _ I h) fun d s1 hh1=>?_)
 obtain ⟨H1,I1,q1⟩:=hh1
 cases d with
 | true=>exact ha pins s1 σ H1 D I1 q1
 | false=>exact hb pins s1 σ H1 D I1 q1
end
abbrev TG:=V→St→Hp→(St→Hp→Prop)→Prop
abbrev TGs:=List V→St→Hp→(St→Hp→Prop)→Prop
def PG (X:Cx) (target:Expr) (t:TG):Prop:=
 ∀(pins:List (Addr×Obj)) (s:Shared) (σ:St) (H:Hp) (v:V) (u:Value) (Q:St→Hp→Prop),Inv X pins σ H s→RelV v u→t v σ H Q→
  wpAny (model X.prog X.w) X.A (assign target X.env u) (fun _ s'=>∃σ' H',Inv X pins σ' H' s'∧Q σ' H') X.xe s
def PGs (X:Cx) (ts:List Expr) (t:TGs):Prop:=
 ∀(pins:List (Addr×Obj)) (s:Shared) (σ:St) (H:Hp) (vs:List V) (us:List Value) (Q:St→Hp→Prop),Inv X pins σ H s→Vals vs us→t vs σ H Q→
  wpAny (model X.prog X.w) X.A (assignInOrder ((assignEach ts X.env).map (·.2)) us) (fun _ s'=>∃σ' H',Inv X pins σ' H' s'∧Q σ' H') X.xe s
abbrev TSet:=V→V→V→Hp→(Hp→Prop)→Prop
def PSet (X:Cx) (t:TSet):Prop:=
 ∀(pins:List (Addr×Obj)) (s:Shared) (σ:St) (H:Hp) (o i v:V) (ov iv u:Value) (Q:Hp→Prop),Inv X pins σ H s→RelV o ov→RelV i iv→RelV v u→t o i v H Q→
  wpAny (model X.prog X.w) X.A (setItem ov iv u) (fun _ s'=>∃H',Inv X pins σ H' s'∧Q H') X.xe s
section
variable {X:Cx} {pos:Pos}
def gName (i:Nat):TG:=fun v σ H Q=>Q (σ.set i (some v)) H
theorem pg_name {i:Nat} {x:Str} (hN:X.N.Nodup) (hi:X.N[i]?=some x) (hx:Loc X.env.scope x) (hf:X.fn x=true∨X.env.scope.names.lookup x=some .local:=by first | exact .inl rfl | exact .inr rfl | assumption):PG X (.Name x pos) (gName i):=by
 intro pins s σ H v u Q I r h
 exact wpAny_assign_Name (store_ok I hN hi hx r (fun s' I'=>⟨_,H,I',h⟩) hf)
def gNil:TGs:=fun vs σ H Q=>vs=[]∧Q σ H
def gCons (t:TG) (u:TGs):TGs:=fun vs σ H Q=>∃v r,vs=v::r∧t v σ H fun σ' H'=>u r σ' H' Q
theorem pgs_nil:PGs X [] gNil:=by
 intro pins s σ H vs us Q I r h
 obtain ⟨e,h⟩:=h
 subst e
 cases r
 exact assignInOrder_nil ⟨σ,H,I,h⟩
theorem pgs_cons {e:Expr} {es:List Expr} {t:TG} {u:TGs} (h1:PG X e t) (h2:PGs X es u)
  (hs:(assignEach (e::es) X.env).map (·.2)=assign e X.env::(assignEach es X.env).map (·.2):=by rfl):PGs X (e::es) (gCons t u):=by
 intro pins s σ H vs us Q I r h
 obtain ⟨v,vr,e1,h⟩:=h
 subst e1
 cases r with
 | cons r rr=>
  rw [hs]
  refine assignInOrder_cons (thn (h1 pins s σ H _ _ _ I r h) fun _ s1 hh1=>?_)
  obtain ⟨σ1,H1,I1,q1⟩:=hh1
  exact h2 pins s1 σ1 H1 _ _ Q I1 rr q1
def gTup (K:PySem.W.Frag) (n:Nat) (t:TGs):TG:=fun v σ H Q=>∃a xs,v=.ref a∧SqT K H a xs∧xs.length=n∧t xs σ H Q
theorem pg_tup {es:List Expr} {k:Nat} {t:TGs} {n:Nat} (hc:X.calm=true) (h:PGs X es t)
  (hn:(assignEach es X.env).length=n:=by rfl) (hst:(assignEach es X.env).findIdx? (·.1)=none:=by rfl):PG X (.Tuple es k pos) (gTup X.K n t):=by
 intro pins s σ H v u Q I r hw
 obtain ⟨a,xs,e1,hq,hl,hw⟩:=hw
 subst e1
 cases r
 obtain ⟨its,rv,ht,hz⟩:=I.tuple hq
 refine assign_Tuple_tuple (I.ok.hd hc) ht (by simp [hn,←hl,rv.length]) hst fun h' hx=>?_
 have I1:Inv X pins σ H { s with heap:=h' }:=I.kept (t':=s.toks) fun b o e=>hx b o (Nat.ne_of_lt (Heap.lt_size e)) e
 exact h pins _ σ H xs _ Q I1 (by simpa using rv) hw
def gSub (to ti:TE) (t:TSet):TG:=fun v σ H Q=>to σ H fun o H1=>ti σ H1 fun i H2=>t o i v H2 fun H3=>Q σ H3
theorem pg_sub {o i:Expr} {to ti:TE} {t:TSet} (ho:PE X o to) (hi:PE X i ti) (hs:PSet X t)
  (ha:∀v,assign (.Subscript o i pos) X.env v=(do
   let ov ←holding [v] (eval o X.env)
   let iv ←holding [v,ov] (eval i X.env)
   standAt pos
   holding [v,ov,iv] (setItem ov iv v)
   release [v,ov,iv] []):=by intro _; rfl):PG X (.Subscript o i pos) (gSub to ti t):=by
 intro pins s σ H v u Q I r h
 rw [ha]
 refine wpAny_bind (wpAny_holding (thn (ho pins s σ H _ I h) fun ov s1 hh1=>?_))
 obtain ⟨x,H1,I1,r1,q1⟩:=hh1
 refine wpAny_bind (wpAny_holding (thn (hi pins s1 σ H1 _ I1 q1) fun iv s2 hh2=>?_))
 obtain ⟨y,H2,I2,r2,q2⟩:=hh2
 refine wpAny_bind (wpAny_standAt (wpAny_bind (wpAny_holding (thn (hs pins s2 σ H2 x y v ov iv u _ I2 r1 r2 r q2) fun _ s3 hh3=>?_))))
 obtain ⟨H3,I3,q3⟩:=hh3
 exact wpAny_release ⟨σ,H3,I3,q3⟩
def tAsg (te:TE) (g:TG):TS:=fun D σ H=>te σ H fun x H1=>g x σ H1 D.nx
theorem ps_asg {tg e:Expr} {te:TE} {g:TG} (he:PE X e te) (hg:PG X tg g) (hs:swapsWithSole [tg] e pos.line X.env=pure false:=by rfl) (hw:swappedStores [tg] e X.env=pure none:=by rfl)
  (h1:(assignEach [tg] X.env).map (·.2)=[assign tg X.env]:=by rfl):PS X (.Assign [tg] e pos) (tAsg te g):=by
 intro pins s σ H D I h
 refine wpAny_Assign_stores (thn (he pins s σ H _ I h) fun v s1 ⟨x,H1,I1,r1,q1⟩=>?_) hs hw
 rw [h1]
 exact thn (hg pins s1 σ H1 x v _ I1 r1 q1) fun _ s2 q=>q
theorem ps_set {i:Nat} {x:Str} {e:Expr} {te:TE} {pos':Pos} (hN:X.N.Nodup) (hi:X.N[i]?=some x) (hx:Loc X.env.scope x) (he:PE X e te) (hs:swapsWith e (some (.Name x pos')) pos.line X.env=pure false:=by rfl) (hf:X.fn x=true∨X.env.scope.names.lookup x=some .local:=by first | exact .inl rfl | exact .inr rfl | assumption) :
  PS X (.Assign [.Name x pos'] e pos) (tAsg te (gName i)):=by
 intro pins s σ H D I h
 refine wpAny_Assign_Name (thn (he pins s σ H _ I h) fun v s1 ⟨y,H1,I1,r1,q1⟩=>?_) hs
 exact store_ok I1 hN hi hx r1 (fun s2 I2=>⟨_,H1,I2,q1⟩) hf
end
section
variable {X:Cx} {pos:Pos}
def tWhile (c:TT) (tb:TS):TS:=fun D σ H=>∃W:Nat→St→Hp→Prop,(∃m,W m σ H)∧∀m σ H,W m σ H→
 c σ H fun b H1=>if b=true then ∃N:St→Hp→Prop,(∀σ' H',N σ' H'→∃m',m'<m∧W m' σ' H')∧tb { D with nx:=N,ct:=N,bk:=D.nx } σ H1 else D.nx σ H1
theorem ps_while {c:Expr} {body:List Stmt} {tc:TT} {tb:TS} (hp:PassesOwn (model X.prog X.w) X.A X.env X.xe) (hc:PT X c tc) (hb:PSs X body tb):PS X (.While c body [] pos) (tWhile tc tb):=by
 intro pins s σ H D I h
 obtain ⟨W,⟨m0,w0⟩,turn⟩:=h
 refine wpAny_While (codeAny_whileLoop (fun n s'=>∃σ' H',Inv X pins σ' H' s'∧W n σ' H') ?_ m0 ⟨σ,H,I,w0⟩)
 rintro n s1 ⟨σ1,H1,I1,w1⟩
 refine wpAny_passesOwn hp (thn (hc pins s1 σ1 H1 _ I1 (turn n σ1 H1 w1)) fun b s2 hh1=>?_)
 obtain ⟨H2,I2,q2⟩:=hh1
 cases b with
 | true=>
  obtain ⟨N,hN,q2⟩:=q2
  rw [if_pos rfl]
  refine wpAny_passesOwn hp (thn (hb pins s2 σ1 H2 _ I2 q2) fun f s3 q3=>?_)
  cases f with
  | next=>
   obtain ⟨σ3,H3,I3,n3⟩:=q3
   obtain ⟨m',hm,w3⟩:=hN σ3 H3 n3
   exact ⟨m',hm,σ3,H3,I3,w3⟩
  | cont=>
   obtain ⟨σ3,H3,I3,n3⟩:=q3
   obtain ⟨m',hm,w3⟩:=hN σ3 H3 n3
   exact ⟨m',hm,σ3,H3,I3,w3⟩
  | brk=>exact q3
  | ret v=>exact q3
 | false=>
  rw [if_neg Bool.false_ne_true]
  exact wpAny_execs_nil ⟨σ1,H2,I2,q2⟩
end
structure It where
 go:Nat→Hp→Prop
 yld:Nat→Hp→V→Hp→Prop
 stop:Nat→Hp→Prop
def FpOk (X:Cx) (pins:List (Addr×Obj)) (H:Hp) (b:Addr):Prop:=
 H b=none∧b≠X.env.locals∧b∉X.fs∧(b∈X.ex∨X.s₀.heap.objs.size≤b)∧(∀x c,X.env.cells.lookup x=some c→c≠b)∧∀p∈X.pn++pins,p.1≠b
theorem Inv.fpOk {X:Cx} {pins:List (Addr×Obj)} {σ:St} {H H':Hp} {s:Shared} {b:Addr} (I:Inv X pins σ H s) (hb:s.heap.objs.size≤b) (hn:H' b=none):FpOk X pins H' b:=by
 refine ⟨hn,Nat.ne_of_gt (Nat.lt_of_lt_of_le I.lt hb),I.nofs hb,.inr (Nat.le_trans I.sz hb),fun x c e z=>?_,fun p hp z=>?_⟩
 ·obtain ⟨v,q⟩:=I.cell x c e
  exact absurd (Nat.lt_of_lt_of_le q.lt (by rw [z]; exact hb)) (Nat.lt_irrefl _)
 ·exact absurd (Nat.lt_of_lt_of_le (Heap.lt_size (I.pin p hp).1) (by rw [z]; exact hb)) (Nat.lt_irrefl _)
structure Turn (P:Program) (w:World) (K:PySem.W.Frag) (tg:Expr) (J:It) (fp:List Addr) (it:Addr) (tn:Nat→Heap→Prop):Prop where
 mem:it∈fp
 obj:∀i h,tn i h→∀b∈fp,∃o,h.get? b=some o∧∀v,o.data≠.cell v
 keep:∀i h h',tn i h→(∀b∈fp,∀o,h.get? b=some o→h'.get? b=some o)→tn i h'
 item:∀(X:Cx),X.prog=P→X.w=w→X.K=K→X.calm=true→∀(i:Nat) (pins:List (Addr×Obj)) (s:Shared) (σ:St) (H:Hp) (E:Value→Shared→Prop),Inv X pins σ H s→(∀b∈fp,FpOk X pins H b)→tn i s.heap→J.go i H→
  wpAny (model P w) X.A (pyNext (.ref it)) (fun r s1=>∃u,r=some u∧
   wpAny (model P w) X.A (letOwnedTupleGo tg (.ref it) u) (fun _ s2=>∃x H',Inv X pins σ H' s2∧RelV x u∧J.yld i H x H'∧tn (i+1) s2.heap∧∀b∈fp,H' b=none) E s1) E s
 done:∀(X:Cx),X.prog=P→X.w=w→X.K=K→X.calm=true→∀(i:Nat) (pins:List (Addr×Obj)) (s:Shared) (σ:St) (H:Hp) (E:Value→Shared→Prop),Inv X pins σ H s→(∀b∈fp,FpOk X pins H b)→tn i s.heap→J.stop i H→
  wpAny (model P w) X.A (pyNext (.ref it)) (fun r s1=>r=none∧Inv X pins σ H s1) E s
 self:∀(A:Around) (i:Nat) (s:Shared) (Q:Value→Shared→Prop) (E:Value→Shared→Prop),tn i s.heap→Q (.ref it) s→wpAny (model P w) A (pyIter (.ref it)) Q E s
abbrev TI:=St→Hp→(It→Hp→Prop)→Prop
def PIE (X:Cx) (pins:List (Addr×Obj)) (σ:St) (tg:Expr) (R:It→Hp→Prop) (itv:Value) (s2:Shared):Prop:=
 ∃(it:Addr) (fp:List Addr) (tn:Nat→Heap→Prop) (J:It) (H':Hp),itv=.ref it∧Inv X pins σ H' s2∧Turn X.prog X.w X.K tg J fp it tn∧tn 0 s2.heap∧(∀b∈fp,FpOk X pins H' b)∧R J H'
def PI (X:Cx) (tg iter:Expr) (wi:TI):Prop:=
 ∀(pins:List (Addr×Obj)) (s:Shared) (σ:St) (H:Hp) (R:It→Hp→Prop),Inv X pins σ H s→wi σ H R→
  wpAny (model X.prog X.w) X.A (eval iter X.env) (fun v s1=>wpAny (model X.prog X.w) X.A (pyIter v) (PIE X pins σ tg R) X.xe s1) X.xe s
theorem go_of {M : Model} {A : Around} {E : Value → Shared → Prop} {s : Shared} {tg : Expr} {it : Addr} {u : Value} {o : Obj} {n : String} {vs : Array Value} {Q : Unit → Shared → Prop} (ho : s.heap.get? it = some o) (hc : o.cls = .type n) (hd : o.data = .fields vs)
    (hn : ["enumerate", "zip", "dict_itemiterator", "dict_reverseitemiterator", "odict_iterator", "itertools.zip_longest", "itertools.pairwise"].contains n = false) (hQ : Q () s) : wpAny M A (letOwnedTupleGo tg (.ref it) u) Q E s := by
  unfold letOwnedTupleGo
  cases tg <;> first
    | exact wpAny_pure hQ
    | (cases u <;> first
        | exact wpAny_pure hQ
        | (refine wpAny_bind (wpAny_load ho ?_)
           rw [hc, hd]
           show wpAny M A (if (["enumerate", "zip", "dict_itemiterator", "dict_reverseitemiterator", "odict_iterator", "itertools.zip_longest", "itertools.pairwise"].contains n && vs[0]? == some (rawInt _)) = true then _ else _) Q E s
           rw [if_neg (by intro h; rw [hn, Bool.false_and] at h; cases h)]
           exact wpAny_pure hQ))
def Itl (K:PySem.W.Frag) (a:Addr):It:=
 ⟨fun i H=>∃xs x,SqL K H a xs∧xs[i]?=some x,fun i H x H'=>H'=H∧∀xs,SqL K H a xs→xs[i]?=some x,fun i H=>∃xs,SqL K H a xs∧xs.length≤i⟩
def Itt (K:PySem.W.Frag) (a:Addr):It:=
 ⟨fun i H=>∃xs x,SqT K H a xs∧xs[i]?=some x,fun i H x H'=>H'=H∧∀xs,SqT K H a xs→xs[i]?=some x,fun i H=>∃xs,SqT K H a xs∧xs.length≤i⟩
def Itr (lo:Int) (n:Nat):It:=⟨fun i _=>i<n,fun i H x H'=>H'=H∧x=.int (lo+i),fun i _=>n≤i⟩
theorem turn_list {P:Program} {w:World} {K:PySem.W.Frag} {tg:Expr} (a it:Addr):Turn P w K tg (Itl K a) [it] it (fun i h=>h.IsListIter it a i) where
 mem:=by simp
 obj:=fun i h st b hb=>by
  have e:b=it:=by simpa using hb
  subst e
  obtain ⟨o,e,c,d⟩:=st
  exact ⟨o,e,fun v z=>by rw [d] at z; cases z⟩
 keep:=fun i h h' st k=>st.at fun o e=>k it (by simp) o e
 item:=by
  intro X hP hw hK hc i pins s σ H E I hf st hg
  subst hP hw hK
  obtain ⟨xs,x,hq,hx⟩:=hg
  obtain ⟨its,rv,p,hz⟩:=I.list hq
  obtain ⟨u,hu,ru⟩:=rv.get hx
  obtain ⟨f0,f1,f2,f3,f4,f5⟩:=hf it (by simp)
  refine wpAny_pyNext_list_item st p.isList (x:=u) (by simpa using hu) fun h' st' sb=>?_
  have I1:Inv X pins σ H { s with heap:=h' }:=I.turned (t':=s.toks) (fun b o hb e=>(sb.2 b hb).trans e) f0 f1 f3 f4 f5
  obtain ⟨o,e,c,d⟩:=id st'
  exact ⟨u,rfl,go_of (s:={ s with heap:=h' }) e c d (by decide) ⟨x,H,I1,ru,⟨rfl,fun ys hy=>by rw [I.list_inj hy hq]; exact hx⟩,st',fun b hb=>(hf b hb).1⟩⟩
 done:=by
  intro X hP hw hK hc i pins s σ H E I hf st hg
  subst hP hw hK
  obtain ⟨xs,hq,hx⟩:=hg
  obtain ⟨its,rv,p,hz⟩:=I.list hq
  obtain ⟨f0,f1,f2,f3,f4,f5⟩:=hf it (by simp)
  have hl:=rv.length
  exact wpAny_pyNext_list_end (I.ok.hd hc) st p.isList (by simp; omega) fun h' eb=>⟨rfl,I.turned (t':=s.toks) (fun b o hb e=>eb b o hb e) f0 f1 f3 f4 f5⟩
 self:=fun _ _ _ _ _ st h=>wpAny_pyIter_listiter st h
theorem turn_tuple {P:Program} {w:World} {K:PySem.W.Frag} {tg:Expr} (a it:Addr):Turn P w K tg (Itt K a) [it] it (fun i h=>h.IsTupleIter it a i) where
 mem:=by simp
 obj:=fun i h st b hb=>by
  have e:b=it:=by simpa using hb
  subst e
  obtain ⟨o,e,c,d⟩:=st
  exact ⟨o,e,fun v z=>by rw [d] at z; cases z⟩
 keep:=fun i h h' st k=>st.at fun o e=>k it (by simp) o e
 item:=by
  intro X hP hw hK hc i pins s σ H E I hf st hg
  subst hP hw hK
  obtain ⟨xs,x,hq,hx⟩:=hg
  obtain ⟨its,rv,p,hz⟩:=I.tuple hq
  obtain ⟨u,hu,ru⟩:=rv.get hx
  obtain ⟨f0,f1,f2,f3,f4,f5⟩:=hf it (by simp)
  refine wpAny_pyNext_tuple_item st (show s.heap.IsTuple a its.toArray from p) (x:=u) (by simpa using hu) fun h' st' sb=>?_
  have I1:Inv X pins σ H { s with heap:=h' }:=I.turned (t':=s.toks) (fun b o hb e=>(sb.2 b hb).trans e) f0 f1 f3 f4 f5
  obtain ⟨o,e,c,d⟩:=id st'
  exact ⟨u,rfl,go_of (s:={ s with heap:=h' }) e c d (by decide) ⟨x,H,I1,ru,⟨rfl,fun ys hy=>by rw [I.tuple_inj hy hq]; exact hx⟩,st',fun b hb=>(hf b hb).1⟩⟩
 done:=by
  intro X hP hw hK hc i pins s σ H E I hf st hg
  subst hP hw hK
  obtain ⟨xs,hq,hx⟩:=hg
  obtain ⟨its,rv,p,hz⟩:=I.tuple hq
  obtain ⟨f0,f1,f2,f3,f4,f5⟩:=hf it (by simp)
  have hl:=rv.length
  exact wpAny_pyNext_tuple_end (I.ok.hd hc) st (show s.heap.IsTuple a its.toArray from p) (by simp; omega) fun h' eb=>⟨rfl,I.turned (t':=s.toks) (fun b o hb e=>eb b o hb e) f0 f1 f3 f4 f5⟩
 self:=fun _ _ _ _ _ st h=>wpAny_pyIter_tupleiter st h
theorem turn_range {P:Program} {w:World} {K:PySem.W.Frag} {tg:Expr} (it:Addr) (lo:Int) (n:Nat):Turn P w K tg (Itr lo n) [it] it (fun i h=>IsRangeIter h it (lo+(i:Nat)*1) ((n:Int) - (i:Nat)) 1) where
 mem:=by simp
 obj:=fun i h st b hb=>by
  have e:b=it:=by simpa using hb
  subst e
  exact ⟨_,st,fun v z=>by
   have z':Data.fields _=Data.cell v:=z
   cases z'⟩
 keep:=fun i h h' st k=>k it (by simp) _ st
 item:=by
  intro X hP hw hK hc i pins s σ H E I hf st hg
  subst hP hw hK
  obtain ⟨f0,f1,f2,f3,f4,f5⟩:=hf it (by simp)
  have W:=Walks.range (prog:=X.prog) (w:=X.w) (I.ok.hd hc) it lo 1 n
  refine W.item i s _ _ hg st fun v h' tk hv st' kk=>?_
  obtain ⟨t,rfl⟩:=hv
  have I1:Inv X pins σ H { s with heap:=h',toks:=tk }:=I.turned (fun b o hb e=>kk b o (by simpa using hb) e) f0 f1 f3 f4 f5
  refine ⟨_,rfl,go_of (s:={ s with heap:=h',toks:=tk }) (n:= "range_iterator") st' rfl rfl (by decide) ⟨.int (lo+i),H,I1,⟨t,?_⟩,⟨rfl,rfl⟩,st',fun b hb=>(hf b hb).1⟩⟩
  rw [Int.mul_one]
 done:=by
  intro X hP hw hK hc i pins s σ H E I hf st hg
  subst hP hw hK
  obtain ⟨f0,f1,f2,f3,f4,f5⟩:=hf it (by simp)
  exact wpAny_pyNext_range_end (I.ok.hd hc) st (by have:n≤i:=hg; omega) fun h' eb=>⟨rfl,I.turned (t':=s.toks) (fun b o hb e=>eb b o hb e) f0 f1 f3 f4 f5⟩
 self:=fun _ _ _ _ _ st h=>wpAny_pyIter_rangeiter st h
end L2
namespace L2
open PySem PySem.Spec PyProof.Rows
section
variable {X:Cx} {tg:Expr}
theorem range_it {pins:List (Addr×Obj)} {σ:St} {H:Hp} {s:Shared} {R:It→Hp→Prop} {E:Value→Shared→Prop} {lo hi:Int} {t u v:Tok} {tk:Nat} (I:Inv X pins σ H s) (h1:-(2 ^ 62)≤lo) (h2:lo<2 ^ 62) (h3:-(2 ^ 62)≤hi) (h4:hi<2 ^ 62)
  (q:R (Itr lo (hi - lo).toNat) H):wpAny (model X.prog X.w) X.A (pyIter (.ref s.heap.objs.size)) (PIE X pins σ tg R) E { s with heap:=s.heap.push { cls:=.type "range",data:=.fields #[.int lo t,.int hi u,.int 1 v] },toks:=tk }:=by
 refine wpAny_pyIter_range (IsRange.new ..) (small_one h1 h2 h3 h4) ?_
 have I1:Inv X pins σ H { s with heap:=s.heap.push { cls:=.type "range",data:=.fields #[.int lo t,.int hi u,.int 1 v] },toks:=tk }:=I.kept fun b o e=>Heap.get?_push_of_some _ e
 refine ⟨(s.heap.push { cls:=.type "range",data:=.fields #[.int lo t,.int hi u,.int 1 v] }).objs.size,[(s.heap.push { cls:=.type "range",data:=.fields #[.int lo t,.int hi u,.int 1 v] }).objs.size],_,_,H,rfl,
  I1.kept (t':=tk) fun b o e=>Heap.get?_push_of_some _ e,turn_range _ lo (hi - lo).toNat,?_,fun b hb=>?_,q⟩
 ·have e1:lo+((0:Nat):Int)*1=lo:=by simp
  have e2:(((hi - lo).toNat:Nat):Int) - ((0:Nat):Int)=Builtin.Range.rangeSize lo hi 1:=by rw [rangeSize_one]; split<;>omega
  show IsRangeIter _ _ (lo+((0:Nat):Int)*1) ((((hi - lo).toNat:Nat):Int) - ((0:Nat):Int)) 1
  rw [e1,e2]
  exact Heap.get?_push_size _ rfl
 ·have e:b=(s.heap.push { cls:=.type "range",data:=.fields #[.int lo t,.int hi u,.int 1 v] }).objs.size:=by simpa using hb
  subst e
  exact I1.fpOk (Nat.le_refl _) (I1.hok.fresh (Nat.le_refl _))
def iRng1 (ta:TA):TI:=fun σ H R=>ta σ H fun vs H1=>∃j:Int,vs=[.int j]∧-(2 ^ 62)≤j∧j<2 ^ 62∧R (Itr 0 j.toNat) H1
theorem pi_range1 {a:Expr} {ta:TA} {p pos:Pos} (hg:Gl X "range") (hm:X.mg "range" = none) (ha:PA X [a] ta) (hs:starEach [a] X.env=[(false,eval a X.env)]:=by rfl):PI X tg (.Call (.Name "range" p) [a] [] pos) (iRng1 ta):=by
 intro pins s σ H R I h
 refine Call_ (ld_blt I hg hm boot_range (PyProof.Rows.callWith_type1 (thn (ha pos pins s σ H _ I h) fun us s1 ⟨vs,H1,I1,r1,q1⟩=>?_) hs rfl))
 obtain ⟨j,e,q1,q2,q⟩:=q1
 subst e
 cases r1 with
 | cons r rr=>
  cases rr
  obtain ⟨t,rfl⟩:=r
  exact call_range_1 (range_it I1 (by omega) (by omega) q1 q2 (by simpa using q))
def tFor (wi:TI) (g:TG) (tb:TS):TS:=fun D σ H=>wi σ H fun J H1=>∃W:Nat→Nat→St→Hp→Prop,(∃m,W 0 m σ H1)∧∀i m σ H,W i m σ H→
 (J.stop i H∧D.nx σ H)∨(J.go i H∧∃N:St→Hp→Prop,(∀σ' H',N σ' H'→∃m',m'<m∧W (i+1) m' σ' H')∧∀x H',J.yld i H x H'→g x σ H' fun σ2 H2=>tb { D with nx:=N,ct:=N,bk:=D.nx } σ2 H2)
def pinsAt (fp:List Addr) (h:Heap):List (Addr×Obj):=fp.filterMap fun b=>(h.get? b).map fun o=>(b,o)
theorem q3l {fp:List Addr} {h:Heap} {b:Addr} {o:Obj} (hb:b∈fp) (e:h.get? b=some o):(b,o)∈pinsAt fp h:=List.mem_filterMap.mpr ⟨b,hb,by rw [e]; rfl⟩
theorem of_pinsAt {fp:List Addr} {h:Heap} {p:Addr×Obj} (hp:p∈pinsAt fp h):p.1∈fp∧h.get? p.1=some p.2:=by
 obtain ⟨b,hb,e⟩:=List.mem_filterMap.mp hp
 cases q:h.get? b with
 | none=>rw [q] at e; cases e
 | some o=>
  rw [q] at e
  have e':(b,o)=p:=Option.some.inj e
  subst e'
  exact ⟨hb,q⟩
theorem Inv.pinned {pins:List (Addr×Obj)} {σ:St} {H:Hp} {s:Shared} {fp:List Addr} (I:Inv X pins σ H s) (hf:∀b∈fp,FpOk X pins H b) (ho:∀b∈fp,∃o,s.heap.get? b=some o∧∀v,o.data≠.cell v):Inv X (pins++pinsAt fp s.heap) σ H s:=
 I.pins_of fun p hp=>(List.mem_append.mp hp).elim (fun z=>I.pin p (List.mem_append_right _ z)) fun z=>by
  obtain ⟨hb,e⟩:=of_pinsAt z
  obtain ⟨f0,f1,f2,_⟩:=hf p.1 hb
  obtain ⟨o,e',d⟩:=ho p.1 hb
  rw [e] at e'; cases e'
  exact ⟨e,f0,f1,f2,d⟩
theorem Inv.unpinned {pins pl:List (Addr×Obj)} {σ:St} {H:Hp} {s:Shared} (I:Inv X (pins++pl) σ H s):Inv X pins σ H s:=I.pins_of fun p hp=>I.pin p (List.mem_append_right _ (List.mem_append_left _ hp))
theorem ps_for {iter:Expr} {body:List Stmt} {wi:TI} {g:TG} {tb:TS} {pos:Pos} (hp:PassesOwn (model X.prog X.w) X.A X.env X.xe) (hc:X.calm=true) (hi:PI X tg iter wi) (hg:PG X tg g) (hb:PSs X body tb)
  (hs:∀x,foldedSetIterable iter X.env x=pure x:=by intro _; rfl):PS X (.For tg iter body [] pos) (tFor wi g tb):=by
 intro pins s σ H D I h
 refine wpAny_For (thn (hi pins s σ H _ I h) fun v s1 h1=>thn h1 fun itv s2 h2=>?_) hs
 obtain ⟨it,fp,tn,J,H2,e,I2,T,st2,f2,W,⟨m0,w0⟩,turn⟩:=h2
 subst e
 have stat:∀{H':Hp},(∀b∈fp,H' b=none)→∀b∈fp,FpOk X pins H' b:=fun hn b hb=>⟨hn b hb,(f2 b hb).2⟩
 refine codeAny_forLoop_any (fun n s'=>∃i σ' H',Inv X pins σ' H' s'∧tn i s'.heap∧(∀b∈fp,H' b=none)∧W i n σ' H') ?_ m0 ⟨0,σ,H2,I2,st2,fun b hb=>(f2 b hb).1,w0⟩
 rintro n s3 ⟨i,σ3,H3,I3,st3,fr3,w3⟩
 rcases turn i n σ3 H3 w3 with ⟨stop,qn⟩ | ⟨go,N,hN,step⟩
 ·refine wpAny_passesOwn hp (thn (T.done X rfl rfl rfl hc i pins s3 σ3 H3 X.xe I3 (stat fr3) st3 stop) fun r s4 hh1=>?_)
  obtain ⟨hr,I4⟩:=hh1
  subst hr
  exact wpAny_execs_nil ⟨σ3,H3,I4,qn⟩
 ·refine wpAny_passesOwn hp (thn (T.item X rfl rfl rfl hc i pins s3 σ3 H3 X.xe I3 (stat fr3) st3 go) fun r s4 hh2=>?_)
  obtain ⟨u,hr,h4⟩:=hh2
  subst hr
  refine wpAny_passesOwn hp (thn h4 fun _ s5 hh3=>?_)
  obtain ⟨x,H5,I5,r5,y5,st5,fr5⟩:=hh3
  have I5':=I5.pinned (stat fr5) (T.obj _ _ st5)
  refine wpAny_passesOwn hp (thn (hg _ s5 σ3 H5 x u _ I5' r5 (step x H5 y5)) fun _ s6 hh4=>?_)
  obtain ⟨σ6,H6,I6,q6⟩:=hh4
  refine wpAny_passesOwn hp (thn (hb _ s6 σ6 H6 _ I6 q6) fun f s7 q7=>?_)
  have again:∀{σ7:St} {H7:Hp},Inv X (pins++pinsAt fp s5.heap) σ7 H7 s7→N σ7 H7→∃m,m<n∧∃i σ' H',Inv X pins σ' H' s7∧tn i s7.heap∧(∀b∈fp,H' b=none)∧W i m σ' H':=fun {σ7 H7} I7 n7=>by
   obtain ⟨m',hm,w7⟩:=hN σ7 H7 n7
   refine ⟨m',hm,i+1,σ7,H7,I7.unpinned,T.keep _ _ _ st5 fun b hb o e=>(I7.pin (b,o) (List.mem_append_right _ (List.mem_append_right _ (q3l hb e)))).1,fun b hb=>?_,w7⟩
   obtain ⟨o,e,d⟩:=T.obj _ _ st5 b hb
   exact (I7.pin (b,o) (List.mem_append_right _ (List.mem_append_right _ (q3l hb e)))).2.1
  cases f with
  | next=>obtain ⟨σ7,H7,I7,n7⟩:=q7; exact again I7 n7
  | cont=>obtain ⟨σ7,H7,I7,n7⟩:=q7; exact again I7 n7
  | brk=>obtain ⟨σ7,H7,I7,q7⟩:=q7; exact ⟨σ7,H7,I7.unpinned,q7⟩
  | ret v=>obtain ⟨x7,σ7,H7,I7,r7,q7⟩:=q7; exact ⟨x7,σ7,H7,I7.unpinned,r7,q7⟩
end
end L2
namespace L2
open PySem PySem.Spec PyProof.Rows
abbrev R2:=V→V→Hp→VK→Prop
def OpR (X:Cx) (f:Value→Value→Sem Value) (r:R2):Prop:=
 ∀(pins:List (Addr×Obj)) (s:Shared) (σ:St) (H:Hp) (x y:V) (v u:Value) (Q:VK),Inv X pins σ H s→RelV x v→RelV y u→r x y H Q→
  wpAny (model X.prog X.w) X.A (f v u) (EP X pins σ Q) X.xe s
def UnR (X:Cx) (f:Value→Sem Value) (r:V→Hp→VK→Prop):Prop:=
 ∀(pins:List (Addr×Obj)) (s:Shared) (σ:St) (H:Hp) (x:V) (v:Value) (Q:VK),Inv X pins σ H s→RelV x v→r x H Q→
  wpAny (model X.prog X.w) X.A (f v) (EP X pins σ Q) X.xe s
def q5v (X:Cx) (f:Value) (r:List V→Hp→VK→Prop):Prop:=
 ∀(pins:List (Addr×Obj)) (s:Shared) (σ:St) (H:Hp) (xs:List V) (us:List Value) (Q:VK),Inv X pins σ H s→Vals xs us→r xs H Q→
  wpAny (model X.prog X.w) X.A (call f us) (EP X pins σ Q) X.xe s
def TruR (X:Cx) (r:V→Hp→(Bool→Hp→Prop)→Prop):Prop:=
 ∀(pins:List (Addr×Obj)) (s:Shared) (σ:St) (H:Hp) (x:V) (v:Value) (Q:Bool→Hp→Prop),Inv X pins σ H s→RelV x v→r x H Q→
  wpAny (model X.prog X.w) X.A (truthy v) (TP X pins σ Q) X.xe s
def tOp (r:R2) (ta tb:TE):TE:=fun σ H Q=>ta σ H fun x H1=>tb σ H1 fun y H2=>r x y H2 Q
def tUn (r:V→Hp→VK→Prop) (ta:TE):TE:=fun σ H Q=>ta σ H fun x H1=>r x H1 Q
def rI (C:Int→Int→Prop) (g:Int→Int→V):R2:=fun x y H Q=>∃i j,x=.int i∧y=.int j∧C i j∧Q (g i j) H
def rI0 (g:Int→Int→V):R2:=fun x y H Q=>∃i j,x=.int i∧y=.int j∧Q (g i j) H
def rU (g:Int→V):V→Hp→VK→Prop:=fun x H Q=>∃i,x=.int i∧Q (g i) H
section
variable {X:Cx} {a b c:Expr} {ta tb tc:TE} {pos:Pos}
theorem binT (ha:PE X a ta) (hb:PE X b tb) {pins:List (Addr×Obj)} {s:Shared} {σ:St} {H:Hp} {R:V→V→Hp→Prop} (I:Inv X pins σ H s)
  (h:ta σ H fun x H1=>tb σ H1 fun y H2=>R x y H2) {Q:Value→Shared→Prop} {f:Value→Value→Sem Value}
  (hf:∀v u s2 x y H2,Inv X pins σ H2 s2→RelV x v→RelV y u→R x y H2→wpAny (model X.prog X.w) X.A (f v u) Q X.xe s2) :
  wpAny (model X.prog X.w) X.A (eval a X.env) (fun v s₁=>wpAny (model X.prog X.w) X.A (eval b X.env) (fun u s₂=>wpAny (model X.prog X.w) X.A (f v u) Q X.xe s₂) X.xe s₁) X.xe s:=by
 refine thn (ha pins s σ H _ I h) fun v s1 hh1=>?_
 obtain ⟨x,H1,I1,r1,q1⟩:=hh1
 refine thn (hb pins s1 σ H1 _ I1 q1) fun u s2 hh2=>?_
 obtain ⟨y,H2,I2,r2,q2⟩:=hh2
 exact hf v u s2 x y H2 I2 r1 r2 q2
theorem pe_op {op:Operator} {r:R2} (ho:OpR X (binaryOp op) r) (ha:PE X a ta) (hb:PE X b tb):PE X (.BinOp a op b pos) (tOp r ta tb):=by
 intro pins s σ H Q I h
 exact wpAny_BinOp (binT ha hb I h fun v u s2 x y H2 I2 rx ry q=>ho pins s2 σ H2 x y v u Q I2 rx ry q)
theorem pe_un {op:UnaryOp} {r:V→Hp→VK→Prop} (ho:UnR X (unaryOp op) r) (ha:PE X a ta):PE X (.UnaryOp op a pos) (tUn r ta):=by
 intro pins s σ H Q I h
 exact UnaryOp_ (thn (ha pins s σ H _ I h) fun v s1 hh1=>by obtain ⟨x,H1,I1,r1,q1⟩:=hh1; exact (ho pins s1 σ H1 x v Q I1 r1 q1))
theorem opI {f:Value→Value→Sem Value} {C:Int→Int→Prop} {g:Int→Int→Int}
  (rule:∀(i j:Int) (t u:Tok) (s:Shared) (Q:Value→Shared→Prop) (E:Value→Shared→Prop),C i j→Q (.int (g i j) s.toks) { s with toks:=s.toks+1 }→wpAny (model X.prog X.w) X.A (f (.int i t) (.int j u)) Q E s) :
  OpR X f (rI C fun i j=>.int (g i j)):=by
 intro pins s σ H x y v u Q I rx ry h
 obtain ⟨i,j,rfl,rfl,hc,q⟩:=h
 obtain ⟨t,rfl⟩:=rx
 obtain ⟨t',rfl⟩:=ry
 exact rule i j t t' s _ _ hc ⟨.int (g i j),H,I.tok _,⟨_,rfl⟩,q⟩
theorem opI0 {f:Value→Value→Sem Value} {g:Int→Int→Int}
  (rule:∀(i j:Int) (t u:Tok) (s:Shared) (Q:Value→Shared→Prop) (E:Value→Shared→Prop),Q (.int (g i j) s.toks) { s with toks:=s.toks+1 }→wpAny (model X.prog X.w) X.A (f (.int i t) (.int j u)) Q E s) :
  OpR X f (rI0 fun i j=>.int (g i j)):=by
 intro pins s σ H x y v u Q I rx ry h
 obtain ⟨i,j,rfl,rfl,q⟩:=h
 obtain ⟨t,rfl⟩:=rx
 obtain ⟨t',rfl⟩:=ry
 exact rule i j t t' s _ _ ⟨.int (g i j),H,I.tok _,⟨_,rfl⟩,q⟩
theorem opB0 {f:Value→Value→Sem Value} {g:Int→Int→Bool}
  (rule:∀(i j:Int) (t u:Tok) (s:Shared) (Q:Value→Shared→Prop) (E:Value→Shared→Prop),Q (.bool (g i j)) s→wpAny (model X.prog X.w) X.A (f (.int i t) (.int j u)) Q E s) :
  OpR X f (rI0 fun i j=>.bl (g i j)):=by
 intro pins s σ H x y v u Q I rx ry h
 obtain ⟨i,j,rfl,rfl,q⟩:=h
 obtain ⟨t,rfl⟩:=rx
 obtain ⟨t',rfl⟩:=ry
 exact rule i j t t' s _ _ ⟨.bl (g i j),H,I,rfl,q⟩
def CPow (i j:Int):Prop:=0≤j∧j≤1000000∧i.natAbs<2 ^ 64
def CMul (i j:Int):Prop:=(-(2 ^ 64)<i∧i<2 ^ 64)∨(-(2 ^ 64)<j∧j<2 ^ 64)
theorem CMul.ok {i j:Int} (h:CMul i j):IntMulOk i j:=by
 rcases h with ⟨h1,h2⟩ | ⟨h1,h2⟩
 ·exact .of_left (intBits_le_64 h1 h2)
 ·exact .of_right (intBits_le_64 h1 h2)
theorem op_add:OpR X (binaryOp .Add) (rI0 fun i j=>.int (i+j)):=opI0 fun _ _ _ _ _ _ _ q=>add_int q
theorem op_sub:OpR X (binaryOp .Sub) (rI0 fun i j=>.int (i - j)):=opI0 fun _ _ _ _ _ _ _ q=>sub_int q
theorem op_mul:OpR X (binaryOp .Mult) (rI CMul fun i j=>.int (i*j)):=opI fun _ _ _ _ _ _ _ hc q=>mul_int q hc.ok
theorem op_mod:OpR X (binaryOp .Mod) (rI (fun _ j=>0<j) fun i j=>.int (i % j)):=opI fun i j _ _ _ _ _ hc q=>by
 have h1:(0:Int)<j:=hc
 exact mod_int' (by omega) (by rw [Int.fmod_eq_emod_of_nonneg i (by omega)]; exact q)
theorem op_pow:OpR X (binaryOp .Pow) (rI CPow fun i j=>.int (i ^ j.toNat)):=opI fun _ _ _ _ _ _ _ hc q=>pow_int_small hc.1 hc.2.1 hc.2.2 q
theorem unI {f:Value→Sem Value} {g:Int→Int}
  (rule:∀(i:Int) (t:Tok) (s:Shared) (Q:Value→Shared→Prop) (E:Value→Shared→Prop),Q (.int (g i) s.toks) { s with toks:=s.toks+1 }→wpAny (model X.prog X.w) X.A (f (.int i t)) Q E s) :
  UnR X f (rU fun i=>.int (g i)):=by
 intro pins s σ H x v Q I rx h
 obtain ⟨i,rfl,q⟩:=h
 obtain ⟨t,rfl⟩:=rx
 exact rule i t s _ _ ⟨.int (g i),H,I.tok _,⟨_,rfl⟩,q⟩
theorem un_neg:UnR X (unaryOp .USub) (rU fun i=>.int (-i)):=unI fun _ _ _ _ _ q=>neg_int q
end
section
variable {X:Cx} {a b c:Expr} {ta tb tc:TE} {pos:Pos}
theorem fin_bl {pins:List (Addr×Obj)} {σ:St} {H:Hp} {s:Shared} {Q:VK} {k k':Bool} (I:Inv X pins σ H s) (q:Q (.bl k) H) (e:k=k'):EP X pins σ Q (.bool k') s:=by
 subst e
 exact ⟨.bl k,H,I,rfl,q⟩
theorem op_lt:OpR X (compareOp .Lt) (rI0 fun i j=>.bl (decide (i<j))):=opB0 fun _ _ _ _ _ _ _ q=>lt_int q
theorem op_gt:OpR X (compareOp .Gt) (rI0 fun i j=>.bl (decide (j<i))):=opB0 fun _ _ _ _ _ _ _ q=>gt_int q
theorem op_ge:OpR X (compareOp .GtE) (rI0 fun i j=>.bl (decide (j≤i))):=opB0 fun _ _ _ _ _ _ _ q=>ge_int q
theorem op_in_str:OpR X (compareOp .In) (fun x y H Q=>∃i j,x=.str i∧y=.str j∧Q (.bl (!(Builtin.Str.occurrences j i 0 j.length 1).isEmpty)) H):=by
 intro pins s σ H x y v u Q I rx ry h
 obtain ⟨i,j,rfl,rfl,q⟩:=h
 obtain ⟨t,rfl⟩:=rx
 obtain ⟨t',rfl⟩:=ry
 exact in_str (fin_bl I q rfl)
theorem op_isN : OpR X (compareOp .Is) (fun x y H Q => y = .non ∧ Q (.bl (decide (x = .non))) H) := by
 intro pins s σ H x y v u Q I rx ry h
 obtain ⟨rfl, q⟩ := h
 cases ry
 refine is_none_gen (fin_bl I q ?_)
 cases x <;> first
  | (cases rx; rfl)
  | (obtain ⟨t, rfl⟩ := rx; rfl)
theorem q0u (b:Expr) {op:CmpOp} (h:op≠.In:=by decide) (h2:op≠.NotIn:=by decide):behindInMarks op b=false:=by
 have e1:(op == CmpOp.In)=false:=by cases op<;>first | rfl | exact absurd rfl h
 have e2:(op == CmpOp.NotIn)=false:=by cases op<;>first | rfl | exact absurd rfl h2
 cases b<;>simp [behindInMarks,e1,e2]
theorem pe_cmpR {op:CmpOp} {r:R2} (ho:OpR X (compareOp op) r) (ha:PE X a ta) (hb:PE X b tb) (hm:behindInMarks op b=false):PE X (.Compare a [op] [b] pos) (tOp r ta tb):=by
 intro pins s σ H Q I h
 exact wpAny_Compare1 (binT ha hb I h fun v u s2 x y H2 I2 rx ry q=>ho pins s2 σ H2 x y v u Q I2 rx ry q) hm
def tTest (t:TE):TT:=fun σ H Q=>t σ H fun x H'=>∃k,x=.bl k∧Q k H'
theorem pt_cmpR {op:CmpOp} {r:R2} (ho:OpR X (compareOp op) r) (ha:PE X a ta) (hb:PE X b tb) (hm:behindInMarks op b=false):PT X (.Compare a [op] [b] pos) (tTest (tOp r ta tb)):=by
 intro pins s σ H Q I h
 refine wpAny_isTrue_Compare1 (thn (ha pins s σ H _ I h) fun v s1 ⟨x,H1,I1,r1,q1⟩=>thn (hb pins s1 σ H1 _ I1 q1) fun u s2 ⟨y,H2,I2,r2,q2⟩=>
  thn (ho pins s2 σ H2 x y v u _ I2 r1 r2 q2) fun c s3 ⟨z,H3,I3,r3,k,e,q3⟩=>?_) hm
 subst e
 cases r3
 exact wpAny_truthy_bool ⟨H3,I3,q3⟩
def TruV (K:PySem.W.Frag) (x:V) (H:Hp) (k:Bool):Prop:=
 match x with
 | .non=>k=false
 | .bl b=>k=b
 | .int i=>k=(i != 0)
 | .str y=>y.length≤sizeLine∧k=((y.length:Int) != 0)
 | .byt y=>y.size≤sizeLine∧k=((y.size:Int) != 0)
 | .ref p=>(∃xs,SqL K H p xs∧k=!xs.isEmpty)∨(∃xs,SqT K H p xs∧k=!xs.isEmpty)∨∃kvs,H p=some (.dK kvs)∧k=!kvs.isEmpty
 | _=>False
theorem isEmpty_kv {κ:Type} {kvs:List (κ×V)} {vs:List (κ×Value)} (r:KV kvs vs):(!vs.isEmpty)=!kvs.isEmpty:=by
 cases r<;>rfl
theorem isEmpty_of {xs:List V} {its:List Value} (r:Vals xs its):(!its.toArray.isEmpty)=!xs.isEmpty:=by
 cases r<;>simp
theorem q9f:(sizeLine:Nat)<2 ^ 63:=by rw [sizeLine_eq]; decide
theorem tru_ok:TruR X (fun x H Q=>∃k,TruV X.K x H k∧Q k H):=by
 intro pins s σ H x v Q I rx h
 obtain ⟨k,e,q⟩:=h
 have hl:=q9f
 have hs:sizeLine=16777216:=sizeLine_eq
 cases x with
 | non=>
  cases rx
  have e':k=false:=e
  subst e'
  exact truthy_none ⟨H,I,q⟩
 | bl b=>
  cases rx
  have e':k=b:=e
  subst e'
  exact wpAny_truthy_bool ⟨H,I,q⟩
 | int i=>
  obtain ⟨t,rfl⟩:=rx
  have e':k=(i != 0):=e
  subst e'
  exact PySem.P.truthy_int ⟨H,I,q⟩
 | str y=>
  obtain ⟨t,rfl⟩:=rx
  obtain ⟨hy,e'⟩:y.length≤sizeLine∧k=((y.length:Int) != 0):=e
  subst e'
  exact PySem.P.truthy_str (by omega) ⟨H,I.tok _,q⟩
 | byt y=>
  obtain ⟨t,rfl⟩:=rx
  obtain ⟨hy,e'⟩:y.size≤sizeLine∧k=((y.size:Int) != 0):=e
  subst e'
  exact PySem.W.truthy_bytes (by omega) ⟨H,I.tok _,q⟩
 | ref p=>
  cases rx
  have e':(∃xs,SqL X.K H p xs∧k=!xs.isEmpty)∨(∃xs,SqT X.K H p xs∧k=!xs.isEmpty)∨∃kvs,H p=some (.dK kvs)∧k=!kvs.isEmpty:=e
  rcases e' with ⟨xs,hx,e'⟩ | ⟨xs,hx,e'⟩ | ⟨kvs,hx,e'⟩
  ·subst e'
   obtain ⟨its,r,pl,hz⟩:=I.list hx
   have hlen:=r.length
   exact wpAny_truthy_list pl.isList (by simp only [List.size_toArray]; omega) ⟨H,I.tok _,by rw [isEmpty_of r]; exact q⟩
  ·subst e'
   obtain ⟨its,r,pl,hz⟩:=I.tuple hx
   have hlen:=r.length
   exact truthy_tuple pl (by simp only [List.size_toArray]; omega) ⟨H,I.tok _,by rw [isEmpty_of r]; exact q⟩
  ·subst e'
   obtain ⟨hz,hS,vs,r,m⟩:kvs.length≤sizeLine∧(p == sysModules)=false∧∃vs,KV kvs vs∧s.heap.DictOf (q1n X.prog X.w) p vs:=I.hok p _ hx
   have hlen:kvs.length=vs.length:=Paired.length r
   exact wpAny_truthy_dict hS m (by omega) ⟨H,I.tok _,by rw [isEmpty_kv r]; exact q⟩
 | _=>exact (show False from e).elim
theorem pt_truth (ha:PE X a ta) (he:∀whole,isTrue a X.env whole=(do let v ←whole; standAt a.pos; holding [v] (truthy v))) :
  PT X a (fun σ H Q=>ta σ H fun x H'=>∃k,TruV X.K x H' k∧Q k H'):=by
 intro pins s σ H Q I h
 exact isTrue_plain (thn (ha pins s σ H _ I h) fun v s1 hh1=>by obtain ⟨x,H1,I1,r1,q1⟩:=hh1; exact (tru_ok pins s1 σ H1 x v Q I1 r1 q1)) (he _)
theorem op_add_str:OpR X (binaryOp .Add) (fun x y H Q=>∃i j,x=.str i∧y=.str j∧i.length+j.length≤sizeLine∧Q (.str (i++j)) H):=by
 intro pins s σ H x y v u Q I rx ry h
 obtain ⟨i,j,rfl,rfl,hz,q⟩:=h
 obtain ⟨t,rfl⟩:=rx
 obtain ⟨t',rfl⟩:=ry
 exact add_str (fun t' tk=>⟨.str (i++j),H,I.tok _,⟨_,rfl⟩,q⟩) hz
theorem vals1 {x:V} {us:List Value} (r:Vals [x] us):∃u,us=[u]∧RelV x u:=by
 cases r with
 | cons r1 r2=>cases r2; exact ⟨_,rfl,r1⟩
theorem vals2 {x y:V} {us:List Value} (r:Vals [x,y] us):∃u w',us=[u,w']∧RelV x u∧RelV y w':=by
 cases r with
 | cons r1 r2=>
  cases r2 with
  | cons r3 r4=>cases r4; exact ⟨_,_,rfl,r1,r3⟩
end
end L2
namespace L2
open PySem PySem.Spec PyProof.Rows
structure ObjM (h:Heap) (x dx C:Addr) (mA:Str→Option Value):Prop where
 obj:h.get? x=some (PySem.W.instObj C dx)
 ns:h.Ns1 dx mA
 ne:dx≠x
theorem lookIn_ns {h:Heap} {dx:Addr} {mA:Str→Option Value} (n:h.Ns1 dx mA):∃od,h.get? dx=some od∧∀name,PySem.W.lookIn name od=some (mA name):=by
 obtain ⟨o,es,ep,ho,hd,hk,_,hm⟩:=n
 refine ⟨o,ho,fun name=>?_⟩
 have e:=hm name
 unfold nsFind findBy at e
 rw [←Array.find?_toList] at e
 unfold PySem.W.lookIn
 rw [hd]
 dsimp only
 split
 ·rename_i y q
  rw [q] at e
  exact congrArg some e
 ·rename_i q
  rw [q] at e
  have a:es.toList.any (·.refKey)=false:=by
   rw [List.any_eq_false]
   intro y hy
   obtain ⟨z,t,hkey⟩:=hk y (Array.mem_toList_iff.mp hy)
   simp [DictEntry.refKey,hkey]
  have a':¬es.toList.any (·.refKey)=true:=by rw [a]; exact Bool.false_ne_true
  rw [if_neg a']
  exact congrArg some e
theorem ObjM.look {h:Heap} {x dx C:Addr} {mA:Str→Option Value} (I:ObjM h x dx C mA):∃od,PySem.W.InstAt h x (PySem.W.instObj C dx) C (some od)∧∀name,PySem.W.lookIn name od=some (mA name):=
 let ⟨od,ho,hl⟩:=lookIn_ns I.ns
 ⟨od,⟨I.obj,rfl,rfl,ho⟩,hl⟩
section
variable {prog:Program} {w:World} {A:Around} {E:Value→Shared→Prop} {s:Shared} {K:PySem.W.Frag} {x dx C f:Addr} {mA:Str→Option Value} {name:Str} {v:Value}
end
theorem RelO.some_of {v:V} {o:Option Value} (r:RelO (some v) o):∃u,o=some u∧RelV v u:=by
 cases o with
 | none=>exact (show False from r).elim
 | some u=>exact ⟨u,rfl,r⟩
section
variable {P:Program} {w:World} {H H':Hp} {h h':Heap} {a C dx:Addr} {fs fs':List (Str×V)}
theorem ins_get (hok:HOk P w H h) (e:H a=some (.ins C dx fs)):∃mA,ObjM h a dx C mA∧(∀f,RelO (fs.lookup f) (mA f))∧PySem.Within mA (fs.map (·.1))∧fs.length≤1000∧H dx=some (.own a):=by
 obtain ⟨d,z,ne,ob,mA,n,r,q⟩:=(show q3a P w H h a (.ins C dx fs) from hok a _ e)
 exact ⟨mA,⟨ob,n,ne⟩,r,q,z,d⟩
end
structure Cls (K:PySem.W.Frag) (C:Addr):Prop where
 pg:PySem.W.plainGet K C Str.empty=true
 hd:PySem.W.hasDictIn K C=true
 po:PySem.W.plainOver K C=true
 sa:PySem.W.findIn K (.ref C) "__setattr__" = some (some (.builtin "object.__setattr__"))
theorem Cls.get {K:PySem.W.Frag} {C:Addr} (c:Cls K C) (f:Str):PySem.W.plainGet K C f=true:=c.pg
structure Con (K:PySem.W.Frag) (C:Addr) (f:Str) (v:V) (u:Value):Prop where
 at_:PySem.W.findIn K (.ref C) f=some (some u)
 rel:RelV v u
 get:PySem.W.specialIn K u "__get__" = some none
 cp:PySem.W.copiedNames.contains f=false
structure Meth (K:PySem.W.Frag) (C:Addr) (m:Str) (f:Addr):Prop where
 at_:PySem.W.findIn K (.ref C) m=some (some (.ref f))
 fn:PySem.W.isFn K (.ref f)=true
 kp:PySem.W.keepIn K (.ref f)=true
section
variable {X:Cx} {pins:List (Addr×Obj)} {σ:St} {H:Hp} {s:Shared} {a C dx:Addr} {fs:List (Str×V)} {f:Str} {v:V} {A:Around} {E:Value→Shared→Prop}
end
section
variable {X:Cx} {o e value:Expr} {f:Str} {pos pos' tpos:Pos} {ta tv:TE}
end
section
variable {X:Cx} {pins:List (Addr×Obj)} {σ:St} {H:Hp} {s:Shared} {A:Around} {E:Value→Shared→Prop} {Q:Value→Shared→Prop} {c:Value} {b:Bool}
inductive TyOf (K:PySem.W.Frag) (H:Hp):V→Value→Prop where
 | non:TyOf K H .non (.type "NoneType")
 | bl (x:Bool):TyOf K H (.bl x) (.type "bool")
 | int (i:Int):TyOf K H (.int i) (.type "int")
 | str (x:Str):TyOf K H (.str x) (.type "str")
 | flt (x:UInt64):TyOf K H (.flt x) (.type "float")
 | lst {a:Addr} {xs:List V} (e:H a=some (.lst xs)):TyOf K H (.ref a) (.type "list")
 | frz {a:Addr} {o:Obj} {xs:List V} (e:H a=some (.frz o (.lst xs))):TyOf K H (.ref a) (.type "list")
 | tup {a:Addr} {xs:List V} (e:H a=some (.tup xs)):TyOf K H (.ref a) (.type "tuple")
 | dK {a:Addr} {kvs:List (Key×V)} (e:H a=some (.dK kvs)):TyOf K H (.ref a) (.type "dict")
 | dT {a:Addr} {kvs:List (List Key×V)} (e:H a=some (.dT kvs)):TyOf K H (.ref a) (.type "dict")
 | ins {a C dx:Addr} {fs:List (Str×V)} (e:H a=some (.ins C dx fs)) (cl:Cls K C) (ha:PySem.W.findIn K (.ref C) "__class__" = some (some (.builtin "object.__class__")))
   (hn:PySem.W.specialIn K (.builtin "object.__class__") "__get__" = some (some (.builtin "getset_descriptor.__get__"))) (htk:PySem.W.takesIn K (.builtin "object.__class__")=some true)
   (hm:PySem.W.mroIn K C (.type "object")=some true):TyOf K H (.ref a) (.ref C)
theorem isinst_ok {x:V} {u t:Value} (I:Inv X pins σ H s) (rx:RelV x u) (ty:TyOf X.K H x t) (e:PySem.W.kitOne X.K t c=some b) (h:∀tk,Q (.bool b) { s with toks:=tk }) :
  wpAny (model X.prog X.w) A (call (.builtin "isinstance") [u,c]) Q E s:=by
 cases ty with
 | non=>cases (show u=Value.none from rx); exact PySem.W.kia_one PySem.W.kitx_none I.kIn True.intro e (fun z=>nomatch z) h
 | bl y=>cases (show u=Value.bool y from rx); exact PySem.W.kia_one PySem.W.kitx_bool I.kIn True.intro e (fun z=>nomatch z) h
 | int i=>obtain ⟨t,q⟩:=(show ∃t,u=Value.int i t from rx); cases q; exact PySem.W.kia_one PySem.W.kitx_int I.kIn True.intro e (fun z=>nomatch z) h
 | str y=>obtain ⟨t,q⟩:=(show ∃t,u=Value.str y t from rx); cases q; exact PySem.W.kia_one PySem.W.kitx_str I.kIn True.intro e (fun z=>nomatch z) h
 | flt y=>obtain ⟨t,q⟩:=(show ∃t,u=Value.float y t from rx); cases q; exact PySem.W.kia_one PySem.W.kitx_float I.kIn True.intro e (fun z=>nomatch z) h
 | @lst a xs ea=>
  cases (show u=Value.ref a from rx)
  obtain ⟨_,_,n,_,h1⟩:=(show q3a X.prog X.w H s.heap a (.lst xs) from I.hok a _ ea)
  exact PySem.W.kia_one PySem.W.kitx_list I.kIn ⟨_,h1,rfl⟩ e (fun z=>nomatch z) h
 | @frz a ob xs ea=>
  cases (show u=Value.ref a from rx)
  obtain ⟨_,_,_,n,_,h1⟩:=(show q3a X.prog X.w H s.heap a (.frz ob (.lst xs)) from I.hok a _ ea)
  exact PySem.W.kia_one PySem.W.kitx_list I.kIn ⟨_,h1,rfl⟩ e (fun z=>nomatch z) h
 | @tup a xs ea=>
  cases (show u=Value.ref a from rx)
  obtain ⟨_,_,_,p⟩:=(show q3a X.prog X.w H s.heap a (.tup xs) from I.hok a _ ea)
  obtain ⟨o,h1,h2,_⟩:=p
  exact PySem.W.kia_one PySem.W.kitx_tuple I.kIn ⟨o,h1,h2⟩ e (fun z=>nomatch z) h
 | @dK a kvs ea=>
  cases (show u=Value.ref a from rx)
  obtain ⟨_,_,vs,_,p⟩:=(show q3a X.prog X.w H s.heap a (.dK kvs) from I.hok a _ ea)
  obtain ⟨o,es,ep,h1,h2,_⟩:=p
  exact PySem.W.kia_one PySem.W.kitx_dict I.kIn ⟨o,h1,h2.1⟩ e (fun z=>nomatch z) h
 | @dT a kvs ea=>
  cases (show u=Value.ref a from rx)
  obtain ⟨_,_,xs,_,o,es,ep,h1,h2,_⟩:=(show q3a X.prog X.w H s.heap a (.dT kvs) from I.hok a _ ea)
  exact PySem.W.kia_one PySem.W.kitx_dict I.kIn ⟨o,h1,h2.1⟩ e (fun z=>nomatch z) h
 | @ins a C dx fs ea cl ha hn htk hm=>
  cases (show u=Value.ref a from rx)
  obtain ⟨mA,O,_⟩:=ins_get I.hok ea
  obtain ⟨od,J,_⟩:=O.look
  exact PySem.W.kia_one (PySem.W.kitx_own (cl.get _) cl.hd ha hn htk hm) I.kIn J e (fun z=>nomatch z) h
end
end L2
namespace L2
open PySem PySem.Spec PyProof.Rows
structure Room (k:Nat) (A:Around):Prop where
 hd:A.handled=none
 dp:A.depth+3*k+5<recursionLimit
 un:A.units+16*k+200<cLine
theorem Room.mono {j k:Nat} {A:Around} (r:Room k A) (h:j≤k):Room j A:=⟨r.hd,by have:=r.dp; omega,by have:=r.un; omega⟩
theorem Room.deeper {k:Nat} {A:Around} (r:Room (k+1) A) (env:Env):Room k (A.deeper env):=
 ⟨r.hd,by have:=r.dp; show A.depth+1+3*k+5<_; omega,by have:=r.un; show A.units+3+16*k+200<_; omega⟩
theorem Room.depth {k:Nat} {A:Around} (r:Room k A):A.depth<recursionLimit:=by have:=r.dp; omega
def tNil:TA:=fun _ H Q=>Q [] H
def tCons (ta:TE) (tr:TA):TA:=fun σ H Q=>ta σ H fun x H1=>tr σ H1 fun xs H2=>Q (x::xs) H2
section
variable {X:Cx} {e:Expr} {es:List Expr} {te:TE} {t:TA} {pos:Pos}
theorem pa_nil:PA X [] tNil:=fun _ _ _ _ H Q I h=>Calls.spliced_nil ⟨[],H,I,.nil,h⟩
theorem q8x (ha:PE X e te) (hr:PA X es t) (hs:starEach (e::es) X.env=(false,eval e X.env)::starEach es X.env:=by rfl):PA X (e::es) (tCons te t):=by
 intro pos pins s σ H Q I h
 rw [hs]
 show wpAny _ _ (spliced ((false,eval e X.env)::backTo pos (starEach es X.env))) _ _ s
 refine Calls.spliced_cons (thn (ha pins s σ H _ I h) fun u s1 hh1=>?_)
 obtain ⟨x,H1,I1,r1,q1⟩:=hh1
 exact thn (hr pos pins s1 σ H1 _ I1 q1) fun us s2 hh2=>by obtain ⟨xs,H2,I2,r2,q2⟩:=hh2; exact (⟨x::xs,H2,I2,.cons r1 r2,q2⟩)
def tTup (t:TA):TE:=fun σ H Q=>t σ H fun xs H1=>xs.length≤sizeLine∧∀p,H1 p=none→Q (.ref p) (upd H1 p (.tup xs))
def tLst (t:TA):TE:=fun σ H Q=>t σ H fun xs H1=>xs.length≤sizeLine∧∀p,H1 p=none→Q (.ref p) (upd H1 p (.lst xs))
theorem pe_tup {x1} (h:PA X es t):PE X (.Tuple es x1 pos) (tTup t):=by
 intro pins s σ H Q I hq
 refine wpAny_Tuple_spliced (thn (h pos pins s σ H _ I hq) fun us s1 ⟨xs,H1,I1,r,z,q⟩=>⟨by rw [←r.length]; exact z,?_⟩)
 have hf:H1 s1.heap.objs.size=none:=I1.hok.fresh (Nat.le_refl _)
 refine ⟨.ref s1.heap.objs.size,upd H1 s1.heap.objs.size (.tup xs),I1.laid (t':=s1.toks) (fun b u e=>Heap.get?_push_of_some _ e) (Nat.le_refl _) ?_,rfl,q _ hf⟩
 exact ⟨z,us,r,⟨_,Heap.get?_push_size _ rfl,rfl,_,rfl⟩⟩
theorem pe_lst (h:PA X es t):PE X (.List es pos) (tLst t):=by
 intro pins s σ H Q I hq
 refine wpAny_List_spliced (thn (h pos pins s σ H _ I hq) fun us s1 ⟨xs,H1,I1,r,z,q⟩=>⟨by rw [←r.length]; exact z,?_⟩)
 have hf:H1 s1.heap.objs.size=none:=I1.hok.fresh (Nat.le_refl _)
 refine ⟨.ref s1.heap.objs.size,upd H1 s1.heap.objs.size (.lst xs),I1.laid (t':=s1.toks) (fun b u e=>Heap.get?_push_of_some _ e) (Nat.le_refl _) ?_,rfl,q _ hf⟩
 exact ⟨z,us,0,r,Heap.get?_push_size _ rfl⟩
end
abbrev Sp:=List V→Hp→VK→XK→Prop
abbrev CXT:=List Env→Hp→Shared→XK→Value→Shared→Prop
structure Env0 (P:Program) (w:World) (K:PySem.W.Frag) (mg:Str→Option Value) (base:Heap) (A:Around) (outer:List Env) (s:Shared) (H:Hp):Prop where
 frames:A.frames=some outer
 mod:Mod K mg base
 bs:∀b o,base.get? b=some o→s.heap.get? b=some o∧H b=none
 bsz:base.objs.size≤s.heap.objs.size
 funs:s.heap.FunFrames base outer
 frf:∀b∈frs outer,H b=none
 hok:HOk P w H s.heap
 bare:AllBare s.gens
def CE (outer:List Env) (P:Program) (w:World) (H:Hp) (s:Shared) (Q:VK) (u:Value) (s':Shared):Prop:=
 ∃v H',s'.os=s.os∧AllBare s'.gens∧Un (frs outer) [] H H' s.heap s'.heap∧HOk P w H' s'.heap∧RelV v u∧Q v H'
def CR (CX:CXT) (outer:List Env) (P:Program) (w:World) (H:Hp) (s:Shared) (Q:VK) (E:XK) (r:Result) (s':Shared):Prop:=
 match r with
 | .ok (.ret u)=>CE outer P w H s Q u s'
 | .ok _=>False
 | .error e=>CX outer H s E e s'
structure FnOk (P:Program) (w:World) (K:PySem.W.Frag) (mg:Str→Option Value) (base:Heap) (CX:CXT) (k:Nat) (f:Addr) (fd:FuncData) (ps:List Str) (sp:Sp):Prop where
 len:∀vs H Q E,sp vs H Q E→vs.length=ps.length
 run:∀(A:Around) (outer:List Env) (s:Shared) (H:Hp) (args:Args) (us:List Value) (vs:List V) (Q:VK) (E:XK),Room k A→Env0 P w K mg base A outer s H→BindsTo s fd args (ps.zip us)→Vals vs us→sp vs H Q E→
  codeAny (model P w) A (.call (.ref f) args) (CR CX outer P w H s Q E) s
theorem FnOk.mono {P:Program} {w:World} {K:PySem.W.Frag} {mg:Str→Option Value} {base:Heap} {CX:CXT} {j k:Nat} {f:Addr} {fd:FuncData} {ps:List Str} {sp:Sp} (F:FnOk P w K mg base CX j f fd ps sp) (h:j≤k) :
  FnOk P w K mg base CX k f fd ps sp:=⟨F.len,fun A outer s H args us vs Q E hr=>F.run A outer s H args us vs Q E (hr.mono h)⟩
section
variable {X:Cx} {pins:List (Addr×Obj)} {σ:St} {H:Hp} {s s':Shared}
theorem Inv.env0 (I:Inv X pins σ H s):Env0 X.prog X.w X.K X.mg X.base X.A X.stack s H:=
 ⟨I.ok.frames,I.ok.mod,I.bs,Nat.le_trans I.ok.bsz I.sz,I.stack,I.stkFree,I.hok,I.bare⟩
theorem Inv.after {Q:VK} {u:Value} (I:Inv X pins σ H s) (h:CE X.stack X.prog X.w H s Q u s'):EP X pins σ Q u s':=by
 obtain ⟨v,H',os,bare,un,hok,r,q⟩:=h
 obtain ⟨hh,g,d,t,os'⟩:=s'
 obtain rfl:os'=s.os:=os
 exact ⟨v,H',I.call (h':=hh) (g':=g) (d':=d) (t':=t) (ch:=[]) un hok bare (fun b z=>absurd z (by simp)),r,q⟩
end
def tCall (sp:Sp) (dvs:List V) (E:XK) (t:TA):TE:=fun σ H Q=>t σ H fun vs H1=>sp (vs++dvs) H1 Q E
def Binds (K:PySem.W.Frag) (fd:FuncData) (ps:List Str) (ds:List Value):Prop:=
 ∀(s:Shared) (us:List Value),K.In s.heap→(us++ds).length=ps.length→BindsTo s fd ⟨us,[]⟩ (ps.zip (us++ds))
theorem Binds.all {K:PySem.W.Frag} {fd:FuncData} {ps:List Str} (h:∀us:List Value,us.length=ps.length→bindArgs fd ⟨us,[]⟩=pure (ps.zip us)):Binds K fd ps []:=fun s us _ hl=>by
 rw [List.append_nil] at hl ⊢
 exact .of_eq (h us hl)
def q5h (CX:CXT) (X:Cx) (E:XK):Prop:=∀(pins:List (Addr×Obj)) (σ:St) (H:Hp) (s:Shared) (e:Value) (s':Shared),Inv X pins σ H s→CX X.stack H s E e s'→X.xe e s'
section
variable {X:Cx} {CX:CXT} {k:Nat} {f C:Addr} {fd:FuncData} {ps:List Str} {sp:Sp} {dvs:List V} {ds:List Value} {E:XK} {x m:Str} {p pos apos:Pos} {e o:Expr} {es:List Expr} {ta:TE} {t:TA}
theorem run_fn {pins:List (Addr×Obj)} {σ:St} {H:Hp} {s:Shared} {Q:VK} {us:List Value} {vs:List V} (F:FnOk X.prog X.w X.K X.mg X.base CX k f fd ps sp) (hr:Room k X.A) (hb:Binds X.K fd ps ds) (hd:Vals dvs ds) (hx:q5h CX X E)
  (I:Inv X pins σ H s) (r:Vals vs us) (h:sp (vs++dvs) H Q E):wpAny (model X.prog X.w) X.A (call (.ref f) us) (EP X pins σ Q) X.xe s:=by
 have r2:Vals (vs++dvs) (us++ds):=r.append hd
 have hl:(us++ds).length=ps.length:=by rw [←r2.length]; exact F.len _ _ _ _ h
 refine wpAny_call (codeAny_mono (F.run X.A X.stack s H ⟨us,[]⟩ (us++ds) (vs++dvs) Q E hr I.env0 (hb s us I.kIn hl) r2 h) fun r s' hq=>?_)
 cases r with
 | error e=>exact hx pins σ H s e s' I hq
 | ok fl=>
  cases fl with
  | ret u=>exact I.after hq
  | next=>exact False.elim hq
  | brk=>exact False.elim hq
  | cont=>exact False.elim hq
theorem pe_call (F:FnOk X.prog X.w X.K X.mg X.base CX k f fd ps sp) (hr:Room k X.A) (hg:Gl X x) (hm:X.mg x=some (.ref f)) (hk:PySem.W.keepIn X.K (.ref f)=true) (hb:Binds X.K fd ps ds) (hd:Vals dvs ds) (hx:q5h CX X E)
  (ha:PA X (e::es) t) (hdb:(x == ("__debug__" : Str))=false:=by decide) (he:starEach (e::es) X.env=(false,eval e X.env)::starEach es X.env:=by rfl) (hpl:(backTo pos (starEach es X.env)).any (·.1)=false:=by rfl) :
  PE X (.Call (.Name x p) (e::es) [] pos) (tCall sp dvs E t):=by
 intro pins s σ H Q I h
 refine wpAny_Call_Name_kw (q9h I hg hm ?_ hdb)
 refine PySem.W.callWith_K (h₀:=X.base) I.ok.mod.kin hk (thn (ha pos pins s σ H _ I h) fun us s1 ⟨vs,H1,I1,r,q⟩=>⟨I1.kIn,?_⟩) he hpl
 exact run_fn F hr hb hd hx I1 r q
structure Mk (K:PySem.W.Frag) (C f:Addr):Prop where
 makes:PySem.W.makesIn K C=true
 init:PySem.W.findIn K (.ref C) "__init__" = some (some (.ref f))
 fn:PySem.W.isFn K (.ref f)=true
 kp:PySem.W.keepIn K (.ref C)=true
end
section
variable {X:Cx} {CX:CXT} {k:Nat} {f C:Addr} {fd:FuncData} {ps ks:List Str} {sp:Sp} {E:XK} {x m:Str} {p pos apos kpos:Pos} {e o:Expr} {es:List Expr} {kws:List Keyword} {te ta:TE} {t tk:TA} {nm:Option Str}
structure KBinds (K:PySem.W.Frag) (fd:FuncData) (ps ks:List Str) (g:List Value→List Value→List Value) (gV:List V→List V→List V):Prop where
 to:∀(s:Shared) (us ws:List Value),K.In s.heap→(g us ws).length=ps.length→BindsTo s fd ⟨us,ks.zip ws⟩ (ps.zip (g us ws))
 rel:∀{vs:List V} {us:List Value} {zs:List V} {ws:List Value},Vals vs us→Vals zs ws→Vals (gV vs zs) (g us ws)
variable {g:List Value→List Value→List Value} {gV:List V→List V→List V}
end
structure FnScope (N P:List Str) (sc:Scope):Prop where
 kind:sc.kind=.function
 co:sc.isCoroutine=false
 gen:sc.isGenerator=false
 nd:N.Nodup
 pre:N.take P.length=P
 par:∀x∈P,sc.names.lookup x=some .local∨sc.names.lookup x=some .cell
 nofree:∀y∈sc.names,y.2≠.free
theorem bindL_out {kindOf : Str → Option NameKind} {x : Str} : ∀ {binds : List (Str × Value)} {m : Str → Option Value}, (∀ v, (x, v) ∉ binds) → bindL kindOf binds m x = m x
 | [], _, _ => rfl
 | (n, v) :: r, m, h => by
  unfold bindL
  rw [bindL_out fun w hw => h w (List.mem_cons_of_mem _ hw)]
  split
  ·have : x ≠ n := by rintro rfl; exact h v List.mem_cons_self
   simp [this]
  ·rfl
theorem bindC_out {kindOf : Str → Option NameKind} {x : Str} : ∀ {binds : List (Str × Value)} {m : Str → Option Value}, (∀ v, (x, v) ∉ binds) → bindC kindOf binds m x = m x
 | [], _, _ => rfl
 | (n, v) :: r, m, h => by
  unfold bindC
  rw [bindC_out fun w hw => h w (List.mem_cons_of_mem _ hw)]
  split
  ·rfl
  ·have : x ≠ n := by rintro rfl; exact h v List.mem_cons_self
   simp [this]
theorem bindL_get {kindOf:Str→Option NameKind} {x:Str} {v:Value}:∀{P:List Str} {vs:List Value} {i:Nat} {m:Str→Option Value},P.Nodup→P[i]?=some x→vs[i]?=some v→kindOf x=some .local→
  bindL kindOf (P.zip vs) m x=some v
 | [],_,_,_,_,h,_,_=>by simp at h
 | _::_,[],_,_,_,_,h,_=>by simp at h
 | p::P,w::vs,0,m,nd,h1,h2,hk=>by
  simp at h1 h2; subst h1; subst h2
  show bindL kindOf ((p,w)::P.zip vs) m p=_
  unfold bindL
  rw [bindL_out fun v hv=>(List.nodup_cons.mp nd).1 (List.of_mem_zip hv).1,if_pos hk]
  simp
 | p::P,w::vs,i+1,m,nd,h1,h2,hk=>by
  show bindL kindOf ((p,w)::P.zip vs) m x=_
  unfold bindL
  exact bindL_get (i:=i) (List.nodup_cons.mp nd).2 (by simpa using h1) (by simpa using h2) hk
theorem bindC_get {kindOf:Str→Option NameKind} {x:Str} {v:Value}:∀{P:List Str} {vs:List Value} {i:Nat} {m:Str→Option Value},P.Nodup→P[i]?=some x→vs[i]?=some v→kindOf x≠some .local→
  bindC kindOf (P.zip vs) m x=some v
 | [],_,_,_,_,h,_,_=>by simp at h
 | _::_,[],_,_,_,_,h,_=>by simp at h
 | p::P,w::vs,0,m,nd,h1,h2,hk=>by
  simp at h1 h2; subst h1; subst h2
  show bindC kindOf ((p,w)::P.zip vs) m p=_
  unfold bindC
  rw [bindC_out fun v hv=>(List.nodup_cons.mp nd).1 (List.of_mem_zip hv).1,if_neg hk]
  simp
 | p::P,w::vs,i+1,m,nd,h1,h2,hk=>by
  show bindC kindOf ((p,w)::P.zip vs) m x=_
  unfold bindC
  exact bindC_get (i:=i) (List.nodup_cons.mp nd).2 (by simpa using h1) (by simpa using h2) hk
def q8o (N:List Str) (vs:List V):St:=vs.map some++List.replicate (N.length - vs.length) none
def cxOf (CX:CXT) (P:Program) (w:World) (K:PySem.W.Frag) (mg:Str→Option Value) (base:Heap) (N:List Str) (qual:Str) (scope:Scope) (f:Addr) (cd:Value) (A:Around) (outer:List Env) (s:Shared) (H:Hp) (E:XK):Cx where
 prog:=P
 w:=w
 K:=K
 mg:=mg
 base:=base
 A:=A.deeper (envOfC qual scope s.heap.objs.size f cd)
 N:=N
 s₀:=s
 H₀:=H
 env:=envOfC qual scope s.heap.objs.size f cd
 outer:=outer
 stack:=envOfC qual scope s.heap.objs.size f cd::outer
 ex:=[]
 calm:=true
 fn:=fun _=>true
 pn:=[]
 xe:=fun e s'=>wpAny (model P w) (A.deeper (envOfC qual scope s.heap.objs.size f cd)) (leaving (envOfC qual scope s.heap.objs.size f cd) e) (fun _ s''=>CX outer H s E e s'') (fun e' s''=>CX outer H s E e' s'') s'
theorem cell_has {sc:Scope} {n:Nat} {x:Str} (h:sc.names.lookup x=some .cell):∃c,(cellsFrom n sc.names []).lookup x=some c:=by
 have q:=PySem.W.cellsFrom_some sc.names n [] (.inl h)
 exact Option.isSome_iff_exists.mp q
theorem inv_start {CX:CXT} {P:Program} {w:World} {K:PySem.W.Frag} {mg:Str→Option Value} {base:Heap} {N ps:List Str} {qual:Str} {scope:Scope} {f:Addr} {cd:Value} {A:Around} {outer:List Env} {s s1:Shared} {H:Hp} {E:XK} {us:List Value} {vs:List V}
  (S:FnScope N ps scope) (hd:A.handled=none) (e0:Env0 P w K mg base A outer s H) (hl:vs.length=ps.length) (r:Vals vs us)
  (x:InCallC s s.heap.objs.size (bindL (envOfC qual scope s.heap.objs.size f cd).kindOf (ps.zip us) fun _=>none) (cellsFrom (s.heap.objs.size+1) scope.names []) (bindC (envOfC qual scope s.heap.objs.size f cd).kindOf (ps.zip us) fun _=>none) s1) :
  Inv (cxOf CX P w K mg base N qual scope f cd A outer s H E) [] (q8o N vs) H s1:=by
 have hpl:ps.length≤N.length:=by have:=congrArg List.length S.pre; rw [List.length_take] at this; omega
 obtain ⟨h1,tk,rfl,hk⟩:=x.done
 have noA:∀b:Addr,b∉(cxOf CX P w K mg base N qual scope f cd A outer s H E).ex:=fun b z=>absurd (show b∈([]:List Addr) from z) (by simp)
 refine ⟨⟨e0.mod,S.kind,rfl,rfl,Nat.le_refl _,fun y z c h1 h2=>?_,fun y hy=>?_,fun y c _ h=>?_,fun _=>hd,Around.frames_deeper e0.frames,.inr ⟨rfl,rfl⟩,fun b z=>absurd z (noA b),e0.bs,e0.bsz,fun b _ _=>noA b,fun b z=>absurd z (noA b),e0.funs,e0.frf⟩,
  rfl,e0.bare,Un.kept hk,⟨_,x.toInCall.ns,fun i y v h1 h2 h3=>?_⟩,fun y c h=>⟨_,x.cell y c h⟩,e0.hok.fresh (Nat.le_refl _),fun y c h=>?_,fun p hp=>absurd (show p∈([]:List (Addr×Obj)) from hp) (by simp),e0.hok.kept hk,?_⟩
 ·exact name_of_addr x.apart (PySem.mem_of_lookup h1) (PySem.mem_of_lookup h2)
 ·have hy:scope.names.lookup y=some .cell∨scope.names.lookup y=some .free:=hy
  rcases hy with hy | hy
  ·exact cell_has hy
  ·exact absurd rfl (S.nofree _ (PySem.mem_of_lookup hy))
 ·exact Nat.le_of_lt (x.above y c (PySem.mem_of_lookup h))
 ·have hi:i<vs.length:=by
   unfold q8o at h2
   by_cases hi:i<vs.length
   ·exact hi
   ·rw [List.getElem?_append_right (by simpa using hi)] at h2
    rw [List.getElem?_replicate] at h2
    split at h2<;>cases h2
  have ha:vs[i]?=some v:=by
   unfold q8o at h2
   rw [List.getElem?_append_left (by simpa using hi),List.getElem?_map] at h2
   cases e:vs[i]? with
   | none=>rw [e] at h2; cases h2
   | some a=>rw [e] at h2; cases h2; rfl
  obtain ⟨u,hu,rv⟩:=r.get ha
  have hp:ps[i]?=some y:=by
   rw [←S.pre,List.getElem?_take_of_lt (by omega)]; exact h1
  have ndP:ps.Nodup:=by rw [←S.pre]; exact S.nd.sublist (List.take_sublist _ _)
  refine ⟨u,rv,?_⟩
  rcases S.par y (List.mem_of_getElem? hp) with k | k
  ·exact .inl ⟨k,bindL_get ndP hp hu k⟩
  ·obtain ⟨c,e⟩:=cell_has (n:=s.heap.objs.size+1) k
   refine .inr ⟨.inl k,c,e,?_⟩
   have q:=x.cell y c e
   rw [bindC_get ndP hp hu (by show scope.names.lookup y≠_; rw [k]; decide)] at q
   exact q
 ·exact e0.hok.fresh (Nat.le_of_lt (x.above y c (PySem.mem_of_lookup h)))
 ·unfold q8o
  show _=N.length
  rw [List.length_append,List.length_map,List.length_replicate]
  omega
theorem fn_of {CX:CXT} {P:Program} {w:World} {K:PySem.W.Frag} {mg:Str→Option Value} {base:Heap} {k:Nat} {f:Addr} {name qual:Str} {params:Arguments} {body:List Stmt} {scope:Scope} {dV kV doc pm cdv ct oc:Value} {an od:Option Addr}
  {osl:Array (Option Value)} {N ps:List Str} {sp:Sp} (lk:K.lookup f=some ⟨oc,od,.func (PySem.W.fnOf name qual params body scope dV kV doc pm an cdv ct),osl⟩) (hcd:PySem.W.codeIn K cdv qual=true) (S:FnScope N ps scope)
  (len:∀vs H Q E,sp vs H Q E→vs.length=ps.length)
  (hbody:∀(A:Around) (outer:List Env) (s:Shared) (H:Hp) (vs:List V) (Q:VK) (E:XK),Room k (A.deeper (envOfC qual scope s.heap.objs.size f cdv))→sp vs H Q E→
   ∃t,PSs (cxOf CX P w K mg base N qual scope f cdv A outer s H E) body t∧t { nx:=fun _ H'=>Q .non H',rt:=Q } (q8o N vs) H) :
  FnOk P w K mg base CX (k+1) f (PySem.W.fnOf name qual params body scope dV kV doc pm an cdv ct) ps sp:=by
 refine ⟨len,fun A outer s H args us vs Q E hr e0 hb r hsp=>?_⟩
 have hl:=len _ _ _ _ hsp
 have KX:K.In s.heap:=e0.mod.kin.keeps fun b o e=>(e0.bs b o e).1
 have lim:s.heap.NoLimit:=e0.mod.nolimit.keeps fun b o e=>(e0.bs b o e).1
 have hkind:∀y∈ps.zip us,scope.names.lookup y.1=some .local∨(scope.names.lookup y.1=some .cell∧((cellsFrom (s.heap.objs.size+1) scope.names []).lookup y.1).isSome=true):=fun hh1 hy=>by
  obtain ⟨n,v⟩:=hh1
  rcases S.par n (List.of_mem_zip hy).1 with q | q
  ·exact .inl q
  ·exact .inr ⟨q,PySem.W.cellsFrom_some _ _ _ (.inl q)⟩
 refine codeAny_call_function hr.depth (KX _ _ lk) rfl S.co S.gen rfl (PySem.W.codeRec_of KX hcd) (hb _ _ _ _ ?_)
 refine wpAny_newFunctionEnv_cells S.kind hkind fun env he s1 x=>?_
 subst he
 refine ⟨lim.keeps x.toInCall.keep,codeAny_func ?_⟩
 obtain ⟨t,ht,hq⟩:=hbody A outer s H vs Q E (hr.deeper _) hsp
 have I:Inv (cxOf CX P w K mg base N qual scope f cdv A outer s H E) [] (q8o N vs) H s1:=inv_start S hr.hd e0 hl r x
 refine wpAny_mono (ht [] s1 (q8o N vs) H _ I hq) (fun fl s' hs=>?_) fun e s' hs=>hs
 have fin:∀{σ':St} {H':Hp} {v:V} {u:Value},Inv (cxOf CX P w K mg base N qual scope f cdv A outer s H E) [] σ' H' s'→RelV v u→Q v H'→CE outer P w H s Q u s':=
  fun {σ' H' v u} J rv q=>⟨v,H',J.os,J.bare,J.base,J.hok,rv,q⟩
 cases fl with
 | ret u=>
  obtain ⟨v,σ',H',J,rv,q⟩:=hs
  exact fin J rv q
 | next=>
  obtain ⟨σ',H',J,q⟩:=hs
  exact fin (v:=V.non) (u:=Value.none) J rfl q
 | brk=>
  obtain ⟨_,_,_,q⟩:=hs
  exact False.elim q
 | cont=>
  obtain ⟨_,_,_,q⟩:=hs
  exact False.elim q
end L2
namespace L2
open PySem PySem.Spec PyProof.Rows
section
variable {X:Cx} {x:Str} {p pos:Pos} {e:Expr} {es:List Expr} {t:TA} {id T:String} {r:List V→Hp→VK→Prop}
def tCB (r:List V→Hp→VK→Prop) (t:TA):TE:=fun σ H Q=>t σ H fun vs H1=>r vs H1 Q
theorem pe_callB (hc:q5v X (.builtin id) r) (hg:Gl X x) (hm:X.mg x=none) (hv:bootBuiltins x=some (.builtin id)) (ha:PA X (e::es) t) (hn:x≠ "__name__" :=by decide) (hdb:(x == ("__debug__" : Str))=false:=by decide)
  (he:starEach (e::es) X.env=(false,eval e X.env)::starEach es X.env:=by rfl) (hpl:(backTo pos (starEach es X.env)).any (·.1)=false:=by rfl):PE X (.Call (.Name x p) (e::es) [] pos) (tCB r t):=by
 intro pins s σ H Q I h
 refine wpAny_Call_Name_kw (ld_blt I hg hm hv ?_ hn hdb)
 exact PyProof.Rows.callWith_builtin1 (thn (ha pos pins s σ H _ I h) fun us s1 hh1=>by obtain ⟨vs,H1,I1,r1,q1⟩:=hh1; exact (hc pins s1 σ H1 vs us Q I1 r1 q1)) he hpl
theorem pe_callTy (hc:q5v X (.type T) r) (hg:Gl X x) (hm:X.mg x=none) (hv:bootBuiltins x=some (.type T)) (ha:PA X (e::es) t) (hn:x≠ "__name__" :=by decide) (hdb:(x == ("__debug__" : Str))=false:=by decide)
  (he:starEach (e::es) X.env=(false,eval e X.env)::starEach es X.env:=by rfl) (hpl:(backTo pos (starEach es X.env)).any (·.1)=false:=by rfl):PE X (.Call (.Name x p) (e::es) [] pos) (tCB r t):=by
 intro pins s σ H Q I h
 refine wpAny_Call_Name_kw (ld_blt I hg hm hv ?_ hn hdb)
 exact PyProof.Rows.callWith_type1 (thn (ha pos pins s σ H _ I h) fun us s1 hh1=>by obtain ⟨vs,H1,I1,r1,q1⟩:=hh1; exact (hc pins s1 σ H1 vs us Q I1 r1 q1)) he hpl
end
end L2
namespace HT
open PySem PyProof.Rows
section
open PySem.SeqAt
open PySem.AutoSeq1 (wpAny_loadPart')
open PySem.MeetsSeq PySem.MeetsSeq2 PySem.MeetsSeq3
end
section
variable {prog:Program} {w:World} {A:Around} {E:Value→Shared→Prop} {s:Shared}
theorem cat_tup {t b:Addr} {vs ws:List Value} {Q:Value→Shared→Prop} (ht:IsTup s.heap t vs.toArray) (hb:IsTup s.heap b ws.toArray) (hv:vs≠[])
  (h1:ws=[]→Q (.ref t) s) (h2:ws≠[]→Q (.ref s.heap.objs.size) { s with heap:=s.heap.push { cls:=.type "tuple",data:=.seq (vs++ws).toArray } })
  (hsz:vs.length+ws.length≤sizeLine):wpAny (model prog w) A (binaryOp .Add (.ref t) (.ref b)) Q E s:=by
 obtain ⟨⟨cls,dd,data,sl⟩,ho,hc,n,hd⟩:=id ht
 obtain ⟨⟨cls2,dd2,data2,sl2⟩,ho2,hc2,n2,hd2⟩:=id hb
 simp only at hc hd hc2 hd2
 subst hc hd hc2 hd2
 have e:vs.toArray++ws.toArray=(vs++ws).toArray:=by simp
 by_cases hw:ws=[]
 ·exact concat_meets ⟨_,ho,rfl⟩ ⟨_,ho2,rfl⟩ noFill_tuple_add seq_tuple_add PySem.F.slot_tuple_add PySem.F.entry_tuple_add (PySem.F.args_tuple_add_2 _ _)
   (tuple_addW1 t b vs.toArray ws.toArray n n2 dd dd2 sl sl2 (by simpa using hv) (by simp [hw])) ⟨ho,ho2,h1 hw⟩
 ·refine concat_meets ⟨_,ho,rfl⟩ ⟨_,ho2,rfl⟩ noFill_tuple_add seq_tuple_add PySem.F.slot_tuple_add PySem.F.entry_tuple_add (PySem.F.args_tuple_add_2 _ _)
   (tuple_addW2 t b vs.toArray ws.toArray n n2 dd dd2 sl sl2 (by simpa using hv) (by simpa using hw) (by rw [List.size_toArray,List.size_toArray]; exact hsz)) ⟨ho,ho2,?_⟩
  rw [e]
  exact h2 hw
def sIx (n d:Nat):Option Int→Nat
 | none=>d
 | some v=>if v<0 then (v+(n:Int)).toNat else min v.toNat n
theorem sIx_none (n d:Nat):sIx n d none=d:=rfl
theorem sIx_nat (n d k:Nat):sIx n d (some (k:Int))=min k n:=by
 show (if (k:Int)<0 then ((k:Int)+(n:Int)).toNat else min (k:Int).toNat n)=min k n
 rw [if_neg (by omega),Int.toNat_natCast]
theorem sIx_le (n d:Nat) (hd:d≤n) (o:Option Int):sIx n d o≤n:=by
 cases o with
 | none=>exact hd
 | some v=>
  show (if v<0 then (v+(n:Int)).toNat else min v.toNat n)≤n
  by_cases hv:v<0
  ·rw [if_pos hv]; omega
  ·rw [if_neg hv]; exact Nat.min_le_right _ _
theorem clip_eq (v:Int) (n d:Nat):(if v<0 then max (v+(n:Int)) 0 else min v (n:Int))=((sIx n d (some v):Nat):Int):=by
 show (if v<0 then max (v+(n:Int)) 0 else min v (n:Int))=(((if v<0 then (v+(n:Int)).toNat else min v.toNat n):Nat):Int)
 by_cases hv:v<0
 ·simp only [if_pos hv]; omega
 ·simp only [if_neg hv]; omega
theorem adjust_gen (lo hi:Option Int) (n:Nat):Builtin.Slice.sliceAdjust lo hi 1 (n:Int)=(((sIx n 0 lo:Nat):Int),((sIx n n hi:Nat):Int)):=by
 have h1:¬((1:Int)<0):=by omega
 unfold Builtin.Slice.sliceAdjust
 simp only [h1,if_false]
 refine Prod.ext ?_ ?_
 ·cases lo with
  | none=>rfl
  | some v=>exact clip_eq v n 0
 ·cases hi with
  | none=>rfl
  | some v=>exact clip_eq v n n
theorem places_gen (i j:Nat):Builtin.Slice.slicePlaces (i:Int) (j:Int) 1=j - i:=by
 unfold Builtin.Slice.slicePlaces
 have h1:(1:Int) > 0:=by omega
 simp only [h1,if_true,Int.ediv_one]
 split<;>omega
theorem slicePart_ {v:Value} {o:Option Int} {Q:Option Int→Shared→Prop} (p:IsPart v o) (h:Q o s):wpAny (model prog w) A (Builtin.Slice.slicePartIndex v) Q E s:=by
 cases p with
 | none=>exact slicePart_none h
 | int i t=>exact slicePart_int h
theorem q8b {sl:Addr} {vl vu:Value} {lo hi:Option Int} {n:Nat} {Q:Int×Int×Nat→Shared→Prop} (hs:s.heap.IsSliceOf sl vl vu .none) (pl:IsPart vl lo) (pu:IsPart vu hi)
  (h:Q (((sIx n 0 lo:Nat):Int),1,sIx n n hi - sIx n 0 lo) s):wpAny (model prog w) A (Builtin.Slice.sliceApplied (.ref sl) (pure (n:Int))) Q E s:=by
 obtain ⟨os,hos,hcs,hds⟩:=id hs
 unfold Builtin.Slice.sliceApplied Builtin.Slice.sliceFields
 refine wpAny_bind (wpAny_bind (wpAny_field hos hds (x:=vl) rfl (wpAny_bind (wpAny_field hos hds (x:=vu) rfl (wpAny_bind (wpAny_field hos hds (x:=.none) rfl (wpAny_pure ?_)))))))
 refine wpAny_bind (slicePart_none ?_)
 show wpAny _ _ (if ((1:Int) == 0)=true then _ else _) _ _ s
 rw [if_neg (by decide)]
 refine wpAny_bind (slicePart_ pl (wpAny_bind (slicePart_ pu (wpAny_bind (wpAny_pure ?_)))))
 show wpAny _ _ (match Builtin.Slice.sliceAdjust lo hi 1 (n:Int) with | (lo,hi)=>pure (lo,(1:Int),Builtin.Slice.slicePlaces lo hi 1)) _ _ s
 rw [adjust_gen lo hi n]
 show wpAny _ _ (pure (((sIx n 0 lo:Nat):Int),(1:Int),Builtin.Slice.slicePlaces ((sIx n 0 lo:Nat):Int) ((sIx n n hi:Nat):Int) 1)) _ _ s
 rw [places_gen]
 exact wpAny_pure h
theorem pick_gen (xs:Array Value) (i k:Nat):((List.range k).filterMap fun (m:Nat)=>xs[((i:Int)+(m:Int)*1).toNat]?).toArray=((xs.toList.drop i).take k).toArray:=by
 have e:(fun (m:Nat)=>xs[((i:Int)+(m:Int)*1).toNat]?)=fun m=>xs[i+m]?:=by
  funext m
  have:((i:Int)+(m:Int)*1).toNat=i+m:=by omega
  rw [this]
 rw [e]
 have:=pick_run xs i k
 rw [List.filterMap_map] at this
 have e2:((fun x=>xs[x]?)∘fun x=>i+x)=fun m=>xs[i+m]?:=rfl
 rw [e2] at this
 rw [this]
theorem getItem_tuple_cut {t sl:Addr} {items:Array Value} {vl vu:Value} {lo hi:Option Int} {Q:Value→Shared→Prop} (ht:IsTup s.heap t items) (hs:s.heap.IsSliceOf sl vl vu .none) (pl:IsPart vl lo) (pu:IsPart vu hi)
  (hw:¬(sIx items.size 0 lo=0∧sIx items.size items.size hi=items.size))
  (h:Q (.ref s.heap.objs.size) { s with heap:=s.heap.push { cls:=.type "tuple",data:=.seq ((items.toList.drop (sIx items.size 0 lo)).take (sIx items.size items.size hi - sIx items.size 0 lo)).toArray } })
  (hsz:items.size≤sizeLine):wpAny (model prog w) A (getItem (.ref t) (.ref sl)) Q E s:=by
 have htake:sizeOk (.seq ((items.toList.drop (sIx items.size 0 lo)).take (sIx items.size items.size hi - sIx items.size 0 lo)).toArray):=by
  show ((items.toList.drop (sIx items.size 0 lo)).take (sIx items.size items.size hi - sIx items.size 0 lo)).toArray.size≤sizeLine
  rw [List.size_toArray,List.length_take,List.length_drop,Array.length_toList]
  omega
 have hj:sIx items.size items.size hi≤items.size:=sIx_le _ _ (Nat.le_refl _) hi
 obtain ⟨os,hos,hcs,hds⟩:=id hs
 have hTs:s.TypeIs (.ref sl) "slice" :=⟨os,hos,hcs⟩
 unfold getItem
 try with_reducible refine wpAny_holding ?_
 first | refine wpAny_bind (wpAny_pure ?_) | skip
 refine wpAny_bind (wpAny_sequenceKey ht.typeIs (by decide) ?_)
 refine wpAny_bind (wpAny_callSpecial?_slot (name:=Str.ofString "__getitem__") ht.typeIs PyProof.Rows.slot_tuple_getitem
  (wpAny_call_entry PyProof.Rows.slot_tuple_getitem ht.typeIs entry_tuple_getitem ?_ (args_tuple_getitem _ _)))
 show wpAny _ _ (Builtin.Tuple.tupleItemsOf (.ref t) >>= _) _ _ s
 refine wpAny_bind (tupleItemsOf_ ht ?_)
 refine wpAny_bind (wpAny_typeOf hTs ?_)
 rw [if_pos (by decide)]
 refine wpAny_bind (q8b hs pl pu ?_)
 have hno:¬((((sIx items.size 0 lo:Nat):Int) == 0 && (1:Int) == 1 && (sIx items.size items.size hi - sIx items.size 0 lo) == items.size)=true):=by
  intro q
  rw [Bool.and_eq_true,Bool.and_eq_true] at q
  have q1:((sIx items.size 0 lo:Nat):Int)=0:=eq_of_beq q.1.1
  have q2:sIx items.size items.size hi - sIx items.size 0 lo=items.size:=eq_of_beq q.2
  exact hw ⟨by omega,by omega⟩
 show wpAny _ _ (if (((sIx items.size 0 lo:Nat):Int) == 0 && (1:Int) == 1 && (sIx items.size items.size hi - sIx items.size 0 lo) == items.size)=true then _ else _) _ _ s
 rw [if_neg hno,pick_gen]
 first
  | exact wpAny_bind (m:=Builtin.Tuple.tupleExact _) (wpAny_newObj_type (wpAny_pure ⟨_,rfl,wpAny_pure h⟩) htake)
  | exact wpAny_bind (m:=Builtin.Tuple.tupleExact _) (wpAny_newObj_type (wpAny_bind (wpAny_pure (wpAny_pure ⟨_,rfl,wpAny_pure h⟩))) htake)
  | exact wpAny_bind (wpAny_bind (m:=Builtin.Tuple.tupleExact _) (wpAny_newObj_type (wpAny_pure (wpAny_pure ⟨_,rfl,wpAny_pure h⟩)) htake))
  | exact wpAny_bind (wpAny_bind (m:=Builtin.Tuple.tupleExact _) (wpAny_newObj_type (wpAny_pure ⟨_,rfl,wpAny_pure h⟩) htake))
end
end HT
namespace L2
open PySem PySem.Spec PyProof.Rows
abbrev TO:=St→Hp→(Option Int→Hp→Prop)→Prop
def PO (X:Cx) (e:Option Expr) (t:TO):Prop:=
 ∀(pins:List (Addr×Obj)) (s:Shared) (σ:St) (H:Hp) (Q:Option Int→Hp→Prop),Inv X pins σ H s→t σ H Q→
  wpAny (model X.prog X.w) X.A (evalPart e X.env) (fun u s'=>∃o H',Inv X pins σ H' s'∧IsPart u o∧Q o H') X.xe s
def tNoPart:TO:=fun _ H Q=>Q none H
def tPart (t:TE):TO:=fun σ H Q=>t σ H fun x H1=>∃i,x=.int i∧Q (some i) H1
theorem intsAre_of {ns:List Int}:∀{us:List Value},Vals (ns.map V.int) us→IntsAre us ns:=by
 induction ns with
 | nil=>intro us r; rw [List.map_nil] at r; cases r; exact .nil
 | cons n ns ih=>
  intro us r
  rw [List.map_cons] at r
  cases r with
  | cons r1 r2=>
   obtain ⟨t,e⟩:=r1
   subst e
   exact .cons n t (ih r2)
section
variable {X:Cx} {e:Expr} {te:TE} {lo hi:Option Expr} {tl th:TO} {pos p2:Pos}
theorem po_none:PO X none tNoPart:=by
 intro pins s σ H Q I h
 rw [evalPart_none]
 exact wpAny_pure ⟨none,H,I,.none,h⟩
theorem po_some (h:PE X e te):PO X (some e) (tPart te):=by
 intro pins s σ H Q I hw
 rw [evalPart_some]
 refine thn (h pins s σ H _ I hw) fun u s1 hh1=>?_
 obtain ⟨x,H1,I1,r1,q1⟩:=hh1
 obtain ⟨i,rfl,q⟩:=q1
 obtain ⟨t,rfl⟩:=r1
 exact ⟨some i,H1,I1,.int i t,q⟩
def SlR (X:Cx) (r:V→Option Int→Option Int→Hp→VK→Prop):Prop:=
 ∀(pins:List (Addr×Obj)) (s:Shared) (σ:St) (H:Hp) (x:V) (v vl vu:Value) (lo hi:Option Int) (sl:Addr) (Q:VK),Inv X pins σ H s→RelV x v→s.heap.IsSliceOf sl vl vu .none→IsPart vl lo→IsPart vu hi→r x lo hi H Q→
  ∃T id,typeLookup (.type T) "__getitem__" = pure (some (.builtin id))∧s.TypeIs v T∧wpAny (model X.prog X.w) X.A (getItem v (.ref sl)) (EP X pins σ Q) X.xe s
def tSl (r:V→Option Int→Option Int→Hp→VK→Prop) (te:TE) (tl th:TO):TE:=fun σ H Q=>te σ H fun x H1=>tl σ H1 fun l H2=>th σ H2 fun u H3=>r x l u H3 Q
theorem pe_slice {r:V→Option Int→Option Int→Hp→VK→Prop} (hr:SlR X r) (he:PE X e te) (hl:PO X lo tl) (hu:PO X hi th):PE X (.Subscript e (.Slice lo hi none p2) pos) (tSl r te tl th):=by
 intro pins s σ H Q I h
 refine Subscript_ (thn (he pins s σ H _ I h) fun v s1 hh1=>?_)
 obtain ⟨x,H1,I1,r1,q1⟩:=hh1
 refine wpAny_Slice (thn (hl pins s1 σ H1 _ I1 q1) fun vl s2 ⟨l,H2,I2,pl,q2⟩=>thn (hu pins s2 σ H2 _ I2 q2) fun vu s3 hh2=>?_)
 obtain ⟨u,H3,I3,pu,q3⟩:=hh2
 rw [evalPart_none]
 refine wpAny_pure ?_
 have I4:Inv X pins σ H3 { s3 with heap:=s3.heap.push { cls:=.type "slice",data:=.fields #[vl,vu,.none] } }:=I3.kept (t':=s3.toks) fun b ob q=>Heap.get?_push_of_some _ q
 obtain ⟨T,id,hT,ht,hg⟩:=hr pins { s3 with heap:=s3.heap.push { cls:=.type "slice",data:=.fields #[vl,vu,.none] } } σ H3 x v vl vu l u s3.heap.objs.size Q I4 r1 (Heap.IsSliceOf.new ..) pl pu q3
 show wpAny (model X.prog X.w) X.A (subscriptTail e (.Slice lo hi none p2) v (.ref s3.heap.objs.size)) (EP X pins σ Q) X.xe { s3 with heap:=s3.heap.push { cls:=.type "slice",data:=.fields #[vl,vu,.none] } }
 exact tail_any (ops:=[.ref s3.heap.objs.size,v]) ht hT hg (by with_unfolding_all rfl)
def cutV (xs:List V) (lo hi:Option Int):List V:=(xs.drop (HT.sIx xs.length 0 lo)).take (HT.sIx xs.length xs.length hi - HT.sIx xs.length 0 lo)
theorem q9p (xs:List V) (lo hi:Option Int):(cutV xs lo hi).length≤xs.length:=by
 unfold cutV
 rw [List.length_take,List.length_drop]
 omega
def rSlT (K:PySem.W.Frag):V→Option Int→Option Int→Hp→VK→Prop:=fun x lo hi H Q=>∃a xs,x=.ref a∧SqT K H a xs∧
 ¬(HT.sIx xs.length 0 lo=0∧HT.sIx xs.length xs.length hi=xs.length)∧∀p,H p=none→Q (.ref p) (upd H p (.tup (cutV xs lo hi)))
theorem sl_tup:SlR X (rSlT X.K):=by
 intro pins s σ H x v vl vu lo hi sl Q I rx hs pl pu h
 obtain ⟨a,xs,rfl,hx,hw,q⟩:=h
 cases rx
 obtain ⟨its,r,ht,hz⟩:=I.tuple hx
 have hlen:its.toArray.size=xs.length:=by rw [List.size_toArray]; exact r.length.symm
 refine ⟨"tuple",_,PyProof.Rows.slot_tuple_getitem.lookup,ht.typeIs,?_⟩
 refine HT.getItem_tuple_cut ht hs pl pu (by rw [hlen]; exact hw) ?_ (by rw [hlen]; exact hz)
 rw [hlen]
 refine ⟨.ref s.heap.objs.size,_,I.laid (t':=s.toks) (o:=.tup (cutV xs lo hi)) (fun b ob q=>Heap.get?_push_of_some _ q) (Nat.le_refl _) ?_,rfl,q _ (I.hok.fresh (Nat.le_refl _))⟩
 exact ⟨Nat.le_trans (q9p xs lo hi) hz,_,(r.drop (HT.sIx xs.length 0 lo)).take (HT.sIx xs.length xs.length hi - HT.sIx xs.length 0 lo),IsTup.new _ _⟩
def rCatT (K:PySem.W.Frag):R2:=fun x y H Q=>∃a b xs ys,x=.ref a∧y=.ref b∧SqT K H a xs∧SqT K H b ys∧xs≠[]∧xs.length+ys.length≤sizeLine∧
 (ys=[]→Q (.ref a) H)∧(ys≠[]→∀p,H p=none→Q (.ref p) (upd H p (.tup (xs++ys))))
theorem Vals.nil_iff {xs:List V} {us:List Value} (r:Vals xs us):us=[]↔xs=[]:=by
 cases r with
 | nil=>simp
 | cons _ _=>simp
theorem op_catT:OpR X (binaryOp .Add) (rCatT X.K):=by
 intro pins s σ H x y v u Q I rx ry h
 obtain ⟨a,b,xs,ys,rfl,rfl,ha,hb,hx,hz,q1,q2⟩:=h
 cases rx
 cases ry
 obtain ⟨its,r1,p1,_⟩:=I.tuple ha
 obtain ⟨its2,r2,p2,_⟩:=I.tuple hb
 refine HT.cat_tup p1 p2 (fun z=>hx (r1.nil_iff.mp z)) (fun z=>⟨.ref a,H,I,rfl,q1 (r2.nil_iff.mp z)⟩) (fun z=>?_) (by rw [←r1.length,←r2.length]; exact hz)
 refine ⟨.ref s.heap.objs.size,_,I.laid (t':=s.toks) (o:=.tup (xs++ys)) (fun b ob q=>Heap.get?_push_of_some _ q) (Nat.le_refl _) ?_,rfl,q2 (fun w=>z (r2.nil_iff.mpr w)) _ (I.hok.fresh (Nat.le_refl _))⟩
 exact ⟨by rw [List.length_append]; exact hz,_,r1.append r2,IsTup.new _ _⟩
end
end L2
namespace L2
open PySem PySem.Spec PyProof.Rows
def ixN (n:Nat) (i:Int):Option Nat:=if 0≤i then (if i<n then some i.toNat else none) else if -(n:Int)≤i then some (i+n).toNat else none
def atI {α:Type} (xs:List α) (i:Int):Option α:=(ixN xs.length i).bind fun j=>xs[j]?
theorem ixN_seq {n:Nat} {i:Int} {j:Nat} (h:ixN n i=some j):seqIndex? i n=some j∧j<n∧-(n:Int)≤i∧i<n:=by
 unfold ixN at h
 by_cases h0:0≤i
 ·rw [if_pos h0] at h
  by_cases h1:i<n
  ·rw [if_pos h1] at h
   have e:i.toNat=j:=Option.some.inj h
   exact ⟨by rw [seqIndex_of h0 h1,e],by omega,by omega,h1⟩
  ·rw [if_neg h1] at h; cases h
 ·rw [if_neg h0] at h
  by_cases h1:-(n:Int)≤i
  ·rw [if_pos h1] at h
   have e:(i+n).toNat=j:=Option.some.inj h
   exact ⟨by rw [seqIndex_neg (by omega) h1,e],by omega,h1,by omega⟩
  ·rw [if_neg h1] at h; cases h
theorem atI_get {α:Type} {xs:List α} {i:Int} {v:α} (h:atI xs i=some v):∃j,seqIndex? i xs.length=some j∧xs[j]?=some v∧j<xs.length∧-(xs.length:Int)≤i∧i<xs.length:=by
 unfold atI at h
 cases e:ixN xs.length i with
 | none=>rw [e] at h; cases h
 | some j=>
  rw [e] at h
  obtain ⟨h1,h2,h3,h4⟩:=ixN_seq e
  exact ⟨j,h1,h,h2,h3,h4⟩
theorem atI_nat {α:Type} {xs:List α} {j:Nat} {v:α} (h:xs[j]?=some v):atI xs (j:Int)=some v:=by
 have hj:j<xs.length:=(List.getElem?_eq_some_iff.mp h).1
 have e:ixN xs.length (j:Int)=some j:=by
  unfold ixN
  rw [if_pos (by omega),if_pos (by omega)]; simp
 unfold atI; rw [e]; exact h
def PlainIx (b:Expr):Prop:=∀o i,subscripted b false o i=operate [o,i] (getItem o i)
def IxR (X:Cx) (r:R2):Prop:=
 ∀(value slice:Expr) (pins:List (Addr×Obj)) (s:Shared) (σ:St) (H:Hp) (x y:V) (v u:Value) (Q:VK),Inv X pins σ H s→RelV x v→RelV y u→r x y H Q→
  subscripted slice false v u=operate [v,u] (getItem v u)→wpAny (model X.prog X.w) X.A (subscriptTail value slice v u) (EP X pins σ Q) X.xe s
def MtR (X:Cx) (id:String) (r:V→List V→Hp→VK→Prop):Prop:=
 ∀(pins:List (Addr×Obj)) (s:Shared) (σ:St) (H:Hp) (x:V) (xs:List V) (v:Value) (us:List Value) (Q:VK),Inv X pins σ H s→RelV x v→Vals xs us→r x xs H Q→
  wpAny (model X.prog X.w) X.A (call (.builtin id) (v::us)) (EP X pins σ Q) X.xe s
section
variable {X:Cx} {a b:Expr} {ta tb:TE} {pos:Pos}
theorem pe_ix {r:R2} (hr:IxR X r) (ha:PE X a ta) (hb:PE X b tb) (hs:PlainIx b):PE X (.Subscript a b pos) (tOp r ta tb):=by
 intro pins s σ H Q I h
 exact Subscript_ (binT ha hb I h fun v u s2 x y H2 I2 rx ry q=>hr a b pins s2 σ H2 x y v u Q I2 rx ry q (hs _ _))
def rIxL (K:PySem.W.Frag):R2:=fun x y H Q=>∃p xs i v,x=.ref p∧y=.int i∧SqL K H p xs∧atI xs i=some v∧Q v H
def rIxT (K:PySem.W.Frag):R2:=fun x y H Q=>∃p xs i v,x=.ref p∧y=.int i∧SqT K H p xs∧atI xs i=some v∧Q v H
def rIxS:R2:=fun x y H Q=>∃z i c,x=.str z∧y=.int i∧z.length≤sizeLine∧atI z.cps.toList i=some c∧Q (.str ⟨#[c]⟩) H
theorem ix_list:IxR X (rIxL X.K):=by
 intro value slice pins s σ H x y v u Q I rx ry h hs
 obtain ⟨p,xs,i,z,rfl,rfl,hq,he,q⟩:=h
 cases rx
 obtain ⟨t,rfl⟩:=ry
 obtain ⟨its,r,pl,hz⟩:=I.list hq
 obtain ⟨j,h1,h2,h3,h4,h5⟩:=atI_get he
 obtain ⟨w,ew,rw'⟩:=r.get h2
 have hl:=r.length
 have hn:=q9f
 have fin:EP X pins σ Q w s:=⟨z,H,I,rw',q⟩
 by_cases h0:0≤i
 ·have hj:i.toNat=j:=by
   rw [seqIndex_of h0 h5] at h1
   exact Option.some.inj h1
  exact item_listR pl.isList h0 (by omega) (by rw [hj]; simpa using ew) fin hs
 ·have hj:(i+(its.toArray.size:Int)).toNat=j:=by
   rw [seqIndex_neg (by omega) h4] at h1
   rw [List.size_toArray,←hl]
   exact Option.some.inj h1
  exact subscriptTail_builtinR (x:=w) pl.isList.typeIs slot_list_getitem.lookup
   (wpAny_getItem_list_neg (Q:=fun r s'=>r=w∧EP X pins σ Q r s') pl.isList (by omega) (by rw [List.size_toArray]<;>omega) (by omega) (by rw [hj]; simpa using ew) ⟨rfl,fin⟩) hs
theorem ix_tup:IxR X (rIxT X.K):=by
 intro value slice pins s σ H x y v u Q I rx ry h hs
 obtain ⟨p,xs,i,z,rfl,rfl,hq,he,q⟩:=h
 cases rx
 obtain ⟨t,rfl⟩:=ry
 obtain ⟨its,r,pl,hz⟩:=I.tuple hq
 obtain ⟨j,h1,h2,h3,h4,h5⟩:=atI_get he
 obtain ⟨w,ew,rw'⟩:=r.get h2
 have hl:=r.length
 have hn:=q9f
 have fin:EP X pins σ Q w s:=⟨z,H,I,rw',q⟩
 exact subscriptTail_builtinR (x:=w) pl.typeIs slot_tuple_getitem.lookup
  (getItem_tuple (j:=j) (Q:=fun r s'=>r=w∧EP X pins σ Q r s') pl (by omega) (by omega) (by rw [List.size_toArray,←hl]; exact h1) (by simpa using ew) ⟨rfl,fin⟩) hs
theorem ix_str:IxR X rIxS:=by
 intro value slice pins s σ H x y v u Q I rx ry h hs
 obtain ⟨z,i,c,rfl,rfl,hz,he,q⟩:=h
 obtain ⟨t,rfl⟩:=rx
 obtain ⟨t',rfl⟩:=ry
 obtain ⟨j,h1,h2,h3,h4,h5⟩:=atI_get he
 have hl:z.cps.toList.length=z.length:=by simp [Str.length]
 rw [hl] at h1 h4 h5
 have hn:=q9f
 exact tail_any (typeIs_str s z t) slot_str_getitem.lookup (getItem_str (c:=c) (by
  have e1:decide (i < -(2 ^ 63:Int))=false:=decide_eq_false (by omega)
  have e2:decide (i≥2 ^ 63)=false:=decide_eq_false (by omega)
  rw [e1,e2,Bool.or_false]) (by rw [h1]; simpa using h2) ⟨.str ⟨#[c]⟩,H,I.tok _,⟨_,rfl⟩,q⟩) hs
theorem mapSeq_set (its:List Value) (n j:Nat) (u:Value):Obj.mapSeq (·.setIfInBounds j u) { cls:=.type "list",data:=.seq its.toArray n }={ cls:=.type "list",data:=.seq (its.set j u).toArray n }:=by
 simp [Obj.mapSeq]
theorem Inv.lst {pins:List (Addr×Obj)} {σ:St} {H:Hp} {s:Shared} {p:Addr} {xs:List V} (I:Inv X pins σ H s) (h:H p=some (.lst xs)) :
  ∃(its:List Value) (n:Nat),Vals xs its∧s.heap.get? p=some { cls:=.type "list",data:=.seq its.toArray n }∧xs.length≤sizeLine:=by
 obtain ⟨z,its,n,r,e⟩:=I.hok p _ h
 exact ⟨its,n,r,e,z⟩
theorem Inv.lstUpd {pins:List (Addr×Obj)} {σ:St} {H:Hp} {s:Shared} {p:Addr} {xs ys:List V} {its its':List Value} {n n':Nat} {f:Obj→Obj} (I:Inv X pins σ H s) (h:H p=some (.lst xs))
  (ho:s.heap.get? p=some { cls:=.type "list",data:=.seq its.toArray n }) (hf:f { cls:=.type "list",data:=.seq its.toArray n }={ cls:=.type "list",data:=.seq its'.toArray n' }) (r:Vals ys its') (hz:ys.length≤sizeLine) (t:Nat) :
  Inv X pins σ (upd H p (.lst ys)) { s with heap:=s.heap.update p f,toks:=t }:=by
 have e:(s.heap.update p f).get? p=some { cls:=.type "list",data:=.seq its'.toArray n' }:=by
  rw [Heap.get?_update_self f ho (by rw [hf]<;>rfl),hf]
 refine I.write (x:=p) (e:=p) (by rw [h]; trivial) (.inl rfl) (fun b u hb q=>(Heap.get?_update_other _ _ (Ne.symm hb)).trans q) ⟨_,e⟩ ?_
 exact ⟨hz,its',n',r,e⟩
def rSetL:V→V→V→Hp→(Hp→Prop)→Prop:=fun o i v H Q=>∃p xs k j,o=.ref p∧i=.int k∧H p=some (.lst xs)∧ixN xs.length k=some j∧Q (upd H p (.lst (xs.set j v)))
theorem set_list:PSet X rSetL:=by
 intro pins s σ H o i v ov iv u Q I ro ri rv h
 obtain ⟨p,xs,k,j,rfl,rfl,hp,hj,q⟩:=h
 cases ro
 obtain ⟨t,rfl⟩:=ri
 obtain ⟨its,n,r,ho,hz⟩:=I.lst hp
 obtain ⟨h1,h2,h3,h4⟩:=ixN_seq hj
 have hl:=r.length
 have hn:=q9f
 have I':Inv X pins σ (upd H p (.lst (xs.set j v))) { s with heap:=s.heap.update p (Obj.mapSeq (·.setIfInBounds j u)) }:=
  I.lstUpd hp ho (mapSeq_set its n j u) (r.set rv j) (by rw [List.length_set]; exact hz) s.toks
 by_cases h0:0≤k
 ·have hk:k.toNat=j:=by
   rw [seqIndex_of h0 h4] at h1
   exact Option.some.inj h1
  exact PySem.W.ki_setAt ho h0 (by omega) (by rw [List.size_toArray,←hl]; exact h4) (by rw [hk]; exact ⟨_,I',q⟩)
 ·have hk:(k+(its.toArray.size:Int)).toNat=j:=by
   rw [seqIndex_neg (by omega) h3] at h1
   rw [List.size_toArray,←hl]
   exact Option.some.inj h1
  exact PySem.W.ki_setBack ho (by omega) (by rw [List.size_toArray,←hl]; exact h3) (by omega) (by rw [hk]; exact ⟨_,I',q⟩)
theorem slice_bounds (lo hi:Option Int) (n:Nat):(sliceBounds lo hi none n).1=((HT.sIx n 0 lo:Nat):Int)∧(sliceBounds lo hi none n).2.1=((HT.sIx n n hi:Nat):Int)∧(sliceBounds lo hi none n).2.2=1:=by
 refine ⟨?_,?_,rfl⟩
 ·cases lo with
  | none=>simp [sliceBounds,HT.sIx]
  | some i=>
   simp only [sliceBounds,HT.sIx,Option.getD_none,show (1:Int) > 0 by decide,if_true]
   by_cases h:i<0
   ·simp only [h,if_true]<;>omega
   ·simp only [h,if_false]<;>omega
 ·cases hi with
  | none=>simp [sliceBounds,HT.sIx]
  | some i=>
   simp only [sliceBounds,HT.sIx,Option.getD_none,show (1:Int) > 0 by decide,if_true]
   by_cases h:i<0
   ·simp only [h,if_true]<;>omega
   ·simp only [h,if_false]<;>omega
theorem slicePick_cut (its:List Value) (lo hi:Option Int):slicePick its.toArray lo hi none=((its.drop (HT.sIx its.length 0 lo)).take (HT.sIx its.length its.length hi - HT.sIx its.length 0 lo)).toArray:=by
 obtain ⟨h1,h2,h3⟩:=slice_bounds lo hi its.toArray.size
 unfold slicePick
 rw [h1,h2,h3]
 simp only [sliceRange_one,pick_run,List.size_toArray]<;>rfl
def rSlL (K:PySem.W.Frag):V→Option Int→Option Int→Hp→VK→Prop:=fun x lo hi H Q=>∃a xs,x=.ref a∧SqL K H a xs∧∀p,H p=none→Q (.ref p) (upd H p (.lst (cutV xs lo hi)))
theorem sl_list:SlR X (rSlL X.K):=by
 intro pins s σ H x v vl vu lo hi sl Q I rx hs pl pu h
 obtain ⟨a,xs,rfl,hx,q⟩:=h
 cases rx
 obtain ⟨its,r,ht,hz⟩:=I.list hx
 have hlen:=r.length
 refine ⟨"list",_,slot_list_getitem.lookup,ht.isList.typeIs,?_⟩
 refine wpAny_getItem_list_slice ht.isList hs pl pu .none (by simp) ?_ (by rw [List.size_toArray]<;>omega)
 rw [slicePick_cut,←hlen]
 refine ⟨.ref s.heap.objs.size,_,I.laid (t':=s.toks) (o:=.lst (cutV xs lo hi)) (fun b ob q=>Heap.get?_push_of_some _ q) (Nat.le_refl _) ?_,rfl,q _ (I.hok.fresh (Nat.le_refl _))⟩
 exact ⟨Nat.le_trans (q9p xs lo hi) hz,_,0,(r.drop (HT.sIx xs.length 0 lo)).take (HT.sIx xs.length xs.length hi - HT.sIx xs.length 0 lo),Heap.get?_push_size _ rfl⟩
theorem q6d:q5v X (.builtin "len") (fun xs H Q=>∃p ys,xs=[.ref p]∧(SqL X.K H p ys∨SqT X.K H p ys)∧Q (.int ys.length) H):=by
 intro pins s σ H xs us Q I r h
 obtain ⟨p,ys,rfl,hq,q⟩:=h
 obtain ⟨u,rfl,rx⟩:=vals1 r
 cases rx
 have hn:=q9f
 rcases hq with hq | hq
 ·obtain ⟨its,r',pl,hz⟩:=I.list hq
  have hlen:=r'.length
  exact Calls.call_len_list pl.isList (by simp only [List.size_toArray]<;>omega) ⟨.int ys.length,H,I.tok _,⟨s.toks+1,by rw [List.size_toArray,hlen]⟩,q⟩
 ·obtain ⟨its,r',pl,hz⟩:=I.tuple hq
  have hlen:=r'.length
  exact len_tuple pl (by simp only [List.size_toArray]<;>omega) ⟨.int ys.length,H,I.tok _,⟨s.toks+1,by rw [List.size_toArray,hlen]⟩,q⟩
theorem call_len_str:q5v X (.builtin "len") (fun xs H Q=>∃z,xs=[.str z]∧z.length≤sizeLine∧Q (.int z.length) H):=by
 intro pins s σ H xs us Q I r h
 obtain ⟨z,rfl,hz,q⟩:=h
 obtain ⟨u,rfl,t,rfl⟩:=vals1 r
 have hn:=q9f
 exact len_str (by omega) ⟨.int z.length,H,I.tok _,⟨_,rfl⟩,q⟩
theorem q6c:q5v X (.type "list") (fun xs H Q=>∃p ys,xs=[.ref p]∧(SqL X.K H p ys∨SqT X.K H p ys)∧∀l,H l=none→Q (.ref l) (upd H l (.lst ys))):=by
 intro pins s σ H xs us Q I r h
 obtain ⟨p,ys,rfl,hq,q⟩:=h
 obtain ⟨u,rfl,rx⟩:=vals1 r
 cases rx
 have fin:∀(its:List Value),Vals ys its→ys.length≤sizeLine→∀(h':Heap) (c':Nat),(∀b o',s.heap.get? b=some o'→h'.get? b=some o')→
   h'.get? s.heap.objs.size=some { cls:=.type "list",dict:=none,data:=.seq its.toArray c',slots:=#[] }→EP X pins σ Q (.ref s.heap.objs.size) { s with heap:=h' }:=fun its r' hz h' c' kp e=>
  ⟨.ref s.heap.objs.size,_,I.laid (t':=s.toks) kp (Nat.le_refl _) (show q3a X.prog X.w _ h' _ (.lst ys) from ⟨hz,its,c',r',e⟩),rfl,q _ (I.hok.fresh (Nat.le_refl _))⟩
 rcases hq with hq | hq
 ·obtain ⟨its,r',pl,hz⟩:=I.list hq
  have hlen:=r'.length
  obtain ⟨o,ho,hc,n,hd⟩:=pl.isList
  exact call_list_seq p (.inl rfl) ho hc hd (fun h' c' kp e=>fin its r' hz h' c' kp e) (by simp only [List.size_toArray]<;>omega)
 ·obtain ⟨its,r',pl,hz⟩:=I.tuple hq
  have hlen:=r'.length
  obtain ⟨o,ho,hc,n,hd⟩:=pl
  exact call_list_seq p (.inr rfl) ho hc hd (fun h' c' kp e=>fin its r' hz h' c' kp e) (by simp only [List.size_toArray]<;>omega)
theorem q7i:q5v X (.type "tuple") (fun xs H Q=>∃p ys,xs=[.ref p]∧((SqL X.K H p ys∧∀l,H l=none→Q (.ref l) (upd H l (.tup ys)))∨(SqT X.K H p ys∧Q (.ref p) H))):=by
 intro pins s σ H xs us Q I r h
 obtain ⟨p,ys,rfl,h⟩:=h
 obtain ⟨u,rfl,rx⟩:=vals1 r
 cases rx
 rcases h with ⟨hq,q⟩ | ⟨hq,q⟩
 ·obtain ⟨its,r',pl,hz⟩:=I.list hq
  have hlen:=r'.length
  refine call_tuple_list pl.isList (fun h' kp=>?_) (by simp only [List.size_toArray]<;>omega)
  have I1:Inv X pins σ H { s with heap:=h' }:=I.kept (t':=s.toks) kp
  have I2:Inv X pins σ (upd H h'.objs.size (.tup ys)) { s with heap:=h'.push { cls:=.type "tuple",data:=.seq its.toArray } }:=
   I1.laid (t':=s.toks) (fun b o e=>Heap.get?_push_of_some _ e) (Nat.le_refl _) (show q3a X.prog X.w _ _ _ (.tup ys) from ⟨hz,its,r',IsTup.new _ _⟩)
  exact ⟨.ref h'.objs.size,_,I2,rfl,q _ (I1.hok.fresh (Nat.le_refl _))⟩
 ·obtain ⟨its,r',pl,hz⟩:=I.tuple hq
  exact call_tuple_same pl ⟨.ref p,H,I,rfl,q⟩
def tyV (K:PySem.W.Frag) (T:String) (x:V) (H:Hp):Prop:=match x with
 | .str _=>T = "str"
 | .int _=>T = "int"
 | .ref p=>(T = "list" ∧∃xs,SqL K H p xs)∨(T = "tuple" ∧∃o,K.lookup p=some o∧o.cls=.type "tuple" ∧o.dict=none)∨
   (T = "dict" ∧((∃kvs,H p=some (.dK kvs))∨∃kvs,H p=some (.dT kvs)))∨(T = "set" ∧∃S n,H p=some (.set S n))
 | _=>False
theorem tyV_is {pins:List (Addr×Obj)} {σ:St} {H:Hp} {s:Shared} {T:String} {x:V} {v:Value} (I:Inv X pins σ H s) (r:RelV x v) (ty:tyV X.K T x H) :
  s.TypeIs v T∧∀a,v=.ref a→∃ob,s.heap.get? a=some ob∧ob.dict=none:=by
 cases x with
 | str z=>
  obtain ⟨t,rfl⟩:=r
  cases (show T = "str" from ty)
  exact ⟨typeIs_str s z t,fun _ e=>nomatch e⟩
 | int i=>
  obtain ⟨t,rfl⟩:=r
  cases (show T = "int" from ty)
  exact ⟨typeIs_int s i t,fun _ e=>nomatch e⟩
 | ref p=>
  cases r
  rcases ty with ⟨rfl,xs,hq⟩ | ⟨rfl,o,hk,hc,hd⟩ | ⟨rfl,hk⟩ | ⟨rfl,S,n,hk⟩
  ·obtain ⟨its,_,pl,_⟩:=I.list hq
   refine ⟨pl.isList.typeIs,fun a e=>?_⟩
   cases e
   obtain ⟨o,n,e,c,hd,_⟩:=pl
   exact ⟨o,e,hd⟩
  ·refine ⟨⟨o,I.kIn p o hk,hc⟩,fun a e=>?_⟩
   cases e
   exact ⟨o,I.kIn _ o hk,hd⟩
  ·have z:∃o,s.heap.get? p=some o∧o.ExactDict:=by
    rcases hk with ⟨kvs,hk⟩ | ⟨kvs,hk⟩
    ·obtain ⟨_,_,_,_,o,_,_,e,ex,_⟩:=I.hok p _ hk
     exact ⟨o,e,ex⟩
    ·obtain ⟨_,_,_,_,o,_,_,e,ex,_⟩:=I.hok p _ hk
     exact ⟨o,e,ex⟩
   obtain ⟨o,e,ex⟩:=z
   refine ⟨⟨o,e,ex.1⟩,fun a e2=>?_⟩
   cases e2
   exact ⟨o,e,ex.2.1⟩
  ·obtain ⟨o,_,_,_,e,ex,_⟩:=I.hok p _ hk
   refine ⟨⟨o,e,ex.1⟩,fun a e2=>?_⟩
   cases e2
   exact ⟨o,e,ex.2.1⟩
 | _=>exact False.elim ty
def tBM0 (K:PySem.W.Frag) (T:String) (r:V→List V→Hp→VK→Prop) (to:TE):TE:=fun σ H Q=>to σ H fun x H1=>tyV K T x H1∧r x [] H1 Q
def tBM (K:PySem.W.Frag) (T:String) (r:V→List V→Hp→VK→Prop) (to:TE) (t:TA):TE:=fun σ H Q=>to σ H fun x H1=>tyV K T x H1∧t σ H1 fun xs H2=>r x xs H2 Q
variable {o e:Expr} {es:List Expr} {to:TE} {t:TA} {name:Str} {apos cpos:Pos} {T id:String} {r:V→List V→Hp→VK→Prop}
theorem pe_bm0 (pa:PlainAttrs T) (slot:Slot T name id) (hty:typeOf (.builtin id)=pure (.type "method_descriptor")) (hm:MtR X id r) (ho:PE X o to)
  (hbase:attributeBase o name X.env (eval o X.env)=eval o X.env:=by rfl) (hline:(apos.endLine == cpos.line)=true:=by rfl):PE X (.Call (.Attribute o name apos) [] [] cpos) (tBM0 X.K T r to):=by
 intro pins s σ H Q I h
 refine wpAny_Call_method0_late hbase hline (thn (ho pins s σ H _ I h) fun v s1 hh1=>?_)
 obtain ⟨x,H1,I1,r1,ty,q1⟩:=hh1
 obtain ⟨h1,h2⟩:=tyV_is I1 r1 ty
 exact ⟨T,id,pa,slot,hty,h1,h2,Calls.callWith_builtin rfl (PySem.evalArgs_none (hm pins s1 σ H1 x [] v [] Q I1 r1 .nil q1))⟩
theorem pe_bm (pa:PlainAttrs T) (slot:Slot T name id) (hty:typeOf (.builtin id)=pure (.type "method_descriptor")) (hm:MtR X id r) (ho:PE X o to) (ha:PA X (e::es) t)
  (hbase:attributeBase o name X.env (eval o X.env)=eval o X.env:=by rfl)
  (hfew:((backTo cpos (starEach (e::es) X.env)).all (fun x=>!x.1) && (backToKw cpos (keywordEach [] X.env)).all (fun x=>x.1.isSome)
   && decide ((e::es).length+([]:List Keyword).length+(if ([]:List Keyword).isEmpty then 0 else 1)<30))=true:=by rfl)
  (hline:(apos.endLine == cpos.line)=true:=by rfl) (hs:starEach (e::es) X.env=(false,eval e X.env)::starEach es X.env:=by rfl) (hplain:(backTo cpos (starEach es X.env)).any (·.1)=false:=by rfl) :
  PE X (.Call (.Attribute o name apos) (e::es) [] cpos) (tBM X.K T r to t):=by
 intro pins s σ H Q I h
 refine wpAny_Call_method_late hbase hfew hline rfl (thn (ho pins s σ H _ I h) fun v s1 hh1=>?_)
 obtain ⟨x,H1,I1,r1,ty,q1⟩:=hh1
 obtain ⟨h1,h2⟩:=tyV_is I1 r1 ty
 refine ⟨T,id,pa,slot,hty,h1,h2,?_⟩
 have hA:=ha cpos pins s1 σ H1 _ I1 q1
 rw [hs] at hA ⊢
 refine Calls.callWith_builtin (by show (false || (backTo cpos (starEach es X.env)).any (·.1))=false; rw [hplain]<;>rfl) (Calls.evalArgs_plain ?_)
 exact thn hA fun us s2 hh2=>by obtain ⟨vs,H2,I2,r2,q2⟩:=hh2; exact (hm pins s2 σ H2 x vs v us Q I2 r1 r2 q2)
/- xs.append(e),list.index on a module's tuple .. are MtR facts of 06m -/
end
end L2
namespace L2
open PySem PySem.Spec PyProof.Rows
def MtM (X:Cx) (id:String) (r:V→List V→Hp→VK→Prop):Prop:=
 ∀(pins:List (Addr×Obj)) (s:Shared) (σ:St) (H:Hp) (x:V) (xs:List V) (v:Value) (us:List Value) (Q:VK),Inv X pins σ H s→RelV x v→Vals xs us→r x xs H Q→
  wpAny (model X.prog X.w) X.A (call (.builtin id) (v::us)) (EP X pins σ Q) X.xe s
theorem Vals.one:∀{x:V} {us:List Value},Vals [x] us→∃u,us=[u]∧RelV x u
 | _,_,.cons r .nil=>⟨_,rfl,r⟩
theorem Vals.zero:∀{us:List Value},Vals [] us→us=[]
 | _,.nil=>rfl
theorem Vals.dropLast {xs:List V} {us:List Value} (h:Vals xs us):Vals xs.dropLast us.dropLast:=by
 induction h with
 | nil=>exact .nil
 | cons r t ih=>
  cases t with
  | nil=>exact .nil
  | cons q t'=>exact .cons r ih
theorem Vals.eraseIdx:∀{xs:List V} {us:List Value} (i:Nat),Vals xs us→Vals (xs.eraseIdx i) (us.eraseIdx i)
 | _,_,_,.nil=>.nil
 | _,_,0,.cons _ t=>t
 | _,_,i+1,.cons r t=>.cons r (Vals.eraseIdx i t)
theorem Vals.reverse {xs:List V} {us:List Value} (h:Vals xs us):Vals xs.reverse us.reverse:=by
 induction h with
 | nil=>exact .nil
 | cons r t ih=>rw [List.reverse_cons,List.reverse_cons]; exact Vals.append ih (.cons r .nil)
theorem Vals.rep {xs:List V} {us:List Value} (h:Vals xs us):∀k:Nat,Vals (List.replicate k xs).flatten (List.replicate k us).flatten
 | 0=>.nil
 | k+1=>by
  rw [List.replicate_succ,List.replicate_succ,List.flatten_cons,List.flatten_cons]
  exact Vals.append h (Vals.rep h k)
theorem erase_last {α:Type} (l:List α):l.eraseIdx (l.length - 1)=l.dropLast:=by
 induction l with
 | nil=>rfl
 | cons a r ih=>
  cases r with
  | nil=>rfl
  | cons b r=>
   have e:(a::b::r).length - 1=((b::r).length - 1)+1:=by
    have h1:(a::b::r).length=r.length+2:=rfl
    have h2:(b::r).length=r.length+1:=rfl
    omega
   rw [e,List.eraseIdx_cons_succ,ih]
   all_goals rfl
theorem len_erase {α:Type}:∀(l:List α) (i:Nat),(l.eraseIdx i).length≤l.length
 | [],_=>Nat.le_refl _
 | _::_,0=>Nat.le_succ _
 | _::r,i+1=>Nat.succ_le_succ (len_erase r i)
theorem foldl_rep (its:List Value):∀(k:Nat) (acc:List Value),
  List.foldl (fun x1 x2=>x1++x2) acc.toArray (List.replicate k its.toArray)=(acc++(List.replicate k its).flatten).toArray
 | 0,acc=>by simp
 | k+1,acc=>by
  have e:acc.toArray++its.toArray=(acc++its).toArray:=by simp
  have e2:(acc++its)++(List.replicate k its).flatten=acc++(List.replicate (k+1) its).flatten:=by
   rw [List.replicate_succ,List.flatten_cons,List.append_assoc]
  rw [←e2,←foldl_rep its k (acc++its),←e,List.replicate_succ,List.foldl_cons]
section
variable {X:Cx} {pins:List (Addr×Obj)} {σ:St} {H:Hp} {s:Shared} {l b:Addr} {xs ys zs:List V}
theorem Inv.lset {its its':List Value} {n:Nat} {f:Array Value→Array Value} {t':Nat} (I:Inv X pins σ H s) (hH:H l=some (.lst xs))
  (e:s.heap.get? l=some { cls:=.type "list",data:=.seq its.toArray n }) (hf:f its.toArray=its'.toArray) (hv:Vals ys its') (hz:ys.length≤sizeLine) :
  Inv X pins σ (upd H l (.lst ys)) { s with heap:=s.heap.update l (Obj.mapSeq f),toks:=t' }:=by
 have q:=PySem.IsL.update e f
 rw [hf] at q
 refine I.write (x:=l) (e:=l) (by rw [hH]; exact trivial) (.inl rfl) (fun b' u hb hu=>(Heap.get?_update_other s.heap (Obj.mapSeq f) (Ne.symm hb)).trans hu) ⟨_,q⟩ ?_
 exact ⟨hz,its',_,hv,q⟩
theorem Inv.lnew {its:List Value} {t':Nat} (I:Inv X pins σ H s) (hv:Vals ys its) (hz:ys.length≤sizeLine) :
  Inv X pins σ (upd H s.heap.objs.size (.lst ys)) { s with heap:=s.heap.push { cls:=.type "list",data:=.seq its.toArray },toks:=t' }:=
 I.laid (fun _ _ q=>Heap.get?_push_of_some _ q) (Nat.le_refl _) ⟨hz,its,0,hv,Heap.get?_push_size _ rfl⟩
theorem Inv.fresh (I:Inv X pins σ H s):H s.heap.objs.size=none:=I.hok.fresh (Nat.le_refl _)
theorem Inv.lstM (I:Inv X pins σ H s) (hH:H l=some (.lst xs)):xs.length≤sizeLine∧∃(its:List Value) (n:Nat),Vals xs its∧xs.length=its.length∧s.heap.get? l=some { cls:=.type "list",data:=.seq its.toArray n }:=by
 obtain ⟨z,its,n,r,e⟩:=I.hok l _ hH
 exact ⟨z,its,n,r,r.length,e⟩
theorem notLongL {n:Nat} (h:n≤sizeLine):Builtin.List.listTooLong n=false:=by
 unfold Builtin.List.listTooLong
 exact decide_eq_false (by omega)
end
section
variable {X:Cx}
def rAppend:V→List V→Hp→VK→Prop:=fun x vs H Q=>∃l xs y,x=.ref l∧vs=[y]∧H l=some (.lst xs)∧xs.length<sizeLine∧Q .non (upd H l (.lst (xs++[y])))
theorem mt_append:MtM X "list.append" rAppend:=by
 intro pins s σ H x vs v us Q I rx rv h
 obtain ⟨l,xs,y,rfl,rfl,hH,hz,q⟩:=h
 cases rx
 obtain ⟨u,rfl,ru⟩:=rv.one
 obtain ⟨z,its,n,r,hl,e⟩:=I.lstM hH
 refine call_meets F.slot_list_append ⟨_,e,rfl⟩ F.entry_list_append (F.args_list_append_2 _ _) (PySem.list_append l its.toArray n u (by rw [List.size_toArray]; omega)) ⟨e,?_⟩
 refine ⟨.non,_,I.lset (its':=its++[u]) hH e (by simp) (r.append (.cons ru .nil)) ?_,rfl,q⟩
 rw [List.length_append,List.length_singleton]
 omega
def rExtend:V→List V→Hp→VK→Prop:=fun x vs H Q=>∃l b xs zs,x=.ref l∧vs=[.ref b]∧H l=some (.lst xs)∧H b=some (.lst zs)∧xs.length+zs.length≤sizeLine∧Q .non (upd H l (.lst (xs++zs)))
theorem mt_extend:MtM X "list.extend" rExtend:=by
 intro pins s σ H x vs v us Q I rx rv h
 obtain ⟨l,b,xs,zs,rfl,rfl,hH,hB,hz,q⟩:=h
 cases rx
 obtain ⟨u,rfl,ru⟩:=rv.one
 cases ru
 obtain ⟨z,its,n,r,hl,e⟩:=I.lstM hH
 obtain ⟨z2,its2,n2,r2,hl2,e2⟩:=I.lstM hB
 have hsz:its.toArray.size+its2.toArray.size≤sizeLine:=by rw [List.size_toArray,List.size_toArray]; omega
 have hlong:¬(!its.toArray.isEmpty && Builtin.List.listTooLong (its.toArray.size+its2.toArray.size))=true:=by
  rw [notLongL hsz,Bool.and_false]
  exact Bool.false_ne_true
 refine call_meets F.slot_list_extend ⟨_,e,rfl⟩ F.entry_list_extend (F.args_list_extend_2 _ _)
  (AutoSeq1.list_extend_list_list_0 l its.toArray n b its2.toArray n2 hlong (by rw [List.size_toArray]; omega) (by omega)) ⟨e,e2,?_⟩
 refine ⟨.non,_,I.lset (its':=its++its2) hH e (by simp) (r.append r2) ?_,rfl,q⟩
 rw [List.length_append]
 omega
def rPop:V→List V→Hp→VK→Prop:=fun x vs H Q=>∃l xs y,x=.ref l∧vs=[]∧H l=some (.lst xs)∧xs[xs.length - 1]?=some y∧Q y (upd H l (.lst xs.dropLast))
theorem mt_pop:MtM X "list.pop" rPop:=by
 intro pins s σ H x vs v us Q I rx rv h
 obtain ⟨l,xs,y,rfl,rfl,hH,hy,q⟩:=h
 cases rx
 have hus:=rv.zero
 subst hus
 obtain ⟨z,its,n,r,hl,e⟩:=I.lstM hH
 obtain ⟨u,hu,ru⟩:=r.get hy
 have hy':its.toArray[its.toArray.size - 1]?=some u:=by
  show its.toArray[its.length - 1]?=some u
  rw [←Array.getElem?_toList,←hl]
  exact hu
 refine call_meets F.slot_list_pop ⟨_,e,rfl⟩ F.entry_list_pop (F.args_list_pop_1 _) (MeetsSeq.list_pop_last l its.toArray n u hy' (by rw [List.size_toArray]; omega)) ⟨e,?_⟩
 refine ⟨y,_,I.lset (its':=its.dropLast) hH e ?_ r.dropLast ?_,ru,q⟩
 ·show its.toArray.eraseIdxIfInBounds (its.toArray.size - 1)=its.dropLast.toArray
  rw [List.size_toArray,List.eraseIdxIfInBounds_toArray,erase_last]
 ·rw [List.length_dropLast]
  omega
def rPopAt:V→List V→Hp→VK→Prop:=fun x vs H Q=>∃l xs i k y,x=.ref l∧vs=[.int i]∧H l=some (.lst xs)∧-(2 ^ 63)≤i∧i<2 ^ 63∧seqIndex? i xs.length=some k∧xs[k]?=some y∧Q y (upd H l (.lst (xs.eraseIdx k)))
theorem mt_popAt:MtM X "list.pop" rPopAt:=by
 intro pins s σ H x vs v us Q I rx rv h
 obtain ⟨l,xs,i,k,y,rfl,rfl,hH,h1,h2,hk,hy,q⟩:=h
 cases rx
 obtain ⟨u,rfl,ru⟩:=rv.one
 obtain ⟨t,rfl⟩:=ru
 obtain ⟨z,its,n,r,hl,e⟩:=I.lstM hH
 obtain ⟨w,hw,rw'⟩:=r.get hy
 refine call_meets F.slot_list_pop ⟨_,e,rfl⟩ F.entry_list_pop (F.args_list_pop_2 _ _)
  (MeetsSeq.list_pop_at l its.toArray n i t k w (fitsIndex_both h1 h2) (by rw [List.size_toArray,←hl]; exact hk) (by rw [←Array.getElem?_toList]; exact hw) (by rw [List.size_toArray]; omega)) ⟨e,?_⟩
 refine ⟨y,_,I.lset (its':=its.eraseIdx k) hH e ?_ (r.eraseIdx k) ?_,rw',q⟩
 ·show its.toArray.eraseIdxIfInBounds k=(its.eraseIdx k).toArray
  rw [List.eraseIdxIfInBounds_toArray]
 ·have:=len_erase xs k
  omega
def rCat:R2:=fun x y H Q=>∃l b xs zs,x=.ref l∧y=.ref b∧H l=some (.lst xs)∧H b=some (.lst zs)∧xs.length+zs.length≤sizeLine∧∀p,H p=none→Q (.ref p) (upd H p (.lst (xs++zs)))
theorem op_cat:OpR X (binaryOp .Add) rCat:=by
 intro pins s σ H x y v u Q I rx ry h
 obtain ⟨l,b,xs,zs,rfl,rfl,hH,hB,hz,q⟩:=h
 cases rx
 cases ry
 obtain ⟨z,its,n,r,hl,e⟩:=I.lstM hH
 obtain ⟨z2,its2,n2,r2,hl2,e2⟩:=I.lstM hB
 refine PySem.P.add_list e e2 ?_ (by rw [List.size_toArray,List.size_toArray]; omega)
 have ea:its.toArray++its2.toArray=(its++its2).toArray:=by simp
 rw [ea]
 exact ⟨.ref _,_,I.lnew (t':=s.toks) (r.append r2) (by rw [List.length_append]; omega),rfl,q _ I.fresh⟩
def rRep:R2:=fun x y H Q=>∃l k xs,x=.ref l∧y=.int k∧H l=some (.lst xs)∧-(2 ^ 63)≤k∧k<2 ^ 63∧xs.length*k.toNat≤sizeLine∧
 ∀p,H p=none→Q (.ref p) (upd H p (.lst (List.replicate k.toNat xs).flatten))
theorem len_rep {α:Type} (xs:List α) (k:Nat):(List.replicate k xs).flatten.length=k*xs.length:=by
 induction k with
 | zero=>simp
 | succ k ih=>rw [List.replicate_succ,List.flatten_cons,List.length_append,ih,Nat.succ_mul,Nat.add_comm]
theorem op_rep:OpR X (binaryOp .Mult) rRep:=by
 intro pins s σ H x y v u Q I rx ry h
 obtain ⟨l,k,xs,rfl,rfl,hH,h1,h2,hz,q⟩:=h
 cases rx
 obtain ⟨t,rfl⟩:=ry
 obtain ⟨z,its,n,r,hl,e⟩:=I.lstM hH
 have hlen:its.toArray.size*k.toNat≤sizeLine:=by rw [List.size_toArray,←hl]; exact hz
 have hcap:¬its.toArray.size*k.toNat > (2 ^ 63 - 1) / 8:=by
  have:(sizeLine:Nat)≤(2 ^ 63 - 1) / 8:=by decide
  omega
 have hfit:¬(!Builtin.List.listFitsIndex k)=true:=by
  rw [fitsIndex_both h1 h2]
  exact Bool.false_ne_true
 have hlong:¬Builtin.List.listTooLong (its.toArray.size*k.toNat)=true:=by
  rw [notLongL hlen]
  exact Bool.false_ne_true
 have hnew:List.foldl (fun x1 x2=>x1++x2) #[] (List.replicate (if its.toArray.isEmpty=true then 0 else k.toNat) its.toArray)=(List.replicate k.toNat its).flatten.toArray:=by
  have f0:∀m:Nat,List.foldl (fun x1 x2=>x1++x2) #[] (List.replicate m its.toArray)=(List.replicate m its).flatten.toArray:=fun m=>by
   have:=foldl_rep its m []
   rw [List.nil_append] at this
   exact this
  rw [f0]
  cases its with
  | nil=>simp
  | cons a r'=>rw [if_neg (by simp)]
 refine wpAny_binaryOp_repeat_ref (T:= "list") (U:= "int") (by decide) ⟨_,e,rfl⟩ (fun s'=>typeIs_int s' k t) noFill_list_mul F.fills_int_mul F.slot_int_rmul repeat_list F.slot_int_index.lookup
  (call_meets F.slot_int_rmul (typeIs_int s k t) F.entry_int_rmul (F.args_int_rmul_2 _ _) (int___rmul___int_list k t l its.toArray n)
   ⟨e,rfl,⟨_,e,rfl⟩,call_meets F.slot_list_mul ⟨_,e,rfl⟩ F.entry_list_mul (F.args_list_mul_2 _ _) (AutoListH.list___mul___list_int_3 l its.toArray n k t hfit hcap hlong) ⟨e,?_⟩⟩)
 rw [hnew]
 exact ⟨.ref _,_,I.lnew (t':=s.toks) (r.rep k.toNat) (by rw [len_rep,Nat.mul_comm]; exact hz),rfl,q _ I.fresh⟩
end
section
variable {prog:Program} {w:World} {A:Around} {E:Value→Shared→Prop} {s:Shared}
end
section
variable {X:Cx}
end
end L2
namespace Att
open PySem PySem.W PySem.Calls PyProof.Rows
theorem q9l {P:Params} {h:Heap}:∀(ns:List Int) (vs:List Value),WellAll P h vs (ns.map WData.int)→IntsAre vs ns:=by
 intro ns
 induction ns with
 | nil=>
  intro vs w
  rw [List.map_nil] at w
  cases w
  exact .nil
 | cons n ns ih=>
  intro vs w
  rw [List.map_cons] at w
  cases w with
  | cons a b=>
   cases a
   exact .cons _ _ (ih _ b)
theorem script_of {l : OpenLaw} {n : Nat} (hn : l.most = some n) {P : Params} {h : Heap} {args : List WData} {vals : List Value}
  (hpre : l.row.toRowW.claim.pre args = true) (hwl : WellAll P h vals args) :
  ∃ a vs ns, vals = [Value.ref a] ∧ args = [WData.list (ns.map WData.int)] ∧ h.get? a = some { cls := .type "list", data := .seq vs.toArray } ∧ IntsAre vs ns ∧ ns.length ≤ n := by
 have hsh : WShape.hasAll [] args [.list .int] = true := (pre_splitW hpre).1
 have hc : l.pre.holds [] { args := args } = true := (pre_splitW hpre).2
 obtain ⟨d, r, rfl, h1, h2⟩ := hasAllW_cons hsh
 obtain rfl := hasAllW_nil h2
 obtain ⟨xs, rfl, h3⟩ := hasW_list h1
 obtain ⟨ns, rfl⟩ := items_int h3
 have hlen : ns.length ≤ n := by
  unfold OpenLaw.pre at hc
  have h4 : (WTm.not (.lt (.lit (.int (n : Int))) (.len (.arg 0)))).holds [] { args := [.list (ns.map .int)] } = true := by
   have h4 := (holds_andW hc).1
   rw [hn] at h4
   exact h4
  have h5 := condW_of h4 (w_not (w_lt w_lit (w_len_list (w_arg rfl))))
  rw [List.length_map] at h5
  refine Nat.le_of_not_lt fun q => ?_
  have q' : (n : Int) < ((ns.length : Nat) : Int) := by omega
  first
   | (rw [decide_eq_true q'] at h5; exact absurd h5 (by decide))
   | (simp at h5; omega)
 cases hwl with
 | cons w1 w2 =>
  cases w2
  cases w1 with
  | list ho hall => exact ⟨_, _, ns, rfl, rfl, ho, q9l ns _ hall, hlen⟩
theorem post_true (l:OpenLaw) (args:List WData):l.row.toRowW.claim.post args (.bool true) args=true:=
 postW_of (r:=l.row.toRowW) (X:=(true == true))
  (show WShape.has [] (.bool true) .bool=true by first | rfl | decide | simp [WShape.has,WShape.arms,WShape.armsAll])
  (show (WTm.eq .res (.lit (.bool true))).value [] { args:=args,res:=some (.bool true),after:=args }=some (.bool (true == true)) from w_eq_bool (w_res rfl) w_lit) rfl
theorem attach_call {l:OpenLaw} {n:Nat} {q:Program} {loose:List Str} {XP:(Str→Option Value)→Heap→Prop} {YP:World→Heap→Prop} {d:DefRec}
  (hn:l.most=some n) (hdf:d.params.defaults=[])
  (call:∀(w:World) (s₀ s₁:Shared) (mg mb:Str→Option Value) (fa:Addr) (o:Obj) (pm cd doc:Value) (a:Addr) (vs:List Value) (ns:List Int),
   Ground q loose [] XP w s₀ mg mb s₁.heap→YP w s₁.heap→
   s₁.heap.get? fa=some o→o.data=.func (docDef d.name d.params d.body d.scope pm cd doc)→s₁.heap.CodeRec cd d.name→mg d.name=some (.ref fa)→
   s₁.heap.get? a=some { cls:=.type "list",data:=.seq vs.toArray }→IntsAre vs ns→ns.length≤n→s₁.gens=#[]→
   codeAny (model l.prog w) callerA (.call (.ref fa) ⟨[.ref a],[]⟩) (fun r s'=>r=.ok (.ret (.bool true))∧OldK s₁.heap s'.heap∧s'.os=s₁.os∧AllBare s'.gens) s₁) :
  WalkO q loose XP YP l.row.toRowW d [] (fun f vs=>PySem.call f vs):=by
 intro w s₀ s₁ mg mb G Y fa o pm cd doc dV kV ho hd hcd hD hmg hg args vals as hpre hlay hrd hwl hlo
 obtain rfl:dV=.none:=Dflts.none hD hdf
 obtain rfl:kV=.none:=Dflts.noKw hD
 obtain ⟨a,vs,ns,rfl,rfl,hobj,hints,hlen⟩:=script_of hn hpre hwl
 refine enter_call (codeAny_mono (call w s₀ s₁ mg mb fa o pm cd doc a vs ns G Y ho (fd_plain hd) hcd hmg hobj hints hlen hg) fun r s' hq=>?_)
 obtain ⟨rfl,h2,h3,h4⟩:=hq
 exact ⟨.inl ⟨.bool true,.bool true,[],rfl,fun _=>rfl,.bool true,post_true l _,fun _=>⟨List.Pairwise.nil,fun _ hm=>(nomatch hm)⟩⟩,h2,h3,h4⟩
section
variable {prog:Program} {w:World} {A:Around} {E:Value→Shared→Prop} {s:Shared} {K:Frag}
end
end Att
namespace L2
open PySem PySem.Spec PyProof.Rows
theorem vals_ints:∀{vs:List Value} {ns:List Int},IntsAre vs ns→Vals (ns.map V.int) vs
 | _,_,.nil=>.nil
 | _,_,.cons n t h=>.cons ⟨t,rfl⟩ (vals_ints h)
def Only (H:Hp):Prop:=∀b,H b=none∨∃o xs,H b=some (.frz o (.lst xs))
theorem law_call {P:Program} {w:World} {K:PySem.W.Frag} {mg mb:Str→Option Value} {CX:CXT} {k:Nat} {fa a:Addr} {fd:FuncData} {x:Str} {sp:Sp} {s₁:Shared} {vs:List Value} {ns:List Int}
  (KX:K.In s₁.heap) (hns:s₁.heap.Ns mainGlobals mg) (hb:s₁.heap.Ns builtinsNs mb) (hbb:∀x:Str,x≠ "__name__" →mb x=bootBuiltins x) (hlim:s₁.heap.NoLimit) (hg:s₁.gens=#[])
  (ha:s₁.heap.get? a=some { cls:=.type "list",data:=.seq vs.toArray }) (hi:IntsAre vs ns) (hl:ns.length≤sizeLine) (hr:Room k callerA)
  (F:∀base:Heap,K.In base→base.Ns mainGlobals mg→FnOk P w K mg base CX k fa fd [x] sp) (hbind:∀(s:Shared) (u:Value),BindsTo s fd ⟨[u],[]⟩ [(x,u)])
  (hsp:∀H:Hp,Only H→SqL K H a (ns.map V.int)→sp [.ref a] H (fun v _=>v=.bl true) fun _ _ _=>False)
  (hCX:∀H e s',CX [] H s₁ (fun _ _ _=>False) e s'→False) :
  codeAny (model P w) callerA (.call (.ref fa) ⟨[.ref a],[]⟩) (fun r s'=>r=.ok (.ret (.bool true))∧OldK s₁.heap s'.heap∧s'.os=s₁.os∧AllBare s'.gens) s₁:=by
 have rv:=vals_ints hi
 have lenV:=hi.length
 have core:∀H:Hp,Only H→SqL K H a (ns.map V.int)→HOk P w H s₁.heap→(∀b,H b≠none→b=a)→(H a≠none→K.lookup a=none)→
   codeAny (model P w) callerA (.call (.ref fa) ⟨[.ref a],[]⟩) (fun r s'=>r=.ok (.ret (.bool true))∧OldK s₁.heap s'.heap∧s'.os=s₁.os∧AllBare s'.gens) s₁:=by
  intro H hO hS hok hA hK
  have base_of:∀{b:Addr} {o:Obj},s₁.heap.get? b=some o→H b=none→(hidT s₁.heap H).get? b=some o:=fun e n=>hidT_get e n
  have noA:∀{b:Addr} {o:Obj} {es:Array DictEntry} {ep:Nat},s₁.heap.get? b=some o→o.data=.dict es ep→H b=none:=fun {b o es ep} e d=>by
   cases q:H b with
   | none=>rfl
   | some u=>
    have e':b=a:=hA b (by rw [q]; simp)
    subst e'
    rw [ha] at e; cases e
    have d':Data.seq vs.toArray _=Data.dict es ep:=d
    cases d'
  have nsK:∀{b:Addr} {m:Str→Option Value},s₁.heap.Ns b m→(hidT s₁.heap H).Ns b m:=fun {b m} ⟨o,es,ep,e,d,r⟩=>⟨o,es,ep,base_of e (noA e d),d,r⟩
  have hKb:K.In (hidT s₁.heap H):=fun b o e=>base_of (KX b o e) (by
   cases q:H b with
   | none=>rfl
   | some u=>
    have e':b=a:=hA b (by rw [q]; simp)
    subst e'
    rw [hK (by rw [q]; simp)] at e; cases e)
  have hM:Mod K mg (hidT s₁.heap H):=⟨hKb,nsK hns,⟨mb,nsK hb,hbb⟩,let ⟨mc,h1,h2⟩:=hlim; ⟨mc,nsK h1,h2⟩⟩
  have e0:Env0 P w K mg (hidT s₁.heap H) callerA [] s₁ H:=⟨rfl,hM,fun b o e=>of_hidT e,Nat.le_of_eq (hidT_size _ _),trivial,fun b hb=>absurd (show b∈([]:List Addr) from hb) (by simp),hok,.of_eq hg⟩
  refine codeAny_mono ((F _ hKb (nsK hns)).run callerA [] s₁ H ⟨[.ref a],[]⟩ [.ref a] [.ref a] _ _ hr e0 (hbind s₁ (.ref a)) (.cons rfl .nil) (hsp H hO hS)) fun r s' h=>?_
  cases r with
  | error e=>exact (hCX H e s' h).elim
  | ok fl=>
   cases fl with
   | next=>exact False.elim h
   | brk=>exact False.elim h
   | cont=>exact False.elim h
   | ret u=>
    obtain ⟨v,H',os,bare,un,hok',r',q⟩:=h
    have q':v=.bl true:=q
    subst q'
    obtain rfl:u=Value.bool true:=r'
    refine ⟨rfl,OldK.of_keep fun b o e=>?_,os,bare⟩
    cases q:H b with
    | none=>exact un.keep b o e q (by intro z; exact absurd (show b∈([]:List Addr) from z) (by simp)) (by simp)
    | some u=>
     rcases hO b with z | ⟨ob,xs,z⟩
     ·rw [q] at z; cases z
     ·have z2:=un.frzs b ob _ z
      obtain ⟨e1,_⟩:=hok b _ z
      obtain ⟨e2,_⟩:=hok' b _ z2
      rw [e] at e1; cases e1
      exact e2
 cases hk:K.lookup a with
 | some o=>
  have e:=KX a o hk
  rw [ha] at e
  cases e
  refine core (fun _=>none) (fun _=>.inl rfl) (.inr ⟨_,vs.toArray,_,hk,rfl,rfl,rfl,by rw [List.size_toArray,lenV]; exact hl,by simpa using rv⟩) (fun b u z=>by have z':(none:Option HO)=some u:=z; cases z') (fun b z=>absurd rfl z) fun z=>absurd rfl z
 | none=>
  refine core (fun b=>if b=a then some (.frz { cls:=.type "list",data:=.seq vs.toArray } (.lst (ns.map V.int))) else none) (fun b=>?_) (.inl (.inr ⟨{ cls:=.type "list",data:=.seq vs.toArray },if_pos rfl⟩)) (fun b u z=>?_) (fun b z=>?_) fun _=>hk
  ·by_cases hb:b=a
   ·exact .inr ⟨_,_,if_pos hb⟩
   ·exact .inl (if_neg hb)
  ·by_cases hb:b=a
   ·have z':=(if_pos hb).symm.trans z
    cases z'
    subst hb
    exact ⟨ha,by rw [List.length_map]; exact hl,vs,_,rv,ha⟩
   ·have z':=(if_neg hb).symm.trans z
    cases z'
  ·by_cases hb:b=a
   ·exact hb
   ·exact absurd (if_neg hb) z
end L2
namespace L2
open PySem PySem.Spec PyProof.Rows
theorem walk_of {l:PySem.W.OpenLaw} {n k:Nat} {q:Program} {loose:List Str} {XP:(Str→Option Value)→Heap→Prop} {YP:World→Heap→Prop} {d:DefRec} {K:Params→PySem.W.Frag} {CX:World→CXT} {sp:World→Sp} {x:Str}
  (hn:l.most=some n) (hn2:n≤sizeLine) (hdf:d.params.defaults=[]) (hr:Room k callerA)
  (hY:∀(w:World) (h:Heap),YP w h→(K w.params).In h)
  (F:∀(w:World) (mg:Str→Option Value) (fa:Addr) (h:Heap),(K w.params).In h→h.Ns mainGlobals mg→mg d.name=some (.ref fa)→
   ∃fd:FuncData,(∀(s:Shared) (u:Value),BindsTo s fd ⟨[u],[]⟩ [(x,u)])∧
    ∀base:Heap,(K w.params).In base→base.Ns mainGlobals mg→FnOk l.prog w (K w.params) mg base (CX w) k fa fd [x] (sp w))
  (hsp:∀(w:World) (H:Hp) (a:Addr) (ns:List Int),ns.length≤n→Only H→SqL (K w.params) H a (ns.map V.int)→sp w [.ref a] H (fun v _=>v=.bl true) fun _ _ _=>False)
  (hCX:∀(w:World) (H:Hp) (s:Shared) (e:Value) (s':Shared),CX w [] H s (fun _ _ _=>False) e s'→False) :
  PySem.W.WalkO q loose XP YP l.row.toRowW d [] (fun f vs=>PySem.call f vs):=by
 refine Att.attach_call hn hdf fun w s₀ s₁ mg mb fa o pm cd doc a vs ns G Y ho hd hcd hmg hobj hints hlen hg=>?_
 have KX:=hY w _ Y
 obtain ⟨fd,hb,hF⟩:=F w mg fa _ KX G.T.g hmg
 exact law_call KX G.T.g G.T.b G.T.builtins G.T.nolimit hg hobj hints (Nat.le_trans hlen hn2) hr hF hb (fun H hO hS=>hsp w H a ns hlen hO hS) fun H e s'=>hCX w H s₁ e s'
end L2
/- THE LAST THEOREM (shape; LID,My.* are yours):
   My.Adr: a structure of the addresses that your layer names (classes,functions); My.Txt K t: a structure (Prop) of the equations over K;
   My.txt_mk:{K} {implicit addresses ..} (e1:nsIn K mainGlobals "law" = some (some (.ref f))) (e2:K.lookup f=some ⟨oc,od,.func (fnOf "law" "law" params body scope dV kV doc pm an cdv ct),sl⟩) (e3:codeIn K cdv "law" = true) ..:∃t,My.Txt K t
set_option maxRecDepth 100000 in
set_option maxHeartbeats 0 in
theorem PySem.Challenge.cw_LID_holds : PySem.Challenge.rw_LID.Holds := by
 w_on; o_law; k_head; (case hw => w_witness2)
 k_fill
 refine L2.walk_of (l := PySem.Challenge.rw_LID) (n := 63) (k := 40) (x := "script") (CX := fun w => ..) (sp := fun _ => My.sp_law) rfl (by decide) rfl ⟨rfl, by decide, by decide⟩ (fun w h Y => PySem.W.kIn_of Y) ?F ?S ?C
 case F =>
  intro w mg fa h KX G hmg
  have T : ∃ t, My.Txt (L2.KOf KX) t := by
   dsimp only [L2.KOf]                          -- K must stand as «<heap const> w.params» for k_is
   refine' My.txt_mk ?e1 ?e2 ?e3 ..
   (case e1 => PySem.W.k_is)                    -- in the order: a name -> its address -> its object -> its parts
   (case e2 => PySem.W.k_is)
   ..
  obtain ⟨t, T⟩ := T
  have e0 := hmg.symm.trans (PySem.W.mg_of KX G T.law)
  cases e0                                       -- fa is the law's own address
  exact ⟨_, fun s u => .of_eq rfl, fun base kb nb => My.law_fn T kb nb⟩     -- if «.of_eq rfl» comes too early: refine' ⟨_, ?b, fun base kb nb => My.law_fn T kb nb⟩; exact fun s u => .of_eq rfl
 case S => exact fun w H a ns hl hO hS => ..
 case C => exact ..
(the tactic k_is has no namespace: write k_is) -/
namespace L2
open PySem PySem.Spec PyProof.Rows
def q1c (s:Stmt):Arguments:=match s with
 | .FunctionDef _ a _ _ _ _ _ _ _ _=>a
 | _=>{ posonlyargs:=[],args:=[],vararg:=none,kwonlyargs:=[],kw_defaults:=[],kwarg:=none,defaults:=[] }
def q0z (s:Stmt):List Stmt:=match s with
 | .FunctionDef _ _ b _ _ _ _ _ _ _=>b
 | _=>[]
def q0j (s:Stmt):Scope:=match s with
 | .FunctionDef _ _ _ _ _ _ sc _ _ _=>sc
 | _=>{ kind:=.function,names:=[],isGenerator:=false,isCoroutine:=false }
abbrev E0:XK:=fun _ _ _=>False
structure Fun (K:PySem.W.Frag) (x qual:Str) (st:Stmt) (f:Addr) (fd:FuncData):Prop where
 ex:∃(oc:Value) (od:Option Addr) (kV doc pm:Value) (an:Option Addr) (cdv ct:Value) (osl:Array (Option Value)),
  fd=PySem.W.fnOf x qual (q1c st) (q0z st) (q0j st) .none kV doc pm an cdv ct∧K.lookup f=some ⟨oc,od,.func fd,osl⟩∧PySem.W.codeIn K cdv qual=true
 kp:PySem.W.keepIn K (.ref f)=true
section
variable {P:Program} {w:World} {K:PySem.W.Frag} {mg:Str→Option Value} {base:Heap}
theorem Fun.binds {x qual:Str} {st:Stmt} {f:Addr} {fd:FuncData} {ps:List Str} (F:Fun K x qual st f fd)
  (h:∀(kV doc pm:Value) (an:Option Addr) (cdv ct:Value) (us:List Value),us.length=ps.length→bindArgs (PySem.W.fnOf x qual (q1c st) (q0z st) (q0j st) .none kV doc pm an cdv ct) ⟨us,[]⟩=pure (ps.zip us)):Binds K fd ps []:=by
 obtain ⟨oc,od,kV,doc,pm,an,cdv,ct,osl,rfl,lk,hcd⟩:=F.ex
 exact .all (h kV doc pm an cdv ct)
theorem q0x {x qual:Str} {st:Stmt} {f:Addr} {oc:Value} {od an:Option Addr} {osl:Array (Option Value)} {kV doc pm cdv ct:Value} (l:K.lookup f=some ⟨oc,od,.func (PySem.W.fnOf x qual (q1c st) (q0z st) (q0j st) .none kV doc pm an cdv ct),osl⟩)
  (c:PySem.W.codeIn K cdv qual=true) (k:PySem.W.keepIn K (.ref f)=true):Fun K x qual st f (PySem.W.fnOf x qual (q1c st) (q0z st) (q0j st) .none kV doc pm an cdv ct):=⟨⟨oc,od,kV,doc,pm,an,cdv,ct,osl,rfl,l,c⟩,k⟩
end
section
variable {X:Cx}
end
theorem ite2 {c A B:Prop} [Decidable c] (h1:c→A) (h2:¬c→B):if c then A else B:=by
 by_cases h:c
 ·rw [if_pos h]
  exact h1 h
 ·rw [if_neg h]
  exact h2 h
def Same (H H':Hp):Prop:=∀b o,H b=some o→H' b=some o
end L2
namespace L2
open PySem PySem.Spec PyProof.Rows
structure Fly (e:Addr) (cls:Value) (own:List Addr) (h:Heap):Prop where
 is:∃(oe:Obj) (vs:Array Value) (hd:Value),h.get? e=some oe∧oe.cls=cls∧oe.data=.fields vs∧vs[1]?=some hd∧
  (hd=.none∨∃(T:Addr) (oT:Obj) (ts:Array Value),hd=.ref T∧T∈own∧T≠e∧h.get? T=some oT∧oT.data=.fields ts∧ts[3]?=some .none)
structure Past (fs own:List Addr) (h h':Heap):Prop where
 keep:∀b o,h.get? b=some o→b∉own→b∉fs→h'.get? b=some o
 slot:∀b o,h.get? b=some o→b∉own→b∈fs→∃sl,h'.get? b=some { o with slots:=sl }
 there:∀b o,h.get? b=some o→∃o',h'.get? b=some o'
theorem Past.refl (fs own:List Addr) (h:Heap):Past fs own h h:=⟨fun _ _ q _ _=>q,fun _ o q _ _=>⟨o.slots,q⟩,fun _ o q=>⟨o,q⟩⟩
theorem Past.trans {fs own:List Addr} {h1 h2 h3:Heap} (a:Past fs own h1 h2) (b:Past fs own h2 h3):Past fs own h1 h3 where
 keep:=fun c o q n m=>b.keep c o (a.keep c o q n m) n m
 slot:=fun c o q n m=>by
  obtain ⟨sl,q1⟩:=a.slot c o q n m
  obtain ⟨sl2,q2⟩:=b.slot c _ q1 n m
  exact ⟨sl2,q2⟩
 there:=fun c o q=>by
  obtain ⟨o1,q1⟩:=a.there c o q
  exact b.there c o1 q1
theorem Past.mono {fs own own':List Addr} {h h':Heap} (a:Past fs own h h') (k:∀b∈own,b∈own'):Past fs own' h h':=
 ⟨fun b o q n m=>a.keep b o q (fun z=>n (k b z)) m,fun b o q n m=>a.slot b o q (fun z=>n (k b z)) m,a.there⟩
theorem past_slots {fs own:List Addr} {h h':Heap} (x:Heap.SlotsOnly fs h h'):Past fs own h h' where
 keep:=fun b o q _ m=>by rw [x.2.1 b m]; exact q
 slot:=fun b o q _ _=>x.2.2 b o q
 there:=fun b o q=>let ⟨_,z⟩:=x.2.2 b o q; ⟨_,z⟩
theorem past_push {fs own:List Addr} (h:Heap) (o:Obj):Past fs own h (h.push o) where
 keep:=fun b u q _ _=>Heap.get?_push_of_some o q
 slot:=fun b u q _ _=>⟨u.slots,Heap.get?_push_of_some o q⟩
 there:=fun b u q=>⟨u,Heap.get?_push_of_some o q⟩
theorem q7o {fs own:List Addr} {h:Heap} {a:Addr} {oa:Obj} {vs:Array Value} (g:Array Value→Array Value) (ha:a∈own) (q:h.get? a=some oa) (hd:oa.data=.fields vs):Past fs own h (h.update a (Obj.mapFields g)) where
 keep:=fun b u z n _=>by rw [Heap.get?_update_other _ _ (fun w=>n (by rw [←w]; exact ha))]; exact z
 slot:=fun b u z n _=>⟨u.slots,by rw [Heap.get?_update_other _ _ (fun w=>n (by rw [←w]; exact ha))]; exact z⟩
 there:=fun b u z=>by
  by_cases w:a=b
  ·subst w
   exact ⟨_,Heap.get?_update_self _ q (Obj.isFreed_of_fields (Obj.data_mapFields hd g))⟩
  ·exact ⟨u,by rw [Heap.get?_update_other _ _ w]; exact z⟩
section
variable {M:Model} {A:Around} {E:Value→Shared→Prop} {s:Shared}
theorem note_new {base:Heap} {env:Env} {outer:List Env} {L e:Addr} {oe:Obj} {vs:Array Value} {head:Value} {hn:Bool} {own:List Addr} {Q:Unit→Shared→Prop} (hfr:A.frames=some (env::outer)) (hl:s.heap.FunFrames base (env::outer))
  (hf:env.frame=some L) (he:s.heap.get? e=some oe) (hd:oe.data=.fields vs) (hsz:1<vs.size) (ho:e∈own)
  (h:∀h' T,s.heap.get? T=none→Past ((env::outer).filterMap (·.frame)) own s.heap h'→Fly e oe.cls [T] h'→Q () { s with heap:=h' }) :
  wpAny M A (do let a ←frameOf env; let pl ←entryPlaceOf L hn; let b ←EntryCells.newEntry head a .none (rawInt L) .none pl; setField (.ref e) 1 b) (fun _ s'=>wpAny M A (setFlight (.ref e) none) Q E s') E s:=by
 have nfr:e∉(env::outer).filterMap (·.frame):=fun z=>by
  obtain ⟨-,o,q,nd⟩:=hl.mem z
  rw [he] at q; cases q
  exact nd vs hd
 refine wpAny_bind (wpAny_frameOf_fun hfr hl hf fun g1 s1=>wpAny_bind (wpAny_entryPlaceOf fun pl hpl=>?_))
 have P1:Past ((env::outer).filterMap (·.frame)) own s.heap g1:=past_slots s1
 unfold EntryCells.newEntry newFields
 refine wpAny_bind (wpAny_newObj_type ?_ (hpl.sizeOk5 _ _ _ _ _))
 have e1:g1.get? e=some oe:=by rw [s1.2.1 e nfr]; exact he
 generalize hto:({ cls:=.type "traceback",dict:=none,data:=.fields ([head,.ref L,.none,rawInt L,.none]++(if pl.isEmpty then List.replicate 6 Value.none else pl)).toArray }:Obj)=to
 have P2:Past ((env::outer).filterMap (·.frame)) own g1 (g1.push to):=past_push g1 to
 have e2:=Heap.get?_push_of_some (h:=g1) to e1
 have Tnew:s.heap.get? g1.objs.size=none:=by
  cases q:s.heap.get? g1.objs.size with
  | none=>rfl
  | some o=>exact absurd (Heap.lt_size q) (by rw [s1.1]; exact Nat.lt_irrefl _)
 have T2:(g1.push to).get? g1.objs.size=some to:=Heap.get?_push_size g1 (by subst hto; rfl)
 refine wpAny_setField e2 hd hsz ?_
 have Te:g1.objs.size≠e:=Nat.ne_of_gt (Heap.lt_size e1)
 have P3:Past ((env::outer).filterMap (·.frame)) own (g1.push to) _:=q7o (·.setIfInBounds 1 (Value.ref g1.objs.size)) ho e2 hd
 have d3:=Obj.data_mapFields hd (·.setIfInBounds 1 (Value.ref g1.objs.size))
 have e3:=Heap.get?_update_self (Obj.mapFields (·.setIfInBounds 1 (Value.ref g1.objs.size))) e2 (Obj.isFreed_of_fields d3)
 have T3:=(Heap.get?_update_other (g1.push to) (Obj.mapFields (·.setIfInBounds 1 (Value.ref g1.objs.size))) (Ne.symm Te)).trans T2
 have tod:to.data=.fields ([head,.ref L,.none,rawInt L,.none]++(if pl.isEmpty then List.replicate 6 Value.none else pl)).toArray:=by subst hto; rfl
 unfold setFlight
 refine wpAny_bind (wpAny_field e3 d3 (x:=.ref g1.objs.size) (by simp [hsz]) ?_)
 rw [if_pos (show (Value.ref g1.objs.size != Value.none)=true by simp)]
 have sz3:3<([head,.ref L,.none,rawInt L,.none]++(if pl.isEmpty then List.replicate 6 Value.none else pl)).toArray.size:=by
  simp only [List.size_toArray,List.length_append,List.length_cons,List.length_nil]; omega
 refine wpAny_setField T3 tod sz3 (h _ g1.objs.size Tnew ?_ ?_)
 ·have P:=(P1.trans P2).trans P3
  have nT:∀b u,s.heap.get? b=some u→g1.objs.size≠b:=fun b u z w=>by rw [w,z] at Tnew; cases Tnew
  refine ⟨fun b u z n m=>?_,fun b u z n m=>?_,fun b u z=>?_⟩
  ·rw [Heap.get?_update_other _ _ (nT b u z)]
   exact P.keep b u z n m
  ·obtain ⟨sl,q⟩:=P.slot b u z n m
   exact ⟨sl,by rw [Heap.get?_update_other _ _ (nT b u z)]; exact q⟩
  ·obtain ⟨o',q⟩:=P.there b u z
   exact ⟨o',by rw [Heap.get?_update_other _ _ (nT b u z)]; exact q⟩
 ·have T4:=Heap.get?_update_self (Obj.mapFields (·.setIfInBounds 3 ((none:Option Addr).elim Value.none fun f=>rawInt f))) T3 (Obj.isFreed_of_fields (Obj.data_mapFields tod _))
  refine ⟨_,_,.ref g1.objs.size,?_,Obj.cls_mapFields _ _,d3,by simp [hsz],.inr ⟨g1.objs.size,_,_,rfl,by simp,Te,T4,Obj.data_mapFields tod _,?_⟩⟩
  ·rw [Heap.get?_update_other _ _ Te]
   exact e3
  ·rw [Array.getElem?_setIfInBounds_self_of_lt sz3]
   rfl
theorem note_fly {base:Heap} {env:Env} {outer:List Env} {L e:Addr} {cls:Value} {own:List Addr} {Q:Unit→Shared→Prop} (hfr:A.frames=some (env::outer)) (hl:s.heap.FunFrames base (env::outer)) (hf:env.frame=some L) (F:Fly e cls own s.heap)
  (h:∀h' T,s.heap.get? T=none→Past ((env::outer).filterMap (·.frame)) (e::own) s.heap h'→Fly e cls [T] h'→Q () { s with heap:=h' }):wpAny M A (noteFrame (.ref e) env) (fun _ s2=>wpAny M A (setFlight (.ref e) none) Q E s2) E s:=by
 obtain ⟨oe,vs,hd,he,hc,hdt,h1,hh⟩:=F.is
 subst hc
 have hsz:1<vs.size:=(Array.getElem?_eq_some_iff.mp h1).1
 unfold noteFrame
 simp only [hf]
 refine wpAny_bind (wpAny_field he hdt h1 ?_)
 rcases hh with rfl | ⟨T,oT,ts,rfl,hT,Te,gT,dT,h3⟩
 ·rw [if_neg (by decide)]
  exact note_new hfr hl hf he hdt hsz (by simp) h
 ·rw [if_pos (show (Value.ref T != Value.none)=true by simp)]
  refine wpAny_bind (wpAny_field gT dT h3 ?_)
  rw [if_neg (show ¬((Value.none == rawInt L)=true) by simp [rawInt])]
  refine wpAny_bind (wpAny_setField gT dT (Array.getElem?_eq_some_iff.mp h3).1 ?_)
  have P:Past ((env::outer).filterMap (·.frame)) (e::own) s.heap _:=q7o (·.setIfInBounds 3 Value.none) (List.mem_cons_of_mem _ hT) gT dT
  have hl2:(s.heap.update T (Obj.mapFields (·.setIfInBounds 3 Value.none))).FunFrames base (env::outer):=hl.of_keeps fun b o q nd=>⟨o,by
   rw [Heap.get?_update_other _ _ (fun w=>by subst w; rw [gT] at q; cases q; exact nd ts dT)]; exact q,rfl⟩
  refine note_new (own:=e::own) hfr hl2 hf (oe:=oe) (by rw [Heap.get?_update_other _ _ Te]; exact he) hdt hsz (by simp) fun h' T' n' P' F'=>h h' T' ?_ (P.trans P') F'
  cases q:s.heap.get? T' with
  | none=>rfl
  | some o=>
   obtain ⟨o',z⟩:=P.there T' o q
   rw [z] at n'
   cases n'
theorem leave_fly {base:Heap} {env:Env} {outer:List Env} {L e:Addr} {cls:Value} {own:List Addr} {Q:Unit→Shared→Prop} (hfr:A.frames=some (env::outer)) (hl:s.heap.FunFrames base (env::outer)) (hf:env.frame=some L) (F:Fly e cls own s.heap)
  (h:∀h' T,s.heap.get? T=none→Past ((env::outer).filterMap (·.frame)) (e::own) s.heap h'→Fly e cls [T] h'→Q () { s with heap:=h' }):wpAny M A (leaving env (.ref e)) Q E s:=by
 unfold leaving
 exact wpAny_bind (note_fly hfr hl hf F h)
theorem land_fly {fs:List Addr} {e T:Addr} {cls:Value} {Q:Unit→Shared→Prop} (F:Fly e cls [T] s.heap) (h:∀h',Past fs [T] s.heap h'→Fly e cls [T] h'→Q () { s with heap:=h' }):wpAny M A (setFlight (.ref e) none) Q E s:=by
 obtain ⟨oe,vs,hd,he,hc,hdt,h1,hh⟩:=F.is
 unfold setFlight
 refine wpAny_bind (wpAny_field he hdt h1 ?_)
 rcases hh with rfl | ⟨T',oT,ts,rfl,hT,Te,gT,dT,h3⟩
 ·rw [if_neg (by decide)]
  exact wpAny_pure (h s.heap (Past.refl _ _ _) ⟨oe,vs,.none,he,hc,hdt,h1,.inl rfl⟩)
 ·have:T'=T:=by simpa using hT
  subst this
  rw [if_pos (show (Value.ref T' != Value.none)=true by simp)]
  have s3:=(Array.getElem?_eq_some_iff.mp h3).1
  have T4:=Heap.get?_update_self (Obj.mapFields (·.setIfInBounds 3 ((none:Option Addr).elim Value.none fun f=>rawInt f))) gT (Obj.isFreed_of_fields (Obj.data_mapFields dT _))
  refine wpAny_setField gT dT s3 (h _ (q7o _ (by simp) gT dT) ⟨oe,vs,.ref T',by rw [Heap.get?_update_other _ _ Te]; exact he,hc,hdt,h1,.inr ⟨T',_,_,rfl,by simp,Te,T4,Obj.data_mapFields dT _,?_⟩⟩)
  rw [Array.getElem?_setIfInBounds_self_of_lt s3]
  rfl
end
def CXE (P:Program) (w:World):CXT:=fun outer H s E e s'=>∃(a:Addr) (cls:Value) (own:List Addr) (H':Hp),e=.ref a∧s'.os=s.os∧AllBare s'.gens∧Un (frs outer) [] H H' s.heap s'.heap∧HOk P w H' s'.heap∧Fly a cls own s'.heap∧
 (∀b∈a::own,s.heap.get? b=none∧H' b=none)∧E cls none H'
theorem HOk.past {P:Program} {w:World} {H:Hp} {h h':Heap} {fs own:List Addr} (ok:HOk P w H h) (p:Past fs own h h') (n1:∀b∈fs,H b=none) (n2:∀b∈own,H b=none):HOk P w H h':=fun a o q=>
 (ok a o q).stay (fun b u hb z=>p.keep b u z (fun m=>by
   rcases hb with rfl | hb
   ·rw [n2 _ m] at q; cases q
   ·rw [n2 _ m] at hb; cases hb) (fun m=>by
   rcases hb with rfl | hb
   ·rw [n1 _ m] at q; cases q
   ·rw [n1 _ m] at hb; cases hb)) (fun _ q=>q) fun _ _ q=>q
theorem q3a.ex {P:Program} {w:World} {H:Hp} {h:Heap} {a:Addr} {o:HO} (x:q3a P w H h a o):∃u,h.get? a=some u:=by
 cases o with
 | lst xs=>obtain ⟨_,_,_,_,e⟩:=x; exact ⟨_,e⟩
 | tup xs=>obtain ⟨_,_,_,_,e,_⟩:=x; exact ⟨_,e⟩
 | dK kvs=>obtain ⟨_,_,_,_,o,_,_,e,_⟩:=x; exact ⟨_,e⟩
 | dT kvs=>obtain ⟨_,_,_,_,o,_,_,e,_⟩:=x; exact ⟨_,e⟩
 | dH kvs=>obtain ⟨_,_,_,_,o,_,_,e,_⟩:=x; exact ⟨_,e⟩
 | set S n=>obtain ⟨o,_,_,_,e,_⟩:=x; exact ⟨_,e⟩
 | ins C dx fs=>obtain ⟨_,_,_,e,_⟩:=x; exact ⟨_,e⟩
 | own _=>exact x
 | xd fs=>obtain ⟨_,⟨_,_,_,e,_⟩,_⟩:=x; exact ⟨_,e⟩
 | rng lo hi=>obtain ⟨_,_,_,e⟩:=x; exact ⟨_,e⟩
 | frz o u=>exact ⟨_,x.1⟩
 | tbl ps=>exact ⟨_,x⟩
 | met f y=>exact ⟨_,x⟩
 | ext φ=>exact x.2.1
theorem HOk.none_of {P:Program} {w:World} {H:Hp} {h:Heap} {b:Addr} (ok:HOk P w H h) (n:h.get? b=none):H b=none:=by
 cases q:H b with
 | none=>rfl
 | some o=>
  obtain ⟨u,z⟩:=q3a.ex (ok b o q)
  rw [n] at z; cases z
theorem passX {P:Program} {w:World} {K:PySem.W.Frag} {mg:Str→Option Value} {base:Heap} {N:List Str} {qual:Str} {scope:Scope} {f:Addr} {cd:Value} {A:Around} {outer:List Env} {s:Shared} {H:Hp} {E:XK} :
  q5h (CXE P w) (cxOf (CXE P w) P w K mg base N qual scope f cd A outer s H E) E:=by
 intro pins σ H1 s1 e s2 I1 hx
 obtain ⟨a,cls,own,H2,rfl,os,bare,un,hok,F,new,q⟩:=hx
 have I2:=I1.call' os un hok bare (fun b z=>absurd z (by simp))
 have n0:∀b,(∃o,s.heap.get? b=some o)→∃o,s1.heap.get? b=some o:=fun b ⟨o,z⟩=>I1.base.there b o z (by intro y; cases y)
 have old:∀b,(∃o,s.heap.get? b=some o)→b∉a::own:=fun b z m=>by
  obtain ⟨o,y⟩:=n0 b z
  rw [(new b m).1] at y; cases y
 have n2:∀b,(∃o,s.heap.get? b=some o)→∃o,s2.heap.get? b=some o:=fun b ⟨o,z⟩=>I2.base.there b o z (by intro y; cases y)
 refine leave_fly (base:=base) I2.ok.frames I2.stack rfl F fun h' T nT P' F'=>?_
 have hfr:∀b,(∃o,s.heap.get? b=some o)→b∉frs outer→b∉frs (envOfC qual scope s.heap.objs.size f cd::outer):=fun b ⟨o,z⟩ m y=>by
  have lt:=Heap.lt_size z
  have y':b∈s.heap.objs.size::frs outer:=y
  rcases List.mem_cons.mp y' with r | r
  ·rw [r] at lt; exact absurd lt (Nat.lt_irrefl _)
  ·exact m r
 refine ⟨a,cls,[T],H2,rfl,I2.os,I2.bare,⟨fun b o z n m _=>?_,fun b o z n m _=>?_,fun b o z n x=>I2.base.free b o z n x,fun b o z x=>?_,I2.base.tups,I2.base.frzs,I2.base.tbls⟩,?_,F',?_,q⟩
 ·exact P'.keep b o (I2.base.keep b o z n m (by intro y; cases y)) (old b ⟨o,z⟩) (hfr b ⟨o,z⟩ m)
 ·obtain ⟨sl,y⟩:=I2.base.slot b o z n m (by intro y; cases y)
  obtain ⟨sl2,y2⟩:=P'.slot b _ y (old b ⟨o,z⟩) (show b∈s.heap.objs.size::frs outer from List.mem_cons_of_mem _ m)
  exact ⟨sl2,y2⟩
 ·obtain ⟨o2,y⟩:=n2 b ⟨o,z⟩
  exact P'.there b o2 y
 ·exact HOk.past I2.hok P' I2.stkFree fun b m=>(new b m).2
 ·intro b m
  simp only [List.mem_cons,List.not_mem_nil,or_false] at m
  rcases m with rfl | rfl
  ·refine ⟨?_,(new b (by simp)).2⟩
   cases z:s.heap.get? b with
   | none=>rfl
   | some o=>exact absurd (by simp) (old b ⟨o,z⟩)
  ·refine ⟨?_,HOk.none_of I2.hok nT⟩
   cases z:s.heap.get? b with
   | none=>rfl
   | some o=>
    obtain ⟨o',y⟩:=n2 b ⟨o,z⟩
    rw [nT] at y; cases y
theorem exc_obj {K:PySem.W.Frag} {h:Heap} {C:Addr} {bmB:List Value} {newId:String} (X:K.In h) (q:PySem.W.excIn K C bmB newId=true) :
  ∃bm N nm qn bs hd sn sub ab col dd k0 k1 k2 k3 k5 mN,h.get? C=some (excClassObj nm qn C N bs bm hd sn sub ab col dd k0 k1 k2 k3 k5 newId)∧h.Ns N mN∧mN "__init__" = none∧OwnTail h bmB bm:=by
 unfold PySem.W.excIn at q
 split at q
 ·rename_i d0 cl slots lk
  split at q
  ·rename_i C1 rest j0 j1 j2 j3 id j5 hm hs
   simp only [Bool.and_eq_true,beq_iff_eq,Bool.not_eq_true'] at q
   obtain ⟨⟨⟨⟨⟨rfl,rfl⟩,nodel⟩,tl⟩,okN⟩,noI⟩:=q
   obtain ⟨c1,c2,c3,c4,c5,c6,c7,c8,c9,c10,c11⟩:=cl
   dsimp only at hm nodel okN noI
   subst hm nodel
   have es:slots=#[j0,j1,j2,j3,some (.builtin id),j5]:=by
    cases slots with
    | mk l=>simp only at hs; rw [hs]
   subst es
   refine ⟨rest,c4,c1,c5,c2,c6,c7,c8,c9,c10,d0,j0,j1,j2,j3,j5,h.nsMap c4,X _ _ lk,?_,?_,?_⟩
   ·exact Heap.Ns.of_isNs (PySem.W.isNs_of_in X okN)
   ·exact PySem.W.nsMap_none_of_in X okN noI
   ·exact PySem.W.tail_of_in X tl
  ·cases q
 ·cases q
def vErr:List Value:=[.type "ValueError",.type "Exception",.type "BaseException",.type "object"]
section
variable {X:Cx} {E:XK}
theorem made_fly {pins:List (Addr×Obj)} {σ:St} {H:Hp} {s:Shared} {h':Heap} {a C:Addr} {vs:List Value} (I:Inv X pins σ H s) (m:Heap.MadeExcOf s.heap h' a (.ref C) vs) (q:E (.ref C) none H):CXE X.prog X.w X.stack H s E (.ref a) { s with heap:=h' }:=by
 obtain ⟨t,he,htn,ht⟩:=m.there
 refine ⟨a,.ref C,[],H,rfl,rfl,I.bare,Un.kept m.keeps,I.hok.kept m.keeps,⟨_,_,.none,he,rfl,rfl,rfl,.inl rfl⟩,fun b hb=>?_,q⟩
 have:b=a:=by simpa using hb
 subst this
 exact ⟨m.new,HOk.none_of I.hok m.new⟩
theorem ps_raise {x:Str} {C:Addr} {np cpos pos:Pos} {e0:Expr} {ta:TA} (hp:q5h (CXE X.prog X.w) X E) (hc:X.calm=true) (hg:Gl X x) (hm:X.mg x=some (.ref C)) (q:PySem.W.excIn X.K C vErr "ValueError.__new__" = true) (ha:PA X [e0] ta)
  (hd:(x == ("__debug__" : Str))=false:=by decide) (he:starEach [e0] X.env=(false,eval e0 X.env)::starEach [] X.env:=by rfl) :
  PS X (.Raise (some (.Call (.Name x np) [e0] [] cpos)) none pos) (fun _ σ H=>ta σ H fun vs H1=>vs.length≤sizeLine∧E (.ref C) none H1):=by
 intro pins s σ H D I h
 obtain ⟨bm,N,nm,qn,bs,hdd,sn,sub,ab,col,dd,k0,k1,k2,k3,k5,mN,hC,hN,hni,T⟩:=exc_obj I.ok.mod.kin q
 have FB:=PySem.F.excBase_ValueError
 refine wpAny_Raise_call_subT (C:=C) (N:=N) (nm:=nm) (q:=qn) (bs:=bs) (bm:=bm) (hdct:=hdd) (sn:=sn) (sub:=sub) (ab:=ab) (col:=col) (dd:=dd) (k0:=k0) (k1:=k1) (k2:=k2) (k3:=k3) (k5:=k5) (mN:=mN) FB (T.hasType FB.hasBase) (I.ok.hd hc) (by rw [he]; rfl) hni ?_
 refine q9h I hg hm ⟨rfl,?_⟩ hd
 have hs:=ha cpos pins s σ H _ I h
 rw [he] at hs ⊢
 refine Calls.evalArgs_plain (wpAny_mono hs (fun us s2 ⟨vs,H1,I1,r,hl,hE⟩=>?_) fun _ _ z=>z)
 refine ⟨rfl,by rw [←r.length]; exact hl,I1.bk _ _ hC,hN.keeps I1.bk,T.keeps I1.bk,fun h' a m=>?_⟩
 exact hp pins σ H1 s2 (.ref a) _ I1 (made_fly I1 m hE)
end
theorem Inv.stepX {X:Cx} {pins:List (Addr×Obj)} {σ:List (Option V)} {H H':Hp} {s:Shared} {h':Heap} {g':Array GenState} {t':Nat} {d':Drawn} {ch:List Addr} (I:Inv X pins σ H s)
  (hch:∀b∈ch,(b∈X.ex∨X.s₀.heap.get? b=none)∧b≠X.env.locals∧(∀x c,X.env.cells.lookup x=some c→c≠b)∧∀p∈X.pn++pins,p.1≠b)
  (keep:∀b o,b≠X.env.locals→b∉X.fs→b∉ch→s.heap.get? b=some o→H b=none→h'.get? b=some o)
  (slot:∀b o,b≠X.env.locals→b∈X.fs→b∉ch→s.heap.get? b=some o→H b=none→∃sl,h'.get? b=some { o with slots:=sl }) (free:∀b o,b∉ch→s.heap.get? b=some o→H b=none→H' b=none)
  (there:∀b o,b∉ch→s.heap.get? b=some o→∃o',h'.get? b=some o')
  (tups:∀b xs,H b=some (.tup xs)→H' b=some (.tup xs)) (frzs:∀b o u,H b=some (.frz o u)→H' b=some (.frz o u)) (tbls:∀b ps,H b=some (.tbl ps)→∃more,H' b=some (.tbl (ps++more)))
  (ns:∀m,s.heap.Ns X.env.locals m→h'.Ns X.env.locals m) (hok:HOk X.prog X.w H' h') (hg:AllBare g') :
  Inv X pins σ H' { s with heap:=h',gens:=g',drawn:=d',toks:=t' }:=by
 have neL:∀b o,X.s₀.heap.get? b=some o→b≠X.env.locals:=fun b o e=>Nat.ne_of_lt (Nat.lt_of_lt_of_le (Heap.lt_size e) I.ok.above)
 have neC:∀b o,X.s₀.heap.get? b=some o→b∉X.ex→b∉ch:=fun b o e hx hb=>by
  rcases (hch b hb).1 with z | z
  ·exact hx z
  ·rw [e] at z; cases z
 have cellK:∀x c,X.env.cells.lookup x=some c→∀v,s.heap.IsCell c v→h'.IsCell c v:=fun x c e v hh1=>by
  obtain ⟨o,ho,hd⟩:=hh1
  have nch:c∉ch:=fun z=>(hch c z).2.2.1 x c e rfl
  by_cases hc:c∈X.fs
  ·obtain ⟨sl,q⟩:=slot c o (I.cne x c e) hc nch ho (I.freeC x c e)
   exact ⟨_,q,hd⟩
  ·exact ⟨o,keep c o (I.cne x c e) hc nch ho (I.freeC x c e),hd⟩
 refine ⟨I.ok,I.os,hg,⟨fun b o e n hb hx=>?_,fun b o e n hb hx=>?_,fun b o e n hx=>?_,fun b o e hx=>?_,fun b xs e=>tups b xs (I.base.tups b xs e),fun b o xs e=>frzs b o xs (I.base.frzs b o xs e),fun b ps e=>?_⟩,?_,fun x c e=>?_,?_,fun x c e=>?_,fun p hp=>?_,hok,I.len⟩
 ·exact keep b o (neL b o e) hb (neC b o e hx) (I.base.keep b o e n hb hx) (I.base.free b o e n hx)
 ·obtain ⟨sl,e1⟩:=I.base.slot b o e n hb hx
  obtain ⟨sl',e2⟩:=slot b _ (neL b o e) hb (neC b o e hx) e1 (I.base.free b o e n hx)
  exact ⟨sl',e2⟩
 ·obtain ⟨o',e1⟩:=I.base.there b o e hx
  exact free b o' (neC b o e hx) e1 (I.base.free b o e n hx)
 ·obtain ⟨o',e1⟩:=I.base.there b o e hx
  exact there b o' (neC b o e hx) e1
 ·obtain ⟨m1,e1⟩:=I.base.tbls b ps e
  obtain ⟨m2,e2⟩:=tbls b _ e1
  exact ⟨m1++m2,by rw [e2,Array.append_assoc]⟩
 ·obtain ⟨m,hn,hl⟩:=I.loc
  refine ⟨m,ns m hn,fun i x v e1 e2 e3=>?_⟩
  obtain ⟨u,r,l⟩:=hl i x v e1 e2 e3
  refine ⟨u,r,?_⟩
  rcases l with l | ⟨k,c,e,z⟩
  ·exact .inl l
  ·exact .inr ⟨k,c,e,cellK x c e _ z⟩
 ·obtain ⟨v,z⟩:=I.cell x c e
  exact ⟨v,cellK x c e v z⟩
 ·obtain ⟨m,⟨o,_,_,ho,_⟩,_⟩:=I.loc
  exact free _ o (fun z=>(hch _ z).2.1 rfl) ho I.free
 ·obtain ⟨v,o,ho,hd⟩:=I.cell x c e
  exact free c o (fun z=>(hch c z).2.2.1 x c e rfl) ho (I.freeC x c e)
 ·obtain ⟨e,n,ne,nf,d⟩:=I.pin p hp
  have nch:p.1∉ch:=fun z=>(hch p.1 z).2.2.2 p hp rfl
  exact ⟨keep p.1 p.2 ne nf nch e n,free p.1 p.2 nch e n,ne,nf,d⟩
theorem passE0 {P:Program} {w:World} {X:Cx}:q5h (CXE P w) X E0:=fun _ _ _ _ _ _ _ hh1=>by obtain ⟨_,_,_,_,_,_,_,_,_,_,_,q⟩:=hh1; exact (q.elim)
theorem CXE.imp {P:Program} {w:World} {outer:List Env} {H:Hp} {s s':Shared} {E E':XK} {e:Value} (h:CXE P w outer H s E e s') (i:∀c d H',E c d H'→E' c d H'):CXE P w outer H s E' e s':=
 let ⟨a,cls,own,H',h1,h2,h3,h4,h5,h6,h7,q⟩:=h; ⟨a,cls,own,H',h1,h2,h3,h4,h5,h6,h7,i _ _ _ q⟩
theorem q5h.imp {P:Program} {w:World} {X:Cx} {E E':XK} (h:q5h (CXE P w) X E) (i:∀c d H',E' c d H'→E c d H'):q5h (CXE P w) X E':=fun pins σ H s e s' I q=>h pins σ H s e s' I (q.imp i)
theorem Fun.okX {P:Program} {w:World} {K:PySem.W.Frag} {mg:Str→Option Value} {base:Heap} {x qual:Str} {st:Stmt} {f:Addr} {fd:FuncData} {N ps:List Str} {k:Nat} {sp:Sp} (F:Fun K x qual st f fd) (S:FnScope N ps (q0j st)) (len:∀vs H Q E,sp vs H Q E→vs.length=ps.length)
  (hbody:∀(cdv:Value) (A:Around) (outer:List Env) (s:Shared) (H:Hp) (vs:List V) (Q:VK) (E:XK),Room k (A.deeper (envOfC qual (q0j st) s.heap.objs.size f cdv))→sp vs H Q E→
   ∃t,PSs (cxOf (CXE P w) P w K mg base N qual (q0j st) f cdv A outer s H E) (q0z st) t∧t { nx:=fun _ H'=>Q .non H',rt:=Q } (q8o N vs) H):FnOk P w K mg base (CXE P w) (k+1) f fd ps sp:=by
 obtain ⟨oc,od,kV,doc,pm,an,cdv,ct,osl,rfl,lk,hcd⟩:=F.ex
 exact fn_of lk hcd S len fun A outer s H vs Q E hr hsp=>hbody cdv A outer s H vs Q E hr hsp
end L2
namespace L2
open PySem PySem.Spec PyProof.Rows
end L2
namespace L2
open PySem PySem.Spec PyProof.Rows
section
variable (P:Program) (w:World)
end
section
variable {P:Program} {w:World} {H H':Hp} {h h':Heap} {a:Addr} {o:HO}
end
section
variable {P:Program} {w:World} {H:Hp} {h h':Heap} {x e:Addr} {o':HO}
end
section
variable {fs fs' ex ex':List Addr} {H H1 H2:Hp} {h h1 h2 h':Heap} {a x e:Addr} {o:HO}
end
end L2
namespace L2
open PySem PySem.Spec PyProof.Rows
section
variable {X:Cx} {pins:List (Addr×Obj)} {σ:List (Option V)} {H H':Hp} {s:Shared} {h':Heap}
end
end L2
namespace L2
open PySem PySem.Spec PyProof.Rows
section
variable {X:Cx}
variable {a b:Expr} {ta tb:TE} {pos:Pos}
variable {tA tB':TT} {rest:List Expr}
end
end L2
namespace L2
open PySem PySem.Spec PyProof.Rows
section
variable {X:Cx} {pins:List (Addr×Obj)} {σ:St} {H:Hp} {s:Shared} {a:Addr} {xs ys:List V}
end
section
variable {X:Cx} {pins:List (Addr×Obj)} {σ:St} {H:Hp} {s:Shared} {E:Value→Shared→Prop}
end
section
variable {X:Cx} {st:Stmt} {rest:List Stmt} {t u:TS} {e:Expr} {te:TE} {pos:Pos}
end
section
variable {X:Cx} {pos:Pos}
end
section
variable {X:Cx} {pos:Pos}
end
end L2
namespace L2
open PySem PySem.Spec PyProof.Rows
section
variable {X:Cx} {tg:Expr}
end
end L2
namespace L2
open PySem PySem.Spec PyProof.Rows
section
variable {X:Cx} {a b c:Expr} {ta tb tc:TE} {pos:Pos}
end
section
variable {X:Cx} {a b c:Expr} {ta tb tc:TE} {pos:Pos}
end
end L2
namespace L2
open PySem PySem.Spec PyProof.Rows
section
variable {prog:Program} {w:World} {A:Around} {E:Value→Shared→Prop} {s:Shared} {K:PySem.W.Frag} {x dx C f:Addr} {mA:Str→Option Value} {name:Str} {v:Value}
end
section
variable {P:Program} {w:World} {H H':Hp} {h h':Heap} {a C dx:Addr} {fs fs':List (Str×V)}
end
section
variable {X:Cx} {pins:List (Addr×Obj)} {σ:St} {H:Hp} {s:Shared} {a C dx:Addr} {fs:List (Str×V)} {f:Str} {v:V} {A:Around} {E:Value→Shared→Prop}
end
section
variable {X:Cx} {o e value:Expr} {f:Str} {pos pos' tpos:Pos} {ta tv:TE}
end
section
variable {X:Cx} {pins:List (Addr×Obj)} {σ:St} {H:Hp} {s:Shared} {A:Around} {E:Value→Shared→Prop} {Q:Value→Shared→Prop} {c:Value} {b:Bool}
end
end L2
namespace L2
open PySem PySem.Spec PyProof.Rows
section
variable {X:Cx} {e:Expr} {es:List Expr} {te:TE} {t:TA} {pos:Pos}
end
section
variable {X:Cx} {pins:List (Addr×Obj)} {σ:St} {H:Hp} {s s':Shared}
end
section
variable {X:Cx} {CX:CXT} {k:Nat} {f C:Addr} {fd:FuncData} {ps:List Str} {sp:Sp} {dvs:List V} {ds:List Value} {E:XK} {x m:Str} {p pos apos:Pos} {e o:Expr} {es:List Expr} {ta:TE} {t:TA}
end
section
variable {X:Cx} {CX:CXT} {k:Nat} {f C:Addr} {fd:FuncData} {ps ks:List Str} {sp:Sp} {E:XK} {x m:Str} {p pos apos kpos:Pos} {e o:Expr} {es:List Expr} {kws:List Keyword} {te ta:TE} {t tk:TA} {nm:Option Str}
variable {g:List Value→List Value→List Value} {gV:List V→List V→List V}
end
end L2
namespace L2
open PySem PySem.Spec PyProof.Rows
section
variable {X:Cx} {x:Str} {p pos:Pos} {e:Expr} {es:List Expr} {t:TA} {id T:String} {r:List V→Hp→VK→Prop}
end
end L2
namespace L2
open PySem PySem.Spec PyProof.Rows
section
variable {κ:Type} [DecidableEq κ]
def valV (kvs:List (κ×V)) (k:κ):Option V:=(kvs.find? fun kv=>decide (kv.1=k)).map (·.2)
def putK (kvs:List (κ×V)) (k:κ) (v:V):List (κ×V):=
 if (kvs.any fun kv=>decide (kv.1=k))=true then kvs.map (fun kv=>if kv.1=k then (kv.1,v) else kv) else kvs++[(k,v)]
theorem q8h {p:κ×V} {r:List (κ×V)} {k:κ} (e:p.1=k):valV (p::r) k=some p.2:=by simp [valV,List.find?_cons,e]
theorem q8i {p:κ×V} {r:List (κ×V)} {k:κ} (e:¬p.1=k):valV (p::r) k=valV r k:=by simp [valV,List.find?_cons,e]
theorem valV_any (k:κ):∀kvs:List (κ×V),(kvs.any fun kv=>decide (kv.1=k))=(valV kvs k).isSome
 | []=>rfl
 | p::r=>by
  rw [List.any_cons]
  by_cases e:p.1=k
  ·simp only [q8h e,decide_eq_true e,Bool.true_or,Option.isSome_some]
  ·rw [q8i e,decide_eq_false e,Bool.false_or]; exact valV_any k r
theorem q5s (kvs:List (κ×V)) (k:κ) (v:V):(putK kvs k v).length≤kvs.length+1:=by
 unfold putK
 split
 ·rw [List.length_map]; omega
 ·rw [List.length_append,List.length_cons,List.length_nil]; omega
theorem RelO.isSome_eq {o:Option V} {u:Option Value} (r:RelO o u):o.isSome=u.isSome:=by
 cases o with
 | none=>cases u with
  | none=>rfl
  | some _=>exact (show False from r).elim
 | some _=>cases u with
  | none=>exact (show False from r).elim
  | some _=>rfl
theorem RelO.getD {o:Option V} {u:Option Value} {d:V} {d':Value} (r:RelO o u) (rd:RelV d d'):RelV (o.getD d) (u.getD d'):=by
 cases o with
 | none=>cases u with
  | none=>exact rd
  | some _=>exact (show False from r).elim
 | some _=>cases u with
  | none=>exact (show False from r).elim
  | some _=>exact r
theorem KV.val {kvs:List (κ×V)} {vs:List (κ×Value)} (r:KV kvs vs) (k:κ):RelO (valV kvs k) (valueAt vs k):=by
 unfold KV at r
 induction r with
 | nil=>exact True.intro
 | @cons p q ps qs h t ih=>
  obtain ⟨h1,h2⟩:=h
  by_cases e:p.1=k
  ·have e':q.1=k:=h1.symm.trans e
   have b:valueAt (q::qs) k=some q.2:=by simp [valueAt,List.find?_cons,e']
   rw [q8h e,b]; exact h2
  ·have e':¬q.1=k:=fun z=>e (h1.trans z)
   have b:valueAt (q::qs) k=valueAt qs k:=by simp [valueAt,List.find?_cons,e']
   rw [q8i e,b]; exact ih
theorem KV.any {kvs:List (κ×V)} {vs:List (κ×Value)} (r:KV kvs vs) (k:κ):(kvs.any fun kv=>decide (kv.1=k))=vs.any fun kv=>decide (kv.1=k):=by
 unfold KV at r
 induction r with
 | nil=>rfl
 | cons h t ih=>rw [List.any_cons,List.any_cons,ih,h.1]
theorem KV.repl {kvs:List (κ×V)} {vs:List (κ×Value)} (r:KV kvs vs) (k:κ) {y:V} {u:Value} (ry:RelV y u) :
  KV (kvs.map fun kv=>if kv.1=k then (kv.1,y) else kv) (vs.map fun kv=>if kv.1=k then (kv.1,u) else kv):=by
 unfold KV at r ⊢
 induction r with
 | nil=>exact .nil
 | @cons p q ps qs h t ih=>
  rw [List.map_cons,List.map_cons]
  refine .cons ?_ ih
  obtain ⟨h1,h2⟩:=h
  by_cases e:p.1=k
  ·rw [if_pos e,if_pos (h1.symm.trans e)]; exact ⟨h1,ry⟩
  ·rw [if_neg e,if_neg (fun z=>e (h1.trans z))]; exact ⟨h1,h2⟩
theorem KV.put {kvs:List (κ×V)} {vs:List (κ×Value)} (r:KV kvs vs) (k:κ) {y:V} {u:Value} (ry:RelV y u):KV (putK kvs k y) (stored vs k u):=by
 unfold putK stored
 rw [r.any k]
 by_cases e:(vs.any fun kv=>decide (kv.1=k))=true
 ·rw [if_pos e,if_pos e]; exact r.repl k ry
 ·rw [if_neg e,if_neg e]; exact Paired.snoc r ⟨rfl,ry⟩
theorem KV.length {kvs:List (κ×V)} {vs:List (κ×Value)} (r:KV kvs vs):kvs.length=vs.length:=Paired.length r
end
theorem kV_is {P:Program} {w:World} {k:Key} {u:Value} (r:RelV (kV k) u):(q1n P w).is k u=true:=by
 cases k with
 | inl i=>obtain ⟨t,e⟩:=(show ∃t,u=Value.int i t from r); subst e; exact q9d P w i t
 | inr x=>obtain ⟨t,e⟩:=(show ∃t,u=Value.str x t from r); subst e; exact q9c P w x t
theorem items_are {P:Program} {w:World}:∀{ks:List Key} {us:List Value},Vals (ks.map kV) us→ItemsAre (q1n P w) ks us
 | [],_,r=>by rw [List.map_nil] at r; cases r; exact .nil
 | k::ks,_,r=>by
  rw [List.map_cons] at r
  cases r with
  | cons h t=>exact .cons (kV_is h) (items_are t)
abbrev KT (H:Hp):List (List Key×V)→List (List Key×Addr×Value)→Prop:=Paired fun p q=>p.1=q.1∧H q.2.1=some (.tup (p.1.map kV))∧RelV p.2 q.2.2
theorem KT.val {H:Hp} {kvs:List (List Key×V)} {xs:List (List Key×Addr×Value)} (r:KT H kvs xs) (k:List Key):RelO (valV kvs k) ((atKey xs k).map (·.2)):=by
 induction r with
 | nil=>exact True.intro
 | @cons p q ps qs h t ih=>
  obtain ⟨h1,_,h2⟩:=h
  by_cases e:p.1=k
  ·have e':q.1=k:=h1.symm.trans e
   have b:atKey (q::qs) k=some q.2:=by simp [atKey,List.find?_cons,e']
   rw [q8h e,b]; exact h2
  ·have e':¬q.1=k:=fun z=>e (h1.trans z)
   have b:atKey (q::qs) k=atKey qs k:=by simp [atKey,List.find?_cons,e']
   rw [q8i e,b]; exact ih
theorem KT.repl {H:Hp} {kvs:List (List Key×V)} {xs:List (List Key×Addr×Value)} (r:KT H kvs xs) (k:List Key) {y:V} {u:Value} (ry:RelV y u) :
  KT H (kvs.map fun kv=>if kv.1=k then (kv.1,y) else kv) (xs.map (putAt k u)):=by
 induction r with
 | nil=>exact .nil
 | @cons p q ps qs h t ih=>
  rw [List.map_cons,List.map_cons]
  refine .cons ?_ ih
  obtain ⟨h1,h2,h3⟩:=h
  unfold putAt
  by_cases e:p.1=k
  ·rw [if_pos e,if_pos (h1.symm.trans e)]; exact ⟨h1,h2,ry⟩
  ·rw [if_neg e,if_neg (fun z=>e (h1.trans z))]; exact ⟨h1,h2,h3⟩
theorem KT.put {H:Hp} {kvs:List (List Key×V)} {xs:List (List Key×Addr×Value)} (r:KT H kvs xs) (k:List Key) {b:Addr} {y:V} {u:Value} (hb:H b=some (.tup (k.map kV))) (ry:RelV y u) :
  KT H (putK kvs k y) (storedH xs k b u):=by
 have e:(kvs.any fun kv=>decide (kv.1=k))=(atKey xs k).isSome:=by
  rw [valV_any,(r.val k).isSome_eq,Option.isSome_map]
 unfold putK storedH
 rw [e]
 by_cases q:(atKey xs k).isSome=true
 ·rw [if_pos q,if_pos q]; exact r.repl k ry
 ·rw [if_neg q,if_neg q]; exact Paired.snoc r ⟨rfl,hb,ry⟩
theorem KT.keeps {H H':Hp} {kvs:List (List Key×V)} {xs:List (List Key×Addr×Value)} (r:KT H kvs xs) (ht:∀b ys,H b=some (.tup ys)→H' b=some (.tup ys)):KT H' kvs xs:=
 Paired.mapP r fun _ _ z=>⟨z.1,ht _ _ z.2.1,z.2.2⟩
section
variable {P:Program} {w:World} {H:Hp} {h:Heap} {a:Addr}
theorem rd_of {u:HO} (ok:HOk P w H h) (e:Rd H a u):q3a P w H h a u:=e.ok ok
theorem dk_rd {kvs:List (Key×V)} (ok:HOk P w H h) (e:Rd H a (.dK kvs)):kvs.length≤sizeLine∧(a == sysModules)=false∧∃vs,KV kvs vs∧h.DictOf (q1n P w) a vs:=
 show q3a P w H h a (.dK kvs) from rd_of ok e
theorem dk_of {kvs:List (Key×V)} (ok:HOk P w H h) (e:H a=some (.dK kvs)):kvs.length≤sizeLine∧(a == sysModules)=false∧∃vs,KV kvs vs∧h.DictOf (q1n P w) a vs:=dk_rd ok (.inl e)
theorem key_of {ks:List Key} (ok:HOk P w H h) (e:H a=some (.tup (ks.map kV))):(tupleKind (q1n P w)).is h ks a:=by
 obtain ⟨_,its,r,o,h1,h2,n,h3⟩:=(show q3a P w H h a (.tup (ks.map kV)) from ok a _ e)
 exact ⟨o,its.toArray,n,h1,h2,h3,by simpa using items_are r⟩
theorem dt_rd {kvs:List (List Key×V)} (ok:HOk P w H h) (e:Rd H a (.dT kvs)):kvs.length≤sizeLine∧(a == sysModules)=false∧
  ∃xs,KT H kvs xs∧h.DictOfH (tupleKind (q1n P w)) a xs:=by
 obtain ⟨z,y,xs,r,o,es,ep,h1,h2,h3,h4,h5⟩:=(show q3a P w H h a (.dT kvs) from rd_of ok e)
 refine ⟨z,y,xs,r,o,es,ep,h1,h2,h3,h4,fun x hx=>?_,h5⟩
 have all:∀{l:List (List Key×V)} {m:List (List Key×Addr×Value)},KT H l m→∀x∈m,(tupleKind (q1n P w)).is h x.1 x.2.1:=by
  intro l m q
  induction q with
  | nil=>intro x hx; exact nomatch hx
  | @cons p q ps qs hq t ih=>
   intro x hx
   rcases List.mem_cons.mp hx with e | hx
   ·subst e
    exact key_of ok (by rw [←hq.1]; exact hq.2.1)
   ·exact ih x hx
 exact all r x hx
theorem dt_of {kvs:List (List Key×V)} (ok:HOk P w H h) (e:H a=some (.dT kvs)):kvs.length≤sizeLine∧(a == sysModules)=false∧
  ∃xs,KT H kvs xs∧h.DictOfH (tupleKind (q1n P w)) a xs:=dt_rd ok (.inl e)
end
def DGet (H:Hp) (a:Addr) (y:V) (r:Option V):Prop:=
 (∃kvs k,Rd H a (.dK kvs)∧y=kV k∧r=valV kvs k)∨∃kvs k b,Rd H a (.dT kvs)∧y=.ref b∧H b=some (.tup (k.map kV))∧r=valV kvs k
def DPut (H:Hp) (a:Addr) (y v:V) (H':Hp):Prop:=
 (∃kvs k,H a=some (.dK kvs)∧y=kV k∧kvs.length<sizeLine∧H'=upd H a (.dK (putK kvs k v)))∨
 ∃kvs k b,H a=some (.dT kvs)∧y=.ref b∧H b=some (.tup (k.map kV))∧kvs.length<sizeLine∧H'=upd H a (.dT (putK kvs k v))
theorem DGet.k {H:Hp} {a:Addr} {kvs:List (Key×V)} {k:Key} (e:H a=some (.dK kvs)):DGet H a (kV k) (valV kvs k):=.inl ⟨kvs,k,.inl e,rfl,rfl⟩
theorem DPut.k {H:Hp} {a:Addr} {kvs:List (Key×V)} {k:Key} {v:V} (e:H a=some (.dK kvs)) (hl:kvs.length<sizeLine):DPut H a (kV k) v (upd H a (.dK (putK kvs k v))):=.inl ⟨kvs,k,e,rfl,hl,rfl⟩
section
variable {X:Cx} {pins:List (Addr×Obj)} {σ:St} {H:Hp} {s:Shared} {a:Addr} {y v:V} {u r:Value} {o:Option V} {A:Around} {E:Value→Shared→Prop}
theorem Inv.big (I:Inv X pins σ H s):sysModules<s.heap.objs.size:=by
 have h:mainGlobals<s.heap.objs.size:=(I.mod.glob.keeps I.bk).lt
 exact Nat.lt_trans (by decide) h
theorem d_getItem {Q:Value→Shared→Prop} (hu:A.units+1<cLine) (I:Inv X pins σ H s) (g:DGet H a y (some v)) (ry:RelV y u) (h:∀w' s',Inv X pins σ H s'→RelV v w'→Q w' s') :
  wpAny (model X.prog X.w) A (getItem (.ref a) u) Q E s:=by
 rcases g with ⟨kvs,k,e,ey,l⟩ | ⟨kvs,k,b,e,ey,eb,l⟩
 ·subst ey
  obtain ⟨z,hd,vs,rel,dd⟩:=dk_rd I.hok e
  obtain ⟨w',hw,rw'⟩:=RelO.some_of (v:=v) (o:=valueAt vs k) (by rw [l]; exact rel.val k)
  exact wpAny_getItem_of (kV_is ry) dd.mapOf hw (h w' _ (I.tok _) rw')
 ·subst ey
  cases (show u=Value.ref b from ry)
  obtain ⟨z,hd,xs,rel,dd⟩:=dt_rd I.hok e
  obtain ⟨w',hw,rw'⟩:=RelO.some_of (v:=v) (o:=(atKey xs k).map (·.2)) (by rw [l]; exact rel.val k)
  obtain ⟨p,hp,hp2⟩:=Option.map_eq_some_iff.mp hw
  refine wpAny_getItem_heap (tupleKind_room_in1 hu) (key_of I.hok eb) dd hp ?_
  rw [hp2]
  exact h w' _ (I.tok _) rw'
theorem d_notIn {Q:Value→Shared→Prop} (hu:A.units+1<cLine) (I:Inv X pins σ H s) (g:DGet H a y o) (ry:RelV y u) (h:∀s',Inv X pins σ H s'→Q (.bool (!o.isSome)) s') :
  wpAny (model X.prog X.w) A (compareOp .NotIn u (.ref a)) Q E s:=by
 rcases g with ⟨kvs,k,e,ey,l⟩ | ⟨kvs,k,b,e,ey,eb,l⟩
 ·subst ey
  obtain ⟨z,hd,vs,rel,dd⟩:=dk_rd I.hok e
  refine wpAny_notIn_of (kV_is ry) hd dd.mapOf ?_
  rw [←(rel.val k).isSome_eq,←l]
  exact h _ (I.tok _)
 ·subst ey
  cases (show u=Value.ref b from ry)
  obtain ⟨z,hd,xs,rel,dd⟩:=dt_rd I.hok e
  refine wpAny_notIn_heap (tupleKind_room_in1 hu) (key_of I.hok eb) hd dd ?_
  have q:=(rel.val k).isSome_eq
  rw [Option.isSome_map] at q
  rw [←q,←l]
  exact h _ (I.tok _)
theorem d_write {h':Heap} {t':Nat} {ob:HO} (I:Inv X pins σ H s) (mu:Mut (H a)) (hs:Heap.SameBut a s.heap h') (he:∃q,h'.get? a=some q) (new:q3a X.prog X.w (upd H a ob) h' a ob) :
  Inv X pins σ (upd H a ob) { s with heap:=h',toks:=t' }:=
 I.write (x:=a) (e:=a) mu (.inl rfl) (fun b q hb z=>(hs.2 b hb).trans z) he new
theorem dk_new {P:Program} {w:World} {H':Hp} {h':Heap} {kvs:List (Key×V)} {vs:List (Key×Value)} (z:kvs.length≤sizeLine) (hd:(a == sysModules)=false) (rel:KV kvs vs) (dd:h'.DictOf (q1n P w) a vs) :
  q3a P w H' h' a (.dK kvs):=⟨z,hd,vs,rel,dd⟩
theorem d_setItem {H':Hp} {Q:Unit→Shared→Prop} (hu:A.units+1<cLine) (I:Inv X pins σ H s) (g:DPut H a y v H') (ry:RelV y u) (rv:RelV v r) (h:∀s',Inv X pins σ H' s'→Q () s') :
  wpAny (model X.prog X.w) A (setItem (.ref a) u r) Q E s:=by
 rcases g with ⟨kvs,k,e,ey,l,eH⟩ | ⟨kvs,k,b,e,ey,eb,l,eH⟩
 ·subst ey eH
  obtain ⟨z,hd,vs,rel,dd⟩:=dk_of I.hok e
  have hz:vs.length≤sizeLine:=by rw [←rel.length]; exact z
  have hl:(putK kvs k v).length≤sizeLine:=by have:=q5s kvs k v; omega
  refine wpAny_setItem_pairs (hsz:=hz) (kV_is ry) dd fun h' dd' hs=>h _ ?_
  have he:∃q,h'.get? a=some q:=let ⟨q,_,_,hq,_⟩:=dd'; ⟨q,hq⟩
  exact d_write I (by rw [e]; exact True.intro) hs he (dk_new hl hd (rel.put k rv) dd')
 ·subst ey eH
  cases (show u=Value.ref b from ry)
  obtain ⟨z,hd,xs,rel,dd⟩:=dt_of I.hok e
  have hz:xs.length≤sizeLine:=by rw [←Paired.length rel]; exact z
  have hl:(putK kvs k v).length≤sizeLine:=by have:=q5s kvs k v; omega
  refine wpAny_setItem_heap (hsz:=hz) (tupleKind_room_in1 hu) (key_of I.hok eb) dd fun h' dd' hs=>h _ ?_
  obtain ⟨q,es,ep,hq,h2,h3,h4,_,h5⟩:=dd'
  refine d_write I (by rw [e]; exact True.intro) hs ⟨q,hq⟩ ⟨hl,hd,_,(rel.put k eb rv).keeps fun c ys ec=>?_,q,es,ep,hq,h2,h3,h4,h5⟩
  rw [q0w (ne_of ec e (fun z=>nomatch z))]
  exact ec
end
section
variable {X:Cx} {pins:List (Addr×Obj)} {σ:St} {H:Hp} {s:Shared} {a:Addr} {kvs:List (Key×V)} {k:Key} {u:Value} {A:Around} {E:Value→Shared→Prop}
end
theorem dict_typeIs {X:Cx} {pins:List (Addr×Obj)} {σ:St} {H:Hp} {s:Shared} {a:Addr} {y:V} {o:Option V} (I:Inv X pins σ H s) (g:DGet H a y o):s.TypeIs (.ref a) "dict" :=by
 rcases g with ⟨kvs,k,e,_,_⟩ | ⟨kvs,k,b,e,_,_,_⟩
 ·obtain ⟨_,_,vs,_,dd⟩:=dk_rd I.hok e
  exact dd.typeIs
 ·obtain ⟨_,_,xs,_,dd⟩:=dt_rd I.hok e
  exact dd.typeIs
section
variable {X:Cx} {o i e value:Expr} {pos pos' tpos:Pos} {td ty tv:TE}
end
theorem dk_empty {P:Program} {w:World} {H:Hp} (h:Heap) (hb:sysModules<h.objs.size):q3a P w H (h.push { cls:=.type "dict",data:=.dict #[] }) h.objs.size (.dK []):=
 ⟨Nat.zero_le _,beq_eq_false_iff_ne.mpr (Ne.symm (Nat.ne_of_lt hb)),[],.nil,Heap.DictOf.new h⟩
def tDNewK:TE:=fun _ H Q=>∀p,H p=none→Q (.ref p) (upd H p (.dK []))
section
variable {X:Cx} {pos:Pos}
theorem pe_dnewK:PE X (.Dict [] [] pos) tDNewK:=fun pins s σ H Q I h=>
 wpAny_Dict_empty ⟨.ref s.heap.objs.size,_,I.laid (a:=s.heap.objs.size) (o:=.dK []) (t':=s.toks) (fun _ _ q=>Heap.get?_push_of_some _ q) (Nat.le_refl _) (dk_empty s.heap I.big),rfl,h _ (I.hok.fresh (Nat.le_refl _))⟩
end
def tPairs : List (TE × TE) → St → Hp → (List (V × V) → Hp → Prop) → Prop
 | [], _, H, Q => Q [] H
 | (tk, tv) :: r, σ, H, Q => tk σ H fun x H1 => tv σ H1 fun y H2 => tPairs r σ H2 fun ps H3 => Q ((x, y) :: ps) H3
abbrev VV:List (V×V)→List (Value×Value)→Prop:=Paired fun p q=>RelV p.1 q.1∧RelV p.2 q.2
def PPs (X:Cx) (pos:Pos) (keys:List (Option Expr)) (values:List Expr) (trs:List (TE×TE)):Prop:=
 ∀(pins:List (Addr×Obj)) (s:Shared) (σ:St) (H:Hp) (Q:List (V×V)→Hp→Prop),Inv X pins σ H s→tPairs trs σ H Q→
  wpAny (model X.prog X.w) X.A (evalPairs (pairTrees keys values X.env pos)) (fun vs s'=>∃ps H',Inv X pins σ H' s'∧VV ps vs∧Q ps H') X.xe s
theorem pps_nil {X:Cx} {pos:Pos}:PPs X pos [] [] []:=fun pins s σ H Q I h=>pairTrees_nil_walk ⟨[],H,I,.nil,h⟩
theorem pps_cons {X:Cx} {pos:Pos} {k v:Expr} {ks:List (Option Expr)} {vs:List Expr} {tk tv:TE} {trs:List (TE×TE)} (hk:PE X k tk) (hv:PE X v tv) (hr:PPs X pos ks vs trs) :
  PPs X pos (some k::ks) (v::vs) ((tk,tv)::trs):=fun pins s σ H Q I h=>
 pairTrees_cons_walk (thn (hk pins s σ H _ I h) fun u s1 hh1=>by obtain ⟨x,H1,I1,rx,q1⟩:=hh1; exact (thn (hv pins s1 σ H1 _ I1 q1) fun w2 s2 ⟨y,H2,I2,ry,q2⟩=>
  thn (hr pins s2 σ H2 _ I2 q2) fun ws s3 hh2=>by obtain ⟨ps,H3,I3,rel,q3⟩:=hh2; exact (⟨(x,y)::ps,H3,I3,.cons ⟨rx,ry⟩ rel,q3⟩)))
def mergeK (kvs more:List (Key×V)):List (Key×V):=more.foldl (fun acc kv=>putK acc kv.1 kv.2) kvs
theorem KV.merge:∀{more:List (Key×V)} {rs:List (Key×Value)} {kvs:List (Key×V)} {vs:List (Key×Value)},KV more rs→KV kvs vs→KV (mergeK kvs more) (merged vs rs):=by
 intro more rs kvs vs r
 unfold KV at r
 induction r generalizing kvs vs with
 | nil=>intro q; exact q
 | @cons p q ps qs h t ih=>
  intro r0
  have e:KV (putK kvs p.1 p.2) (stored vs q.1 q.2):=by
   have:=r0.put p.1 h.2
   rw [←h.1]; exact this
  exact ih e
theorem q7f:∀(more kvs:List (Key×V)),(mergeK kvs more).length≤kvs.length+more.length
 | [],kvs=>by show kvs.length≤kvs.length+0; omega
 | p::r,kvs=>by
  have h1:=q7f r (putK kvs p.1 p.2)
  have h2:=q5s kvs p.1 p.2
  show (mergeK (putK kvs p.1 p.2) r).length≤_
  rw [List.length_cons]; omega
theorem carries_of {P:Program} {w:World}:∀{kvs:List (Key×V)} {ws:List (Value×Value)},VV (kvs.map fun kv=>(kV kv.1,kv.2)) ws→∃rs,Carries (q1n P w) ws rs∧KV kvs rs
 | [],_,r=>by rw [List.map_nil] at r; cases r; exact ⟨[],True.intro,.nil⟩
 | p::kvs,_,r=>by
  rw [List.map_cons] at r
  cases r with
  | @cons a b as bs h t=>
   obtain ⟨rs,c,q⟩:=carries_of (P:=P) (w:=w) t
   obtain ⟨b1,b2⟩:=b
   exact ⟨(p.1,b2)::rs,⟨kV_is h.1,rfl,c⟩,.cons ⟨rfl,h.2⟩ q⟩
def tDisp (trs:List (TE×TE)):TE:=fun σ H Q=>∀p,H p=none→tPairs trs σ (upd H p (.dK [])) fun ps H2=>H2 p=some (.dK [])∧∃kvs:List (Key×V),ps=kvs.map (fun kv=>(kV kv.1,kv.2))∧kvs.length≤15∧Q (.ref p) (upd H2 p (.dK (mergeK [] kvs)))
theorem pe_disp {X:Cx} {pos:Pos} {keys:List (Option Expr)} {values:List Expr} {trs:List (TE×TE)} (h:PPs X pos keys values trs) (hall:keys.all (·.isSome)=true) (hl:keys.length=values.length) (h0:keys≠[])
  (h15:keys.length≤15):PE X (.Dict keys values pos) (tDisp trs):=by
 intro pins s σ H Q I q
 have hn:=I.hok.fresh (Nat.le_refl s.heap.objs.size)
 have I1:=I.laid (a:=s.heap.objs.size) (o:=.dK []) (h':=s.heap.push { cls:=.type "dict",data:=.dict #[] }) (t':=s.toks) (fun _ _ q=>Heap.get?_push_of_some _ q) (Nat.le_refl _) (dk_empty s.heap I.big)
 refine wpAny_Dict_walk (knd:=q1n X.prog X.w) hall hl h0 h15 (thn (h pins _ σ _ _ I1 (q _ hn)) fun ws s2 hh1=>?_)
 obtain ⟨ps,H2,I2,rel,e,kvs,ep,lk,q2⟩:=hh1
 subst ep
 obtain ⟨rs,c,rk⟩:=carries_of (P:=X.prog) (w:=X.w) rel
 obtain ⟨z,hd,vs0,r0,dd⟩:=dk_of I2.hok e
 cases r0
 refine ⟨rs,c,dd,fun h' dd' hs=>⟨.ref s.heap.objs.size,_,?_,rfl,q2⟩⟩
 have hz:(mergeK [] kvs).length≤sizeLine:=by
  have h1:=q7f kvs []
  rw [List.length_nil] at h1
  rw [sizeLine_eq]; omega
 have he:∃q,h'.get? s.heap.objs.size=some q:=let ⟨q,_,_,hq,_⟩:=dd'; ⟨q,hq⟩
 exact d_write I2 (by rw [e]; exact True.intro) hs he (dk_new hz hd (rk.merge .nil) dd')
structure M1 (X:Cx) (o:Expr) (m:Str) (apos:Pos) (e:Expr) (cpos:Pos):Prop where
 base:attributeBase o m X.env (eval o X.env)=eval o X.env
 few:((backTo cpos (starEach [e] X.env)).all (fun x=>!x.1) && (backToKw cpos (keywordEach [] X.env)).all (fun x=>x.1.isSome)
  && decide (([e]:List Expr).length+([]:List Keyword).length+(if ([]:List Keyword).isEmpty then 0 else 1)<30))=true
 line:(apos.endLine == cpos.line)=true
 trees:backTo cpos (starEach [e] X.env)=[(false,eval e X.env)]
structure M2 (X:Cx) (o:Expr) (m:Str) (apos:Pos) (e f:Expr) (cpos:Pos):Prop where
 base:attributeBase o m X.env (eval o X.env)=eval o X.env
 few:((backTo cpos (starEach [e,f] X.env)).all (fun x=>!x.1) && (backToKw cpos (keywordEach [] X.env)).all (fun x=>x.1.isSome)
  && decide (([e,f]:List Expr).length+([]:List Keyword).length+(if ([]:List Keyword).isEmpty then 0 else 1)<30))=true
 line:(apos.endLine == cpos.line)=true
 trees:backTo cpos (starEach [e,f] X.env)=[(false,eval e X.env),(false,eval f X.env)]
section
variable {X:Cx} {pins:List (Addr×Obj)} {σ:St} {H:Hp} {s:Shared} {a:Addr} {y d:V} {u r:Value} {o:Option V} {A:Around} {E:Value→Shared→Prop}
theorem d_get1 {Q:Value→Shared→Prop} (hu:A.units+1<cLine) (I:Inv X pins σ H s) (g:DGet H a y o) (ry:RelV y u) (h:∀w' s',Inv X pins σ H s'→RelV (o.getD .non) w'→Q w' s') :
  wpAny (model X.prog X.w) A (call (.builtin "dict.get") [.ref a,u]) Q E s:=by
 rcases g with ⟨kvs,k,e,ey,l⟩ | ⟨kvs,k,b,e,ey,eb,l⟩
 ·subst ey
  obtain ⟨z,hd,vs,rel,dd⟩:=dk_rd I.hok e
  refine call_meetsIn PySem.F.slot_dict_get dd.typeIs PySem.F.entry_dict_get (PySem.F.args_dict_get_2 _ _) (meets_dict_get (q1n X.prog X.w) a (kV_is ry) hd) ⟨_,dd.mapOf,h _ _ (I.tok _) ?_⟩
  rw [l]
  exact (rel.val k).getD rfl
 ·subst ey
  cases (show u=Value.ref b from ry)
  obtain ⟨z,hd,xs,rel,dd⟩:=dt_rd I.hok e
  refine call_meetsIn PySem.F.slot_dict_get dd.typeIs PySem.F.entry_dict_get (PySem.F.args_dict_get_2 _ _) (meetsH_dict_get (tupleKind (q1n X.prog X.w)) a b hd) ⟨tupleKind_room_in1 hu,k,xs,key_of I.hok eb,dd,h _ _ (I.tok _) ?_⟩
  rw [l]
  exact (rel.val k).getD rfl
end
section
variable {X:Cx} {o e f:Expr} {apos cpos:Pos} {td ty tx:TE}
end
section
variable {X:Cx} {pins:List (Addr×Obj)} {σ:St} {H:Hp} {s:Shared} {a:Addr} {kvs:List (Key×V)} {A:Around} {E:Value→Shared→Prop}
end
section
variable {X:Cx} {pins:List (Addr×Obj)} {σ:St} {H:Hp} {s:Shared} {a:Addr} {y:V} {u:Value} {A:Around} {E:Value→Shared→Prop}
end
end L2
namespace Att
open PySem PySem.W PySem.Calls PyProof.Rows
section
variable {prog:Program} {w:World} {A:Around} {E:Value→Shared→Prop} {s:Shared} {K:Frag}
end
end Att
namespace L2
open PySem PySem.Spec PyProof.Rows
end L2
namespace L2
open PySem PySem.Spec PyProof.Rows
end L2
namespace L2
open PySem PySem.Spec PyProof.Rows
section
variable {P:Program} {w:World} {K:PySem.W.Frag} {mg:Str→Option Value} {base:Heap}
end
section
variable {X:Cx}
end
section
variable {κ:Type} [DecidableEq κ]
end
end L2
namespace L2
open PySem PySem.Spec PyProof.Rows
theorem closure_loop (env:Env):∀(names:List (Str×NameKind)) (acc:List (Str×Addr)),
  (∀p∈names,p.2=.free→∃c,env.cells.lookup p.1=some c)→
  (∀x c,acc.lookup x=some c→env.cells.lookup x=some c)→
  ∃cl,(forIn names acc (fun (x:Str×NameKind) cs=>
    (if (x.2 == NameKind.free)=true then (do let a ←cellOf env x.1; pure (ForInStep.yield ((x.1,a)::cs))) else pure (ForInStep.yield cs))):Sem (List (Str×Addr)))=pure cl∧
   (∀x c,cl.lookup x=some c→env.cells.lookup x=some c)∧
   (∀x,(names.lookup x=some .free∨(acc.lookup x).isSome=true)→∃c,cl.lookup x=some c):=by
 intro names
 induction names with
 | nil=>
  intro acc _ ha
  refine ⟨acc,rfl,ha,fun x hx=>?_⟩
  rcases hx with hx | hx
  ·simp at hx
  ·exact Option.isSome_iff_exists.mp hx
 | cons p r ih=>
  intro acc hf ha
  obtain ⟨n,k⟩:=p
  have hr:∀p∈r,p.2=.free→∃c,env.cells.lookup p.1=some c:=fun p hp=>hf p (List.mem_cons_of_mem _ hp)
  by_cases hk:k=.free
  ·subst hk
   obtain ⟨c,hc⟩:=hf (n,.free) List.mem_cons_self rfl
   obtain ⟨cl,h1,h2,h3⟩:=ih ((n,c)::acc) hr (fun x c' e=>by
    rw [List.lookup_cons] at e
    cases hx:x == n with
    | true=>
     rw [hx] at e
     have:=eq_of_beq hx
     subst this
     cases e
     exact hc
    | false=>rw [hx] at e; exact ha x c' e)
   refine ⟨cl,?_,h2,fun x hx=>h3 x ?_⟩
   ·rw [List.forIn_cons]
    have:cellOf env n=pure c:=by unfold cellOf; rw [hc]
    simp only [beq_self_eq_true,if_true,this]
    exact h1
   ·rcases hx with hx | hx
    ·rw [List.lookup_cons] at hx
     cases hq:x == n with
     | true=>right; rw [List.lookup_cons,hq]; rfl
     | false=>rw [hq] at hx; exact .inl hx
    ·right
     rw [List.lookup_cons]
     cases hq:x == n with
     | true=>rfl
     | false=>exact hx
  ·have hb:(k == NameKind.free)=false:=by simpa using hk
   obtain ⟨cl,h1,h2,h3⟩:=ih acc hr ha
   refine ⟨cl,?_,h2,fun x hx=>h3 x ?_⟩
   ·rw [List.forIn_cons]
    simp only [hb,Bool.false_eq_true,if_false]
    exact h1
   ·rcases hx with hx | hx
    ·rw [List.lookup_cons] at hx
     cases hq:x == n with
     | true=>rw [hq] at hx; cases hx; exact absurd rfl hk
     | false=>rw [hq] at hx; exact .inl hx
    ·exact .inr hx
theorem q7y {scope:Scope} {env:Env} (hf:∀p∈scope.names,p.2=.free→∃c,env.cells.lookup p.1=some c) :
  ∃cl,closureFor scope env=pure cl∧(∀x c,cl.lookup x=some c→env.cells.lookup x=some c)∧(∀x,scope.names.lookup x=some .free→∃c,cl.lookup x=some c):=by
 obtain ⟨cl,h1,h2,h3⟩:=closure_loop env scope.names [] hf (fun _ _ e=>by simp at e)
 refine ⟨cl,?_,h2,fun x hx=>h3 x (.inl hx)⟩
 unfold closureFor
 simp only []
 have:((forIn scope.names ([]:List (Str×Addr)) (fun (x:Str×NameKind) cs=>
    (if (x.2 == NameKind.free)=true then (do let a ←cellOf env x.1; pure (ForInStep.yield ((x.1,a)::cs))) else pure (ForInStep.yield cs))):Sem (List (Str×Addr))) >>= fun r=>pure r)=pure cl:=by
  rw [h1]; rfl
 exact this
def IxOk (N:List Str) (around:Scope) (scope:Scope):List Str→List (Option Nat)→Prop
 | [],[]=>True
 | y::r,some j::t=>(N[j]?=some y∧scope.names.lookup y=some .free∧(around.names.lookup y=some .cell∨around.names.lookup y=some .free))∧IxOk N around scope r t
 | _::r,none::t=>IxOk N around scope r t
 | _,_=>False
theorem IxOk.at {N:List Str} {around scope:Scope}:∀{N':List Str} {ix:List (Option Nat)},IxOk N around scope N' ix→∀(i:Nat) (y:Str) (j:Nat),N'[i]?=some y→ix[i]?=some (some j)→
  N[j]?=some y∧scope.names.lookup y=some .free∧(around.names.lookup y=some .cell∨around.names.lookup y=some .free)
 | [],_,_,i,y,j,e,_=>by simp at e
 | _::_,[],h,_,_,_,_,_=>h.elim
 | y'::r,some j'::t,h,0,y,j,e,e'=>by
  simp at e e'
  subst e e'
  exact h.1
 | y'::r,some j'::t,h,i+1,y,j,e,e'=>IxOk.at (N':=r) (ix:=t) h.2 i y j (by simpa using e) (by simpa using e')
 | y'::r,none::t,h,0,y,j,e,e'=>by simp at e'
 | y'::r,none::t,h,i+1,y,j,e,e'=>IxOk.at (N':=r) (ix:=t) h i y j (by simpa using e) (by simpa using e')
theorem IxOk.len {N:List Str} {around scope:Scope}:∀{N':List Str} {ix:List (Option Nat)},IxOk N around scope N' ix→ix.length=N'.length
 | [],[],_=>rfl
 | [],_::_,h=>h.elim
 | _::_,[],h=>h.elim
 | _::r,some _::t,h=>by simp [IxOk.len (N':=r) (ix:=t) h.2]
 | _::r,none::t,h=>by simp [IxOk.len (N':=r) (ix:=t) h]
def q3t (ix:List (Option Nat)) (σ:St):St:=ix.map fun o=>match o with
 | none=>none
 | some j=>match σ[j]? with
  | some v=>v
  | none=>none
structure CompOk (X:Cx) (scope:Scope) (N':List Str) (ix:List (Option Nat)):Prop where
 kind:scope.kind=.function
 cell:∀y∈scope.names,y.2≠.cell
 names:∀y∈scope.names,y.2=.local→scope.names.lookup y.1=some .local
 free:∀y∈scope.names,y.2=.free→X.env.scope.names.lookup y.1=some .cell∨X.env.scope.names.lookup y.1=some .free
 ixs:IxOk X.N X.env.scope scope N' ix
def Cx.comp (X:Cx) (scope:Scope) (N':List Str) (cl:List (Str×Addr)) (C:Addr) (s:Shared) (H:Hp) (fp:List Addr):Cx where
 prog:=X.prog
 w:=X.w
 K:=X.K
 mg:=X.mg
 base:=X.base
 A:=X.A
 N:=N'
 s₀:=s
 H₀:=H
 env:=compEnvC scope cl C X.env
 outer:=X.stack
 stack:=X.stack
 ex:=fp
 fn:=fun _=>false
 calm:=true
 pn:=[]
 xe:=fun _ _=>False
theorem lookup_relabel {env:Env} {scope:Scope} {x:Str} {k:NameKind}:(relabel scope env).names.lookup x=some k→k=.cell∨k=.free→(∀y∈scope.names,y.2≠.cell)→scope.names.lookup x=some .free:=by
 unfold relabel
 dsimp only
 generalize scope.names=names
 intro h hk hc
 induction names with
 | nil=>simp at h
 | cons p r ih=>
  obtain ⟨n,k'⟩:=p
  rw [List.map_cons,List.lookup_cons] at h
  rw [List.lookup_cons]
  by_cases hf:k'=.free
  ·subst hf
   cases hq:x == n with
   | true=>rfl
   | false=>
    refine ih ?_ fun y hy=>hc y (List.mem_cons_of_mem _ hy)
    split at h
    ·rename_i hh; simp only [hq] at hh; split at hh<;>exact absurd hh (by simp [hq])
    ·exact h
  ·have hb:(k' == NameKind.free)=false:=by simpa using hf
   simp only [hb,Bool.false_and,Bool.false_eq_true,if_false] at h
   cases hq:x == n with
   | true=>
    rw [hq] at h
    simp only [Option.some.injEq] at h
    subst h
    rcases hk with hk | hk
    ·exact absurd hk (hc (n,k') List.mem_cons_self)
    ·exact absurd hk hf
   | false=>
    rw [hq] at h
    exact ih h fun y hy=>hc y (List.mem_cons_of_mem _ hy)
theorem relabel_free {env:Env} {scope:Scope} {x:Str} (h:scope.names.lookup x=some .free):(relabel scope env).names.lookup x=some .cell∨(relabel scope env).names.lookup x=some .free:=by
 unfold relabel
 dsimp only
 generalize scope.names=names at h
 induction names with
 | nil=>simp at h
 | cons p r ih=>
  obtain ⟨n,k'⟩:=p
  rw [List.lookup_cons] at h
  rw [List.map_cons]
  cases hq:x == n with
  | true=>
   rw [hq] at h
   simp only [Option.some.injEq] at h
   subst h
   by_cases hc:(env.scope.kind == ScopeKind.function && env.kindOf n == some NameKind.cell)=true
   ·left
    simp only [beq_self_eq_true,Bool.true_and,hc,if_true,List.lookup_cons,hq]
   ·right
    simp only [beq_self_eq_true,Bool.true_and,hc,Bool.false_eq_true,if_false,List.lookup_cons,hq]
  | false=>
   rw [hq] at h
   have:=ih h
   by_cases hc:(k' == NameKind.free && env.scope.kind == ScopeKind.function && env.kindOf n == some NameKind.cell)=true
   ·simp only [hc,if_true,List.lookup_cons,hq]; exact this
   ·simp only [hc,Bool.false_eq_true,if_false,List.lookup_cons,hq]; exact this
end L2
namespace L2
open PySem PySem.Spec PyProof.Rows
section
variable {X:Cx} {pins:List (Addr×Obj)} {σ:St} {H:Hp} {s:Shared}
theorem Inv.track {D:Addr} {its:List Value} {n:Nat} {ys:List V} (I:Inv X pins σ H s) (hn:H D=none) (hL:D≠X.env.locals) (h1:X.s₀.heap.objs.size≤D)
  (h2:∀x c,X.env.cells.lookup x=some c→c≠D) (h3:∀p∈X.pn++pins,p.1≠D) (ho:s.heap.get? D=some { cls:=.type "list",data:=.seq its.toArray n }) (r:Vals ys its) (hz:ys.length≤sizeLine) :
  Inv X pins σ (upd H D (.lst ys)) s:=by
 have ne:∀b u,H b=some u→b≠D:=fun b u e z=>by rw [z,hn] at e; cases e
 have ne0:∀b o,X.s₀.heap.get? b=some o→b≠D:=fun b o e=>Nat.ne_of_lt (Nat.lt_of_lt_of_le (Heap.lt_size e) h1)
 refine ⟨I.ok,I.os,I.bare,⟨I.base.keep,I.base.slot,fun b o e n' hx=>?_,I.base.there,fun b xs e=>?_,fun b o u e=>?_,fun b ps e=>?_⟩,I.loc,I.cell,?_,fun x c e=>?_,fun p hp=>?_,fun b u e=>?_,I.len⟩
 ·rw [q0w (ne0 b o e)]; exact I.base.free b o e n' hx
 ·have q:=I.base.tups b xs e
  rw [q0w (ne _ _ q)]; exact q
 ·have q:=I.base.frzs b o u e
  rw [q0w (ne _ _ q)]; exact q
 ·obtain ⟨more,q⟩:=I.base.tbls b ps e
  exact ⟨more,by rw [q0w (ne _ _ q)]; exact q⟩
 ·rw [q0w (Ne.symm hL)]; exact I.free
 ·rw [q0w (h2 x c e)]; exact I.freeC x c e
 ·obtain ⟨a1,a2,a3⟩:=I.pin p hp
  exact ⟨a1,by rw [q0w (h3 p hp)]; exact a2,a3⟩
 ·by_cases hb:b=D
  ·subst hb
   rw [q1w] at e
   cases e
   exact ⟨hz,its,n,r,ho⟩
  ·rw [q0w hb] at e
   refine (I.hok b u e).stay (fun c v hc q=>q) (fun c q=>?_) fun c xs q=>?_
   ·rw [q0w (ne _ _ q)]; exact q
   ·rw [q0w (ne _ _ q)]; exact q
theorem Inv.comp {scope:Scope} {N':List Str} {ix:List (Option Nat)} {cl:List (Str×Addr)} {C:Addr} {fp:List Addr} {h':Heap} {t':Nat} (I:Inv X pins σ H s) (co:CompOk X scope N' ix)
  (hcl1:∀x c,cl.lookup x=some c→X.env.cells.lookup x=some c) (hcl2:∀x,scope.names.lookup x=some .free→∃c,cl.lookup x=some c) (hc:X.calm=true)
  (hC:s.heap.objs.size≤C) (hns:h'.Ns C fun _=>none) (hk:∀b o,s.heap.get? b=some o→h'.get? b=some o) (hf:∀b∈fp,FpOk X pins H b) (hfz:∀b∈fp,b<s.heap.objs.size) :
  Inv (X.comp scope N' cl C s H fp) [] (q3t ix σ) H { s with heap:=h',toks:=t' }:=by
 have lookK:∀x k,(compEnvC scope cl C X.env).kindOf x=some k→k=.cell∨k=.free→scope.names.lookup x=some .free:=fun x k e hk'=>lookup_relabel (env:=X.env) e hk' co.cell
 have ok:(X.comp scope N' cl C s H fp).Ok:=by
  refine ⟨I.ok.mod,co.kind,I.ok.glob,I.ok.blt,hC,fun x y c e1 e2=>I.ok.inj x y c (hcl1 x c e1) (hcl1 y c e2),fun x hx=>?_,fun x c e=>(by cases e),fun _=>I.ok.hd hc,I.ok.frames,.inl rfl,fun b hb=>⟨?_,fun x c e=>?_⟩,I.bs,?_,fun b o e hb=>?_,fun b hb z=>?_,I.stack,I.stkFree⟩
  ·refine hcl2 x ?_
   rcases hx with e | e
   ·exact lookK x _ e (.inl rfl)
   ·exact lookK x _ e (.inr rfl)
  ·exact Nat.ne_of_lt (Nat.lt_of_lt_of_le (hfz b hb) hC)
  ·exact (hf b hb).2.2.2.2.1 x c (hcl1 x c e)
  ·exact Nat.le_trans I.ok.bsz I.sz
  ·rcases (hf b hb).2.2.2.1 with z | z
   ·exact I.ok.noex b o e z
   ·exact absurd (Nat.lt_of_lt_of_le (Heap.lt_size (I.ok.bs b o e).1) z) (Nat.lt_irrefl _)
  ·rcases List.mem_cons.mp (I.stkSub b z) with q | q
   ·exact (hf b hb).2.1 q
   ·exact (hf b hb).2.2.1 q
 refine ⟨ok,rfl,I.bare,Un.kept hk,⟨_,hns,fun i y v e1 e2 e3=>?_⟩,fun x c e=>?_,?_,fun x c e=>I.freeC x c (hcl1 x c e),(fun p hp=>by cases hp),I.hok.kept hk,?_⟩
 ·-- a name of the frame around
  have e1':N'[i]?=some y:=e1
  have e2':(q3t ix σ)[i]?=some (some v):=e2
  unfold q3t at e2'
  rw [List.getElem?_map] at e2'
  cases hix:ix[i]? with
  | none=>rw [hix] at e2'; cases e2'
  | some o=>
   rw [hix] at e2'
   cases o with
   | none=>cases e2'
   | some j=>
    have hj:σ[j]?=some (some v):=by
     cases hs:σ[j]? with
     | none=>simp only [Option.map_some,hs] at e2'; cases e2'
     | some o=>
      simp only [Option.map_some,hs,Option.some.injEq] at e2'
      rw [e2']
    obtain ⟨a1,a2,a3⟩:=co.ixs.at i y j e1' hix
    obtain ⟨m,hm,hl⟩:=I.loc
    obtain ⟨u,r,l⟩:=hl j y v a1 hj (by rcases a3 with z | z; exact .inr (.inl z); exact .inr (.inr z))
    refine ⟨u,r,.inr ⟨relabel_free a2,?_⟩⟩
    obtain ⟨c,hc'⟩:=hcl2 y a2
    refine ⟨c,hc',?_⟩
    rcases l with ⟨z,_⟩ | ⟨_,c',e',o,ho,hd⟩
    ·have z':X.env.scope.names.lookup y=some .local:=z
     rcases a3 with q | q<;>rw [z'] at q<;>cases q
    ·have:c'=c:=Option.some.inj (e'.symm.trans (hcl1 y c hc'))
     subst this
     exact ⟨o,hk _ _ ho,hd⟩
 ·obtain ⟨v,o,ho,hd⟩:=I.cell x c (hcl1 x c e)
  exact ⟨v,o,hk _ _ ho,hd⟩
 ·exact I.hok.fresh hC
 ·show (q3t ix σ).length=N'.length
  unfold q3t
  rw [List.length_map]
  exact co.ixs.len
end
end L2
namespace L2
open PySem PySem.Spec PyProof.Rows
def CompGoIf (J:It) (g:TG) (tc:TT) (te:TE) (Q:VK) (σ₀:St) (H1:Hp):Prop:=∃(W:Nat→List V→St→Hp→Prop) (n:Nat),n≤sizeLine∧W 0 [] σ₀ H1∧∀i ys σ H,i≤n→W i ys σ H→
 (J.stop i H∧∀p,H p=none→Q (.ref p) (upd H p (.lst ys)))∨(i<n∧J.go i H∧∀x H',J.yld i H x H'→g x σ H' fun σ2 H2=>tc σ2 H2 fun b H3=>if b=true then te σ2 H3 fun y H4=>W (i+1) (ys++[y]) σ2 H4 else W (i+1) ys σ2 H3)
def tCompIf (wi:TI) (ix:List (Option Nat)) (g:TG) (tc:TT) (te:TE):TE:=fun σ H Q=>wi σ H fun J H1=>CompGoIf J g tc te Q (q3t ix σ) H1
section
variable {X:Cx} {tg iter elt c:Expr} {scope:Scope} {pos:Pos} {N':List Str} {ix:List (Option Nat)} {wi:TI} {g:TG} {te:TE} {tc:TT}
structure CompMid (X:Cx) (scope:Scope) (N':List Str) (cl:List (Str×Addr)) (C D:Addr) (s₂:Shared) (H₂:Hp) (fp:List Addr) (tn:Nat→Heap→Prop) (W:Nat→List V→St→Hp→Prop) (i:Nat) (ys:List V) (σ':St) (H':Hp) (s':Shared):Prop where
 inv:∃us:List Value,Vals ys us∧Inv (X.comp scope N' cl C s₂ H₂ fp) [(D,{ cls:=.type "list",data:=.seq us.toArray us.length })] σ' H' s'
 tn:tn i s'.heap
 fpn:∀b∈fp,H' b=none
 len:ys.length≤i
 w:W i ys σ' H'
theorem comp_end {pins:List (Addr×Obj)} {σ:St} {H₂:Hp} {s₂:Shared} {cl:List (Str×Addr)} {C D:Addr} {fp:List Addr} {Q:VK} {ys:List V} {us:List Value} {σ':St} {H':Hp} {s':Shared}
  (I₂:Inv X pins σ H₂ s₂) (f2:∀b∈fp,FpOk X pins H₂ b) (hD:s₂.heap.objs.size≤D) (hC:s₂.heap.objs.size≤C) (hDC:D≠C) (r:Vals ys us)
  (I':Inv (X.comp scope N' cl C s₂ H₂ fp) [(D,{ cls:=.type "list",data:=.seq us.toArray us.length })] σ' H' s') (hz:ys.length≤sizeLine) (q:∀p,H' p=none→Q (.ref p) (upd H' p (.lst ys))) :
  ∃m,s'.heap.Ns C m∧∀h',Heap.SameBut C s'.heap h'→EP X pins σ Q (.ref D) { s' with heap:=h' }:=by
 obtain ⟨m,hm,_⟩:=I'.loc
 refine ⟨m,hm,fun h' sb=>?_⟩
 have new:∀a,s₂.heap.objs.size≤a→a≠X.env.locals∧X.s₀.heap.objs.size≤a∧(∀x c,X.env.cells.lookup x=some c→c≠a)∧∀p∈X.pn++pins,p.1≠a:=fun a ha=>by
  refine ⟨Nat.ne_of_gt (Nat.lt_of_lt_of_le I₂.lt ha),Nat.le_trans I₂.sz ha,fun x c e=>?_,fun p hp=>?_⟩
  ·obtain ⟨v,o,ho,_⟩:=I₂.cell x c e
   exact Nat.ne_of_lt (Nat.lt_of_lt_of_le (Heap.lt_size ho) ha)
  ·exact Nat.ne_of_lt (Nat.lt_of_lt_of_le (Heap.lt_size (I₂.pin p hp).1) ha)
 have I3:Inv X pins σ H' s':=I₂.call' I'.os I'.base I'.hok I'.bare fun b hb=>⟨(f2 b hb).2.2.2.1,(f2 b hb).2.1,(f2 b hb).2.2.2.2.1,(f2 b hb).2.2.2.2.2⟩
 obtain ⟨eD,nD,_,_,_⟩:=I'.pin (D,{ cls:=.type "list",data:=.seq us.toArray us.length }) (by simp)
 obtain ⟨c1,c2,c3,c4⟩:=new C hC
 have I4:Inv X pins σ H' { s' with heap:=h' }:=I3.turned (t':=s'.toks) (it:=C) (fun b o hb e=>(sb.2 b hb).trans e) I'.free c1 (.inr c2) c3 c4
 obtain ⟨d1,d2,d3,d4⟩:=new D hD
 have I5:=I4.track (D:=D) (ys:=ys) nD d1 d2 d3 d4 ((sb.2 D hDC).trans eD) r hz
 exact ⟨.ref D,_,I5,rfl,q D nD⟩
theorem comp_app {H₂:Hp} {s₂:Shared} {cl:List (Str×Addr)} {C D:Addr} {fp:List Addr} {ys:List V} {us:List Value} {σ':St} {H':Hp} {s':Shared} {pl:List (Addr×Obj)} {y:V} {u:Value} {Q:Value→Shared→Prop} {E:Value→Shared→Prop}
  (hD:s₂.heap.objs.size≤D) (hDC:D≠C) (hcl:∀x c,cl.lookup x=some c→c≠D) (r:Vals ys us) (ry:RelV y u) (hz:ys.length<sizeLine)
  (I':Inv (X.comp scope N' cl C s₂ H₂ fp) ([(D,{ cls:=.type "list",data:=.seq us.toArray us.length })]++pl) σ' H' s') (hp:∀p∈pl,p.1≠D)
  (h:∀s'',Inv (X.comp scope N' cl C s₂ H₂ fp) ([(D,{ cls:=.type "list",data:=.seq (us++[u]).toArray (us++[u]).length })]++pl) σ' H' s''→Q .none s'') :
  wpAny (model X.prog X.w) X.A (call (.builtin "list.append") [.ref D,u]) Q E s':=by
 obtain ⟨eD,nD,neD,nfD,ndD⟩:=I'.pin (D,{ cls:=.type "list",data:=.seq us.toArray us.length }) (by simp)
 refine append_at eD (fun h₅ hs₅ hD₅=>h _ ?_) (by simp only [List.size_toArray]; rw [←r.length]; exact Nat.le_of_lt hz)
 have I1:Inv (X.comp scope N' cl C s₂ H₂ fp) pl σ' H' s':=I'.pins_of fun p hp'=>I'.pin p (List.mem_append_right _ (List.mem_append_right _ hp'))
 have I2:Inv (X.comp scope N' cl C s₂ H₂ fp) pl σ' H' { s' with heap:=h₅ }:=I1.turned (t':=s'.toks) (it:=D) (fun b o hb e=>(hs₅.2 b hb).trans e) nD neD (.inr hD) hcl (fun p hp'=>hp p (by simpa [Cx.comp] using hp'))
 refine I2.pins_of fun p hp'=>?_
 rcases List.mem_append.mp hp' with z | z
 ·obtain rfl:=List.mem_singleton.mp z
  refine ⟨?_,nD,neD,nfD,fun v z=>by cases z⟩
  rw [hD₅,List.length_append,List.length_singleton,List.push_toArray]
 ·exact I2.pin p (List.mem_append_right _ z)
end
end L2
namespace L2
open PySem PySem.Spec PyProof.Rows
section
variable {X:Cx} {tg iter elt c:Expr} {scope:Scope} {pos:Pos} {N':List Str} {ix:List (Option Nat)} {wi:TI} {g:TG} {te:TE} {tc:TT}
theorem comp_end_use {pins:List (Addr×Obj)} {σ:St} {H₂:Hp} {s₂:Shared} {cl:List (Str×Addr)} {C D:Addr} {fp:List Addr} {ys:List V} {us:List Value} {σ':St} {H':Hp} {s':Shared} {i:Nat} {x:Str} {py:Pos} {Q:Value→Shared→Prop}
  (hN:X.N.Nodup) (hi:X.N[i]?=some x) (hx:Loc X.env.scope x) (hf:X.fn x=true∨X.env.scope.names.lookup x=some .local)
  (I₂:Inv X pins σ H₂ s₂) (f2:∀b∈fp,FpOk X pins H₂ b) (hD:s₂.heap.objs.size≤D) (hC:s₂.heap.objs.size≤C) (hDC:D≠C) (r:Vals ys us)
  (I':Inv (X.comp scope N' cl C s₂ H₂ fp) [(D,{ cls:=.type "list",data:=.seq us.toArray us.length })] σ' H' s') (hz:ys.length≤sizeLine)
  (q:∀s'',Inv X pins (σ.set i (some (.ref D))) (upd H' D (.lst ys)) s''→H' D=none→Q .none s'') :
  wpAny (model X.prog X.w) X.A (assign (.Name x py) X.env (.ref D)) (fun _ s''=>∃m,s''.heap.Ns C m∧∀h',Heap.SameBut C s''.heap h'→Q .none { s'' with heap:=h' }) X.xe s':=by
 obtain ⟨m,hm,_⟩:=I'.loc
 have new:∀a,s₂.heap.objs.size≤a→a≠X.env.locals∧X.s₀.heap.objs.size≤a∧(∀x c,X.env.cells.lookup x=some c→c≠a)∧∀p∈X.pn++pins,p.1≠a:=fun a ha=>by
  refine ⟨Nat.ne_of_gt (Nat.lt_of_lt_of_le I₂.lt ha),Nat.le_trans I₂.sz ha,fun x c e=>?_,fun p hp=>?_⟩
  ·obtain ⟨v,o,ho,_⟩:=I₂.cell x c e
   exact Nat.ne_of_lt (Nat.lt_of_lt_of_le (Heap.lt_size ho) ha)
  ·exact Nat.ne_of_lt (Nat.lt_of_lt_of_le (Heap.lt_size (I₂.pin p hp).1) ha)
 have I3:Inv X pins σ H' s':=I₂.call' I'.os I'.base I'.hok I'.bare fun b hb=>⟨(f2 b hb).2.2.2.1,(f2 b hb).2.1,(f2 b hb).2.2.2.2.1,(f2 b hb).2.2.2.2.2⟩
 obtain ⟨eD,nD,_,_,_⟩:=I'.pin (D,{ cls:=.type "list",data:=.seq us.toArray us.length }) (by simp)
 obtain ⟨c1,c2,c3,c4⟩:=new C hC
 obtain ⟨d1,d2,d3,d4⟩:=new D hD
 have I5:=I3.track (D:=D) (ys:=ys) nD d1 d2 d3 d4 eD r hz
 refine wpAny_assign_Name (q8n I5 hN hi hx (v:=.ref D) rfl (fun s'' I'' ⟨a,sb,ha⟩=>?_) hf)
 have haC:a≠C:=by
  rcases ha with rfl | ha
  ·exact c1.symm
  ·exact c3 _ _ ha
 refine ⟨m,hm.sameBut sb haC.symm,fun h' sb'=>q _ ?_ nD⟩
 exact I''.turned (t':=s''.toks) (it:=C) (fun b o hb e=>(sb'.2 b hb).trans e) (by rw [q0w hDC.symm]; exact I'.free) c1 (.inr c2) c3 c4
theorem kcg_loop {prog:Program} {w:World} {A:Around} {s:Shared} {elt target iter:Expr} {ifs:List Expr} {scope:Scope} {pos:Pos} {it acc:Value} {env:Env} {R:Result→Shared→Prop} (I:Nat→Shared→Prop)
  (turn:∀n s,I n s→wpAny (model prog w) A (pyNext it) (fun r s₁=>match r with
   | none=>R (.ok .next) s₁
   | some v=>wpAny (model prog w) A (letOwnedTupleGo target it v) (fun _ s₀=>wpAny (model prog w) A (assign target env v) (fun _ s₂=>
     wpAny (model prog w) A (forIn ifs true fun c r=>if r=true then do let ok ←isTrue c env (eval c env); pure (ForInStep.yield ok) else pure (ForInStep.yield r)) (fun ok s₃=>if ok=true then wpAny (model prog w) A (eval elt env) (fun x s₄=>
      wpAny (model prog w) A (call (.builtin "list.append") [acc,x]) (fun _ s₅=>∃m,m<n∧I m s₅) (notedBy (model prog w) A env fun e s'=>R (.error e) s') s₄) (notedBy (model prog w) A env fun e s'=>R (.error e) s') s₃
      else ∃m,m<n∧I m s₃) (notedBy (model prog w) A env fun e s'=>R (.error e) s') s₂)
     (notedBy (model prog w) A env fun e s'=>R (.error e) s') s₀) (notedBy (model prog w) A env fun e s'=>R (.error e) s') s₁) (notedBy (model prog w) A env fun e s'=>R (.error e) s') s)
  (n:Nat) (h:I n s):codeAny (model prog w) A (.compLoop (.ListComp elt [⟨target,iter,ifs,0⟩] scope pos) 0 it acc env) R s:=by
 refine codeAny_loop rfl I (fun n s hI=>?_) n h
 show wpAny _ A ((compTurn (.ListComp elt [⟨target,iter,ifs,0⟩] scope pos) 0 it acc env).onRaise (fun x=>do noteFrame x env; theTreesLotGoes x)) _ _ s
 refine wpAny_noted ?_
 rw [compTurn_list]
 refine wpAny_bind (wpAny_standAt (wpAny_bind (wpAny_mono (turn n s hI) (fun r s₁ h₁=>?_) fun _ _ h'=>h')))
 cases r with
 | none=>exact wpAny_pure h₁
 | some v=>
  refine wpAny_bind (wpAny_mono h₁ (fun _ s₀ h₀'=>?_) fun _ _ h'=>h')
  refine wpAny_bind (wpAny_mono h₀' (fun _ s₂ h₂=>?_) fun _ _ h'=>h')
  refine wpAny_bind (wpAny_mono h₂ (fun okb s₃ h₃=>?_) fun _ _ h'=>h')
  cases okb with
  | false=>exact wpAny_pure ⟨rfl,h₃⟩
  | true=>exact wpAny_bind (wpAny_bind (wpAny_mono h₃ (fun x s₄ h₄=>wpAny_bind (wpAny_mono h₄ (fun _ s₅ h₅=>wpAny_pure (wpAny_pure ⟨rfl,h₅⟩)) fun _ _ h'=>h')) fun _ _ h'=>h'))
def PTs (X:Cx) (ifs:List Expr) (t:TT):Prop:=
 ∀(pins:List (Addr×Obj)) (s:Shared) (σ:St) (H:Hp) (Q:Bool→Hp→Prop),Inv X pins σ H s→t σ H Q→wpAny (model X.prog X.w) X.A (forIn ifs true fun c r=>if r=true then do let ok ←isTrue c X.env (eval c X.env); pure (ForInStep.yield ok) else pure (ForInStep.yield r)) (TP X pins σ Q) X.xe s
theorem pts_one (h:PT X c tc):PTs X [c] tc:=fun pins s σ H Q I q=>wpAny_tests_one (h pins s σ H Q I q)
theorem pts_nil (h:∀σ H Q,tc σ H Q→Q true H):PTs X [] tc:=fun pins s σ H Q I q=>wpAny_tests_nil ⟨H,I,h σ H Q q⟩
theorem comp_runG {ifs:List Expr} {use:Option (Value→Sem Unit)} {Qf:Value→Shared→Prop} {pins:List (Addr×Obj)} {s:Shared} {σ:St} {H:Hp} {ps:Pos} (hc:X.calm=true) (co:CompOk X scope N' ix) (hi:PI X tg iter wi) (hg:∀cl C s H fp,PG (X.comp scope N' cl C s H fp) tg g) (ht:∀cl C s H fp,PTs (X.comp scope N' cl C s H fp) ifs tc) (he:∀cl C s H fp,PE (X.comp scope N' cl C s H fp) elt te)
  (hs:∀x,foldedSetIterable iter X.env x=pure x:=by intro _; rfl)
  (I:Inv X pins σ H s) (h:wi σ H fun J H1=>∃Q:VK,CompGoIf J g tc te Q (q3t ix σ) H1∧∀{H₂:Hp} {s₂:Shared} {cl:List (Str×Addr)} {C D:Addr} {fp:List Addr} {ys:List V} {us:List Value} {σ':St} {H':Hp} {s':Shared},Inv X pins σ H₂ s₂→(∀b∈fp,FpOk X pins H₂ b)→s₂.heap.objs.size≤D→s₂.heap.objs.size≤C→D≠C→Vals ys us→
   Inv (X.comp scope N' cl C s₂ H₂ fp) [(D,{ cls:=.type "list",data:=.seq us.toArray us.length })] σ' H' s'→ys.length≤sizeLine→(∀p,H' p=none→Q (.ref p) (upd H' p (.lst ys)))→compPost (model X.prog X.w) X.A X.xe use Qf (.ref D) C (.ok .next) s') :
  wpAny (model X.prog X.w) X.A (comprehension (.ListComp elt [⟨tg,iter,ifs,0⟩] scope pos) scope X.env ps (newList []) false (eval iter X.env) use) Qf X.xe s:=by
 obtain ⟨cl,hclos,hcl1,hcl2⟩:=q7y (scope:=scope) (env:=X.env) fun p hp e=>by
  rcases co.free p hp e with z | z
  ·exact I.ok.has p.1 (.inl z)
  ·exact I.ok.has p.1 (.inr z)
 refine wpAny_comprehension_free (use:=use) rfl hs hclos co.kind co.names (thn (hi pins s σ H _ I h) fun v s1 h1=>thn h1 fun itv s₂ h2=>?_)
 obtain ⟨it,fp,tn,J,H₂,rfl,I₂,T,st2,f2,Q,⟨W,n,hn,w0,turn⟩,fin⟩:=h2
 refine wpAny_newObj_type (wpAny_newFunctionEnv co.cell (by intro y hy; simp at hy) (fun h₁ hns₁ hsb₁=>?_) co.kind)
 dsimp only at hns₁ hsb₁ ⊢
 generalize hH2:s₂.heap.push { cls:=.type "list",dict:=none,data:=.seq ([]:List Value).toArray }=H2 at hns₁ hsb₁ ⊢
 have hC:H2.objs.size=s₂.heap.objs.size+1:=by rw [←hH2,Heap.size_push]
 have hCle:s₂.heap.objs.size≤H2.objs.size:=by omega
 have hDC:s₂.heap.objs.size≠H2.objs.size:=by omega
 have old:∀b o,s₂.heap.get? b=some o→h₁.get? b=some o:=fun b o e=>hsb₁.extBut b o (Nat.ne_of_lt (by rw [hC]; exact Nat.lt_succ_of_lt (Heap.lt_size e))) (Heap.get?_push_of_some _ (hH2▸Heap.get?_push_of_some _ e))
 have hacc:h₁.get? s₂.heap.objs.size=some { cls:=.type "list",data:=.seq ([]:List Value).toArray }:=hsb₁.extBut _ _ hDC (Heap.get?_push_of_some _ (hH2▸Heap.get?_push_size _ rfl))
 have hfz:∀b∈fp,b<s₂.heap.objs.size:=fun b hb=>by
  obtain ⟨o,e,_⟩:=T.obj _ _ st2 b hb
  exact Heap.lt_size e
 have hclD:∀x c,cl.lookup x=some c→c≠s₂.heap.objs.size:=fun x c e=>by
  obtain ⟨v,o,ho,_⟩:=I₂.cell x c (hcl1 x c e)
  exact Nat.ne_of_lt (Heap.lt_size ho)
 have st0:tn 0 h₁:=T.keep _ _ _ st2 fun b hb o e=>old b o e
 have loop:∀s₃:Shared,s₃={ s₂ with heap:=h₁,toks:=s₂.toks+([]:List (Str×Value)).length }→
   codeAny (model X.prog X.w) X.A (.compLoop (.ListComp elt [⟨tg,iter,ifs,0⟩] scope pos) 0 (.ref it) (.ref s₂.heap.objs.size) (compEnvC scope cl H2.objs.size X.env))
    (compPost (model X.prog X.w) X.A X.xe use Qf (.ref s₂.heap.objs.size) H2.objs.size) s₃:=by
  rintro s₃ rfl
  have I0:=I₂.comp (t':=s₂.toks+([]:List (Str×Value)).length) co hcl1 hcl2 hc hCle hns₁ old f2 hfz
  have nof:s₂.heap.objs.size∉(X.comp scope N' cl H2.objs.size s₂ H₂ fp).fs:=fun z=>by
   obtain ⟨_,o,ho,_⟩:=I0.ok.funs.mem z
   exact absurd (Heap.lt_size ho) (Nat.lt_irrefl _)
  have I0':Inv (X.comp scope N' cl H2.objs.size s₂ H₂ fp) [(s₂.heap.objs.size,{ cls:=.type "list",data:=.seq ([]:List Value).toArray ([]:List Value).length })] (q3t ix σ) H₂ { s₂ with heap:=h₁,toks:=s₂.toks+([]:List (Str×Value)).length }:=I0.pins_of fun p hp=>by
   obtain rfl:=List.mem_singleton.mp hp
   exact ⟨hacc,I₂.fresh,hDC,nof,fun v z=>by cases z⟩
  have hclC:∀x c,cl.lookup x=some c→c≠s₂.heap.objs.size:=hclD
  have fpok:∀{us:List Value} {H':Hp},(∀b∈fp,H' b=none)→∀b∈fp,FpOk (X.comp scope N' cl H2.objs.size s₂ H₂ fp) [(s₂.heap.objs.size,{ cls:=.type "list",data:=.seq us.toArray us.length })] H' b:=fun hn' b hb=>
   ⟨hn' b hb,(I0.ok.exf b hb).1,I0.ok.exfs b hb,.inl hb,(I0.ok.exf b hb).2,fun p hp=>by
    have hp':p∈[(s₂.heap.objs.size,({ cls:=.type "list",data:=.seq _ _ }:Obj))]:=hp
    obtain rfl:=List.mem_singleton.mp hp'
    exact Nat.ne_of_gt (hfz b hb)⟩
  refine kcg_loop (fun k s'=>∃i ys σ' H',i≤n∧k=n - i∧CompMid X scope N' cl H2.objs.size s₂.heap.objs.size s₂ H₂ fp tn W i ys σ' H' s') ?_ n
   ⟨0,[],q3t ix σ,H₂,Nat.zero_le _,rfl,⟨[],.nil,I0'⟩,st0,fun b hb=>(f2 b hb).1,Nat.le_refl _,w0⟩
  rintro k s3 ⟨i,ys,σ3,H3,hi3,rfl,⟨us,r3,I3⟩,st3,fr3,hl3,w3⟩
  have weak:∀{e:Value} {s':Shared},False→notedBy (model X.prog X.w) X.A (compEnvC scope cl H2.objs.size X.env) (fun e s'=>compPost (model X.prog X.w) X.A X.xe use Qf (.ref s₂.heap.objs.size) H2.objs.size (.error e) s') e s':=fun z=>z.elim
  rcases turn i ys σ3 H3 hi3 w3 with ⟨stop,q⟩ | ⟨hlt,go,step⟩
  ·refine thn (T.done (X.comp scope N' cl H2.objs.size s₂ H₂ fp) rfl rfl rfl rfl i _ s3 σ3 H3 _ I3 (fpok fr3) st3 stop) fun r s4 hh1=>?_
   obtain ⟨hr,I4⟩:=hh1
   subst hr
   exact fin I₂ f2 (Nat.le_refl _) hCle hDC r3 I4 (by omega) q
  ·refine thn (T.item (X.comp scope N' cl H2.objs.size s₂ H₂ fp) rfl rfl rfl rfl i _ s3 σ3 H3 _ I3 (fpok fr3) st3 go) fun r s4 hh2=>?_
   obtain ⟨u,hr,h4⟩:=hh2
   subst hr
   refine thn h4 fun _ s5 hh3=>?_
   obtain ⟨x,H5,I5,r5,y5,st5,fr5⟩:=hh3
   have I5':=I5.pinned (fpok fr5) (T.obj _ _ st5)
   refine wpAny_mono (hg cl _ s₂ H₂ fp _ s5 σ3 H5 x u _ I5' r5 (step x H5 y5)) (fun _ s6 ⟨σ6,H6,I6,q6⟩=>?_) fun _ _ z=>weak z
   refine wpAny_mono (ht cl _ s₂ H₂ fp _ s6 σ6 H6 _ I6 q6) (fun b6 s6' ⟨H6',I6',q6'⟩=>?_) fun _ _ z=>weak z
   have hpl:∀p∈pinsAt fp s5.heap,p.1≠s₂.heap.objs.size:=fun p hp=>Nat.ne_of_lt (hfz p.1 (of_pinsAt hp).1)
   cases b6 with
   | false=>
    have q6'':W (i+1) ys σ6 H6':=by simpa using q6'
    have g6:¬(false=true):=by decide
    rw [if_neg g6]
    refine ⟨n - (i+1),by omega,i+1,ys,σ6,H6',hlt,rfl,⟨us,r3,I6'.unpinned⟩,?_,fun b hb=>?_,by omega,q6''⟩
    ·exact T.keep _ _ _ st5 fun b hb o e=>(I6'.pin (b,o) (List.mem_append_right _ (List.mem_append_right _ (q3l hb e)))).1
    ·obtain ⟨o,e,d⟩:=T.obj _ _ st5 b hb
     exact (I6'.pin (b,o) (List.mem_append_right _ (List.mem_append_right _ (q3l hb e)))).2.1
   | true=>
    have q6'':te σ6 H6' fun y H4=>W (i+1) (ys++[y]) σ6 H4:=by simpa using q6'
    have g6:true=true:=rfl
    rw [if_pos g6]
    refine wpAny_mono (he cl _ s₂ H₂ fp _ s6' σ6 H6' _ I6' q6'') (fun u7 s7 ⟨y7,H7,I7,r7,q7⟩=>?_) fun _ _ z=>weak z
    refine comp_app (pl:=pinsAt fp s5.heap) (Nat.le_refl _) hDC hclD r3 r7 (by omega) I7 hpl fun s8 I8=>?_
    refine ⟨n - (i+1),by omega,i+1,ys++[y7],σ6,H7,hlt,rfl,⟨us++[u7],r3.append (.cons r7 .nil),I8.unpinned⟩,?_,fun b hb=>?_,by rw [List.length_append,List.length_singleton]; omega,q7⟩
    ·exact T.keep _ _ _ st5 fun b hb o e=>(I8.pin (b,o) (List.mem_append_right _ (List.mem_append_right _ (q3l hb e)))).1
    ·obtain ⟨o,e,d⟩:=T.obj _ _ st5 b hb
     exact (I8.pin (b,o) (List.mem_append_right _ (List.mem_append_right _ (q3l hb e)))).2.1
 exact codeAny_compStart_list (loop _ rfl) (T.self _ 0 _ _ _ st0 (loop _ rfl))
theorem pe_compG {ifs:List Expr} (hc:X.calm=true) (co:CompOk X scope N' ix) (hit:PI X tg iter wi) (hm:∀σ H R R',(∀J H1,R J H1→R' J H1)→wi σ H R→wi σ H R') (hg:∀cl C s H fp,PG (X.comp scope N' cl C s H fp) tg g) (ht:∀cl C s H fp,PTs (X.comp scope N' cl C s H fp) ifs tc) (he:∀cl C s H fp,PE (X.comp scope N' cl C s H fp) elt te)
  (hs:∀x,foldedSetIterable iter X.env x=pure x:=by intro _; rfl):PE X (.ListComp elt [⟨tg,iter,ifs,0⟩] scope pos) (tCompIf wi ix g tc te):=by
 intro pins s σ H Q I h
 rw [eval_ListComp]
 refine comp_runG (use:=none) (Qf:=EP X pins σ Q) hc co hit hg ht he hs I (hm σ H _ _ (fun J H1 q=>⟨_,q,?_⟩) h)
 intro H₂ s₂ cl C DD fp ys us σ' H' s' I₂ f2 hD hC hDC r I' hz q
 exact comp_end I₂ f2 hD hC hDC r I' hz q
def tAsgCompIf (wi:TI) (ix:List (Option Nat)) (g:TG) (tc:TT) (te:TE) (i:Nat):TS:=fun D σ H=>tCompIf wi ix g tc te σ H fun v H1=>D.nx (σ.set i (some v)) H1
theorem PI.mono {wi wi':TI} (h:PI X tg iter wi) (i:∀σ H R,wi' σ H R→wi σ H R):PI X tg iter wi':=fun pins s σ H R I q=>h pins s σ H R I (i σ H R q)
theorem ps_setCompG {ifs:List Expr} {i:Nat} {x:Str} {px sp:Pos} (hsw:swapsWith (.ListComp elt [⟨tg,iter,ifs,0⟩] scope pos) (some (.Name x px)) sp.line X.env=pure true) (hN:X.N.Nodup) (hi:X.N[i]?=some x) (hx:Loc X.env.scope x)
  (hc:X.calm=true) (co:CompOk X scope N' ix) (hit:PI X tg iter wi) (hm:∀σ H R R',(∀J H1,R J H1→R' J H1)→wi σ H R→wi σ H R') (hg:∀cl C s H fp,PG (X.comp scope N' cl C s H fp) tg g) (ht:∀cl C s H fp,PTs (X.comp scope N' cl C s H fp) ifs tc) (he:∀cl C s H fp,PE (X.comp scope N' cl C s H fp) elt te)
  (hs:∀x,foldedSetIterable iter X.env x=pure x:=by intro _; rfl) (hf:X.fn x=true∨X.env.scope.names.lookup x=some .local:=by first | exact .inl rfl | exact .inr rfl | assumption) :
  PS X (.Assign [.Name x px] (.ListComp elt [⟨tg,iter,ifs,0⟩] scope pos) sp) (tAsgCompIf wi ix g tc te i):=by
 intro pins s σ H D I h
 rw [exec_Assign_Name_used _ _ _ _ hsw]
 refine wpAny_bind (wpAny_standAt (wpAny_bind ?_))
 show wpAny _ X.A (do let _ ←comprehension (.ListComp elt [⟨tg,iter,ifs,0⟩] scope pos) scope X.env _ (newList []) false (eval iter X.env) (some (assign (.Name x px) X.env))) _ _ s
 refine wpAny_bind (wpAny_mono (comp_runG (use:=some (assign (.Name x px) X.env)) (Qf:=fun _ s'=>SP X pins D .next s') hc co hit hg ht he hs I (hm σ H _ _ (fun J H1 q=>⟨_,q,?_⟩) h)) (fun _ s' hq=>wpAny_pure (wpAny_pure hq)) fun _ _ e=>e)
 intro H₂ s₂ cl C DD fp ys us σ' H' s' I₂ f2 hD hC hDC r I' hz q
 exact comp_end_use (py:=px) (Q:=fun _ s'=>SP X pins D .next s') hN hi hx hf I₂ f2 hD hC hDC r I' hz fun s'' I'' nD=>⟨_,_,I'',q DD nD⟩
end
end L2
namespace L2
open PySem PySem.Spec PyProof.Rows
section
variable {prog:Program} {w:World} {A:Around} {E:Value→Shared→Prop} {s:Shared}
theorem zn_tuple_some {j t:Addr} {k:Nat} {xs:Array Value} {v:Value} {R:Value→Shared→Prop} (g:s.heap.IsTupleIter j t k) (gt:s.heap.IsTuple t xs) (gv:xs[k]?=some v)
  (gR:∀h',h'.IsTupleIter j t (k+1)→Heap.SameBut j s.heap h'→R v { s with heap:=h' }):wpAny (model prog w) A (Builtin.SmallTypes.nextOf (.ref j)) R E s:=by
 obtain ⟨oj,gj,cj,dj⟩:=id g
 obtain ⟨ot,got,_,nt,dt⟩:=gt
 unfold Builtin.SmallTypes.nextOf
 refine wpAny_bind (wpAny_callSpecial?_slot (name:=Str.ofString "__next__") g.typeIs F.slot_tuple_iterator_next (wpAny_call_entry F.slot_tuple_iterator_next g.typeIs F.entry_tuple_iterator_next ?_ (F.args_tuple_iterator_next_1 _)))
 show wpAny _ _ (field (.ref j) 0 >>= _) _ _ s
 refine wpAny_bind (wpAny_field gj dj (x:=.ref t) rfl ?_)
 show wpAny _ _ (ite ((Value.ref t == Value.none)=true) _ _) _ _ s
 rw [if_neg (show (Value.ref t == Value.none)≠true from Bool.false_ne_true)]
 show wpAny _ _ (field (.ref j) 1 >>= _) _ _ s
 refine wpAny_bind (wpAny_field gj dj (x:=.int k 0) rfl ?_)
 show wpAny _ _ (seqItems? (.ref t) >>= _) _ _ s
 refine wpAny_bind (wpAny_seqItems got dt ?_)
 simp only [Int.toNat_natCast,gv]
 refine wpAny_bind (wpAny_setField gj dj (by simp) (wpAny_pure ⟨v,rfl,wpAny_pure (gR _ ?_ (Heap.SameBut.update ..))⟩))
 refine ⟨_,Heap.get?_update_self _ gj (Obj.isFreed_of_fields (Obj.data_mapFields dj _)),(Obj.cls_mapFields ..).trans cj,?_⟩
 rw [Obj.data_mapFields dj]; simp [rawInt]
theorem zn_tuple_none {j t:Addr} {k:Nat} {xs:Array Value} {R:Value→Shared→Prop} (gh:A.handled=none) (g:s.heap.IsTupleIter j t k) (gt:s.heap.IsTuple t xs) (gv:xs[k]?=none)
  (gE:∀h' e,Heap.ExtBut j s.heap h'→(∃o,h'.get? e=some o∧o.cls=.type "StopIteration")→E (.ref e) { s with heap:=h' }):wpAny (model prog w) A (Builtin.SmallTypes.nextOf (.ref j)) R E s:=by
 obtain ⟨oj,gj,cj,dj⟩:=id g
 obtain ⟨ot,got,_,nt,dt⟩:=gt
 unfold Builtin.SmallTypes.nextOf
 refine wpAny_bind (wpAny_callSpecial?_slot (name:=Str.ofString "__next__") g.typeIs F.slot_tuple_iterator_next (wpAny_call_entry F.slot_tuple_iterator_next g.typeIs F.entry_tuple_iterator_next ?_ (F.args_tuple_iterator_next_1 _)))
 show wpAny _ _ (field (.ref j) 0 >>= _) _ _ s
 refine wpAny_bind (wpAny_field gj dj (x:=.ref t) rfl ?_)
 show wpAny _ _ (ite ((Value.ref t == Value.none)=true) _ _) _ _ s
 rw [if_neg (show (Value.ref t == Value.none)≠true from Bool.false_ne_true)]
 show wpAny _ _ (field (.ref j) 1 >>= _) _ _ s
 refine wpAny_bind (wpAny_field gj dj (x:=.int k 0) rfl ?_)
 show wpAny _ _ (seqItems? (.ref t) >>= _) _ _ s
 refine wpAny_bind (wpAny_seqItems got dt ?_)
 simp only [Int.toNat_natCast,gv]
 refine wpAny_bind (wpAny_rule (wpAny_bind (wpAny_setField gj dj (by simp) ?_)))
 show wpAny _ _ (newExc (.type "StopIteration") [] >>= _) _ _ _
 refine wpAny_bind ?_
 simp only [newExc,newTuple]
 refine wpAny_bind (wpAny_newObj_type ?_ (by size_fits))
 refine wpAny_bind (m:=firstArgMember _ _) (wpAny_of_eq (a:=Value.none) (by simp only [firstArgMember]; rfl) ?_)
 refine wpAny_newObj_type ?_ (by size_fits)
 simp only [raiseNew]
 refine wpAny_bind (wpAny_handled ?_)
 rw [show A.in1.handled=none from gh]
 refine wpAny_bind (wpAny_pure (wpAny_throw ?_))
 exact gE _ _ (((Heap.SameBut.update ..).extBut.push _).push _) ⟨_,Heap.get?_push_size _ rfl,rfl⟩
end
def ZIt (tp:Bool) (it l:Addr) (i:Nat) (h:Heap):Prop:=if tp=true then h.IsTupleIter it l i else h.IsListIter it l i
def ZSrc (tp:Bool) (l:Addr) (xs:Array Value) (h:Heap):Prop:=if tp=true then h.IsTuple l xs else h.IsList l xs
theorem ZIt.get {tp:Bool} {it l:Addr} {i:Nat} {h:Heap} (x:ZIt tp it l i h):∃o,h.get? it=some o∧∀v,o.data≠.cell v:=by
 unfold ZIt at x
 split at x
 ·obtain ⟨o,e,c,d⟩:=x
  exact ⟨o,e,fun v z=>by rw [d] at z; cases z⟩
 ·obtain ⟨o,e,c,d⟩:=x
  exact ⟨o,e,fun v z=>by rw [d] at z; cases z⟩
theorem ZIt.at {tp:Bool} {it l:Addr} {i:Nat} {h h':Heap} (x:ZIt tp it l i h) (k:∀o,h.get? it=some o→h'.get? it=some o):ZIt tp it l i h':=by
 unfold ZIt at x ⊢
 split at x
 ·rename_i c; rw [if_pos c]; obtain ⟨o,e,r⟩:=x; exact ⟨o,k o e,r⟩
 ·rename_i c; rw [if_neg c]; obtain ⟨o,e,r⟩:=x; exact ⟨o,k o e,r⟩
theorem ZSrc.at {tp:Bool} {l:Addr} {xs:Array Value} {h h':Heap} (x:ZSrc tp l xs h) (k:∀o,h.get? l=some o→h'.get? l=some o):ZSrc tp l xs h':=by
 unfold ZSrc at x ⊢
 split at x
 ·rename_i c; rw [if_pos c]; obtain ⟨o,e,r⟩:=x; exact ⟨o,k o e,r⟩
 ·rename_i c; rw [if_neg c]; obtain ⟨o,e,r⟩:=x; exact ⟨o,k o e,r⟩
section
variable {prog:Program} {w:World} {A:Around} {E:Value→Shared→Prop} {s:Shared}
theorem zn_some {tp:Bool} {j t:Addr} {k:Nat} {xs:Array Value} {v:Value} {R:Value→Shared→Prop} (g:ZIt tp j t k s.heap) (gt:ZSrc tp t xs s.heap) (gv:xs[k]?=some v)
  (gR:∀h',ZIt tp j t (k+1) h'→Heap.SameBut j s.heap h'→R v { s with heap:=h' }):wpAny (model prog w) A (Builtin.SmallTypes.nextOf (.ref j)) R E s:=by
 cases tp with
 | true=>exact zn_tuple_some g gt gv gR
 | false=>exact wpAny_nextOf_list_item g gt gv gR
theorem zn_none {tp:Bool} {j t:Addr} {k:Nat} {xs:Array Value} {R:Value→Shared→Prop} (gh:A.handled=none) (g:ZIt tp j t k s.heap) (gt:ZSrc tp t xs s.heap) (gv:xs[k]?=none)
  (gE:∀h' e,Heap.ExtBut j s.heap h'→(∃o,h'.get? e=some o∧o.cls=.type "StopIteration")→E (.ref e) { s with heap:=h' }):wpAny (model prog w) A (Builtin.SmallTypes.nextOf (.ref j)) R E s:=by
 cases tp with
 | true=>exact zn_tuple_none gh g gt gv gE
 | false=>exact wpAny_nextOf_list_end gh g gt gv gE
structure ZAp (z ti to j1 j2 t1 t2:Addr):Prop where
 a1:ti≠z
 a2:to≠z
 a3:j1≠z
 a4:j2≠z
 a5:ti≠to
 a6:ti≠j1
 a7:ti≠j2
 a8:to≠j1
 a9:to≠j2
 b1:j1≠j2
 b2:t1≠z
 b3:t1≠to
 b4:t1≠j1
 b5:t1≠j2
 b6:t2≠z
 b7:t2≠to
 b8:t2≠j1
 b9:t2≠j2
theorem z_next {tp tq:Bool} {z ti to j1 j2 t1 t2:Addr} {k1 k2:Nat} {xs ys:Array Value} {x y p q:Value} {R:Value→Shared→Prop} (D:ZAp z ti to j1 j2 t1 t2)
  (gz:IsZip s.heap z ti to .none) (gi:IsPair s.heap ti (.ref j1) (.ref j2)) (go:IsPair s.heap to p q)
  (g1:ZIt tp j1 t1 k1 s.heap) (g2:ZIt tq j2 t2 k2 s.heap) (l1:ZSrc tp t1 xs s.heap) (l2:ZSrc tq t2 ys s.heap) (ex:xs[k1]?=some x) (ey:ys[k2]?=some y)
  (gR:∀h',IsZip h' z ti to (rawInt s.heap.objs.size)→IsPair h' to x y→ZIt tp j1 t1 (k1+1) h'→ZIt tq j2 t2 (k2+1) h'→IsPair h' s.heap.objs.size x y→
   (∀c o,c≠z→c≠to→c≠j1→c≠j2→s.heap.get? c=some o→h'.get? c=some o)→R (.ref s.heap.objs.size) { s with heap:=h' }) :
  wpAny (model prog w) A (Builtin.«zip.__next__» ⟨[.ref z],[]⟩) (fun fin s'=>∃v,fin=.done (.ret v)∧R v s') E s:=by
 show wpAny _ _ (field (.ref z) 2 >>= _) _ _ _
 refine wpAny_bind (wpAny_field gz rfl (x:=.bool false) rfl ?_)
 show wpAny _ _ (field (.ref z) 3 >>= _) _ _ _
 refine wpAny_bind (wpAny_field gz rfl (x:=.ref ti) rfl ?_)
 refine wpAny_bind (wpAny_seqItems gi rfl ?_)
 show wpAny _ _ (Builtin.SmallTypes.ownedTupleIsFree (.ref z) >>= _) _ _ _
 refine wpAny_bind ?_
 unfold Builtin.SmallTypes.ownedTupleIsFree
 refine wpAny_bind (wpAny_field gz rfl (x:=.none) rfl (wpAny_pure ?_))
 simp only [if_true]
 refine wpAny_bind (wpAny_rule ?_)
 refine wpAny_bind (wpAny_field gz rfl (x:=.ref to) rfl ?_)
 refine wpAny_bind (wpAny_setField_rec gz (by simp) fun H1 gz1 e1=>?_)
 replace gz1:IsZip H1 z ti to .ellipsis:=gz1
 refine wpAny_bind ?_
 simp only [List.zipIdx_cons,List.zipIdx_nil,List.forIn_cons,List.forIn_nil]
 refine wpAny_bind (wpAny_bind (wpAny_onRaise ?_))
 show wpAny _ _ (Builtin.SmallTypes.nextOf (.ref j1) >>= _) _ _ _
 refine wpAny_bind (zn_some (g1.at fun o e=>e1.extBut _ _ D.a3 e) (l1.at fun o e=>e1.extBut _ _ D.b2 e) ex fun H2 n1 e2=>wpAny_pure ?_)
 have go2:IsPair H2 to p q:=e2.extBut _ _ D.a8 (e1.extBut _ _ D.a2 go)
 refine wpAny_bind (wpAny_seqItems go2 rfl ?_)
 refine wpAny_bind (wpAny_updateSeq_pair go2 fun H3 go3 e3=>?_)
 replace go3:IsPair H3 to x q:=go3
 refine wpAny_bind (wpAny_letGo (wpAny_pure ?_))
 refine wpAny_bind (wpAny_bind (wpAny_onRaise ?_))
 show wpAny _ _ (Builtin.SmallTypes.nextOf (.ref j2) >>= _) _ _ _
 refine wpAny_bind (zn_some (g2.at fun o e=>e3.extBut _ _ D.a9.symm (e2.extBut _ _ D.b1.symm (e1.extBut _ _ D.a4 e))) (l2.at fun o e=>e3.extBut _ _ D.b7 (e2.extBut _ _ D.b8 (e1.extBut _ _ D.b6 e))) ey fun H4 n2 e4=>wpAny_pure ?_)
 have go4:IsPair H4 to x q:=e4.extBut _ _ D.a9 go3
 refine wpAny_bind (wpAny_seqItems go4 rfl ?_)
 refine wpAny_bind (wpAny_updateSeq_pair go4 fun H5 go5 e5=>?_)
 replace go5:IsPair H5 to x y:=go5
 refine wpAny_bind (wpAny_letGo (wpAny_pure (wpAny_pure ?_)))
 refine wpAny_bind (wpAny_seqItems go5 rfl ?_)
 refine wpAny_bind (wpAny_newTuple ?_)
 have sz5:H5.objs.size=s.heap.objs.size:=by rw [e5.1,e4.1,e3.1,e2.1,e1.1]
 have gz5:IsZip H5 z ti to .ellipsis:=e5.extBut _ _ D.a2.symm (e4.extBut _ _ D.a4.symm (e3.extBut _ _ D.a2.symm (e2.extBut _ _ D.a3.symm gz1)))
 have kk5:∀c o,c≠z→c≠to→c≠j1→c≠j2→s.heap.get? c=some o→H5.get? c=some o:=fun c o c1 c2 c3 c4 e=>
  e5.extBut _ _ c2 (e4.extBut _ _ c4 (e3.extBut _ _ c2 (e2.extBut _ _ c3 (e1.extBut _ _ c1 e))))
 have n15:ZIt tp j1 t1 (k1+1) H5:=n1.at fun o e=>e5.extBut _ _ D.a8.symm (e4.extBut _ _ D.b1 (e3.extBut _ _ D.a8.symm e))
 have n25:ZIt tq j2 t2 (k2+1) H5:=n2.at fun o e=>e5.extBut _ _ D.a9.symm e
 have lz:z<H5.objs.size:=Heap.lt_size gz5
 show wpAny _ _ (Builtin.SmallTypes.ownedTupleHandOut (.ref z) (.ref H5.objs.size) >>= _) _ _ _
 refine wpAny_bind ?_
 unfold Builtin.SmallTypes.ownedTupleHandOut
 have gz6:IsZip (H5.push { cls:=.type "tuple",data:=.seq #[x,y] }) z ti to .ellipsis:=Heap.get?_push_of_some _ gz5
 refine wpAny_bind (wpAny_setField_rec gz6 (by simp) fun H7 gz7 e7=>?_)
 replace gz7:IsZip H7 z ti to (rawInt H5.objs.size):=gz7
 refine wpAny_setField_rec gz7 (by simp) fun H8 gz8 e8=>?_
 replace gz8:IsZip H8 z ti to (rawInt H5.objs.size):=gz8
 have up:∀c o,c≠z→H5.get? c=some o→H8.get? c=some o:=fun c o c1 e=>e8.extBut _ _ c1 (e7.extBut _ _ c1 (Heap.get?_push_of_some _ e))
 have gT8:IsPair H8 H5.objs.size x y:=e8.extBut _ _ (Nat.ne_of_gt lz) (e7.extBut _ _ (Nat.ne_of_gt lz) (Heap.get?_push_size _ rfl))
 rw [sz5] at gz8 gT8
 refine wpAny_pure ⟨_,rfl,?_⟩
 show R (.ref H5.objs.size) _
 rw [sz5]
 exact gR H8 gz8 (up _ _ D.a2 go5) (n15.at fun o e=>up _ o D.a3 e) (n25.at fun o e=>up _ o D.a4 e) gT8 fun c o c1 c2 c3 c4 e=>up c o c1 (kk5 c o c1 c2 c3 c4 e)
theorem z_last {tp tq:Bool} {z ti to j1 j2 t1 t2:Addr} {k1 k2:Nat} {xs ys:Array Value} {p q:Value} {R:Fin→Shared→Prop} (gh:A.handled=none) (D:ZAp z ti to j1 j2 t1 t2)
  (gz:IsZip s.heap z ti to .none) (gi:IsPair s.heap ti (.ref j1) (.ref j2)) (go:IsPair s.heap to p q)
  (g1:ZIt tp j1 t1 k1 s.heap) (g2:ZIt tq j2 t2 k2 s.heap) (l1:ZSrc tp t1 xs s.heap) (l2:ZSrc tq t2 ys s.heap) (hend:xs[k1]?=none∨ys[k2]?=none)
  (gE:∀h' e,(∀c o,c≠z→c≠to→c≠j1→c≠j2→s.heap.get? c=some o→h'.get? c=some o)→(∃o,h'.get? e=some o∧o.cls=.type "StopIteration")→E (.ref e) { s with heap:=h' }) :
  wpAny (model prog w) A (Builtin.«zip.__next__» ⟨[.ref z],[]⟩) R E s:=by
 show wpAny _ _ (field (.ref z) 2 >>= _) _ _ _
 refine wpAny_bind (wpAny_field gz rfl (x:=.bool false) rfl ?_)
 show wpAny _ _ (field (.ref z) 3 >>= _) _ _ _
 refine wpAny_bind (wpAny_field gz rfl (x:=.ref ti) rfl ?_)
 refine wpAny_bind (wpAny_seqItems gi rfl ?_)
 show wpAny _ _ (Builtin.SmallTypes.ownedTupleIsFree (.ref z) >>= _) _ _ _
 refine wpAny_bind ?_
 unfold Builtin.SmallTypes.ownedTupleIsFree
 refine wpAny_bind (wpAny_field gz rfl (x:=.none) rfl (wpAny_pure ?_))
 simp only [if_true]
 refine wpAny_bind (wpAny_rule ?_)
 refine wpAny_bind (wpAny_field gz rfl (x:=.ref to) rfl ?_)
 refine wpAny_bind (wpAny_setField_rec gz (by simp) fun H1 gz1 e1=>?_)
 replace gz1:IsZip H1 z ti to .ellipsis:=gz1
 refine wpAny_bind ?_
 simp only [List.zipIdx_cons,List.zipIdx_nil,List.forIn_cons,List.forIn_nil]
 refine wpAny_bind (wpAny_bind (wpAny_onRaise ?_))
 show wpAny _ _ (Builtin.SmallTypes.nextOf (.ref j1) >>= _) _ _ _
 cases ex:xs[k1]? with
 | none=>
  refine wpAny_bind (zn_none gh (g1.at fun o e=>e1.extBut _ _ D.a3 e) (l1.at fun o e=>e1.extBut _ _ D.b2 e) ex fun H2 e e2 ge=>?_)
  obtain ⟨oe,goe,gce⟩:=ge
  have gz2:IsZip H2 z ti to .ellipsis:=e2 _ _ D.a3.symm gz1
  have ne:e≠z:=fun x=>by subst x; rw [gz2] at goe; cases goe; simp at gce
  refine wpAny_setField_rec gz2 (by simp) fun H3 _ e3=>gE H3 e (fun c o c1 _ c3 _ x=>e3.extBut _ _ c1 (e2 _ _ c3 (e1.extBut _ _ c1 x))) ⟨oe,e3.extBut _ _ ne goe,gce⟩
 | some x=>
  have ey:ys[k2]?=none:=by
   rcases hend with h | h
   ·rw [ex] at h; cases h
   ·exact h
  refine wpAny_bind (zn_some (g1.at fun o e=>e1.extBut _ _ D.a3 e) (l1.at fun o e=>e1.extBut _ _ D.b2 e) ex fun H2 n1 e2=>wpAny_pure ?_)
  have go2:IsPair H2 to p q:=e2.extBut _ _ D.a8 (e1.extBut _ _ D.a2 go)
  refine wpAny_bind (wpAny_seqItems go2 rfl ?_)
  refine wpAny_bind (wpAny_updateSeq_pair go2 fun H3 go3 e3=>?_)
  refine wpAny_bind (wpAny_letGo (wpAny_pure ?_))
  refine wpAny_bind (wpAny_bind (wpAny_onRaise ?_))
  show wpAny _ _ (Builtin.SmallTypes.nextOf (.ref j2) >>= _) _ _ _
  refine wpAny_bind (zn_none gh (g2.at fun o e=>e3.extBut _ _ D.a9.symm (e2.extBut _ _ D.b1.symm (e1.extBut _ _ D.a4 e))) (l2.at fun o e=>e3.extBut _ _ D.b7 (e2.extBut _ _ D.b8 (e1.extBut _ _ D.b6 e))) ey fun H4 e e4 ge=>?_)
  obtain ⟨oe,goe,gce⟩:=ge
  have gz4:IsZip H4 z ti to .ellipsis:=e4 _ _ D.a4.symm (e3.extBut _ _ D.a2.symm (e2.extBut _ _ D.a3.symm gz1))
  have ne:e≠z:=fun x=>by subst x; rw [gz4] at goe; cases goe; simp at gce
  refine wpAny_setField_rec gz4 (by simp) fun H5 _ e5=>gE H5 e (fun c o c1 c2 c3 c4 x=>e5.extBut _ _ c1 (e4 _ _ c4 (e3.extBut _ _ c2 (e2.extBut _ _ c3 (e1.extBut _ _ c1 x))))) ⟨oe,e5.extBut _ _ ne goe,gce⟩
end
end L2
namespace L2
open PySem PySem.Spec PyProof.Rows
section
variable {X:Cx} {pins:List (Addr×Obj)} {σ:St} {H:Hp} {s:Shared} {h':Heap}
theorem Inv.turneds {t':Nat} {ch:List Addr} (I:Inv X pins σ H s) (k:∀b o,b∉ch→s.heap.get? b=some o→h'.get? b=some o) (hf:∀b∈ch,FpOk X pins H b):Inv X pins σ H { s with heap:=h',toks:=t' }:=by
 have nit:∀b u,H b=some u→b∉ch:=fun b u e z=>by have q:=(hf b z).1; rw [q] at e; cases e
 refine I.step (g':=s.gens) (d':=s.drawn) (ch:=ch) (fun b hb=>?_) (fun b o _ _ hc e _=>k b o hc e) (fun b o _ _ hc e _=>⟨o.slots,k b o hc e⟩) (fun _ _ _ _ n=>n)
  (fun b o hc e=>⟨o,k b o hc e⟩) (fun _ _ e=>e) (fun _ _ _ e=>e) (fun b ps e=>⟨#[],by rw [e]; simp⟩) (fun m hm=>?_) (fun b u e=>?_) I.bare
 ·exact ⟨(hf b hb).2.2.2.1,(hf b hb).2.1,(hf b hb).2.2.2.2.1,(hf b hb).2.2.2.2.2⟩
 ·obtain ⟨o,es,ep,ho,r⟩:=hm
  exact ⟨o,es,ep,k _ o (fun z=>(hf _ z).2.1 rfl) ho,r⟩
 ·refine (I.hok b u e).stay (fun c v hc q=>k c v ?_ q) (fun _ q=>q) fun _ _ q=>q
  rcases hc with z | z
  ·rw [z]; exact nit b u e
  ·exact nit c _ z
theorem Inv.trackO {D:Addr} {ob:HO} (I:Inv X pins σ H s) (hf:FpOk X pins H D) (h1:X.s₀.heap.objs.size≤D) (new:q3a X.prog X.w (upd H D ob) s.heap D ob):Inv X pins σ (upd H D ob) s:=by
 obtain ⟨hn,hL,_,_,h2,h3⟩:=hf
 have ne:∀b u,H b=some u→b≠D:=fun b u e z=>by rw [z,hn] at e; cases e
 have ne0:∀b o,X.s₀.heap.get? b=some o→b≠D:=fun b o e=>Nat.ne_of_lt (Nat.lt_of_lt_of_le (Heap.lt_size e) h1)
 refine ⟨I.ok,I.os,I.bare,⟨I.base.keep,I.base.slot,fun b o e n' hx=>?_,I.base.there,fun b xs e=>?_,fun b o u e=>?_,fun b ps e=>?_⟩,I.loc,I.cell,?_,fun x c e=>?_,fun p hp=>?_,fun b u e=>?_,I.len⟩
 ·rw [q0w (ne0 b o e)]; exact I.base.free b o e n' hx
 ·have q:=I.base.tups b xs e
  rw [q0w (ne _ _ q)]; exact q
 ·have q:=I.base.frzs b o u e
  rw [q0w (ne _ _ q)]; exact q
 ·obtain ⟨more,q⟩:=I.base.tbls b ps e
  exact ⟨more,by rw [q0w (ne _ _ q)]; exact q⟩
 ·rw [q0w (Ne.symm hL)]; exact I.free
 ·rw [q0w (h2 x c e)]; exact I.freeC x c e
 ·obtain ⟨a1,a2,a3⟩:=I.pin p hp
  exact ⟨a1,by rw [q0w (h3 p hp)]; exact a2,a3⟩
 ·by_cases hb:b=D
  ·subst hb
   rw [q1w] at e
   cases e
   exact new
  ·rw [q0w hb] at e
   refine (I.hok b u e).stay (fun c v hc q=>q) (fun c q=>?_) fun c xs q=>?_
   ·rw [q0w (ne _ _ q)]; exact q
   ·rw [q0w (ne _ _ q)]; exact q
end
def Sq (tp:Bool) (K:PySem.W.Frag) (H:Hp) (a:Addr) (xs:List V):Prop:=if tp=true then SqT K H a xs else SqL K H a xs
theorem Inv.sq {X:Cx} {pins:List (Addr×Obj)} {σ:St} {H:Hp} {s:Shared} {tp:Bool} {a:Addr} {xs:List V} (I:Inv X pins σ H s) (h:Sq tp X.K H a xs):∃its:List Value,Vals xs its∧ZSrc tp a its.toArray s.heap∧xs.length≤sizeLine:=by
 cases tp with
 | true=>
  obtain ⟨its,r,t,z⟩:=I.tuple h
  exact ⟨its,r,t,z⟩
 | false=>
  obtain ⟨its,r,t,z⟩:=I.list h
  exact ⟨its,r,t.isList,z⟩
theorem Inv.sq_inj {X:Cx} {pins:List (Addr×Obj)} {σ:St} {H:Hp} {s:Shared} {tp:Bool} {a:Addr} {xs ys:List V} (I:Inv X pins σ H s) (h:Sq tp X.K H a xs) (h':Sq tp X.K H a ys):xs=ys:=by
 cases tp with
 | true=>exact I.tuple_inj h h'
 | false=>exact I.list_inj h h'
theorem Inv.sq_fp {X:Cx} {pins:List (Addr×Obj)} {σ:St} {H:Hp} {s:Shared} {tp:Bool} {a b:Addr} {xs:List V} (I:Inv X pins σ H s) (h:Sq tp X.K H a xs) (hf:FpOk X pins H b):a≠b:=by
 rintro rfl
 have look:∀o,X.K.lookup a=some o→False:=fun o e=>by
  have e':=I.ok.mod.kin a o e
  rcases hf.2.2.2.1 with z | z
  ·exact I.ok.noex a o e' z
  ·exact absurd (Nat.lt_of_lt_of_le (Heap.lt_size (I.ok.bs a o e').1) z) (Nat.lt_irrefl _)
 have rd:∀u,Rd H a u→False:=fun u e=>by
  rcases e with e | ⟨o,e⟩<;>rw [hf.1] at e<;>cases e
 cases tp with
 | true=>
  rcases h with e | ⟨o,its,n,e,_⟩
  ·exact rd _ e
  ·exact look o e
 | false=>
  rcases h with e | ⟨o,its,n,e,_⟩
  ·exact rd _ e
  ·exact look o e
def Itz (tp tq:Bool) (K:PySem.W.Frag) (a b:Addr):It:=
  ⟨fun i H=>∃xs ys x y,Sq tp K H a xs∧Sq tq K H b ys∧xs[i]?=some x∧ys[i]?=some y,
   fun i H v H'=>∃p x y,v=.ref p∧H p=none∧H'=upd H p (.tup [x,y])∧(∀xs,Sq tp K H a xs→xs[i]?=some x)∧(∀ys,Sq tq K H b ys→ys[i]?=some y),
   fun i H=>∃xs ys,Sq tp K H a xs∧Sq tq K H b ys∧(xs.length≤i∨ys.length≤i)⟩
structure ZAt (tp tq:Bool) (z ti to j1 j2 a b:Addr) (i:Nat) (h:Heap):Prop where
 gz:IsZip h z ti to .none
 gi:IsPair h ti (.ref j1) (.ref j2)
 go:∃p q,IsPair h to p q
 g1:ZIt tp j1 a i h
 g2:ZIt tq j2 b i h
theorem turn_zip {P:Program} {w:World} {K:PySem.W.Frag} {es:List Expr} {k:Nat} {ps:Pos} {tp tq:Bool} (a b z ti to j1 j2:Addr) (n1:ti≠z) (n2:to≠z) (n3:j1≠z) (n4:j2≠z) (n5:ti≠to) (n6:ti≠j1) (n7:ti≠j2) (n8:to≠j1) (n9:to≠j2) (n0:j1≠j2) :
  Turn P w K (.Tuple es k ps) (Itz tp tq K a b) [z,ti,to,j1,j2] z (ZAt tp tq z ti to j1 j2 a b) where
 mem:=by simp
 obj:=fun i h st c hc=>by
  obtain ⟨gz,gi,⟨p,q,go⟩,g1,g2⟩:=st
  simp only [List.mem_cons,List.not_mem_nil,or_false] at hc
  rcases hc with rfl | rfl | rfl | rfl | rfl
  ·exact ⟨_,gz,fun v e=>by cases e⟩
  ·exact ⟨_,gi,fun v e=>by cases e⟩
  ·exact ⟨_,go,fun v e=>by cases e⟩
  ·exact g1.get
  ·exact g2.get
 keep:=fun i h h' st kk=>by
  obtain ⟨gz,gi,⟨p,q,go⟩,g1,g2⟩:=st
  exact ⟨kk z (by simp) _ gz,kk ti (by simp) _ gi,⟨p,q,kk to (by simp) _ go⟩,g1.at fun o e=>kk j1 (by simp) o e,g2.at fun o e=>kk j2 (by simp) o e⟩
 item:=by
  intro X hP hw hK hc i pins s σ H E I hf st hg
  subst hP hw hK
  obtain ⟨gz,gi,⟨p,q,go⟩,g1,g2⟩:=st
  obtain ⟨xs,ys,x,y,sx,sy,ex,ey⟩:=hg
  obtain ⟨is,rx,lx,zx⟩:=I.sq sx
  obtain ⟨js,ry,ly,zy⟩:=I.sq sy
  obtain ⟨u,eu,ru⟩:=rx.get ex
  obtain ⟨v,ev,rv⟩:=ry.get ey
  have D:ZAp z ti to j1 j2 a b:=⟨n1,n2,n3,n4,n5,n6,n7,n8,n9,n0,I.sq_fp sx (hf z (by simp)),I.sq_fp sx (hf to (by simp)),I.sq_fp sx (hf j1 (by simp)),I.sq_fp sx (hf j2 (by simp)),I.sq_fp sy (hf z (by simp)),I.sq_fp sy (hf to (by simp)),I.sq_fp sy (hf j1 (by simp)),I.sq_fp sy (hf j2 (by simp))⟩
  have hT:s.TypeIs (.ref z) "zip" :=⟨_,gz,rfl⟩
  unfold pyNext
  refine wpAny_bind (wpAny_attempt (wpAny_callSpecial?_slot (name:=Str.ofString "__next__") hT F.slot_zip_next (wpAny_call_entry F.slot_zip_next hT F.entry_zip_next
   (z_next (x:=u) (y:=v) D gz gi go g1 g2 lx ly (by simpa using eu) (by simpa using ev) fun h1 b1 b2 b3 b4 b5 b6=>wpAny_pure ⟨_,rfl,?_⟩) (F.args_zip_next_1 _))))
  refine wpAny_letOwnedTupleGo_zip b1 fun h2 c1 c2=>?_
  have hsz:s.heap.objs.size≠z:=Nat.ne_of_gt (Heap.lt_size gz)
  have up:∀c o,c∉[z,ti,to,j1,j2]→s.heap.get? c=some o→h2.get? c=some o:=fun c o hc' e=>by
   simp only [List.mem_cons,List.not_mem_nil,or_false,not_or] at hc'
   exact c2.extBut _ _ hc'.1 (b6 c o hc'.1 hc'.2.2.1 hc'.2.2.2.1 hc'.2.2.2.2 e)
  have I1:Inv X pins σ H { s with heap:=h2 }:=I.turneds (t':=s.toks) (ch:=[z,ti,to,j1,j2]) up hf
  have f1:FpOk X pins H s.heap.objs.size:=I.fpOk (Nat.le_refl _) I.fresh
  have gT:IsPair h2 s.heap.objs.size u v:=c2.extBut _ _ hsz b5
  have I2:Inv X pins σ (upd H s.heap.objs.size (.tup [x,y])) { s with heap:=h2 }:=I1.trackO f1 I.sz ⟨by show 2≤sizeLine; decide,[u,v],.cons ru (.cons rv .nil),⟨_,gT,rfl,_,rfl⟩⟩
  have lt:∀c∈[z,ti,to,j1,j2],c≠s.heap.objs.size:=fun c hc'=>by
   simp only [List.mem_cons,List.not_mem_nil,or_false] at hc'
   rcases hc' with rfl | rfl | rfl | rfl | rfl
   ·exact Nat.ne_of_lt (Heap.lt_size gz)
   ·exact Nat.ne_of_lt (Heap.lt_size gi)
   ·exact Nat.ne_of_lt (Heap.lt_size go)
   ·obtain ⟨o,e,_⟩:=g1.get; exact Nat.ne_of_lt (Heap.lt_size e)
   ·obtain ⟨o,e,_⟩:=g2.get; exact Nat.ne_of_lt (Heap.lt_size e)
  refine ⟨.ref s.heap.objs.size,_,I2,rfl,⟨_,x,y,rfl,I.fresh,rfl,fun zs hz=>by rw [I.sq_inj hz sx]; exact ex,fun zs hz=>by rw [I.sq_inj hz sy]; exact ey⟩,⟨c1,c2.extBut _ _ n1 (b6 _ _ n1 n5 n6 n7 gi),⟨_,_,c2.extBut _ _ n2 b2⟩,b3.at fun o e=>c2.extBut _ _ n3 e,b4.at fun o e=>c2.extBut _ _ n4 e⟩,fun c hc'=>?_⟩
  rw [q0w (lt c hc')]
  exact (hf c hc').1
 done:=by
  intro X hP hw hK hc i pins s σ H E I hf st hg
  subst hP hw hK
  obtain ⟨gz,gi,⟨p,q,go⟩,g1,g2⟩:=st
  obtain ⟨xs,ys,sx,sy,he⟩:=hg
  obtain ⟨is,rx,lx,zx⟩:=I.sq sx
  obtain ⟨js,ry,ly,zy⟩:=I.sq sy
  have D:ZAp z ti to j1 j2 a b:=⟨n1,n2,n3,n4,n5,n6,n7,n8,n9,n0,I.sq_fp sx (hf z (by simp)),I.sq_fp sx (hf to (by simp)),I.sq_fp sx (hf j1 (by simp)),I.sq_fp sx (hf j2 (by simp)),I.sq_fp sy (hf z (by simp)),I.sq_fp sy (hf to (by simp)),I.sq_fp sy (hf j1 (by simp)),I.sq_fp sy (hf j2 (by simp))⟩
  have hT:s.TypeIs (.ref z) "zip" :=⟨_,gz,rfl⟩
  have l1:=rx.length
  have l2:=ry.length
  unfold pyNext
  refine wpAny_bind (wpAny_attempt (wpAny_callSpecial?_slot (name:=Str.ofString "__next__") hT F.slot_zip_next (wpAny_call_entry F.slot_zip_next hT F.entry_zip_next
   (z_last (I.ok.hd hc) D gz gi go g1 g2 lx ly (by rcases he with z | z; exact .inl (by simp; omega); exact .inr (by simp; omega)) fun h1 e kk ge=>?_) (F.args_zip_next_1 _))))
  obtain ⟨oe,goe,gce⟩:=ge
  refine wpAny_bind (wpAny_isInstance (T:= "StopIteration") (b:=true) ⟨oe,goe,gce⟩ isSubtype_stop ?_)
  refine wpAny_pure ⟨rfl,I.turneds (t':=s.toks) (ch:=[z,ti,to,j1,j2]) (fun c o hc' e=>?_) hf⟩
  simp only [List.mem_cons,List.not_mem_nil,or_false,not_or] at hc'
  exact kk c o hc'.1 hc'.2.2.1 hc'.2.2.2.1 hc'.2.2.2.2 e
 self:=fun _ _ _ _ _ st h=>wpAny_pyIter_zip st.gz h
end L2
namespace L2
open PySem PySem.Spec PyProof.Rows
abbrev zItObj (tp:Bool) (a:Addr):Obj:={ cls:=.type (if tp=true then "tuple_iterator" else "list_iterator"),data:=.fields #[.ref a,.int 0 0] }
theorem z_iter {prog:Program} {w:World} {A:Around} {E:Value→Shared→Prop} {s:Shared} {tp:Bool} {a:Addr} {xs:Array Value} {R:Value→Shared→Prop} (g:ZSrc tp a xs s.heap)
  (h:R (.ref s.heap.objs.size) { s with heap:=s.heap.push (zItObj tp a) }):wpAny (model prog w) A (pyIter (.ref a)) R E s:=by
 cases tp with
 | true=>exact wpAny_pyIter_tuple g h
 | false=>exact wpAny_pyIter_list g h
theorem ZIt.new {tp:Bool} {a:Addr} {h:Heap} {it:Addr} (g:h.get? it=some (zItObj tp a)):ZIt tp it a 0 h:=by
 cases tp with
 | true=>exact ⟨_,g,rfl,rfl⟩
 | false=>exact ⟨_,g,rfl,rfl⟩
abbrev zz1 (h:Heap) (tp:Bool) (a:Addr):Heap:=h.push (zItObj tp a)
abbrev zz2 (h:Heap) (tp tq:Bool) (a b:Addr):Heap:=(zz1 h tp a).push (zItObj tq b)
abbrev zz3 (h:Heap) (tp tq:Bool) (a b:Addr):Heap:=(zz2 h tp tq a b).push { cls:=.type "tuple",data:=.seq #[.ref h.objs.size,.ref (zz1 h tp a).objs.size] }
abbrev zz4 (h:Heap) (tp tq:Bool) (a b:Addr):Heap:=(zz3 h tp tq a b).push { cls:=.type "tuple",data:=.seq #[.none,.none] }
abbrev zz5 (h:Heap) (tp tq:Bool) (a b:Addr):Heap:=(zz4 h tp tq a b).push { cls:=.type "zip",data:=.fields #[.none,.bool false,.bool false,.ref (zz2 h tp tq a b).objs.size,.ref (zz3 h tp tq a b).objs.size] }
theorem z_new (tp tq:Bool) (a b:Addr) (xs ys:Array Value) :
  Meets (Builtin.«zip.__new__» ⟨[.type "zip",.ref a,.ref b],[]⟩) (fun _ R s=>ZSrc tp a xs s.heap∧ZSrc tq b ys s.heap∧R (.ok (.ret (.ref (zz4 s.heap tp tq a b).objs.size))) { s with heap:=zz5 s.heap tp tq a b }):=
 .of_wp fun prog w A R s h=>by
  obtain ⟨hp,g,d,tk,os⟩:=s; obtain ⟨s1,s2,h⟩:=h
  have hsub:=sub_zip
  have S1:ZSrc tp a xs (Shared.heap ⟨hp,g,d,tk,os⟩):=s1
  have S2:ZSrc tq b ys (Shared.heap ⟨hp.push (zItObj tp a),g,d,tk,os⟩):=ZSrc.at s2 fun o e=>Heap.get?_push_of_some _ e
  wp_walk using z_iter S1,z_iter S2
  exact ⟨_,rfl,h⟩
theorem call_zz {prog:Program} {w:World} {A:Around} {E:Value→Shared→Prop} {s:Shared} {tp tq:Bool} {a b:Addr} {xs ys:Array Value} {Q:Value→Shared→Prop} (s1:ZSrc tp a xs s.heap) (s2:ZSrc tq b ys s.heap)
  (h:∀h',ZAt tp tq (s.heap.objs.size+4) (s.heap.objs.size+2) (s.heap.objs.size+3) s.heap.objs.size (s.heap.objs.size+1) a b 0 h'→(∀c o,s.heap.get? c=some o→h'.get? c=some o)→Q (.ref (s.heap.objs.size+4)) { s with heap:=h' }) :
  wpAny (model prog w) A (call (.type "zip") [.ref a,.ref b]) Q E s:=by
 refine callType_new F.called_zip (by decide) (F.typeCall_zip_2 _ _) (F.newCall_zip_2 _ _) (fun obj=>F.args_object_init_3 obj _ _) F.entry_zip_new (z_new tp tq a b xs ys) ⟨s1,s2,?_⟩
 have z1:(zz1 s.heap tp a).objs.size=s.heap.objs.size+1:=Heap.size_push ..
 have z2:(zz2 s.heap tp tq a b).objs.size=s.heap.objs.size+2:=by rw [Heap.size_push,z1]
 have z3:(zz3 s.heap tp tq a b).objs.size=s.heap.objs.size+3:=by rw [Heap.size_push,z2]
 have z4:(zz4 s.heap tp tq a b).objs.size=s.heap.objs.size+4:=by rw [Heap.size_push,z3]
 have g5:(zz5 s.heap tp tq a b).get? (zz4 s.heap tp tq a b).objs.size=some _:=Heap.get?_push_size _ rfl
 have g4:(zz5 s.heap tp tq a b).get? (zz3 s.heap tp tq a b).objs.size=some _:=Heap.get?_push_of_some _ (Heap.get?_push_size _ rfl)
 have g3:(zz5 s.heap tp tq a b).get? (zz2 s.heap tp tq a b).objs.size=some _:=Heap.get?_push_of_some _ (Heap.get?_push_of_some _ (Heap.get?_push_size _ rfl))
 have g2:(zz5 s.heap tp tq a b).get? (zz1 s.heap tp a).objs.size=some _:=Heap.get?_push_of_some _ (Heap.get?_push_of_some _ (Heap.get?_push_of_some _ (Heap.get?_push_size _ rfl)))
 have g1:(zz5 s.heap tp tq a b).get? s.heap.objs.size=some _:=Heap.get?_push_of_some _ (Heap.get?_push_of_some _ (Heap.get?_push_of_some _ (Heap.get?_push_of_some _ (Heap.get?_push_size _ rfl))))
 show _∧_
 rw [z2,z3,z4] at g5
 rw [z1,z2] at g3
 rw [z3] at g4
 rw [z1] at g2
 rw [z4]
 exact ⟨⟨_,g5,rfl⟩,h _ ⟨g5,g3,⟨_,_,g4⟩,ZIt.new g1,ZIt.new g2⟩ fun c o x=>Heap.get?_push_of_some _ (Heap.get?_push_of_some _ (Heap.get?_push_of_some _ (Heap.get?_push_of_some _ (Heap.get?_push_of_some _ x))))⟩
theorem boot_zip:bootBuiltins "zip" = some (.type "zip"):=by kernel_rfl
def iZip (K:PySem.W.Frag) (ta:TA):TI:=fun σ H R=>ta σ H fun vs H1=>∃tp tq a b xs ys,vs=[.ref a,.ref b]∧Sq tp K H1 a xs∧Sq tq K H1 b ys∧R (Itz tp tq K a b) H1
theorem pi_zip {X:Cx} {es:List Expr} {k:Nat} {ps:Pos} {a b:Expr} {ta:TA} {p pos:Pos} (hg:Gl X "zip") (hm:X.mg "zip" = none) (ha:PA X [a,b] ta) (hs:starEach [a,b] X.env=[(false,eval a X.env),(false,eval b X.env)]:=by rfl) (hs2:starEach [b] X.env=[(false,eval b X.env)]:=by rfl) :
  PI X (.Tuple es k ps) (.Call (.Name "zip" p) [a,b] [] pos) (iZip X.K ta):=by
 intro pins s σ H R I h
 refine Call_ (ld_blt I hg hm boot_zip (PyProof.Rows.callWith_type1 (thn (ha pos pins s σ H _ I h) fun us s1 ⟨vs,H1,I1,r1,q1⟩=>?_) (by rw [hs,hs2]) (by rw [hs2]; rfl)))
 obtain ⟨tp,tq,a,b,xs,ys,e,sx,sy,q⟩:=q1
 subst e
 cases r1 with
 | cons r rr=>
  cases rr with
  | cons r' rr=>
   cases rr
   cases r
   cases r'
   obtain ⟨is,rx,lx,zx⟩:=I1.sq sx
   obtain ⟨js,ry,ly,zy⟩:=I1.sq sy
   have d:∀i j:Nat,i≠j→s1.heap.objs.size+i≠s1.heap.objs.size+j:=fun i j q z=>q (Nat.add_left_cancel z)
   refine call_zz lx ly fun h' st kk=>wpAny_pyIter_zip st.gz ?_
   refine ⟨_,[s1.heap.objs.size+4,s1.heap.objs.size+2,s1.heap.objs.size+3,s1.heap.objs.size,s1.heap.objs.size+1],_,_,H1,rfl,I1.kept (t':=s1.toks) kk,
    turn_zip a b _ _ _ _ _ (d 2 4 (by decide)) (d 3 4 (by decide)) (d 0 4 (by decide)) (d 1 4 (by decide)) (d 2 3 (by decide)) (d 2 0 (by decide)) (d 2 1 (by decide)) (d 3 0 (by decide)) (d 3 1 (by decide)) (d 0 1 (by decide)),st,fun c hc=>?_,q⟩
   have hle:s1.heap.objs.size≤c:=by
    simp only [List.mem_cons,List.not_mem_nil,or_false] at hc
    rcases hc with z | z | z | z | z<;>rw [z]<;>first | exact Nat.le_add_right _ _ | exact Nat.le_refl _
   exact I1.fpOk hle (I1.hok.fresh hle)
end L2
namespace L2
open PySem PySem.Spec PyProof.Rows
section
variable {X:Cx}
theorem op_fdivB:OpR X (binaryOp .FloorDiv) (rI (fun _ j=>0<j∧j<2 ^ 100) fun i j=>.int (i / j)):=opI fun i j _ _ s Q E hc q=>by
 refine floordiv_int (by omega) ?_ (.inl (PyProof.noPylong_of_log2 ?_))
 ·rw [Int.fdiv_eq_ediv_of_nonneg _ (by omega)]; exact q
 ·have:j.natAbs<2 ^ 100:=by omega
  have h2:j.natAbs.log2<100:=(Nat.log2_lt (by omega)).mpr this
  omega
theorem call_sum:X.calm=true→q5v X (.builtin "sum") (fun xs H Q=>∃(p:Addr) (ns:List Int),xs=[.ref p]∧SqL X.K H p (ns.map V.int)∧Q (.int ns.sum) H):=by
 intro hc pins s σ H xs us Q I r h
 obtain ⟨p,ns,rfl,hp,q⟩:=h
 obtain ⟨u,rfl,ru⟩:=vals1 r
 cases ru
 obtain ⟨is,r1,p1,_⟩:=I.list hp
 have hi:=intsAre_of r1
 obtain ⟨zs,hz⟩:=hi.allInts.items
 refine sum_intListG (I.ok.hd hc) (by rw [←hz]; exact p1.isList) fun h' tk t' hk=>?_
 refine ⟨.int _,H,I.kept hk,⟨t',rfl⟩,?_⟩
 have e:preSum (numAt zs) zs.size=ns.sum:=by
  rw [preSum_eq,List.take_of_length_le (by simp)]
  have e2:=hi.numsOf
  have e3:is=(intItems zs).toList:=by rw [←hz]
  rw [e3,nums_intItems] at e2
  rw [←e2]
 rw [e]; exact q
theorem bools_at {bs:List Bool} {us:List Value} (r:Vals (bs.map V.bl) us) {i:Nat} {v:Value} (e:us[i]?=some v):v=.bool (bs.getD i true):=by
 have hl:=r.length
 rw [List.length_map] at hl
 obtain ⟨hi,rfl⟩:=List.getElem?_eq_some_iff.mp e
 have hi':i<bs.length:=by omega
 have:(bs.map V.bl)[i]?=some (.bl bs[i]):=by simp [hi']
 obtain ⟨u,eu,ru⟩:=r.get this
 rw [e] at eu
 cases eu
 have hd:bs.getD i true=bs[i]:=by simp [List.getD,hi']
 rw [hd]
 exact ru
theorem range_all (bs:List Bool):(List.range bs.length).all (fun i=>bs.getD i true)=bs.all id:=by
 rw [Bool.eq_iff_iff,List.all_eq_true,List.all_eq_true]
 constructor
 ·intro h x hx
  obtain ⟨i,hi,rfl⟩:=List.mem_iff_getElem.mp hx
  have:=h i (by simp [hi])
  simpa [List.getD,hi] using this
 ·intro h i hi
  have hi':i<bs.length:=by simpa using hi
  have:=h bs[i] (List.getElem_mem hi')
  simpa [List.getD,hi'] using this
theorem call_all:X.calm=true→q5v X (.builtin "all") (fun xs H Q=>∃(p:Addr) (bs:List Bool),xs=[.ref p]∧SqL X.K H p (bs.map V.bl)∧Q (.bl (bs.all id)) H):=by
 intro hc pins s σ H xs us Q I r h
 obtain ⟨p,bs,rfl,hp,q⟩:=h
 obtain ⟨u,rfl,ru⟩:=vals1 r
 cases ru
 obtain ⟨is,r1,p1,_⟩:=I.list hp
 have hl:=r1.length
 rw [List.length_map] at hl
 have hlt:p<s.heap.objs.size:=by obtain ⟨_,e,_⟩:=p1.isList; exact Heap.lt_size e
 refine call_all_walk (wpAny_pyIter_list p1.isList ?_)
 refine ⟨s.heap.objs.size,_,_,_,_,_,(fun i=>bs.getD i true),rfl,Walks.list (A:=X.A.in1) (I.ok.hd hc) s.heap.objs.size p (Nat.ne_of_lt hlt) is.toArray,⟨⟨_,Heap.get?_push_size _ rfl,rfl,rfl⟩,p1.isList.push _⟩,fun i v s' Q' E' hv hQ'=>?_,fun h' tk hk=>?_⟩
 ·have e:=bools_at r1 (i:=i) (v:=v) (by simpa using hv)
  subst e
  exact wpAny_pure hQ'
 ·refine ⟨.bl _,H,I.kept (fun b o e=>hk b o (by have:=Heap.lt_size e; simp; exact Nat.ne_of_lt this) (Heap.get?_push_of_some _ e)),rfl,?_⟩
  have e:(List.range is.toArray.size).all (fun i=>bs.getD i true)=bs.all id:=by
   rw [List.size_toArray,←hl]; exact range_all bs
  show Q (.bl ((List.range is.toArray.size).all fun i=>bs.getD i true)) H
  rw [e]; exact q
theorem isSlice_of {h:Heap} {sl:Addr} {vl vu:Value} {lo hi:Option Int} (hs:h.IsSliceOf sl vl vu .none) (pl:IsPart vl lo) (pu:IsPart vu hi):∃l u:Option (Int×Tok),h.IsSlice sl l u none∧l.map (·.1)=lo∧u.map (·.1)=hi:=by
 cases pl with
 | none=>
  cases pu with
  | none=>exact ⟨none,none,hs,rfl,rfl⟩
  | int i t=>exact ⟨none,some (_,_),hs,rfl,rfl⟩
 | int i t=>
  cases pu with
  | none=>exact ⟨some (_,_),none,hs,rfl,rfl⟩
  | int i t=>exact ⟨some (_,_),some (_,_),hs,rfl,rfl⟩
theorem sl_str:SlR X (fun x lo hi H Q=>∃z:Str,x=.str z∧z.length≤sizeLine∧Q (.str (Txt.slice z lo hi)) H):=by
 intro pins s σ H x v vl vu lo hi sl Q I rx hs pl pu h
 obtain ⟨z,rfl,hz,q⟩:=h
 obtain ⟨t,rfl⟩:=rx
 obtain ⟨l,u,hsl,rfl,rfl⟩:=isSlice_of hs pl pu
 refine ⟨"str",_,F.slot_str_getitem.lookup,typeIs_str _ _ _,wpAny_getItem_str_slice (l:=l) (u:=u) (st:=none) hsl rfl ?_⟩
 exact post_val_or_str ⟨Nat.le_trans (Txt.slice_le z _ _) hz,fun t' k=>⟨.str _,H,I.tok k,⟨t',rfl⟩,q⟩⟩
end
end L2
namespace L2
open PySem PySem.Spec PyProof.Rows
section
variable {X:Cx}
end
theorem q9q:bootBuiltins "list" = some (.type "list"):=by kernel_rfl
theorem q5g:bootBuiltins "tuple" = some (.type "tuple"):=by kernel_rfl
theorem q7j:bootBuiltins "str" = some (.type "str"):=by kernel_rfl
theorem boot_int:bootBuiltins "int" = some (.type "int"):=by kernel_rfl
theorem boot_bool:bootBuiltins "bool" = some (.type "bool"):=by kernel_rfl
theorem q1u:bootBuiltins "isinstance" = some (.builtin "isinstance"):=by kernel_rfl
theorem boot_sum:bootBuiltins "sum" = some (.builtin "sum"):=by kernel_rfl
theorem boot_all:bootBuiltins "all" = some (.builtin "all"):=by kernel_rfl
end L2
namespace L2
open PySem PySem.Spec PyProof.Rows
inductive Ty (H:Hp):V→String→Prop where
 | non:Ty H .non "NoneType"
 | bl (x:Bool):Ty H (.bl x) "bool"
 | int (i:Int):Ty H (.int i) "int"
 | str (x:Str):Ty H (.str x) "str"
 | lst {a:Addr} {xs:List V} (e:H a=some (.lst xs)):Ty H (.ref a) "list"
 | tup {a:Addr} {xs:List V} (e:H a=some (.tup xs)):Ty H (.ref a) "tuple"
section
variable {X:Cx}
theorem Ty.of {K:PySem.W.Frag} {H:Hp} {x:V} {T:String} (h:Ty H x T):TyOf K H x (.type T):=by
 cases h with
 | non=>exact .non
 | bl x=>exact .bl x
 | int i=>exact .int i
 | str x=>exact .str x
 | lst e=>exact .lst e
 | tup e=>exact .tup e
theorem kit_any2 {K:PySem.W.Frag} {T C D:String} {b c:Bool} (h1:PySem.W.kitOne K (.type T) (.type C)=some b) (h2:PySem.W.kitOne K (.type T) (.type D)=some c):PySem.W.kitAny K (.type T) [.type C,.type D]=some (b || c):=by
 unfold PySem.W.kitAny
 rw [h1]
 cases b with
 | true=>rfl
 | false=>
  show PySem.W.kitAny K (.type T) [.type D]=_
  unfold PySem.W.kitAny
  rw [h2]
  cases c<;>rfl
end
end L2
namespace L2
open PySem PySem.Spec PyProof.Rows
structure Cal (P:Program) (w:World) (K:PySem.W.Frag) (mg:Str→Option Value) (base:Heap) (k:Nat) (name:Str) (ps:List Str) (sp:Sp) (f:Addr) (fd:FuncData):Prop where
 G:FnOk P w K mg base (CXE P w) k f fd ps sp
 m:mg name=some (.ref f)
 kp:PySem.W.keepIn K (.ref f)=true
 b:Binds K fd ps []
theorem Cal.mono {P:Program} {w:World} {K:PySem.W.Frag} {mg:Str→Option Value} {base:Heap} {j k:Nat} {name:Str} {ps:List Str} {sp:Sp} {f:Addr} {fd:FuncData} (c:Cal P w K mg base j name ps sp f fd) (h:j≤k):Cal P w K mg base k name ps sp f fd:=⟨c.G.mono h,c.m,c.kp,c.b⟩
structure Loc2 (K:PySem.W.Frag) (mg:Str→Option Value) (name:Str) (st:Stmt) (ps:List Str) (f:Addr) (fd:FuncData):Prop where
 F:Fun K name name st f fd
 m:mg name=some (.ref f)
 b:Binds K fd ps []
theorem Loc2.cal {P:Program} {w:World} {K:PySem.W.Frag} {mg:Str→Option Value} {base:Heap} {k:Nat} {name:Str} {st:Stmt} {ps:List Str} {sp:Sp} {f:Addr} {fd:FuncData} (l:Loc2 K mg name st ps f fd) (G:FnOk P w K mg base (CXE P w) k f fd ps sp):Cal P w K mg base k name ps sp f fd:=⟨G,l.m,l.F.kp,l.b⟩
structure Zs (mg:Str→Option Value):Prop where
 len:mg "len" = none
 range:mg "range" = none
 isinstance:mg "isinstance" = none
 list:mg "list" = none
 tuple:mg "tuple" = none
 str:mg "str" = none
 int:mg "int" = none
 bool:mg "bool" = none
 sum:mg "sum" = none
 all:mg "all" = none
 zip:mg "zip" = none
def SameX (l:Addr) (H H':Hp):Prop:=∀b o,b≠l→H b=some o→H' b=some o
theorem Same.x {H H':Hp} (h:Same H H') (l:Addr):SameX l H H':=fun b o _ e=>h b o e
theorem SameX.trans {l:Addr} {H H1 H2:Hp} (a:SameX l H H1) (b:SameX l H1 H2):SameX l H H2:=fun c o n e=>b c o n (a c o n e)
theorem SameX.refl (l:Addr) (H:Hp):SameX l H H:=fun _ _ _ e=>e
theorem SameX.seq {K:PySem.W.Frag} {l:Addr} {H H':Hp} {a:Addr} {xs:List V} (e:SameX l H H') (n:a≠l) (h:SqL K H a xs):SqL K H' a xs:=by
 rcases h with h | h
 ·left
  rcases h with q | ⟨ob,q⟩
  ·exact .inl (e _ _ n q)
  ·exact .inr ⟨ob,e _ _ n q⟩
 ·exact .inr h
end L2
namespace My
open PySem L2
def wd (ks:List Nat):Str:=⟨(ks.map (97+·)).toArray⟩
theorem str_ext {x y:Str} (h:x.cps.toList=y.cps.toList):x=y:=by
 obtain ⟨a⟩:=x
 obtain ⟨b⟩:=y
 have:a=b:=by rw [←Array.toList_inj]; exact h
 rw [this]
theorem wd_list (ks:List Nat):(wd ks).cps.toList=ks.map (97+·):=rfl
theorem wd_len (ks:List Nat):(wd ks).length=ks.length:=by simp [wd,Str.length]
theorem app_list (x y:Str):(x++y).cps.toList=x.cps.toList++y.cps.toList:=by
 show (x.cps++y.cps).toList=_
 simp
theorem letters_wd:(Str.ofString "abcdefghijklmnopqrstuvwxyz")=wd (List.range 26):=by decide +kernel
theorem letters_at {i:Int} (h0:0≤i) (h1:i<26):atI (Str.ofString "abcdefghijklmnopqrstuvwxyz").cps.toList i=some (97+i.toNat):=by
 obtain ⟨m,rfl⟩:∃m:Nat,i=(m:Int):=⟨i.toNat,by omega⟩
 have hm:m<26:=by omega
 rw [letters_wd]
 refine atI_nat ?_
 rw [wd_list]
 simp [hm]
theorem letters_len:(Str.ofString "abcdefghijklmnopqrstuvwxyz").length≤sizeLine:=by rw [letters_wd,wd_len]; decide
theorem idx_eq (lo hi:Option Int) (n:Nat):Builtin.Str.strSliceIndices lo hi 1 n=(List.range (HT.sIx n n hi - HT.sIx n 0 lo)).map fun k=>HT.sIx n 0 lo+k:=by
 have clip:∀(v:Option Int) (d:Nat),(match v with | none=>((d:Nat):Int) | some i=>max 0 (min (if i<0 then i+(n:Int) else i) (n:Int)))=((HT.sIx n d v:Nat):Int):=by
  intro v d
  cases v with
  | none=>rfl
  | some i=>
   unfold HT.sIx
   dsimp only
   split
   ·omega
   ·omega
 unfold Builtin.Str.strSliceIndices
 simp only [show ((1:Int) > 0) by decide,if_true]
 have e1:=clip lo 0
 have e2:=clip hi n
 simp only [Int.ofNat_zero] at e1
 have key:∀a b a' b':Int,a=a'→b=b'→sliceRange a b 1=sliceRange a' b' 1:=fun a b a' b' h1 h2=>by rw [h1,h2]
 refine (key _ _ _ _ e1 e2).trans ?_
 unfold sliceRange
 simp only [show ((1:Int) > 0) by decide,if_true]
 have e3:(if ((HT.sIx n 0 lo:Nat):Int)<((HT.sIx n n hi:Nat):Int) then (((HT.sIx n n hi:Nat):Int) - ((HT.sIx n 0 lo:Nat):Int)+1 - 1) / 1 else 0).toNat=HT.sIx n n hi - HT.sIx n 0 lo:=by
  split
  ·rw [Int.ediv_one]; omega
  ·omega
 rw [e3]
 apply List.map_congr_left
 intro k _
 omega
theorem pick_eq (xs:List Nat) (a c:Nat) (hc:a+c≤xs.length):((List.range c).map fun k=>a+k).filterMap (fun i=>xs[i]?)=(xs.drop a).take c:=by
 induction c generalizing a with
 | zero=>simp
 | succ c ih=>
  have ha:a<xs.length:=by omega
  rw [List.range_succ_eq_map,List.map_cons,List.map_map,List.filterMap_cons]
  have e0:xs[a+0]?=some xs[a]:=by simp [ha]
  rw [e0]
  dsimp only
  rw [List.drop_eq_getElem_cons ha,List.take_succ_cons]
  congr 1
  have:=ih (a+1) (by omega)
  rw [←this]
  congr 1
  apply List.map_congr_left
  intro k _
  simp only [Function.comp]
  omega
theorem slice_list (x:Str) (lo hi:Option Int):(Txt.slice x lo hi).cps.toList=(x.cps.toList.drop (HT.sIx x.length 0 lo)).take (HT.sIx x.length x.length hi - HT.sIx x.length 0 lo):=by
 have hn:x.cps.toList.length=x.length:=by simp [Str.length]
 have hb:=HT.sIx_le x.length x.length (Nat.le_refl _) hi
 have ha:=HT.sIx_le x.length 0 (Nat.zero_le _) lo
 unfold Txt.slice
 rw [idx_eq,List.length_map,List.length_range]
 split
 ·rename_i h
  have h':HT.sIx x.length x.length hi - HT.sIx x.length 0 lo=x.length:=by simpa using h
  have h2:HT.sIx x.length 0 lo=0∨x.length=0:=by omega
  rw [h']
  rcases h2 with h2 | h2
  ·rw [h2,List.drop_zero,List.take_of_length_le (by omega)]
  ·have:x.cps.toList=[]:=List.length_eq_zero_iff.mp (by omega)
   rw [this]; simp
 ·show List.filterMap _ _=_
  have e:(fun (i:Nat)=>x.cps[i]?)=fun i=>x.cps.toList[i]?:=by funext i; simp
  rw [e]
  by_cases hle:HT.sIx x.length 0 lo≤HT.sIx x.length x.length hi
  ·exact pick_eq _ _ _ (by omega)
  ·have:HT.sIx x.length x.length hi - HT.sIx x.length 0 lo=0:=by omega
   rw [this]; simp
def Nm (x:Str):Prop:=∃ks:List Nat,x=wd ks∧ks≠[]∧ks.length≤8∧∀k∈ks,k<26
theorem Nm.len {x:Str} (h:Nm x):x.length≤8:=by
 obtain ⟨ks,rfl,_,h,_⟩:=h
 rw [wd_len]; exact h
end My
namespace L2
open PySem PySem.Spec PyProof.Rows
theorem compOk {X:Cx} {scope:Scope} {N':List Str} {ix:List (Option Nat)} (kind:scope.kind=.function) (cell:∀y∈scope.names,y.2≠.cell) (names:∀y∈scope.names,y.2=.local→scope.names.lookup y.1=some .local)
  (free:(scope.names.all fun y=>!(y.2 == .free) || X.env.scope.names.lookup y.1 == some .cell || X.env.scope.names.lookup y.1 == some .free)=true) (ixs:IxOk X.N X.env.scope scope N' ix):CompOk X scope N' ix:=
 ⟨kind,cell,names,fun y hy e=>by
  have h:=List.all_eq_true.mp free y hy
  simp only [e,beq_self_eq_true,Bool.not_true,Bool.false_or,Bool.or_eq_true,beq_iff_eq] at h
  exact h,ixs⟩
section
variable {X:Cx} {K:PySem.W.Frag}
end
end L2
namespace My
open PySem L2
end My
namespace L2
open PySem PySem.Spec PyProof.Rows
def Its (z:Str):It:=⟨fun i _=>i<z.length,fun i H v H'=>H'=H∧∃c,z.cps[i]?=some c∧v=.str ⟨#[c]⟩,fun i _=>z.length≤i⟩
theorem strWalk {P:Program} {w:World} {A:Around} (hh:A.handled=none) (it:Addr) (x:Str) (t:Tok):Walks P w A it [it] [it] x.cps.size (SignAt x) fun i h=>h.IsStrIter it (strIterType x) x t i:=by
 unfold strIterType
 split
 ·exact Walks.strAscii hh it x t
 ·exact Walks.strWide hh it x t
theorem go_str {M:Model} {A:Around} {E:Value→Shared→Prop} {s:Shared} {tg:Expr} {it:Addr} {u:Value} {x:Str} {t:Tok} {i:Nat} {Q:Unit→Shared→Prop} (h:s.heap.IsStrIter it (strIterType x) x t i) (hQ:Q () s):wpAny M A (letOwnedTupleGo tg (.ref it) u) Q E s:=by
 obtain ⟨o,e,c,d⟩:=h
 refine go_of e c d ?_ hQ
 unfold strIterType
 split<;>decide
theorem turn_str {P:Program} {w:World} {K:PySem.W.Frag} {tg:Expr} (it:Addr) (x:Str) (t:Tok):Turn P w K tg (Its x) [it] it (fun i h=>i≤x.length∧h.IsStrIter it (strIterType x) x t i) where
 mem:=by simp
 obj:=fun i h st b hb=>by
  obtain rfl:=List.mem_singleton.mp hb
  obtain ⟨_,o,e,c,d⟩:=st
  exact ⟨o,e,fun v z=>by rw [d] at z; cases z⟩
 keep:=fun i h h' st k=>by
  obtain ⟨hi,o,e,r⟩:=st
  exact ⟨hi,o,k it (by simp) o e,r⟩
 item:=by
  intro X hP hw hK hc i pins s σ H E I hf st hg
  subst hP hw hK
  obtain ⟨f0,f1,f2,f3,f4,f5⟩:=hf it (by simp)
  have hg':i<x.length:=hg
  refine (strWalk (P:=X.prog) (w:=X.w) (I.ok.hd hc) it x t).item i s _ _ hg' st.2 fun v h' tk hv st' kk=>?_
  have I1:Inv X pins σ H { s with heap:=h',toks:=tk }:=I.turned (fun b o hb e=>kk b o (by simpa using hb) e) f0 f1 f3 f4 f5
  obtain ⟨c,u,hc',rfl⟩:=hv
  exact ⟨_,rfl,go_str (s:={ s with heap:=h',toks:=tk }) st' ⟨.str ⟨#[c]⟩,H,I1,⟨u,rfl⟩,⟨rfl,c,hc',rfl⟩,⟨hg',st'⟩,fun b hb=>(hf b hb).1⟩⟩
 done:=by
  intro X hP hw hK hc i pins s σ H E I hf st hg
  subst hP hw hK
  obtain ⟨f0,f1,f2,f3,f4,f5⟩:=hf it (by simp)
  have hg':x.length≤i:=hg
  have e:i=x.cps.size:=Nat.le_antisymm st.1 hg'
  subst e
  exact (strWalk (P:=X.prog) (w:=X.w) (I.ok.hd hc) it x t).done s _ _ st.2 fun h' tk kk=>⟨rfl,I.turned (fun b o hb e=>kk b o (by simpa using hb) e) f0 f1 f3 f4 f5⟩
 self:=fun A i s Q E st h=>by
  have st':=st.2
  unfold strIterType at st'
  split at st'
  ·exact wpAny_pyIter_striter_ascii st' h
  ·exact wpAny_pyIter_striter_wide st' h
section
variable {X:Cx} {tg:Expr}
end
abbrev TJ:=St→Hp→Str→(Str→Hp→Prop)→Prop
def PJ (X:Cx) (es:List Expr) (t:TJ):Prop:=∀(pins:List (Addr×Obj)) (s:Shared) (σ:St) (H:Hp) (acc:Str) (Q:Str→Hp→Prop),Inv X pins σ H s→t σ H acc Q→
 Joins (model X.prog X.w) X.A X.xe (evalEach es X.env) acc (fun out s₁=>∃H',Inv X pins σ H' s₁∧Q out H') s
section
variable {X:Cx} {e:Expr} {es:List Expr} {t:TJ} {te:TE} {pos p2:Pos}
end
end L2
namespace L2
open PySem PySem.Spec PyProof.Rows
section
variable {X:Cx}
theorem extT (lA:Addr) (xsA:Array Value) (nA:Nat) (tB:Addr) (ysB:Array Value) (nB:Nat) (ddB:Option Addr) (slB:Array (Option Value)) (h0:¬(!xsA.isEmpty && Builtin.List.listTooLong (xsA.size+ysB.size))=true) (h1:xsA.size≤sizeLine) (h2:xsA.size+ysB.size≤sizeLine+1) :
  Meets (Builtin.«list.extend» ⟨[.ref lA,.ref tB],[]⟩) (fun _ R s=>s.heap.get? lA=some { cls:=.type "list",dict:=none,data:=.seq xsA nA,slots:=#[] }∧s.heap.get? tB=some { cls:=.type "tuple",dict:=ddB,data:=.seq ysB nB,slots:=slB }∧R (.ok (.ret Value.none)) { s with heap:=s.heap.update lA (Obj.mapSeq fun u=>u++ysB),toks:=s.toks }):=
 .of_wp fun prog w A R s h=>by
  obtain ⟨hp,g,d,tk,os⟩:=s
  obtain ⟨hl,hb,h⟩:=h
  have f1:=AutoSeq1.idx_int
  have f2:=AutoSeq1.sub_tuple_tuple
  have f3:=AutoSeq1.sub_list_list
  have f4:=AutoSeq1.sub_tuple_list
  have f5:=AutoSeq1.sub_list_tuple
  have hz':(xsA++ysB).size≤sizeLine+1:=by rw [Array.size_append]; exact h2
  wp_walk using (wpAny_updateSeq hl rfl (hz:=h1) (_hz':=hz')),AutoSeq1.wpAny_loadPart' hl,AutoSeq1.wpAny_loadPart' hb
  exact ⟨_,rfl,h⟩
theorem op_catT0:OpR X (binaryOp .Add) (fun x y H Q=>(∃a b ys,x=.ref a∧y=.ref b∧SqT X.K H a []∧SqT X.K H b ys∧Q (.ref b) H)∨rCatT X.K x y H Q):=by
 intro pins s σ H x y v u Q I rx ry h
 rcases h with h | h
 ·obtain ⟨a,b,ys,rfl,rfl,ha,hb,q⟩:=h
  cases rx
  cases ry
  obtain ⟨its,r1,p1,_⟩:=I.tuple ha
  obtain ⟨its2,r2,p2,hz⟩:=I.tuple hb
  cases r1
  obtain ⟨⟨c1,e1,t1,l1⟩,ho,hc,n,hd⟩:=p1
  obtain ⟨⟨c2,e2,t2,l2⟩,ho2,hc2,n2,hd2⟩:=p2
  simp only at hc hd hc2 hd2
  subst hc hd hc2 hd2
  refine concat_meets ⟨_,ho,rfl⟩ ⟨_,ho2,rfl⟩ noFill_tuple_add seq_tuple_add PySem.F.slot_tuple_add PySem.F.entry_tuple_add (PySem.F.args_tuple_add_2 _ _)
   (tuple_addW0 a b _ its2.toArray n n2 e1 e2 l1 l2 (by rfl)) ⟨ho,ho2,⟨.ref b,H,I,rfl,q⟩⟩
 ·exact op_catT pins s σ H x y v u Q I rx ry h
end
end L2
namespace Ev
open PySem L2
inductive PV where
 | non | bl (b:Bool) | int (i:Int) | str (x:Str) | ty (n:String)
 | tup (xs:List PV) | frl (xs:List PV) | ref (n:Nat) | exc (c:String)
inductive SO where
 | lst (xs:List PV) | dK (kvs:List (Key×PV)) | dN (kvs:List (KTr×PV))
abbrev q0h:=List SO
abbrev Loc:=List (Option PV)
def SqF (K:PySem.W.Frag) (H:Hp) (a:Addr) (xs:List V):Prop:=
 (∃o,H a=some (.frz o (.lst xs)))∨∃(o:Obj) (its:Array Value) (n:Nat),K.lookup a=some o∧o.cls=.type "list" ∧o.dict=none∧o.data=.seq its n∧its.size≤sizeLine∧Vals xs its.toList
theorem SqF.sq {K:PySem.W.Frag} {H:Hp} {a:Addr} {xs:List V} (h:SqF K H a xs):SqL K H a xs:=by
 rcases h with ⟨o,h⟩ | h
 ·exact .inl (.inr ⟨o,h⟩)
 ·exact .inr h
def ExcAt (K:PySem.W.Frag) (H:Hp) (a:Addr) (c:String):Prop:=∃(f:Heap→Prop) (C:Addr),H a=some (.ext f)∧PySem.W.nsIn K mainGlobals (Str.ofString c)=some (some (.ref C))∧∀h,f h→∃o,h.get? a=some o∧o.cls=.ref C
mutual
def RV (K:PySem.W.Frag) (H:Hp) (φ:List Addr):PV→V→Prop
 | .non,v=>v=.non
 | .bl b,v=>v=.bl b
 | .int i,v=>v=.int i
 | .str x,v=>v=.str x
 | .ty n,v=>v=.ty n
 | .tup xs,v=>∃a vs,v=.ref a∧SqT K H a vs∧RVs K H φ xs vs
 | .frl xs,v=>∃a vs,v=.ref a∧SqF K H a vs∧RVs K H φ xs vs
 | .ref n,v=>∃a,v=.ref a∧φ[n]?=some a
 | .exc c,v=>∃a,v=.ref a∧ExcAt K H a c
def RVs (K:PySem.W.Frag) (H:Hp) (φ:List Addr):List PV→List V→Prop
 | [],vs=>vs=[]
 | x::xs,vs=>∃y ys,vs=y::ys∧RV K H φ x y∧RVs K H φ xs ys
end
structure Mono (H H':Hp):Prop where
 tup:∀a xs,H a=some (.tup xs)→H' a=some (.tup xs)
 frz:∀a o u,H a=some (.frz o u)→H' a=some (.frz o u)
 ext:∀a f,H a=some (.ext f)→H' a=some (.ext f)
theorem Mono.refl (H:Hp):Mono H H:=⟨fun _ _ h=>h,fun _ _ _ h=>h,fun _ _ h=>h⟩
theorem Mono.trans {H H1 H2:Hp} (a:Mono H H1) (b:Mono H1 H2):Mono H H2:=⟨fun c xs h=>b.tup c xs (a.tup c xs h),fun c o u h=>b.frz c o u (a.frz c o u h),fun c f h=>b.ext c f (a.ext c f h)⟩
theorem Mono.new {H:Hp} {p:Addr} (o:HO) (h:H p=none):Mono H (upd H p o):=⟨fun b u q=>by rw [q0w (q2r q h)]; exact q,fun b u v q=>by rw [q0w (q2r q h)]; exact q,fun b f q=>by rw [q0w (q2r q h)]; exact q⟩
theorem Mono.rd {H H':Hp} (m:Mono H H') {a:Addr} {xs:List V} (h:Rd H a (.tup xs)):Rd H' a (.tup xs):=by
 rcases h with h | ⟨o,h⟩
 ·exact .inl (m.tup _ _ h)
 ·exact .inr ⟨o,m.frz _ _ _ h⟩
theorem Mono.sqT {K:PySem.W.Frag} {H H':Hp} (m:Mono H H') {a:Addr} {xs:List V} (h:SqT K H a xs):SqT K H' a xs:=by
 rcases h with h | h
 ·exact .inl (m.rd h)
 ·exact .inr h
theorem Mono.sqF {K:PySem.W.Frag} {H H':Hp} (m:Mono H H') {a:Addr} {xs:List V} (h:SqF K H a xs):SqF K H' a xs:=by
 rcases h with ⟨o,h⟩ | h
 ·exact .inl ⟨o,m.frz _ _ _ h⟩
 ·exact .inr h
theorem q6p {φ φ':List Addr} (h:φ <+: φ') {n:Nat} {a:Addr} (e:φ[n]?=some a):φ'[n]?=some a:=by
 obtain ⟨t,rfl⟩:=h
 rw [List.getElem?_append_left (by
  have:=List.getElem?_eq_some_iff.mp e
  exact this.1)]
 exact e
section
variable {K:PySem.W.Frag} {H H':Hp} {φ φ':List Addr}
mutual
theorem RV.mono (m:Mono H H') (p:φ <+: φ'):∀(v:PV) (x:V),RV K H φ v x→RV K H' φ' v x
 | .non,_,h=>h
 | .bl _,_,h=>h
 | .int _,_,h=>h
 | .str _,_,h=>h
 | .ty _,_,h=>h
 | .tup xs,_,⟨a,vs,e,s,r⟩=>⟨a,vs,e,m.sqT s,RVs.mono m p xs vs r⟩
 | .frl xs,_,⟨a,vs,e,s,r⟩=>⟨a,vs,e,m.sqF s,RVs.mono m p xs vs r⟩
 | .ref _,_,⟨a,e,q⟩=>⟨a,e,q6p p q⟩
 | .exc _,_,⟨a,e,f,C,h1,h2,h3⟩=>⟨a,e,f,C,m.ext _ _ h1,h2,h3⟩
theorem RVs.mono (m:Mono H H') (p:φ <+: φ'):∀(xs:List PV) (vs:List V),RVs K H φ xs vs→RVs K H' φ' xs vs
 | [],_,h=>h
 | x::xs,_,⟨y,ys,e,r,t⟩=>⟨y,ys,e,RV.mono m p x y r,RVs.mono m p xs ys t⟩
end
theorem RVs.length:∀{xs:List PV} {vs:List V},RVs K H φ xs vs→xs.length=vs.length
 | [],_,h=>by rw [show _=[] from h]; rfl
 | _::xs,_,⟨y,ys,e,_,t⟩=>by rw [e,List.length_cons,List.length_cons,RVs.length t]
theorem RVs.get:∀{xs:List PV} {vs:List V} {i:Nat} {x:PV},RVs K H φ xs vs→xs[i]?=some x→∃y,vs[i]?=some y∧RV K H φ x y
 | [],_,_,_,_,e=>by simp at e
 | x::xs,_,0,x',⟨y,ys,e,r,t⟩,q=>by
  simp at q; subst q; subst e
  exact ⟨y,by simp,r⟩
 | x::xs,_,i+1,x',⟨y,ys,e,r,t⟩,q=>by
  subst e
  obtain ⟨z,h1,h2⟩:=RVs.get (i:=i) t (by simpa using q)
  exact ⟨z,by simpa using h1,h2⟩
theorem RVs.append:∀{xs ys:List PV} {vs ws:List V},RVs K H φ xs vs→RVs K H φ ys ws→RVs K H φ (xs++ys) (vs++ws)
 | [],_,_,_,h,s=>by rw [show _=[] from h]; exact s
 | x::xs,_,_,_,⟨y,ys,e,r,t⟩,s=>by subst e; exact ⟨y,_,rfl,r,RVs.append t s⟩
theorem RVs.one {x:PV} {y:V} (r:RV K H φ x y):RVs K H φ [x] [y]:=⟨y,[],rfl,r,rfl⟩
theorem RVs.cons {x:PV} {y:V} {xs:List PV} {ys:List V} (r:RV K H φ x y) (t:RVs K H φ xs ys):RVs K H φ (x::xs) (y::ys):=⟨y,ys,rfl,r,t⟩
theorem RVs.take:∀{xs:List PV} {vs:List V} (n:Nat),RVs K H φ xs vs→RVs K H φ (xs.take n) (vs.take n)
 | _,_,0,_=>by simp; exact rfl
 | [],_,_+1,h=>by rw [show _=[] from h]; exact rfl
 | x::xs,_,n+1,⟨y,ys,e,r,t⟩=>by subst e; exact ⟨y,_,rfl,r,RVs.take n t⟩
theorem RVs.drop:∀{xs:List PV} {vs:List V} (n:Nat),RVs K H φ xs vs→RVs K H φ (xs.drop n) (vs.drop n)
 | _,_,0,h=>h
 | [],_,_+1,h=>by rw [show _=[] from h]; exact rfl
 | x::xs,_,n+1,⟨y,ys,e,r,t⟩=>by subst e; exact RVs.drop n t
theorem RVs.set {z:PV} {u:V} (q:RV K H φ z u):∀{xs:List PV} {vs:List V} (n:Nat),RVs K H φ xs vs→RVs K H φ (xs.set n z) (vs.set n u)
 | [],_,_,h=>by rw [show _=[] from h]; exact rfl
 | x::xs,_,0,⟨y,ys,e,r,t⟩=>by subst e; exact ⟨u,_,rfl,q,t⟩
 | x::xs,_,n+1,⟨y,ys,e,r,t⟩=>by subst e; exact ⟨y,_,rfl,r,RVs.set q n t⟩
theorem RVs.eraseIdx:∀{xs:List PV} {vs:List V} (n:Nat),RVs K H φ xs vs→RVs K H φ (xs.eraseIdx n) (vs.eraseIdx n)
 | [],_,_,h=>by rw [show _=[] from h]; exact rfl
 | x::xs,_,0,⟨y,ys,e,r,t⟩=>by subst e; exact t
 | x::xs,_,n+1,⟨y,ys,e,r,t⟩=>by subst e; exact ⟨y,_,rfl,r,RVs.eraseIdx n t⟩
theorem RVs.dropLast {xs:List PV} {vs:List V} (h:RVs K H φ xs vs):RVs K H φ xs.dropLast vs.dropLast:=by
 rw [List.dropLast_eq_take,List.dropLast_eq_take,←h.length]
 exact h.take _
theorem RVs.reverse:∀{xs:List PV} {vs:List V},RVs K H φ xs vs→RVs K H φ xs.reverse vs.reverse
 | [],_,h=>by rw [show _=[] from h]; exact rfl
 | x::xs,_,⟨y,ys,e,r,t⟩=>by
  subst e
  rw [List.reverse_cons,List.reverse_cons]
  exact (RVs.reverse t).append (.one r)
theorem RVs.rep {xs:List PV} {vs:List V} (h:RVs K H φ xs vs):∀n,RVs K H φ (List.replicate n xs).flatten (List.replicate n vs).flatten
 | 0=>rfl
 | n+1=>by
  rw [List.replicate_succ,List.replicate_succ,List.flatten_cons,List.flatten_cons]
  exact h.append (RVs.rep h n)
theorem RVs.ints:∀{ns:List Int} {vs:List V},RVs K H φ (ns.map PV.int) vs→vs=ns.map V.int
 | [],_,h=>h
 | _::ns,_,⟨y,ys,e,r,t⟩=>by rw [e,show y=_ from r,RVs.ints t]; rfl
theorem RVs.strs:∀{ns:List Str} {vs:List V},RVs K H φ (ns.map PV.str) vs→vs=ns.map V.str
 | [],_,h=>h
 | _::ns,_,⟨y,ys,e,r,t⟩=>by rw [e,show y=_ from r,RVs.strs t]; rfl
theorem RVs.bls:∀{ns:List Bool} {vs:List V},RVs K H φ (ns.map PV.bl) vs→vs=ns.map V.bl
 | [],_,h=>h
 | _::ns,_,⟨y,ys,e,r,t⟩=>by rw [e,show y=_ from r,RVs.bls t]; rfl
theorem RVs.of_ints:∀(ns:List Int),RVs K H φ (ns.map PV.int) (ns.map V.int)
 | []=>rfl
 | _::ns=>⟨_,_,rfl,rfl,RVs.of_ints ns⟩
def RKs (K:PySem.W.Frag) (H:Hp) (φ:List Addr):List (Key×PV)→List (Key×V)→Prop:=Paired fun p q=>p.1=q.1∧RV K H φ p.2 q.2
theorem RKs.mono (m:Mono H H') (p:φ <+: φ') {xs:List (Key×PV)} {ys:List (Key×V)} (h:RKs K H φ xs ys):RKs K H' φ' xs ys:=Paired.mapP h fun _ _ hh1=>by obtain ⟨a,b⟩:=hh1; exact (⟨a,RV.mono m p _ _ b⟩)
mutual
def ktP:KTr→PV
 | .int i=>.int i
 | .str x=>.str x
 | .tup xs=>.tup (ktPs xs)
def ktPs:List KTr→List PV
 | []=>[]
 | x::xs=>ktP x::ktPs xs
end
def RNs (K:PySem.W.Frag) (H:Hp) (φ:List Addr):List (KTr×PV)→List (KTr×Addr×V)→Prop:=Paired fun p q=>p.1=q.1∧((∃ys,p.1=.tup ys)∧kdep p.1≤8)∧RV K H φ (ktP p.1) (.ref q.2.1)∧RV K H φ p.2 q.2.2
theorem RNs.mono (m:Mono H H') (p:φ <+: φ') {xs:List (KTr×PV)} {ys:List (KTr×Addr×V)} (h:RNs K H φ xs ys):RNs K H' φ' xs ys:=Paired.mapP h fun _ _ hh1=>by obtain ⟨a,c,b,d⟩:=hh1; exact (⟨a,c,RV.mono m p _ _ b,RV.mono m p _ _ d⟩)
def ObjR (K:PySem.W.Frag) (H:Hp) (φ:List Addr):SO→Addr→Prop
 | .lst xs,a=>∃vs,H a=some (.lst vs)∧RVs K H φ xs vs
 | .dK kvs,a=>∃ws,H a=some (.dK ws)∧RKs K H φ kvs ws
 | .dN kvs,a=>∃ws,H a=some (.dH ws)∧RNs K H φ kvs ws
theorem ObjR.some {o:SO} {a:Addr} (h:ObjR K H φ o a):∃u,H a=Option.some u:=by
 cases o with
 | lst xs=>obtain ⟨vs,e,_⟩:=h; exact ⟨_,e⟩
 | dK xs=>obtain ⟨vs,e,_⟩:=h; exact ⟨_,e⟩
 | dN xs=>obtain ⟨vs,e,_⟩:=h; exact ⟨_,e⟩
theorem ObjR.mono (m:Mono H H') (p:φ <+: φ') {o:SO} {a:Addr} (e:∀u,H a=Option.some u→H' a=Option.some u) (h:ObjR K H φ o a):ObjR K H' φ' o a:=by
 cases o with
 | lst xs=>obtain ⟨vs,q,r⟩:=h; exact ⟨vs,e _ q,RVs.mono m p _ _ r⟩
 | dK xs=>obtain ⟨vs,q,r⟩:=h; exact ⟨vs,e _ q,RKs.mono m p r⟩
 | dN xs=>obtain ⟨vs,q,r⟩:=h; exact ⟨vs,e _ q,RNs.mono m p r⟩
structure Rel (K:PySem.W.Frag) (φ:List Addr) (S:q0h) (H:Hp):Prop where
 len:φ.length=S.length
 nd:φ.Nodup
 obj:∀(n:Nat) (a:Addr) (o:SO),φ[n]?=some a→S[n]?=some o→ObjR K H φ o a
theorem Rel.at {S:q0h} (h:Rel K φ S H) {n:Nat} {o:SO} (e:S[n]?=some o):∃a,φ[n]?=some a∧ObjR K H φ o a:=by
 have hn:n<φ.length:=by rw [h.len]; exact (List.getElem?_eq_some_iff.mp e).1
 exact ⟨φ[n],List.getElem?_eq_getElem hn,h.obj n _ o (List.getElem?_eq_getElem hn) e⟩
theorem Rel.at' {S:q0h} (h:Rel K φ S H) {n:Nat} {a:Addr} (e:φ[n]?=some a):∃o,S[n]?=some o∧ObjR K H φ o a:=by
 have hn:n<S.length:=by rw [←h.len]; exact (List.getElem?_eq_some_iff.mp e).1
 exact ⟨S[n],List.getElem?_eq_getElem hn,h.obj n a _ e (List.getElem?_eq_getElem hn)⟩
theorem Rel.frame {S:q0h} (h:Rel K φ S H) {p:Addr} (o:HO) (hp:H p=none):Rel K φ S (upd H p o):=
 ⟨h.len,h.nd,fun n a o' e q=>(h.obj n a o' e q).mono (Mono.new o hp) (List.prefix_refl _) fun u z=>by rw [q0w (q2r z hp)]; exact z⟩
theorem Rel.new {S:q0h} (h:Rel K φ S H) {p:Addr} {o:SO} {u:HO} (hp:H p=none) (ho:ObjR K (upd H p u) (φ++[p]) o p):Rel K (φ++[p]) (S++[o]) (upd H p u):=by
 refine ⟨by simp [h.len],?_,fun n a o' e q=>?_⟩
 ·refine List.nodup_append.mpr ⟨h.nd,by simp,fun a ha b hb=>?_⟩
  rw [List.mem_singleton] at hb
  subst hb
  intro z
  subst z
  obtain ⟨n,hn,e⟩:=List.mem_iff_getElem.mp ha
  obtain ⟨o',_,r⟩:=h.at' (n:=n) (a:=a) (by rw [List.getElem?_eq_getElem hn,e])
  obtain ⟨u',z⟩:=r.some
  rw [hp] at z
  cases z
 ·by_cases hn:n<φ.length
  ·rw [List.getElem?_append_left hn] at e
   rw [List.getElem?_append_left (by rw [←h.len]; exact hn)] at q
   exact (h.obj n a o' e q).mono (Mono.new u hp) (List.prefix_append _ _) fun u' z=>by rw [q0w (q2r z hp)]; exact z
  ·have hn':n=φ.length:=by
    have:=(List.getElem?_eq_some_iff.mp e).1
    simp at this
    omega
   subst hn'
   rw [List.getElem?_append_right (Nat.le_refl _)] at e
   rw [h.len,List.getElem?_append_right (Nat.le_refl _)] at q
   simp at e q
   subst e q
   exact ho
theorem Rel.put {S:q0h} (h:Rel K φ S H) {n:Nat} {a:Addr} {o:SO} {u:HO} (e:φ[n]?=some a) (m:Mono H (upd H a u)) (ho:ObjR K (upd H a u) φ o a):Rel K φ (S.set n o) (upd H a u):=by
 refine ⟨by simp [h.len],h.nd,fun i b o' q r=>?_⟩
 by_cases hi:i=n
 ·subst hi
  rw [e] at q
  cases q
  have hl:i<S.length:=by rw [←h.len]; exact (List.getElem?_eq_some_iff.mp e).1
  rw [List.getElem?_set_self hl] at r
  cases r
  exact ho
 ·rw [List.getElem?_set_ne (fun z=>hi z.symm)] at r
  have hb:b≠a:=fun z=>by
   subst z
   have h1:=List.getElem?_eq_some_iff.mp q
   have h2:=List.getElem?_eq_some_iff.mp e
   obtain ⟨l1,e1⟩:=h1
   obtain ⟨l2,e2⟩:=h2
   exact hi ((List.getElem_inj h.nd).mp (e1.trans e2.symm))
  exact (h.obj i b o' q r).mono m (List.prefix_refl _) fun u' z=>by rw [q0w hb]; exact z
theorem Mono.lst {a:Addr} {xs:List V} {u:HO} (e:H a=some (.lst xs)):Mono H (upd H a u):=
 ⟨fun b xs q=>by rw [q0w (ne_of q e (by intro z; cases z))]; exact q,fun b o w q=>by rw [q0w (ne_of q e (by intro z; cases z))]; exact q,fun b f q=>by rw [q0w (ne_of q e (by intro z; cases z))]; exact q⟩
theorem Mono.dict {a:Addr} {xs:List (Key×V)} {u:HO} (e:H a=some (.dK xs)):Mono H (upd H a u):=
 ⟨fun b xs q=>by rw [q0w (ne_of q e (by intro z; cases z))]; exact q,fun b o w q=>by rw [q0w (ne_of q e (by intro z; cases z))]; exact q,fun b f q=>by rw [q0w (ne_of q e (by intro z; cases z))]; exact q⟩
abbrev EK:=PV→q0h→Prop
structure GX where
 ek:EK
 xh:PV→Hp→Prop
structure LRel (K:PySem.W.Frag) (G:GX) (H:Hp) (φ:List Addr) (σ:Loc) (σV:St):Prop where
 len:σ.length=σV.length
 at':∀(i:Nat) (v:PV),σ[i]?=some (some v)→∃x,σV[i]?=some (some x)∧RV K H φ v x
 kx:∀v S' φ' H',G.ek v S'→φ <+: φ'→Mono H H'→Rel K φ' S' H'→G.xh v H'
theorem LRel.mono {G:GX} (m:Mono H H') (p:φ <+: φ') {σ:Loc} {σV:St} (h:LRel K G H φ σ σV):LRel K G H' φ' σ σV:=
 ⟨h.len,fun i v e=>let ⟨x,a,b⟩:=h.at' i v e; ⟨x,a,RV.mono m p _ _ b⟩,fun v S1 φ1 H1 g p1 m1 r=>h.kx v S1 φ1 H1 g (p.trans p1) (m.trans m1) r⟩
theorem LRel.set {G:GX} {σ:Loc} {σV:St} (h:LRel K G H φ σ σV) (i:Nat) {v:PV} {x:V} (r:RV K H φ v x):LRel K G H φ (σ.set i (some v)) (σV.set i (some x)):=by
 refine ⟨by simp [h.len],fun j u e=>?_,h.kx⟩
 by_cases hj:j=i
 ·subst hj
  have hl:j<σ.length:=by
   have:=(List.getElem?_eq_some_iff.mp e).1
   simpa using this
  rw [List.getElem?_set_self hl] at e
  cases e
  exact ⟨x,List.getElem?_set_self (by rw [←h.len]; exact hl),r⟩
 ·rw [List.getElem?_set_ne (fun z=>hj z.symm)] at e
  rw [List.getElem?_set_ne (fun z=>hj z.symm)]
  exact h.at' j u e
end
end Ev
namespace Ev
open PySem L2
abbrev VC:=PV→q0h→Prop
abbrev WE:=Loc→q0h→EK→VC→Prop
abbrev WT:=Loc→q0h→EK→(Bool→q0h→Prop)→Prop
abbrev WA:=Loc→q0h→EK→(List PV→q0h→Prop)→Prop
def KE (K:PySem.W.Frag) (φ:List Addr) (H:Hp) (Q0:VC) (Q:VK):Prop:=∀v S' φ' H' x,Q0 v S'→φ <+: φ'→Mono H H'→Rel K φ' S' H'→RV K H' φ' v x→Q x H'
def KB (K:PySem.W.Frag) (φ:List Addr) (H:Hp) (Q0:Bool→q0h→Prop) (Q:Bool→Hp→Prop):Prop:=∀v S' φ' H',Q0 v S'→φ <+: φ'→Mono H H'→Rel K φ' S' H'→Q v H'
def KL (K:PySem.W.Frag) (φ:List Addr) (H:Hp) (Q0:List PV→q0h→Prop) (Q:List V→Hp→Prop):Prop:=∀v S' φ' H' x,Q0 v S'→φ <+: φ'→Mono H H'→Rel K φ' S' H'→RVs K H' φ' v x→Q x H'
theorem KE.up {K:PySem.W.Frag} {φ φ1:List Addr} {H H1:Hp} {Q0:VC} {Q:VK} (k:KE K φ H Q0 Q) (p:φ <+: φ1) (m:Mono H H1):KE K φ1 H1 Q0 Q:=fun v S' φ' H' x q p' m'=>k v S' φ' H' x q (p.trans p') (m.trans m')
theorem KB.up {K:PySem.W.Frag} {φ φ1:List Addr} {H H1:Hp} {Q0:Bool→q0h→Prop} {Q:Bool→Hp→Prop} (k:KB K φ H Q0 Q) (p:φ <+: φ1) (m:Mono H H1):KB K φ1 H1 Q0 Q:=fun v S' φ' H' q p' m'=>k v S' φ' H' q (p.trans p') (m.trans m')
theorem KL.up {K:PySem.W.Frag} {φ φ1:List Addr} {H H1:Hp} {Q0:List PV→q0h→Prop} {Q:List V→Hp→Prop} (k:KL K φ H Q0 Q) (p:φ <+: φ1) (m:Mono H H1):KL K φ1 H1 Q0 Q:=fun v S' φ' H' x q p' m'=>k v S' φ' H' x q (p.trans p') (m.trans m')
def q6j (K:PySem.W.Frag) (G:GX) (w:WE):TE:=fun σV H Q=>∃φ σ S Q0,LRel K G H φ σ σV∧Rel K φ S H∧w σ S G.ek Q0∧KE K φ H Q0 Q
def liftT (K:PySem.W.Frag) (G:GX) (w:WT):TT:=fun σV H Q=>∃φ σ S Q0,LRel K G H φ σ σV∧Rel K φ S H∧w σ S G.ek Q0∧KB K φ H Q0 Q
def liftA (K:PySem.W.Frag) (G:GX) (w:WA):TA:=fun σV H Q=>∃φ σ S Q0,LRel K G H φ σ σV∧Rel K φ S H∧w σ S G.ek Q0∧KL K φ H Q0 Q
def SimE (X:Cx) (G:GX) (e:Expr) (w:WE):Prop:=PE X e (q6j X.K G w)
def SimT (X:Cx) (G:GX) (e:Expr) (w:WT):Prop:=PT X e (liftT X.K G w)
def SimW (X:Cx) (G:GX) (e:Expr) (w:WT):Prop:=PW X e (liftT X.K G w)
def SimA (X:Cx) (G:GX) (es:List Expr) (w:WA):Prop:=PA X es (liftA X.K G w)
theorem _root_.L2.PE.imp {X:Cx} {e:Expr} {t t':TE} (h:PE X e t) (i:∀σ H Q,t' σ H Q→t σ H Q):PE X e t':=fun pins s σ H Q I q=>h pins s σ H Q I (i σ H Q q)
theorem _root_.L2.PT.imp {X:Cx} {e:Expr} {t t':TT} (h:PT X e t) (i:∀σ H Q,t' σ H Q→t σ H Q):PT X e t':=fun pins s σ H Q I q=>h pins s σ H Q I (i σ H Q q)
theorem _root_.L2.PW.imp {X:Cx} {e:Expr} {t t':TT} (h:PW X e t) (i:∀σ H Q,t' σ H Q→t σ H Q):PW X e t':=fun wh pins s σ H Q I q=>h wh pins s σ H Q I (i σ H Q q)
theorem _root_.L2.PA.imp {X:Cx} {e:List Expr} {t t':TA} (h:PA X e t) (i:∀σ H Q,t' σ H Q→t σ H Q):PA X e t':=fun pos pins s σ H Q I q=>h pos pins s σ H Q I (i σ H Q q)
def wVar (i:Nat):WE:=fun σ S _ Q=>match σ[i]? with
 | some (some v)=>Q v S
 | _=>False
def wC (v:PV):WE:=fun _ S _ Q=>Q v S
section
variable {X:Cx} {G:GX} {pos:Pos}
theorem q0b (i:Nat) {x:Str} (hN:X.N[i]?=some x:=by rfl) (hv:Vis X.env.scope x:=by first | exact Or.inl rfl | exact Or.inr (Or.inl rfl) | exact Or.inr (Or.inr rfl)) (hd:(x == ("__debug__" : Str))=false:=by decide) (hcd:(x == ("__classdict__" : Str))=false:=by decide) :
  SimE X G (.Name x pos) (wVar i):=by
 refine (pe_var (i:=i) hN hv hd hcd).imp fun σV H Q hh1=>?_
 obtain ⟨φ,σ,S,Q0,L,R,h,k⟩:=hh1
 unfold wVar at h
 split at h
 ·rename_i v e
  obtain ⟨x,e',r⟩:=L.at' i v e
  exact ⟨x,e',k v S φ H x h (List.prefix_refl _) (.refl _) R r⟩
 ·exact h.elim
theorem q8t {e:Expr} {v:V} (p:PV) (h:PE X e (tC v)) (r:∀H φ,RV X.K H φ p v):SimE X G e (wC p):=
 h.imp fun σV H Q hh1=>by obtain ⟨φ,σ,S,Q0,L,R,h,k⟩:=hh1; exact (k p S φ H v h (List.prefix_refl _) (.refl _) R (r H φ))
theorem q0e {i j}:SimE X G (.Constant (.int i) j pos) (wC (.int i)):=q8t _ pe_int fun _ _=>rfl
theorem sim_bl {i j}:SimE X G (.Constant (.bool i) j pos) (wC (.bl i)):=q8t _ pe_bl fun _ _=>rfl
theorem q0m {i j}:SimE X G (.Constant (.str i) j pos) (wC (.str i)):=q8t _ pe_str fun _ _=>rfl
theorem q6b {j}:SimE X G (.Constant .none j pos) (wC .non):=q8t _ pe_non fun _ _=>rfl
structure GlobV (K:PySem.W.Frag) (mg:Str→Option Value) (x:Str) (p:PV):Prop where
 is:∃u v,mg x=some u∧RelV v u∧∀H φ,RV K H φ p v
theorem q6a {x:Str} {T:String} (hm:X.mg x=none) (hb:bootBuiltins x=some (.type T)) (hg:Gl X x:=by rfl) (hn:x≠ "__name__" :=by decide) (hd:(x == ("__debug__" : Str))=false:=by decide):SimE X G (.Name x pos) (wC (.ty T)):=
 q8t (v:=.ty T) _ (pe_bltn hg hm hb rfl hn hd) fun _ _=>rfl
end
abbrev F2:=PV→PV→q0h→VC→Prop
def wBin (f:F2) (wa wb:WE):WE:=fun σ S E Q=>wa σ S E fun x S1=>wb σ S1 E fun y S2=>f x y S2 Q
def q5c (K:PySem.W.Frag) (f:F2):R2:=fun x' y' H Q=>∃φ S x y Q0,Rel K φ S H∧RV K H φ x x'∧RV K H φ y y'∧f x y S Q0∧KE K φ H Q0 Q
section
variable {X:Cx} {G:GX} {pos:Pos} {a b:Expr} {wa wb:WE} {f:F2}
theorem q8k {σV:St} {H:Hp} {Q:VK} (h:q6j X.K G (wBin f wa wb) σV H Q):tOp (q5c X.K f) (q6j X.K G wa) (q6j X.K G wb) σV H Q:=by
 obtain ⟨φ,σ,S,Q0,L,R,h,k⟩:=h
 refine ⟨φ,σ,S,_,L,R,h,fun v S1 φ1 H1 x q p1 m1 R1 r1=>?_⟩
 refine ⟨φ1,σ,S1,_,L.mono m1 p1,R1,q,fun u S2 φ2 H2 y q2 p2 m2 R2 r2=>?_⟩
 exact ⟨φ2,S2,v,u,Q0,R2,RV.mono m2 p2 _ _ r1,r2,q2,k.up (p1.trans p2) (m1.trans m2)⟩
theorem q0l {op:Operator} (ho:OpR X (binaryOp op) (q5c X.K f)) (ha:SimE X G a wa) (hb:SimE X G b wb):SimE X G (.BinOp a op b pos) (wBin f wa wb):=(pe_op ho ha hb).imp fun _ _ _ h=>q8k h
theorem sim_cmp {op:CmpOp} (ho:OpR X (compareOp op) (q5c X.K f)) (ha:SimE X G a wa) (hb:SimE X G b wb) (hm:behindInMarks op b=false):SimE X G (.Compare a [op] [b] pos) (wBin f wa wb):=(pe_cmpR ho ha hb hm).imp fun _ _ _ h=>q8k h
def q0y (w:WE):WT:=fun σ S E Q=>w σ S E fun x S1=>match x with
 | .bl c=>Q c S1
 | _=>False
theorem lift_test {w:WE} {t:TE} (i:∀σ H Q,q6j X.K G w σ H Q→t σ H Q) {σV:St} {H:Hp} {Q:Bool→Hp→Prop} (h:liftT X.K G (q0y w) σV H Q):tTest t σV H Q:=by
 obtain ⟨φ,σ,S,Q0,L,R,h,k⟩:=h
 refine i _ _ _ ⟨φ,σ,S,_,L,R,h,fun v S1 φ1 H1 x q p1 m1 R1 r1=>?_⟩
 cases v with
 | bl c=>exact ⟨c,r1,k c S1 φ1 H1 q p1 m1 R1⟩
 | _=>exact q.elim
theorem q0n {op:CmpOp} (ho:OpR X (compareOp op) (q5c X.K f)) (ha:SimE X G a wa) (hb:SimE X G b wb) (hm:behindInMarks op b=false):SimT X G (.Compare a [op] [b] pos) (q0y (wBin f wa wb)):=
 (pt_cmpR ho ha hb hm).imp fun _ _ _ h=>lift_test (fun _ _ _ h=>q8k h) h
end
def truK (x:PV) (S:q0h) (Q:Bool→q0h→Prop):Prop:=match x with
 | .non=>Q false S
 | .bl b=>Q b S
 | .int i=>Q (i != 0) S
 | .str y=>y.length≤sizeLine∧Q (!decide (y.length=0)) S
 | .tup xs=>Q (!xs.isEmpty) S
 | .frl xs=>Q (!xs.isEmpty) S
 | .ref n=>match S[n]? with
  | some (.lst xs)=>Q (!xs.isEmpty) S
  | some (.dK xs)=>Q (!xs.isEmpty) S
  | _=>False
 | .ty _=>False
 | .exc _=>False
def wTru (w:WE):WT:=fun σ S E Q=>w σ S E fun x S1=>truK x S1 Q
theorem emp_of {K:PySem.W.Frag} {H:Hp} {φ:List Addr} {xs:List PV} {vs:List V} (r:RVs K H φ xs vs):(!xs.isEmpty)=!vs.isEmpty:=by
 have:=r.length
 cases xs<;>cases vs<;>simp_all
theorem tru_rel {K:PySem.W.Frag} {H:Hp} {φ:List Addr} {S:q0h} {x:PV} {x':V} {Q0:Bool→q0h→Prop} {Q:Bool→Hp→Prop} (R:Rel K φ S H) (r:RV K H φ x x') (h:truK x S Q0) (k:∀b,Q0 b S→Q b H):∃b,TruV K x' H b∧Q b H:=by
 unfold truK at h
 cases x with
 | non=>cases r; exact ⟨false,rfl,k _ h⟩
 | bl b=>cases r; exact ⟨b,rfl,k _ h⟩
 | int i=>cases r; exact ⟨_,rfl,k _ h⟩
 | str y=>
  cases r
  obtain ⟨hz,h⟩:=h
  refine ⟨!decide (y.length=0),⟨hz,?_⟩,k _ h⟩
  by_cases e:y.length=0
  ·rw [e]; rfl
  ·rw [decide_eq_false e]
   symm
   simp only [bne_iff_ne,Bool.not_false]
   intro z
   exact e (by exact_mod_cast z)
 | tup xs=>
  obtain ⟨a,vs,rfl,s,rs⟩:=r
  exact ⟨_,.inr (.inl ⟨vs,s,rfl⟩),k _ (by rw [←emp_of rs]; exact h)⟩
 | frl xs=>
  obtain ⟨a,vs,rfl,s,rs⟩:=r
  exact ⟨_,.inl ⟨vs,s.sq,rfl⟩,k _ (by rw [←emp_of rs]; exact h)⟩
 | ref n=>
  obtain ⟨a,rfl,e⟩:=r
  dsimp only at h
  split at h
  ·rename_i xs es
   obtain ⟨vs,e1,rs⟩:=R.obj n a _ e es
   exact ⟨_,.inl ⟨vs,SqL.of e1,rfl⟩,k _ (by rw [←emp_of rs]; exact h)⟩
  ·rename_i xs es
   obtain ⟨vs,e1,rs⟩:=R.obj n a _ e es
   have:(!xs.isEmpty)=!vs.isEmpty:=by cases rs<;>rfl
   exact ⟨_,.inr (.inr ⟨vs,e1,rfl⟩),k _ (by rw [←this]; exact h)⟩
  ·exact h.elim
 | ty n=>exact h.elim
 | exc c=>exact h.elim
section
variable {X:Cx} {G:GX} {pos:Pos} {a b c:Expr} {wa wb:WE} {ta tb:WT} {rest:List Expr}
theorem q2m (ha:SimE X G a wa) (he:∀whole,isTrue a X.env whole=(do let v ←whole; standAt a.pos; holding [v] (truthy v)):=by intro _; rfl):SimT X G a (wTru wa):=
 (pt_truth ha he).imp fun σV H Q hh1=>by obtain ⟨φ,σ,S,Q0,L,R,h,k⟩:=hh1; exact (⟨φ,σ,S,_,L,R,h,fun v S1 φ1 H1 x q p1 m1 R1 r1=>tru_rel R1 r1 q fun b q=>k b S1 φ1 H1 q p1 m1 R1⟩)
def wAnd (ta tb:WT):WT:=fun σ S E Q=>ta σ S E fun c S1=>if c=true then tb σ S1 E Q else Q false S1
def wOr (ta tb:WT):WT:=fun σ S E Q=>ta σ S E fun c S1=>if c=true then Q true S1 else tb σ S1 E Q
def wNot (ta:WT):WT:=fun σ S E Q=>ta σ S E fun c S1=>Q (!c) S1
theorem SimW.t {e:Expr} {w:WT} (h:SimW X G e w):SimT X G e w:=h _
theorem q2g (ha:SimT X G a ta):SimW X G (.BoolOp .And [a] pos) ta:=pw_and1 ha
theorem q5k (ha:SimT X G a ta):SimW X G (.BoolOp .Or [a] pos) ta:=pw_or1 ha
theorem q2l (ha:SimT X G a ta) (hb:SimW X G (.BoolOp .And (b::rest) pos) tb):SimW X G (.BoolOp .And (a::b::rest) pos) (wAnd ta tb):=
 (pw_and ha hb).imp fun σV H Q hh1=>by obtain ⟨φ,σ,S,Q0,L,R,h,k⟩:=hh1; exact (⟨φ,σ,S,_,L,R,h,fun c S1 φ1 H1 q p1 m1 R1=>by
  cases c with
  | true=>exact ⟨φ1,σ,S1,_,L.mono m1 p1,R1,q,k.up p1 m1⟩
  | false=>exact k false S1 φ1 H1 q p1 m1 R1⟩)
theorem q5l (ha:SimT X G a ta) (hb:SimW X G (.BoolOp .Or (b::rest) pos) tb):SimW X G (.BoolOp .Or (a::b::rest) pos) (wOr ta tb):=
 (pw_or ha hb).imp fun σV H Q hh1=>by obtain ⟨φ,σ,S,Q0,L,R,h,k⟩:=hh1; exact (⟨φ,σ,S,_,L,R,h,fun c S1 φ1 H1 q p1 m1 R1=>by
  cases c with
  | false=>exact ⟨φ1,σ,S1,_,L.mono m1 p1,R1,q,k.up p1 m1⟩
  | true=>exact k true S1 φ1 H1 q p1 m1 R1⟩)
theorem q5m (ha:SimT X G a ta):SimT X G (.UnaryOp .Not a pos) (wNot ta):=
 (pt_not ha).imp fun σV H Q hh1=>by obtain ⟨φ,σ,S,Q0,L,R,h,k⟩:=hh1; exact (⟨φ,σ,S,_,L,R,h,fun c S1 φ1 H1 q p1 m1 R1=>k (!c) S1 φ1 H1 q p1 m1 R1⟩)
def wAndV (wa wb:WE):WE:=fun σ S E Q=>wa σ S E fun x S1=>match x with
 | .bl c=>if c=true then wb σ S1 E Q else Q (.bl false) S1
 | _=>False
def wOrV (wa wb:WE):WE:=fun σ S E Q=>wa σ S E fun x S1=>match x with
 | .bl c=>if c=true then Q (.bl true) S1 else wb σ S1 E Q
 | _=>False
def wNotV (wa:WE):WE:=fun σ S E Q=>wa σ S E fun x S1=>match x with
 | .bl c=>Q (.bl (!c)) S1
 | _=>False
theorem q8s {op} (h:SimE X G a wa):SimE X G (.BoolOp op [a] pos) wa:=pe_one h
theorem q7m (ha:SimE X G a wa) (hb:SimE X G (.BoolOp .And (b::rest) pos) wb):SimE X G (.BoolOp .And (a::b::rest) pos) (wAndV wa wb):=
 (pe_and ha hb).imp fun σV H Q hh1=>by obtain ⟨φ,σ,S,Q0,L,R,h,k⟩:=hh1; exact (⟨φ,σ,S,_,L,R,h,fun v S1 φ1 H1 x q p1 m1 R1 r1=>by
  cases v with
  | bl c=>
   refine ⟨c,r1,?_⟩
   cases c with
   | true=>exact ⟨φ1,σ,S1,_,L.mono m1 p1,R1,q,k.up p1 m1⟩
   | false=>exact k _ S1 φ1 H1 _ q p1 m1 R1 rfl
  | _=>exact q.elim⟩)
theorem sim_or (ha:SimE X G a wa) (hb:SimE X G (.BoolOp .Or (b::rest) pos) wb):SimE X G (.BoolOp .Or (a::b::rest) pos) (wOrV wa wb):=
 (pe_or ha hb).imp fun σV H Q hh1=>by obtain ⟨φ,σ,S,Q0,L,R,h,k⟩:=hh1; exact (⟨φ,σ,S,_,L,R,h,fun v S1 φ1 H1 x q p1 m1 R1 r1=>by
  cases v with
  | bl c=>
   refine ⟨c,r1,?_⟩
   cases c with
   | false=>exact ⟨φ1,σ,S1,_,L.mono m1 p1,R1,q,k.up p1 m1⟩
   | true=>exact k _ S1 φ1 H1 _ q p1 m1 R1 rfl
  | _=>exact q.elim⟩)
theorem sim_not (ha:SimE X G a wa):SimE X G (.UnaryOp .Not a pos) (wNotV wa):=
 (pe_not ha).imp fun σV H Q hh1=>by obtain ⟨φ,σ,S,Q0,L,R,h,k⟩:=hh1; exact (⟨φ,σ,S,_,L,R,h,fun v S1 φ1 H1 x q p1 m1 R1 r1=>by
  cases v with
  | bl c=>exact ⟨c,r1,k _ S1 φ1 H1 _ q p1 m1 R1 rfl⟩
  | _=>exact q.elim⟩)
def wNeg (wa:WE):WE:=fun σ S E Q=>wa σ S E fun x S1=>match x with
 | .int i=>Q (.int (-i)) S1
 | _=>False
theorem sim_neg (ha:SimE X G a wa):SimE X G (.UnaryOp .USub a pos) (wNeg wa):=
 (pe_un un_neg ha).imp fun σV H Q hh1=>by obtain ⟨φ,σ,S,Q0,L,R,h,k⟩:=hh1; exact (⟨φ,σ,S,_,L,R,h,fun v S1 φ1 H1 x q p1 m1 R1 r1=>by
  cases v with
  | int c=>exact ⟨c,r1,k _ S1 φ1 H1 _ q p1 m1 R1 rfl⟩
  | _=>exact q.elim⟩)
def wNil:WA:=fun _ S _ Q=>Q [] S
def q0d (wa:WE) (wr:WA):WA:=fun σ S E Q=>wa σ S E fun x S1=>wr σ S1 E fun xs S2=>Q (x::xs) S2
theorem q0c:SimA X G [] wNil:=pa_nil.imp fun σV H Q hh1=>by obtain ⟨φ,σ,S,Q0,L,R,h,k⟩:=hh1; exact (k [] S φ H [] h (List.prefix_refl _) (.refl _) R rfl)
theorem q0a {e:Expr} {es:List Expr} {we:WE} {wr:WA} (ha:SimE X G e we) (hr:SimA X G es wr) (hs:starEach (e::es) X.env=(false,eval e X.env)::starEach es X.env:=by rfl):SimA X G (e::es) (q0d we wr):=
 (q8x ha hr hs).imp fun σV H Q hh1=>by obtain ⟨φ,σ,S,Q0,L,R,h,k⟩:=hh1; exact (⟨φ,σ,S,_,L,R,h,fun v S1 φ1 H1 x q p1 m1 R1 r1=>
  ⟨φ1,σ,S1,_,L.mono m1 p1,R1,q,fun vs S2 φ2 H2 xs q2 p2 m2 R2 r2=>k (v::vs) S2 φ2 H2 (x::xs) q2 (p1.trans p2) (m1.trans m2) R2 (.cons (RV.mono m2 p2 _ _ r1) r2)⟩⟩)
def wTup (w:WA):WE:=fun σ S E Q=>w σ S E fun xs S1=>xs.length≤sizeLine∧Q (.tup xs) S1
def wLst (w:WA):WE:=fun σ S E Q=>w σ S E fun xs S1=>xs.length≤sizeLine∧Q (.ref S1.length) (S1++[.lst xs])
variable {es:List Expr} {w:WA}
theorem KE.tup {K:PySem.W.Frag} {φ:List Addr} {H:Hp} {Q0:VC} {Q:VK} {S:q0h} {xs:List PV} {vs:List V} (k:KE K φ H Q0 Q) (q:Q0 (.tup xs) S) (R:Rel K φ S H) (r:RVs K H φ xs vs):∀p,H p=none→Q (.ref p) (upd H p (.tup vs)):=fun p hp=>
 k _ S φ _ _ q (List.prefix_refl _) (.new _ hp) (R.frame _ hp) ⟨p,vs,rfl,SqT.of q1w,RVs.mono (.new _ hp) (List.prefix_refl _) _ _ r⟩
theorem KE.lst {K:PySem.W.Frag} {φ:List Addr} {H:Hp} {Q0:VC} {Q:VK} {S:q0h} {xs:List PV} {vs:List V} (k:KE K φ H Q0 Q) (q:Q0 (.ref S.length) (S++[.lst xs])) (R:Rel K φ S H) (r:RVs K H φ xs vs):∀p,H p=none→Q (.ref p) (upd H p (.lst vs)):=fun p hp=>
 k _ (S++[.lst xs]) (φ++[p]) _ _ q (List.prefix_append _ _) (.new _ hp) (R.new (o:=.lst xs) hp ⟨vs,q1w,RVs.mono (.new _ hp) (List.prefix_append _ _) _ _ r⟩) (show RV K _ _ (.ref S.length) _ from ⟨p,rfl,by rw [←R.len]; simp⟩)
theorem q1f {x1} (h:SimA X G es w):SimE X G (.Tuple es x1 pos) (wTup w):=
 (pe_tup h).imp fun σV H Q hh1=>by obtain ⟨φ,σ,S,Q0,L,R,h,k⟩:=hh1; exact (⟨φ,σ,S,_,L,R,h,fun vs S1 φ1 H1 xs hh2 p1 m1 R1 r1=>by obtain ⟨hz,q⟩:=hh2; exact (⟨by rw [←r1.length]; exact hz,(k.up p1 m1).tup q R1 r1⟩)⟩)
theorem q3i (h:SimA X G es w):SimE X G (.List es pos) (wLst w):=
 (pe_lst h).imp fun σV H Q hh1=>by obtain ⟨φ,σ,S,Q0,L,R,h,k⟩:=hh1; exact (⟨φ,σ,S,_,L,R,h,fun vs S1 φ1 H1 xs hh2 p1 m1 R1 r1=>by obtain ⟨hz,q⟩:=hh2; exact (⟨by rw [←r1.length]; exact hz,(k.up p1 m1).lst q R1 r1⟩)⟩)
end
end Ev
namespace Ev
open PySem L2
def q6i (S:q0h) (n:Nat):Option (List PV):=match S[n]? with
 | some (.lst xs)=>some xs
 | _=>none
def q3u (S:q0h) (n:Nat):Option (List PV):=match S[n]? with
 | some (.lst xs)=>some xs
 | _=>none
section
variable {K:PySem.W.Frag} {H:Hp} {φ:List Addr} {S:q0h}
theorem lstOf_get {n:Nat} {xs:List PV} (e:q6i S n=some xs):S[n]?=some (.lst xs):=by
 unfold q6i at e
 split at e
 ·cases e; assumption
 ·cases e
theorem Rel.lst (R:Rel K φ S H) {n:Nat} {a:Addr} {xs:List PV} (q:φ[n]?=some a) (e:q6i S n=some xs):∃vs,H a=some (.lst vs)∧RVs K H φ xs vs:=R.obj n a _ q (lstOf_get e)
theorem Rel.seq (R:Rel K φ S H) {n:Nat} {a:Addr} {xs:List PV} (q:φ[n]?=some a) (e:q3u S n=some xs):∃vs,SqL K H a vs∧RVs K H φ xs vs:=by
 unfold q3u at e
 split at e
 ·rename_i ys es
  cases e
  obtain ⟨vs,e1,r⟩:=R.obj n a _ q es
  exact ⟨vs,SqL.of e1,r⟩
 ·cases e
end
def bAdd:F2:=fun x y S Q=>match x,y with
 | .int i,.int j=>Q (.int (i+j)) S
 | .str a,.str b=>a.length+b.length≤sizeLine∧Q (.str (a++b)) S
 | .tup xs,.tup ys=>xs.length+ys.length≤sizeLine∧Q (.tup (xs++ys)) S
 | .ref m,.ref n=>match q6i S m,q6i S n with
  | some xs,some ys=>xs.length+ys.length≤sizeLine∧Q (.ref S.length) (S++[.lst (xs++ys)])
  | _,_=>False
 | _,_=>False
def bI (C:Int→Int→Prop) (g:Int→Int→PV):F2:=fun x y S Q=>match x,y with
 | .int i,.int j=>C i j∧Q (g i j) S
 | _,_=>False
def bSub:F2:=bI (fun _ _=>True) fun i j=>.int (i - j)
def q4l:F2:=bI (fun _ j=>0<j∧j<2 ^ 100) fun i j=>.int (i / j)
def bMod:F2:=bI (fun _ j=>0<j) fun i j=>.int (i % j)
def bPow:F2:=bI CPow fun i j=>.int (i ^ j.toNat)
def cLt:F2:=bI (fun _ _=>True) fun i j=>.bl (decide (i<j))
def cGt:F2:=bI (fun _ _=>True) fun i j=>.bl (decide (j<i))
def cGe:F2:=bI (fun _ _=>True) fun i j=>.bl (decide (j≤i))
def bMul:F2:=fun x y S Q=>match x,y with
 | .int i,.int j=>CMul i j∧Q (.int (i*j)) S
 | .ref m,.int k=>match q6i S m with
  | some xs=>(-(2 ^ 63)≤k∧k<2 ^ 63∧xs.length*k.toNat≤sizeLine)∧Q (.ref S.length) (S++[.lst (List.replicate k.toNat xs).flatten])
  | none=>False
 | _,_=>False
section
variable {X:Cx}
theorem ops_I {f:Value→Value→Sem Value} {C D:Int→Int→Prop} {g:Int→Int→PV} {gV:Int→Int→V} (ho:OpR X f (rI D gV)) (hd:∀i j,C i j→D i j) (hg:∀i j H φ,RV X.K H φ (g i j) (gV i j)):OpR X f (q5c X.K (bI C g)):=by
 rintro pins s σ H x y v u Q I rx ry ⟨φ,S,px,py,Q0,R,hx,hy,h,k⟩
 unfold bI at h
 split at h
 ·rename_i i j
  exact ho pins s σ H x y v u Q I rx ry ⟨i,j,hx,hy,hd i j h.1,k _ S φ H _ h.2 (List.prefix_refl _) (.refl _) R (hg i j H φ)⟩
 ·exact h.elim
theorem OpR.of0 {f:Value→Value→Sem Value} {gV:Int→Int→V} (ho:OpR X f (rI0 gV)):OpR X f (rI (fun _ _=>True) gV):=fun pins s σ H x y v u Q I rx ry hh1=>by obtain ⟨i,j,a,b,_,q⟩:=hh1; exact (ho pins s σ H x y v u Q I rx ry ⟨i,j,a,b,q⟩)
theorem q4e:OpR X (binaryOp .Sub) (q5c X.K bSub):=ops_I (OpR.of0 op_sub) (fun _ _ h=>h) fun _ _ _ _=>rfl
theorem q3c:OpR X (binaryOp .FloorDiv) (q5c X.K q4l):=ops_I op_fdivB (fun _ _ h=>h) fun _ _ _ _=>rfl
theorem q1i:OpR X (binaryOp .Mod) (q5c X.K bMod):=ops_I op_mod (fun _ _ h=>h) fun _ _ _ _=>rfl
theorem ops_pow:OpR X (binaryOp .Pow) (q5c X.K bPow):=ops_I op_pow (fun _ _ h=>h) fun _ _ _ _=>rfl
theorem ops_lt:OpR X (compareOp .Lt) (q5c X.K cLt):=ops_I (OpR.of0 op_lt) (fun _ _ h=>h) fun _ _ _ _=>rfl
theorem q5u:OpR X (compareOp .Gt) (q5c X.K cGt):=ops_I (OpR.of0 op_gt) (fun _ _ h=>h) fun _ _ _ _=>rfl
theorem ops_ge:OpR X (compareOp .GtE) (q5c X.K cGe):=ops_I (OpR.of0 op_ge) (fun _ _ h=>h) fun _ _ _ _=>rfl
theorem q8y:OpR X (binaryOp .Mult) (q5c X.K bMul):=by
 rintro pins s σ H x y v u Q I rx ry ⟨φ,S,px,py,Q0,R,hx,hy,h,k⟩
 unfold bMul at h
 split at h
 ·rename_i i j
  exact op_mul pins s σ H x y v u Q I rx ry ⟨i,j,hx,hy,h.1,k _ S φ H _ h.2 (List.prefix_refl _) (.refl _) R rfl⟩
 ·rename_i m kk
  split at h
  ·rename_i xs e
   obtain ⟨a,rfl,qa⟩:=hx
   cases hy
   obtain ⟨vs,ea,r⟩:=R.lst qa e
   obtain ⟨⟨h1,h2,h3⟩,h⟩:=h
   exact op_rep pins s σ H _ _ v u Q I rx ry ⟨a,kk,vs,rfl,rfl,ea,h1,h2,by rw [←r.length]; exact h3,k.lst h R (r.rep _)⟩
  ·exact h.elim
 ·exact h.elim
theorem q2h:OpR X (binaryOp .Add) (q5c X.K bAdd):=by
 rintro pins s σ H x y v u Q I rx ry ⟨φ,S,px,py,Q0,R,hx,hy,h,k⟩
 unfold bAdd at h
 split at h
 ·rename_i i j
  exact op_add pins s σ H x y v u Q I rx ry ⟨i,j,hx,hy,k _ S φ H _ h (List.prefix_refl _) (.refl _) R rfl⟩
 ·rename_i a b
  exact op_add_str pins s σ H x y v u Q I rx ry ⟨a,b,hx,hy,h.1,k _ S φ H _ h.2 (List.prefix_refl _) (.refl _) R rfl⟩
 ·rename_i xs ys
  obtain ⟨a,vs,rfl,sa,ra⟩:=hx
  obtain ⟨b,ws,rfl,sb,rb⟩:=hy
  refine op_catT0 pins s σ H _ _ v u Q I rx ry ?_
  by_cases hv:vs=[]
  ·subst hv
   have:xs=[]:=List.length_eq_zero_iff.mp (by rw [ra.length]; rfl)
   subst this
   exact .inl ⟨a,b,ws,rfl,rfl,sa,sb,k _ S φ H _ h.2 (List.prefix_refl _) (.refl _) R ⟨b,ws,rfl,sb,rb⟩⟩
  ·refine .inr ⟨a,b,vs,ws,rfl,rfl,sa,sb,hv,by rw [←ra.length,←rb.length]; exact h.1,fun hw=>?_,fun _=>k.tup h.2 R (ra.append rb)⟩
   subst hw
   have:ys=[]:=List.length_eq_zero_iff.mp (by rw [rb.length]; rfl)
   subst this
   refine k _ S φ H _ h.2 (List.prefix_refl _) (.refl _) R ?_
   rw [List.append_nil]
   exact ⟨a,vs,rfl,sa,ra⟩
 ·rename_i m n
  split at h
  ·rename_i xs ys e1 e2
   obtain ⟨a,rfl,qa⟩:=hx
   obtain ⟨b,rfl,qb⟩:=hy
   obtain ⟨vs,ea,ra⟩:=R.lst qa e1
   obtain ⟨ws,eb,rb⟩:=R.lst qb e2
   exact op_cat pins s σ H _ _ v u Q I rx ry ⟨a,b,vs,ws,rfl,rfl,ea,eb,by rw [←ra.length,←rb.length]; exact h.1,k.lst h.2 R (ra.append rb)⟩
  ·exact h.elim
 ·exact h.elim
def bIAdd:F2:=fun x y S Q=>match x,y with
 | .int i,.int j=>Q (.int (i+j)) S
 | .str a,.str b=>a.length+b.length≤sizeLine∧Q (.str (a++b)) S
 | _,_=>False
end
mutual
def eqB:PV→PV→Bool
 | .non,y=>match y with
  | .non=>true
  | _=>false
 | .bl a,y=>match y with
  | .bl b=>a == b
  | .int b=>(if a then 1 else 0) == b
  | _=>false
 | .int a,y=>match y with
  | .bl b=>a == (if b then 1 else 0)
  | .int b=>a == b
  | _=>false
 | .str a,y=>match y with
  | .str b=>a == b
  | _=>false
 | .tup xs,y=>match y with
  | .tup ys=>eqBs xs ys
  | _=>false
 | .ty _,_=>false
 | .frl _,_=>false
 | .ref _,_=>false
 | .exc _,_=>false
def eqBs:List PV→List PV→Bool
 | [],ys=>ys.isEmpty
 | x::xs,ys=>match ys with
  | []=>false
  | y::r=>eqB x y && eqBs xs r
end
mutual
def nrf:PV→Bool
 | .ty _=>false
 | .frl _=>false
 | .ref _=>false
 | .exc _=>false
 | .tup xs=>nrfs xs
 | _=>true
def nrfs:List PV→Bool
 | []=>true
 | x::xs=>nrf x && nrfs xs
end
mutual
def dep:PV→Nat
 | .tup xs=>1+deps xs
 | _=>0
def deps:List PV→Nat
 | []=>0
 | x::xs=>max (dep x) (deps xs)
end
theorem eqBs_len:∀{xs ys:List PV},eqBs xs ys=true→xs.length=ys.length
 | [],ys,h=>by cases ys<;>simp_all [eqBs]
 | x::xs,ys,h=>by
  cases ys with
  | nil=>simp [eqBs] at h
  | cons y r=>
   simp only [eqBs,Bool.and_eq_true] at h
   simp [eqBs_len h.2]
theorem q5f:∀(xs ys:List PV),eqBs xs ys=((List.range (min xs.length ys.length)).all (fun j=>eqB (xs.getD j .non) (ys.getD j .non)) && xs.length == ys.length)
 | [],ys=>by cases ys<;>simp [eqBs]
 | x::xs,ys=>by
  cases ys with
  | nil=>simp [eqBs]
  | cons y r=>
   have e:min (x::xs).length (y::r).length=min xs.length r.length+1:=by simp only [List.length_cons]; omega
   rw [e,List.range_succ_eq_map,List.all_cons,List.all_map]
   simp only [eqBs,q5f xs r,List.length_cons,Function.comp]
   rw [Bool.and_assoc]
   congr 2
   by_cases h:xs.length=r.length
   ·simp [h]
   ·simp [h]
mutual
theorem eqB_self:∀x:PV,nrf x=true→eqB x x=true
 | .non,_=>rfl
 | .bl b,_=>by simp [eqB]
 | .int i,_=>by simp [eqB]
 | .str x,_=>by simp [eqB]
 | .tup xs,h=>by simp only [eqB]; exact eqBs_self xs (by simpa [nrf] using h)
 | .ty _,h=>by simp [nrf] at h
 | .frl _,h=>by simp [nrf] at h
 | .ref _,h=>by simp [nrf] at h
 | .exc _,h=>by simp [nrf] at h
theorem eqBs_self:∀xs:List PV,nrfs xs=true→eqBs xs xs=true
 | [],_=>rfl
 | x::xs,h=>by
  simp only [nrfs,Bool.and_eq_true] at h
  simp only [eqBs,eqB_self x h.1,eqBs_self xs h.2,Bool.and_self]
end
section
variable {X:Cx} {pins:List (Addr×Obj)} {s:Shared} {σ:St} {H:Hp} {φ:List Addr}
mutual
theorem RV.inj (I:Inv X pins σ H s):∀(x y:PV) (v:V),nrf x=true→nrf y=true→RV X.K H φ x v→RV X.K H φ y v→x=y
 | .non,y,v,_,hy,r,q=>by cases y<;>simp_all [RV,nrf]
 | .bl b,y,v,_,hy,r,q=>by cases y<;>simp_all [RV,nrf]
 | .int b,y,v,_,hy,r,q=>by cases y<;>simp_all [RV,nrf]
 | .str b,y,v,_,hy,r,q=>by cases y<;>simp_all [RV,nrf]
 | .ty _,y,v,h,hy,r,q=>by simp [nrf] at h
 | .frl _,y,v,h,hy,r,q=>by simp [nrf] at h
 | .ref _,y,v,h,hy,r,q=>by simp [nrf] at h
 | .exc _,y,v,h,hy,r,q=>by simp [nrf] at h
 | .tup xs,y,v,h,hy,r,q=>by
  obtain ⟨a,vs,rfl,sa,ra⟩:=r
  cases y with
  | tup ys=>
   obtain ⟨b,ws,e,sb,rb⟩:=q
   cases e
   have:=I.tuple_inj sa sb
   subst this
   rw [RVs.inj I xs ys vs (by simpa [nrf] using h) (by simpa [nrf] using hy) ra rb]
  | non=>cases q
  | bl _=>cases q
  | int _=>cases q
  | str _=>cases q
  | ty _=>simp [nrf] at hy
  | frl _=>simp [nrf] at hy
  | ref _=>simp [nrf] at hy
  | exc _=>simp [nrf] at hy
theorem RVs.inj (I:Inv X pins σ H s):∀(xs ys:List PV) (vs:List V),nrfs xs=true→nrfs ys=true→RVs X.K H φ xs vs→RVs X.K H φ ys vs→xs=ys
 | [],ys,vs,_,_,r,q=>by
  rw [show vs=[] from r] at q
  exact (List.length_eq_zero_iff.mp (by rw [RVs.length q]; rfl)).symm
 | x::xs,ys,vs,h,h',r,q=>by
  obtain ⟨v,ws,rfl,r1,r2⟩:=r
  cases ys with
  | nil=>cases (show v::ws=[] from q)
  | cons y ys=>
   obtain ⟨v',ws',e,q1,q2⟩:=q
   cases e
   simp only [nrfs,Bool.and_eq_true] at h h'
   rw [RV.inj I x y v h.1 h'.1 r1 q1,RVs.inj I xs ys ws h.2 h'.2 r2 q2]
end
theorem q5e (A:Around):A.in1.units=A.units+1:=rfl
theorem q4q {vs:List V} {its:List Value} (r:Vals vs its) {j:Nat} (h:j<its.toArray.size) {x:V} (e:vs[j]?=some x):RelV x its.toArray[j]:=by
 obtain ⟨u,e1,r1⟩:=r.get e
 have:its.toArray[j]=u:=by
  have h':j<its.length:=by simpa using h
  rw [List.getElem?_eq_getElem h'] at e1
  simpa using e1
 rw [this]
 exact r1
theorem q2c:∀{xs:List PV} {j:Nat} {x:PV},nrfs xs=true→xs[j]?=some x→nrf x=true
 | [],_,_,_,e=>by simp at e
 | x::xs,0,y,h,e=>by simp [nrfs] at h e; subst e; exact h.1
 | x::xs,j+1,y,h,e=>by simp [nrfs] at h e; exact q2c h.2 e
theorem q5t:∀{xs:List PV} {j:Nat} {x:PV},xs[j]?=some x→dep x≤deps xs
 | [],_,_,e=>by simp at e
 | x::xs,0,y,e=>by simp at e; subst e; simp only [deps]; omega
 | x::xs,j+1,y,e=>by simp at e; have:=q5t e; simp only [deps]; omega
theorem q3h {xs:List PV} {j:Nat} {x:PV} (e:xs[j]?=some x):xs.getD j .non=x:=by rw [List.getD_eq_getElem?_getD,e]; rfl
theorem eqAt_P (I:Inv X pins σ H s):∀(d:Nat) (A:Around) (x y:PV) (x' y':V) (v u:Value),nrf x=true→nrf y=true→dep x≤d→A.units+d<cLine→RV X.K H φ x x'→RV X.K H φ y y'→RelV x' v→RelV y' u→SeqAt.EqAt A s v u (eqB x y):=by
 intro d
 induction d with
 | zero=>
  intro A x y x' y' v u hx hy hd hu rx ry qx qy
  cases x with
  | tup xs=>simp [dep] at hd
  | non=>
   cases rx; cases qx
   cases y with
   | non=>cases ry; cases qy; exact .same _
   | bl b=>cases ry; cases qy; exact .none_bool b
   | int b=>cases ry; obtain ⟨t,rfl⟩:=qy; exact .none_int b t
   | str b=>cases ry; obtain ⟨t,rfl⟩:=qy; exact .none_str b t
   | tup ys=>obtain ⟨b,ws,rfl,sb,rb⟩:=ry; cases qy; obtain ⟨_,_,p,_⟩:=I.tuple sb; exact .none_tuple p (by omega)
   | ty _=>simp [nrf] at hy
   | frl _=>simp [nrf] at hy
   | ref _=>simp [nrf] at hy
   | exc _=>simp [nrf] at hy
  | bl a=>
   cases rx; cases qx
   cases y with
   | non=>cases ry; cases qy; exact .bool_none a
   | bl b=>cases ry; cases qy; exact .bool_bool a b
   | int b=>cases ry; obtain ⟨t,rfl⟩:=qy; exact .bool_int a b t
   | str b=>cases ry; obtain ⟨t,rfl⟩:=qy; exact .bool_str a b t
   | tup ys=>obtain ⟨b,ws,rfl,sb,rb⟩:=ry; cases qy; obtain ⟨_,_,p,_⟩:=I.tuple sb; exact .bool_tuple a p (by omega)
   | ty _=>simp [nrf] at hy
   | frl _=>simp [nrf] at hy
   | ref _=>simp [nrf] at hy
   | exc _=>simp [nrf] at hy
  | int a=>
   cases rx; obtain ⟨t,rfl⟩:=qx
   cases y with
   | non=>cases ry; cases qy; exact .int_none a t
   | bl b=>cases ry; cases qy; exact .int_bool a t b
   | int b=>cases ry; obtain ⟨t',rfl⟩:=qy; exact .int_int a t b t'
   | str b=>cases ry; obtain ⟨t',rfl⟩:=qy; exact .int_str a t b t'
   | tup ys=>obtain ⟨b,ws,rfl,sb,rb⟩:=ry; cases qy; obtain ⟨_,_,p,_⟩:=I.tuple sb; exact .int_tuple a t p (by omega)
   | ty _=>simp [nrf] at hy
   | frl _=>simp [nrf] at hy
   | ref _=>simp [nrf] at hy
   | exc _=>simp [nrf] at hy
  | str a=>
   cases rx; obtain ⟨t,rfl⟩:=qx
   cases y with
   | non=>cases ry; cases qy; exact .str_none a t
   | bl b=>cases ry; cases qy; exact .str_bool a t b
   | int b=>cases ry; obtain ⟨t',rfl⟩:=qy; exact .str_int a t b t'
   | str b=>cases ry; obtain ⟨t',rfl⟩:=qy; exact .str_str a t b t'
   | tup ys=>obtain ⟨b,ws,rfl,sb,rb⟩:=ry; cases qy; obtain ⟨_,_,p,_⟩:=I.tuple sb; exact .str_tuple a t p (by omega)
   | ty _=>simp [nrf] at hy
   | frl _=>simp [nrf] at hy
   | ref _=>simp [nrf] at hy
   | exc _=>simp [nrf] at hy
  | ty _=>simp [nrf] at hx
  | frl _=>simp [nrf] at hx
  | ref _=>simp [nrf] at hx
  | exc _=>simp [nrf] at hx
 | succ d ih=>
  intro A x y x' y' v u hx hy hd hu rx ry qx qy
  cases x with
  | tup xs=>
   obtain ⟨a,vs,rfl,sa,ra⟩:=id rx
   cases qx
   obtain ⟨its,r1,p1,_⟩:=I.tuple sa
   cases y with
   | non=>cases ry; cases qy; exact .tuple_none p1 (by omega)
   | bl b=>cases ry; cases qy; exact .tuple_bool b p1 (by omega)
   | int b=>cases ry; obtain ⟨t,rfl⟩:=qy; exact .tuple_int b t p1 (by omega)
   | str b=>cases ry; obtain ⟨t,rfl⟩:=qy; exact .tuple_str b t p1 (by omega)
   | ty _=>simp [nrf] at hy
   | frl _=>simp [nrf] at hy
   | ref _=>simp [nrf] at hy
   | exc _=>simp [nrf] at hy
   | tup ys=>
    obtain ⟨b,ws,rfl,sb,rb⟩:=id ry
    cases qy
    obtain ⟨its2,r2,p2,_⟩:=I.tuple sb
    by_cases hab:a=b
    ·subst hab
     rw [RV.inj I _ _ _ hx hy rx ry,eqB_self _ hy]
     exact .same _
    ·refine .of_refs hab ?_
     have e:eqB (.tup xs) (.tup ys)=((List.range (min its.toArray.size its2.toArray.size)).all (fun j=>eqB (xs.getD j .non) (ys.getD j .non)) && its.toArray.size == its2.toArray.size):=by
      simp only [eqB]
      rw [q5f,List.size_toArray,List.size_toArray,←r1.length,←r2.length,ra.length,rb.length]
     rw [e]
     refine .tuples p1 p2 (by omega) fun j h1 h2=>?_
     have hj1:j<xs.length:=by rw [ra.length,r1.length]; simpa using h1
     have hj2:j<ys.length:=by rw [rb.length,r2.length]; simpa using h2
     have e1:xs[j]?=some xs[j]:=List.getElem?_eq_getElem hj1
     have e2:ys[j]?=some ys[j]:=List.getElem?_eq_getElem hj2
     obtain ⟨v1,g1,q1⟩:=ra.get e1
     obtain ⟨v2,g2,q2⟩:=rb.get e2
     rw [q3h e1,q3h e2]
     have hdd:=q5t e1
     simp only [dep] at hd
     exact ih A.in1 _ _ v1 v2 _ _ (q2c (by simpa [nrf] using hx) e1) (q2c (by simpa [nrf] using hy) e2) (by omega) (by rw [q5e]; omega) q1 q2 (q4q r1 h1 g1) (q4q r2 h2 g2)
  | non=>exact ih A _ _ x' y' v u hx hy (Nat.zero_le _) (by omega) rx ry qx qy
  | bl a=>exact ih A _ _ x' y' v u hx hy (Nat.zero_le _) (by omega) rx ry qx qy
  | int a=>exact ih A _ _ x' y' v u hx hy (Nat.zero_le _) (by omega) rx ry qx qy
  | str a=>exact ih A _ _ x' y' v u hx hy (Nat.zero_le _) (by omega) rx ry qx qy
  | ty _=>simp [nrf] at hx
  | frl _=>simp [nrf] at hx
  | ref _=>simp [nrf] at hx
  | exc _=>simp [nrf] at hx
end
end Ev
namespace Ev
open PySem L2
section
variable {X:Cx} {pins:List (Addr×Obj)} {s:Shared} {σ:St} {H:Hp} {φ:List Addr}
theorem rcAt_P (I:Inv X pins σ H s) (d:Nat) (A:Around) (x y:PV) (x' y':V) (v u:Value) (hx:nrf x=true) (hy:nrf y=true) (hd:∀xs ys,x=.tup xs→y=.tup ys→dep x≤d) (hu:A.units+d<cLine) (rx:RV X.K H φ x x') (ry:RV X.K H φ y y') (qx:RelV x' v) (qy:RelV y' u):SeqAt.RcAt A s v u (eqB x y):=by
 cases x with
 | non=>
  cases rx
  cases qx
  cases y with
  | non=>cases ry; cases qy; exact .none_none
  | bl b=>cases ry; cases qy; exact .none_bool b
  | int b=>cases ry; obtain ⟨t',rfl⟩:=qy; exact .none_int b t'
  | str b=>cases ry; obtain ⟨t',rfl⟩:=qy; exact .none_str b t'
  | tup ys=>obtain ⟨b,ws,rfl,sb,rb⟩:=ry; cases qy; obtain ⟨_,_,p,_⟩:=I.tuple sb; exact .none_tuple  p (by omega)
  | ty _=>simp [nrf] at hy
  | frl _=>simp [nrf] at hy
  | ref _=>simp [nrf] at hy
  | exc _=>simp [nrf] at hy
 | bl a=>
  cases rx
  cases qx
  cases y with
  | non=>cases ry; cases qy; exact .bool_none a
  | bl b=>cases ry; cases qy; exact .bool_bool a b
  | int b=>cases ry; obtain ⟨t',rfl⟩:=qy; exact .bool_int a b t'
  | str b=>cases ry; obtain ⟨t',rfl⟩:=qy; exact .bool_str a b t'
  | tup ys=>obtain ⟨b,ws,rfl,sb,rb⟩:=ry; cases qy; obtain ⟨_,_,p,_⟩:=I.tuple sb; exact .bool_tuple a p (by omega)
  | ty _=>simp [nrf] at hy
  | frl _=>simp [nrf] at hy
  | ref _=>simp [nrf] at hy
  | exc _=>simp [nrf] at hy
 | int a=>
  cases rx
  obtain ⟨t,rfl⟩:=qx
  cases y with
  | non=>cases ry; cases qy; exact .int_none a t
  | bl b=>cases ry; cases qy; exact .int_bool a t b
  | int b=>cases ry; obtain ⟨t',rfl⟩:=qy; exact .int_int a t b t'
  | str b=>cases ry; obtain ⟨t',rfl⟩:=qy; exact .int_str a t b t'
  | tup ys=>obtain ⟨b,ws,rfl,sb,rb⟩:=ry; cases qy; obtain ⟨_,_,p,_⟩:=I.tuple sb; exact .int_tuple a t p (by omega)
  | ty _=>simp [nrf] at hy
  | frl _=>simp [nrf] at hy
  | ref _=>simp [nrf] at hy
  | exc _=>simp [nrf] at hy
 | str a=>
  cases rx
  obtain ⟨t,rfl⟩:=qx
  cases y with
  | non=>cases ry; cases qy; exact .str_none a t
  | bl b=>cases ry; cases qy; exact .str_bool a t b
  | int b=>cases ry; obtain ⟨t',rfl⟩:=qy; exact .str_int a t b t'
  | str b=>cases ry; obtain ⟨t',rfl⟩:=qy; exact .str_str a t b t'
  | tup ys=>obtain ⟨b,ws,rfl,sb,rb⟩:=ry; cases qy; obtain ⟨_,_,p,_⟩:=I.tuple sb; exact .str_tuple a t p (by omega)
  | ty _=>simp [nrf] at hy
  | frl _=>simp [nrf] at hy
  | ref _=>simp [nrf] at hy
  | exc _=>simp [nrf] at hy
 | ty _=>simp [nrf] at hx
 | frl _=>simp [nrf] at hx
 | ref _=>simp [nrf] at hx
 | exc _=>simp [nrf] at hx
 | tup xs=>
  obtain ⟨a,vs,rfl,sa,ra⟩:=id rx
  cases qx
  obtain ⟨its,r1,p1,_⟩:=I.tuple sa
  cases y with
  | non=>cases ry; cases qy; exact .tuple_none p1 (by omega)
  | bl b=>cases ry; cases qy; exact .tuple_bool b p1 (by omega)
  | int b=>cases ry; obtain ⟨t,rfl⟩:=qy; exact .tuple_int b t p1 (by omega)
  | str b=>cases ry; obtain ⟨t,rfl⟩:=qy; exact .tuple_str b t p1 (by omega)
  | ty _=>simp [nrf] at hy
  | frl _=>simp [nrf] at hy
  | ref _=>simp [nrf] at hy
  | exc _=>simp [nrf] at hy
  | tup ys=>
   obtain ⟨b,ws,rfl,sb,rb⟩:=id ry
   cases qy
   obtain ⟨its2,r2,p2,_⟩:=I.tuple sb
   have e:eqB (.tup xs) (.tup ys)=((List.range (min its.toArray.size its2.toArray.size)).all (fun j=>eqB (xs.getD j .non) (ys.getD j .non)) && its.toArray.size == its2.toArray.size):=by
    simp only [eqB]
    rw [q5f,List.size_toArray,List.size_toArray,←r1.length,←r2.length,ra.length,rb.length]
   rw [e]
   have hd':=hd xs ys rfl rfl
   simp only [dep] at hd'
   refine .tuples p1 p2 (by omega) fun j h1 h2=>?_
   have hj1:j<xs.length:=by rw [ra.length,r1.length]; simpa using h1
   have hj2:j<ys.length:=by rw [rb.length,r2.length]; simpa using h2
   have e1:xs[j]?=some xs[j]:=List.getElem?_eq_getElem hj1
   have e2:ys[j]?=some ys[j]:=List.getElem?_eq_getElem hj2
   obtain ⟨v1,g1,q1⟩:=ra.get e1
   obtain ⟨v2,g2,q2⟩:=rb.get e2
   rw [q3h e1,q3h e2]
   have hdd:=q5t e1
   exact eqAt_P I (d - 1) A.in1 _ _ v1 v2 _ _ (q2c (by simpa [nrf] using hx) e1) (q2c (by simpa [nrf] using hy) e2) (by omega) (by rw [q5e]; omega) q1 q2 (q4q r1 h1 g1) (q4q r2 h2 g2)
theorem rcNeAt_P (I:Inv X pins σ H s) (d:Nat) (A:Around) (x y:PV) (x' y':V) (v u:Value) (hx:nrf x=true) (hy:nrf y=true) (hd:∀xs ys,x=.tup xs→y=.tup ys→dep x≤d) (hu:A.units+d<cLine) (rx:RV X.K H φ x x') (ry:RV X.K H φ y y') (qx:RelV x' v) (qy:RelV y' u):SeqAt.RcNeAt A s v u (!eqB x y):=by
 cases x with
 | non=>
  cases rx
  cases qx
  cases y with
  | non=>cases ry; cases qy; exact .none_none
  | bl b=>cases ry; cases qy; exact .none_bool b
  | int b=>cases ry; obtain ⟨t',rfl⟩:=qy; exact .none_int b t'
  | str b=>cases ry; obtain ⟨t',rfl⟩:=qy; exact .none_str b t'
  | tup ys=>obtain ⟨b,ws,rfl,sb,rb⟩:=ry; cases qy; obtain ⟨_,_,p,_⟩:=I.tuple sb; exact .none_tuple  p (by omega)
  | ty _=>simp [nrf] at hy
  | frl _=>simp [nrf] at hy
  | ref _=>simp [nrf] at hy
  | exc _=>simp [nrf] at hy
 | bl a=>
  cases rx
  cases qx
  cases y with
  | non=>cases ry; cases qy; exact .bool_none a
  | bl b=>cases ry; cases qy; exact .bool_bool a b
  | int b=>cases ry; obtain ⟨t',rfl⟩:=qy; exact .bool_int a b t'
  | str b=>cases ry; obtain ⟨t',rfl⟩:=qy; exact .bool_str a b t'
  | tup ys=>obtain ⟨b,ws,rfl,sb,rb⟩:=ry; cases qy; obtain ⟨_,_,p,_⟩:=I.tuple sb; exact .bool_tuple a p (by omega)
  | ty _=>simp [nrf] at hy
  | frl _=>simp [nrf] at hy
  | ref _=>simp [nrf] at hy
  | exc _=>simp [nrf] at hy
 | int a=>
  cases rx
  obtain ⟨t,rfl⟩:=qx
  cases y with
  | non=>cases ry; cases qy; exact .int_none a t
  | bl b=>cases ry; cases qy; exact .int_bool a t b
  | int b=>cases ry; obtain ⟨t',rfl⟩:=qy; exact .int_int a t b t'
  | str b=>cases ry; obtain ⟨t',rfl⟩:=qy; exact .int_str a t b t'
  | tup ys=>obtain ⟨b,ws,rfl,sb,rb⟩:=ry; cases qy; obtain ⟨_,_,p,_⟩:=I.tuple sb; exact .int_tuple a t p (by omega)
  | ty _=>simp [nrf] at hy
  | frl _=>simp [nrf] at hy
  | ref _=>simp [nrf] at hy
  | exc _=>simp [nrf] at hy
 | str a=>
  cases rx
  obtain ⟨t,rfl⟩:=qx
  cases y with
  | non=>cases ry; cases qy; exact .str_none a t
  | bl b=>cases ry; cases qy; exact .str_bool a t b
  | int b=>cases ry; obtain ⟨t',rfl⟩:=qy; exact .str_int a t b t'
  | str b=>cases ry; obtain ⟨t',rfl⟩:=qy; exact .str_str a t b t'
  | tup ys=>obtain ⟨b,ws,rfl,sb,rb⟩:=ry; cases qy; obtain ⟨_,_,p,_⟩:=I.tuple sb; exact .str_tuple a t p (by omega)
  | ty _=>simp [nrf] at hy
  | frl _=>simp [nrf] at hy
  | ref _=>simp [nrf] at hy
  | exc _=>simp [nrf] at hy
 | ty _=>simp [nrf] at hx
 | frl _=>simp [nrf] at hx
 | ref _=>simp [nrf] at hx
 | exc _=>simp [nrf] at hx
 | tup xs=>
  obtain ⟨a,vs,rfl,sa,ra⟩:=id rx
  cases qx
  obtain ⟨its,r1,p1,_⟩:=I.tuple sa
  cases y with
  | non=>cases ry; cases qy; exact .tuple_none p1 (by omega)
  | bl b=>cases ry; cases qy; exact .tuple_bool b p1 (by omega)
  | int b=>cases ry; obtain ⟨t,rfl⟩:=qy; exact .tuple_int b t p1 (by omega)
  | str b=>cases ry; obtain ⟨t,rfl⟩:=qy; exact .tuple_str b t p1 (by omega)
  | ty _=>simp [nrf] at hy
  | frl _=>simp [nrf] at hy
  | ref _=>simp [nrf] at hy
  | exc _=>simp [nrf] at hy
  | tup ys=>
   obtain ⟨b,ws,rfl,sb,rb⟩:=id ry
   cases qy
   obtain ⟨its2,r2,p2,_⟩:=I.tuple sb
   have e:eqB (.tup xs) (.tup ys)=((List.range (min its.toArray.size its2.toArray.size)).all (fun j=>eqB (xs.getD j .non) (ys.getD j .non)) && its.toArray.size == its2.toArray.size):=by
    simp only [eqB]
    rw [q5f,List.size_toArray,List.size_toArray,←r1.length,←r2.length,ra.length,rb.length]
   rw [e]
   have hd':=hd xs ys rfl rfl
   simp only [dep] at hd'
   refine .tuples p1 p2 (by omega) fun j h1 h2=>?_
   have hj1:j<xs.length:=by rw [ra.length,r1.length]; simpa using h1
   have hj2:j<ys.length:=by rw [rb.length,r2.length]; simpa using h2
   have e1:xs[j]?=some xs[j]:=List.getElem?_eq_getElem hj1
   have e2:ys[j]?=some ys[j]:=List.getElem?_eq_getElem hj2
   obtain ⟨v1,g1,q1⟩:=ra.get e1
   obtain ⟨v2,g2,q2⟩:=rb.get e2
   rw [q3h e1,q3h e2]
   have hdd:=q5t e1
   exact eqAt_P I (d - 1) A.in1 _ _ v1 v2 _ _ (q2c (by simpa [nrf] using hx) e1) (q2c (by simpa [nrf] using hy) e2) (by omega) (by rw [q5e]; omega) q1 q2 (q4q r1 h1 g1) (q4q r2 h2 g2)
theorem any_link {f:PV→Bool} {e:Value→Bool}:∀{its:List Value} {ys:List PV},its.length=ys.length→(∀(j:Nat) u y,its[j]?=some u→ys[j]?=some y→e u=f y)→its.any e=ys.any f
 | [],[],_,_=>rfl
 | u::its,y::ys,hl,he=>by
  rw [List.any_cons,List.any_cons,he 0 u y rfl rfl,any_link (by simpa using hl) fun j u y h1 h2=>he (j+1) u y (by simpa using h1) (by simpa using h2)]
 | [],_::_,hl,_=>by simp at hl
 | _::_,[],hl,_=>by simp at hl
end
def okEq (x:PV):Prop:=nrf x=true∧dep x≤190
def q6r (xs:List PV):Prop:=nrfs xs=true∧deps xs≤190
def cEqG (neg:Bool):F2:=fun x y S Q=>match x,y with
 | .tup xs,.tup ys=>(okEq (.tup xs)∧okEq (.tup ys))∧Q (.bl (neg ^^ eqBs xs ys)) S
 | .ref m,.ref n=>match q3u S m,q3u S n with
  | some xs,some ys=>(q6r xs∧q6r ys)∧Q (.bl (neg ^^ eqBs xs ys)) S
  | _,_=>False
 | .ref _,_=>False
 | _,.ref _=>False
 | x,y=>(nrf x=true∧nrf y=true)∧Q (.bl (neg ^^ eqB x y)) S
def cEq:F2:=cEqG false
def cNe:F2:=cEqG true
theorem eqBs_ne:∀{xs ys:List PV},xs.length≠ys.length→eqBs xs ys=false:=fun {xs ys} h=>by
 cases e:eqBs xs ys with
 | false=>rfl
 | true=>exact absurd (eqBs_len e) h
theorem eqBs_eq {xs ys:List PV} (h:xs.length=ys.length):eqBs xs ys=(List.range xs.length).all (fun j=>eqB (xs.getD j .non) (ys.getD j .non)):=by
 rw [q5f,←h,Nat.min_self]; simp
section
variable {X:Cx}
theorem q4s (b:Bool):(false ^^ b)=b:=by cases b<;>rfl
theorem q5w (b:Bool):(true ^^ b)=!b:=by cases b<;>rfl
theorem fin_b {pins:List (Addr×Obj)} {s:Shared} {σ:St} {H:Hp} {φ:List Addr} {S:q0h} {Q0:VC} {Q:VK} {b b':Bool} (I:Inv X pins σ H s) (k:KE X.K φ H Q0 Q) (R:Rel X.K φ S H) (q:Q0 (.bl b) S) (e:b=b'):EP X pins σ Q (.bool b') s:=by
 subst e
 exact ⟨.bl b,H,I,rfl,k _ S φ H _ q (List.prefix_refl _) (.refl _) R rfl⟩
theorem flatTup {x y:PV} (h:∀xs ys,x=.tup xs→y=.tup ys→False) (d:Nat):∀xs ys,x=.tup xs→y=.tup ys→dep x≤d:=fun xs ys a b=>(h xs ys a b).elim
theorem q1y (hu:X.A.units+200<cLine):OpR X (compareOp .Eq) (q5c X.K cEq):=by
 rintro pins s σ H x y v u Q I rx ry ⟨φ,S,px,py,Q0,R,hx,hy,h,k⟩
 unfold cEq cEqG at h
 split at h
 ·rename_i xs ys
  obtain ⟨⟨o1,o2⟩,h⟩:=h
  rw [q4s] at h
  exact rcAt_P I 190 X.A _ _ x y v u o1.1 o2.1 (fun _ _ _ _=>o1.2) (by omega) hx hy rx ry X.prog X.w X.xe _ (fin_b I k R h (by simp only [eqB]))
 ·rename_i m n
  split at h
  ·rename_i xs ys e1 e2
   obtain ⟨⟨o1,o2⟩,h⟩:=h
   rw [q4s] at h
   obtain ⟨a,rfl,qa⟩:=hx
   obtain ⟨b,rfl,qb⟩:=hy
   obtain ⟨vs,sa,ra⟩:=R.seq qa e1
   obtain ⟨ws,sb,rb⟩:=R.seq qb e2
   cases rx
   cases ry
   obtain ⟨its,r1,p1,_⟩:=I.list sa
   obtain ⟨its2,r2,p2,_⟩:=I.list sb
   by_cases hl:xs.length=ys.length
   ·rw [eqBs_eq hl] at h
    have hz:its.toArray.size=its2.toArray.size:=by rw [List.size_toArray,List.size_toArray,←r1.length,←r2.length,←ra.length,←rb.length,hl]
    refine SeqAt.eq_listAt (e:=fun j=>eqB (xs.getD j .non) (ys.getD j .non)) p1.isList p2.isList hz (by omega) (fun j h1 h2=>?_) (fin_b I k R h (by rw [List.size_toArray,←r1.length,←ra.length]))
    have hj1:j<xs.length:=by rw [ra.length,r1.length]; simpa using h1
    have hj2:j<ys.length:=by omega
    have e1:xs[j]?=some xs[j]:=List.getElem?_eq_getElem hj1
    have e2:ys[j]?=some ys[j]:=List.getElem?_eq_getElem hj2
    obtain ⟨v1,g1,q1⟩:=ra.get e1
    obtain ⟨v2,g2,q2⟩:=rb.get e2
    rw [q3h e1,q3h e2]
    have hdd:=q5t e1
    have:=o1.2
    exact eqAt_P I 190 X.A.in1 _ _ v1 v2 _ _ (q2c o1.1 e1) (q2c o2.1 e2) (by omega) (by rw [q5e]; omega) q1 q2 (q4q r1 h1 g1) (q4q r2 h2 g2)
   ·rw [eqBs_ne hl] at h
    have hz:(its.toArray.size != its2.toArray.size)=true:=by rw [List.size_toArray,List.size_toArray,←r1.length,←r2.length,←ra.length,←rb.length]; simpa using hl
    exact SeqAt.eq_list_lengthsAt p1.isList p2.isList hz (by omega) (fin_b I k R h rfl)
  ·exact h.elim
 ·exact h.elim
 ·exact h.elim
 ·rename_i h1 h2 h3 h4
  obtain ⟨⟨o1,o2⟩,h⟩:=h
  rw [q4s] at h
  exact rcAt_P I 0 X.A _ _ x y v u o1 o2 (flatTup (by assumption) _) (by omega) hx hy rx ry X.prog X.w X.xe _ (fin_b I k R h rfl)
theorem ops_ne (hu:X.A.units+200<cLine):OpR X (compareOp .NotEq) (q5c X.K cNe):=by
 rintro pins s σ H x y v u Q I rx ry ⟨φ,S,px,py,Q0,R,hx,hy,h,k⟩
 unfold cNe cEqG at h
 split at h
 ·rename_i xs ys
  obtain ⟨⟨o1,o2⟩,h⟩:=h
  rw [q5w] at h
  exact rcNeAt_P I 190 X.A _ _ x y v u o1.1 o2.1 (fun _ _ _ _=>o1.2) (by omega) hx hy rx ry X.prog X.w X.xe _ (fin_b I k R h (by simp only [eqB]))
 ·rename_i m n
  split at h
  ·rename_i xs ys e1 e2
   obtain ⟨⟨o1,o2⟩,h⟩:=h
   rw [q5w] at h
   obtain ⟨a,rfl,qa⟩:=hx
   obtain ⟨b,rfl,qb⟩:=hy
   obtain ⟨vs,sa,ra⟩:=R.seq qa e1
   obtain ⟨ws,sb,rb⟩:=R.seq qb e2
   cases rx
   cases ry
   obtain ⟨its,r1,p1,_⟩:=I.list sa
   obtain ⟨its2,r2,p2,_⟩:=I.list sb
   by_cases hl:xs.length=ys.length
   ·rw [eqBs_eq hl] at h
    have hz:its.toArray.size=its2.toArray.size:=by rw [List.size_toArray,List.size_toArray,←r1.length,←r2.length,←ra.length,←rb.length,hl]
    refine SeqAt.RcNeAt.lists (e:=fun j=>eqB (xs.getD j .non) (ys.getD j .non)) p1.isList p2.isList hz (by omega) (fun j h1 h2=>?_) X.prog X.w X.xe _ (fin_b I k R h (by rw [List.size_toArray,←r1.length,←ra.length]))
    have hj1:j<xs.length:=by rw [ra.length,r1.length]; simpa using h1
    have hj2:j<ys.length:=by omega
    have e1:xs[j]?=some xs[j]:=List.getElem?_eq_getElem hj1
    have e2:ys[j]?=some ys[j]:=List.getElem?_eq_getElem hj2
    obtain ⟨v1,g1,q1⟩:=ra.get e1
    obtain ⟨v2,g2,q2⟩:=rb.get e2
    rw [q3h e1,q3h e2]
    have hdd:=q5t e1
    have:=o1.2
    exact eqAt_P I 190 X.A.in1 _ _ v1 v2 _ _ (q2c o1.1 e1) (q2c o2.1 e2) (by omega) (by rw [q5e]; omega) q1 q2 (q4q r1 h1 g1) (q4q r2 h2 g2)
   ·rw [eqBs_ne hl] at h
    have hz:(its.toArray.size != its2.toArray.size)=true:=by rw [List.size_toArray,List.size_toArray,←r1.length,←r2.length,←ra.length,←rb.length]; simpa using hl
    exact SeqAt.RcNeAt.lists_lengths p1.isList p2.isList hz (by omega) X.prog X.w X.xe _ (fin_b I k R h rfl)
  ·exact h.elim
 ·exact h.elim
 ·exact h.elim
 ·rename_i h1 h2 h3 h4
  obtain ⟨⟨o1,o2⟩,h⟩:=h
  rw [q5w] at h
  exact rcNeAt_P I 0 X.A _ _ x y v u o1 o2 (flatTup (by assumption) _) (by omega) hx hy rx ry X.prog X.w X.xe _ (fin_b I k R h rfl)
def inS (i j:Str):Bool:=!(Builtin.Str.occurrences j i 0 j.length 1).isEmpty
def cInG (neg:Bool):F2:=fun x y S Q=>match x,y with
 | .str i,.str j=>Q (.bl (neg ^^ inS i j)) S
 | x,.tup ys=>(okEq x∧q6r ys)∧Q (.bl (neg ^^ ys.any fun y=>eqB y x)) S
 | x,.ref n=>match q3u S n with
  | some ys=>(okEq x∧q6r ys)∧Q (.bl (neg ^^ ys.any fun y=>eqB y x)) S
  | none=>False
 | _,_=>False
def cIn:F2:=cInG false
open Classical in
theorem in_items {pins:List (Addr×Obj)} {s:Shared} {σ:St} {H:Hp} {φ:List Addr} (hu:X.A.units+200<cLine) (I:Inv X pins σ H s) {x:PV} {x':V} {v:Value} {ys:List PV} {vs:List V} {its:List Value} (ox:okEq x) (oy:q6r ys) (rx:RV X.K H φ x x') (qx:RelV x' v) (ry:RVs X.K H φ ys vs) (r:Vals vs its) :
  ∃e:Value→Bool,(∀u,u∈its.toArray→SeqAt.EqAt X.A.in1 s u v (e u))∧its.toArray.any e=ys.any fun y=>eqB y x:=by
 have key:∀(j:Nat) u y,its[j]?=some u→ys[j]?=some y→∃y',RV X.K H φ y y'∧RelV y' u:=fun j u y h1 h2=>by
  obtain ⟨y',g,q⟩:=ry.get h2
  obtain ⟨u',g',q'⟩:=r.get g
  rw [h1] at g'
  cases g'
  exact ⟨y',q,q'⟩
 refine ⟨fun u=>decide (∃(j:Nat) (y:PV),its[j]?=some u∧ys[j]?=some y∧eqB y x=true),?_,?_⟩
 ·intro u hu'
  have hm:u∈its:=by simpa using hu'
  obtain ⟨j,hj,e⟩:=List.mem_iff_getElem.mp hm
  have hjy:j<ys.length:=by rw [ry.length,r.length]; exact hj
  have e1:its[j]?=some u:=by rw [List.getElem?_eq_getElem hj,e]
  have e2:ys[j]?=some ys[j]:=List.getElem?_eq_getElem hjy
  obtain ⟨y',q,q'⟩:=key j u _ e1 e2
  have hdd:=q5t e2
  have o2:=oy.2
  have base:=eqAt_P I 190 X.A.in1 _ x y' x' u v (q2c oy.1 e2) ox.1 (by omega) (by rw [q5e]; omega) q rx q' qx
  have:decide (∃(j:Nat) (y:PV),its[j]?=some u∧ys[j]?=some y∧eqB y x=true)=eqB ys[j] x:=by
   cases hb:eqB ys[j] x with
   | true=>exact decide_eq_true ⟨j,_,e1,e2,hb⟩
   | false=>
    refine decide_eq_false ?_
    rintro ⟨i,y,h1,h2,h3⟩
    obtain ⟨y2,g,g'⟩:=key i u y h1 h2
    have:=g'.inj q'
    subst this
    have:=RV.inj I _ _ _ (q2c oy.1 h2) (q2c oy.1 e2) g q
    rw [this,hb] at h3
    cases h3
  dsimp only
  rw [this]
  exact base
 ·rw [List.any_toArray]
  refine any_link (by rw [←r.length,ry.length]) fun j u y h1 h2=>?_
  obtain ⟨y',q,q'⟩:=key j u y h1 h2
  cases hb:eqB y x with
  | true=>exact decide_eq_true ⟨j,_,h1,h2,hb⟩
  | false=>
   refine decide_eq_false ?_
   rintro ⟨i,z,g1,g2,g3⟩
   obtain ⟨y2,g,g'⟩:=key i u z g1 g2
   have:=g'.inj q'
   subst this
   have:=RV.inj I _ _ _ (q2c oy.1 g2) (q2c oy.1 h2) g q
   rw [this,hb] at g3
   cases g3
theorem ops_in (hu:X.A.units+200<cLine):OpR X (compareOp .In) (q5c X.K cIn):=by
 rintro pins s σ H x y v u Q I rx ry ⟨φ,S,px,py,Q0,R,hx,hy,h,k⟩
 unfold cIn cInG at h
 split at h
 ·rename_i i j
  rw [q4s] at h
  exact op_in_str pins s σ H x y v u Q I rx ry ⟨i,j,hx,hy,k _ S φ H _ h (List.prefix_refl _) (.refl _) R rfl⟩
 ·rename_i ys _
  obtain ⟨⟨o1,o2⟩,h⟩:=h
  rw [q4s] at h
  obtain ⟨a,vs,rfl,sa,ra⟩:=hy
  cases ry
  obtain ⟨its,r1,p1,_⟩:=I.tuple sa
  obtain ⟨e,h1,h2⟩:=in_items hu I o1 o2 hx rx ra r1
  exact SeqAt.in_tupleAt e p1 h1 (fin_b I k R h (by rw [h2]))
 ·rename_i n _
  split at h
  ·rename_i ys es
   obtain ⟨⟨o1,o2⟩,h⟩:=h
   rw [q4s] at h
   obtain ⟨a,rfl,qa⟩:=hy
   cases ry
   obtain ⟨vs,sa,ra⟩:=R.seq qa es
   obtain ⟨its,r1,p1,_⟩:=I.list sa
   obtain ⟨e,h1,h2⟩:=in_items hu I o1 o2 hx rx ra r1
   exact SeqAt.in_listAt e p1.isList h1 (fin_b I k R h (by rw [h2]))
  ·exact h.elim
 ·exact h.elim
def isNon:PV→Bool
 | .non=>true
 | _=>false
def cIs:F2:=fun x y S Q=>match y with
 | .non=>Q (.bl (isNon x)) S
 | _=>False
theorem isNon_dec {K:PySem.W.Frag} {H:Hp} {φ:List Addr} {x:PV} {x':V} (r:RV K H φ x x'):decide (x'=.non)=isNon x:=by
 cases x with
 | non=>cases r; rfl
 | bl b=>cases r; exact decide_eq_false (fun z=>nomatch z)
 | int b=>cases r; exact decide_eq_false (fun z=>nomatch z)
 | str b=>cases r; exact decide_eq_false (fun z=>nomatch z)
 | ty b=>cases r; exact decide_eq_false (fun z=>nomatch z)
 | tup b=>obtain ⟨a,vs,rfl,_⟩:=r; exact decide_eq_false (fun z=>nomatch z)
 | frl b=>obtain ⟨a,vs,rfl,_⟩:=r; exact decide_eq_false (fun z=>nomatch z)
 | ref b=>obtain ⟨a,rfl,_⟩:=r; exact decide_eq_false (fun z=>nomatch z)
 | exc b=>obtain ⟨a,rfl,_⟩:=r; exact decide_eq_false (fun z=>nomatch z)
theorem ops_is:OpR X (compareOp .Is) (q5c X.K cIs):=by
 rintro pins s σ H x y v u Q I rx ry ⟨φ,S,px,py,Q0,R,hx,hy,h,k⟩
 unfold cIs at h
 split at h
 ·exact op_isN pins s σ H x y v u Q I rx ry ⟨hy,k _ S φ H _ h (List.prefix_refl _) (.refl _) R (by rw [isNon_dec hx]; rfl)⟩
 ·exact h.elim
end
end Ev
namespace Ev
open PySem L2
theorem atI_rel {K:PySem.W.Frag} {H:Hp} {φ:List Addr} {xs:List PV} {vs:List V} {i:Int} {v:PV} (r:RVs K H φ xs vs) (e:atI xs i=some v):∃x,atI vs i=some x∧RV K H φ v x:=by
 unfold atI at e ⊢
 rw [←r.length]
 cases h:ixN xs.length i with
 | none=>rw [h] at e; cases e
 | some j=>
  rw [h] at e
  obtain ⟨x,h1,h2⟩:=r.get (i:=j) e
  exact ⟨x,h1,h2⟩
def valP (kvs:List (Key×PV)) (k:Key):Option PV:=(kvs.find? fun kv=>decide (kv.1=k)).map (·.2)
def putP (kvs:List (Key×PV)) (k:Key) (v:PV):List (Key×PV):=
 if kvs.any (fun kv=>decide (kv.1=k)) then kvs.map fun kv=>if kv.1=k then (kv.1,v) else kv else kvs++[(k,v)]
def q9i:PV→Option Key
 | .int i=>some (.inl i)
 | .str x=>some (.inr x)
 | _=>none
theorem q7p {K:PySem.W.Frag} {H:Hp} {φ:List Addr} {y:PV} {y':V} {k:Key} (r:RV K H φ y y') (e:q9i y=some k):y'=kV k:=by
 cases y with
 | int i=>cases e; exact r
 | str i=>cases e; exact r
 | _=>cases e
theorem RKs.val {K:PySem.W.Frag} {H:Hp} {φ:List Addr} {xs:List (Key×PV)} {ys:List (Key×V)} (h:RKs K H φ xs ys) (k:Key):(∀v,valP xs k=some v→∃x,valV ys k=some x∧RV K H φ v x)∧(valP xs k=none→valV ys k=none):=by
 unfold RKs at h
 induction h with
 | nil=>exact ⟨fun v e=>by simp [valP] at e,fun _=>rfl⟩
 | @cons p q ps qs hd t ih=>
  by_cases e:p.1=k
  ·have e1:valP (p::ps) k=some p.2:=by simp [valP,List.find?_cons,e]
   rw [e1,q8h (hd.1.symm.trans e)]
   exact ⟨fun v z=>by cases z; exact ⟨_,rfl,hd.2⟩,fun z=>by cases z⟩
  ·have e1:valP (p::ps) k=valP ps k:=by simp [valP,List.find?_cons,e]
   rw [e1,q8i (fun z=>e (hd.1.trans z))]
   exact ih
theorem RKs.any {K:PySem.W.Frag} {H:Hp} {φ:List Addr} {xs:List (Key×PV)} {ys:List (Key×V)} (h:RKs K H φ xs ys) (k:Key):(xs.any fun kv=>decide (kv.1=k))=ys.any fun kv=>decide (kv.1=k):=by
 unfold RKs at h
 induction h with
 | nil=>rfl
 | @cons p q ps qs hd t ih=>rw [List.any_cons,List.any_cons,ih,hd.1]
theorem RKs.repl {K:PySem.W.Frag} {H:Hp} {φ:List Addr} {xs:List (Key×PV)} {ys:List (Key×V)} (h:RKs K H φ xs ys) (k:Key) {v:PV} {x:V} (r:RV K H φ v x):RKs K H φ (xs.map fun kv=>if kv.1=k then (kv.1,v) else kv) (ys.map fun kv=>if kv.1=k then (kv.1,x) else kv):=by
 unfold RKs at h ⊢
 induction h with
 | nil=>exact .nil
 | @cons p q ps qs hd t ih=>
  rw [List.map_cons,List.map_cons]
  refine .cons ?_ ih
  by_cases e:p.1=k
  ·rw [if_pos e,if_pos (hd.1.symm.trans e)]
   exact ⟨hd.1,r⟩
  ·rw [if_neg e,if_neg (fun z=>e (hd.1.trans z))]
   exact hd
theorem RKs.snoc {K:PySem.W.Frag} {H:Hp} {φ:List Addr} {xs:List (Key×PV)} {ys:List (Key×V)} (h:RKs K H φ xs ys) (k:Key) {v:PV} {x:V} (r:RV K H φ v x):RKs K H φ (xs++[(k,v)]) (ys++[(k,x)]):=by
 unfold RKs at h ⊢
 induction h with
 | nil=>exact .cons ⟨rfl,r⟩ .nil
 | cons hd t ih=>exact .cons hd ih
theorem RKs.put {K:PySem.W.Frag} {H:Hp} {φ:List Addr} {xs:List (Key×PV)} {ys:List (Key×V)} (h:RKs K H φ xs ys) (k:Key) {v:PV} {x:V} (r:RV K H φ v x):RKs K H φ (putP xs k v) (putK ys k x):=by
 unfold putP putK
 rw [h.any]
 split
 ·exact h.repl k r
 ·exact h.snoc k r
theorem RKs.length {K:PySem.W.Frag} {H:Hp} {φ:List Addr} {xs:List (Key×PV)} {ys:List (Key×V)} (h:RKs K H φ xs ys):xs.length=ys.length:=Paired.length h
def bIx:F2:=fun x y S Q=>match x,y with
 | .tup xs,.int i=>match atI xs i with
  | some v=>Q v S
  | none=>False
 | .str z,.int i=>z.length≤sizeLine∧match atI z.cps.toList i with
  | some c=>Q (.str ⟨#[c]⟩) S
  | none=>False
 | .frl xs,.int i=>match atI xs i with
  | some v=>Q v S
  | none=>False
 | .ref n,y=>match S[n]? with
  | some (.lst xs)=>match y with
   | .int i=>match atI xs i with
    | some v=>Q v S
    | none=>False
   | _=>False
  | some (.dK kvs)=>match q9i y with
   | some k=>match valP kvs k with
    | some v=>Q v S
    | none=>False
   | none=>False
  | _=>False
 | _,_=>False
theorem ix_dict {X:Cx} (hu:X.A.units+200<cLine):IxR X (fun x y H Q=>∃a v,x=.ref a∧DGet H a y (some v)∧Q v H):=by
 intro value slice pins s σ H x y v u Q I rx ry h hs
 obtain ⟨a,w,rfl,g,q⟩:=h
 cases rx
 exact PyProof.Rows.tail_any (dict_typeIs I g) PySem.F.slot_dict_getitem.lookup (d_getItem (by omega) I g ry fun w' s3 I3 rw'=>⟨w,H,I3,rw',q⟩) hs
section
variable {X:Cx} {G:GX} {pos:Pos}
theorem ixs_seq (hu:X.A.units+200<cLine):IxR X (q5c X.K bIx):=by
 rintro value slice pins s σ H x y v u Q I rx ry ⟨φ,S,px,py,Q0,R,hx,hy,h,k⟩ hs
 unfold bIx at h
 split at h
 ·rename_i xs i
  split at h
  ·rename_i w e
   obtain ⟨a,vs,rfl,sa,ra⟩:=hx
   cases hy
   obtain ⟨w',e',r'⟩:=atI_rel ra e
   exact ix_tup value slice pins s σ H _ _ v u Q I rx ry ⟨a,vs,i,w',rfl,rfl,sa,e',k _ S φ H _ h (List.prefix_refl _) (.refl _) R r'⟩ hs
  ·exact h.elim
 ·rename_i z i
  obtain ⟨hz,h⟩:=h
  split at h
  ·rename_i c e
   cases hx
   cases hy
   exact ix_str value slice pins s σ H _ _ v u Q I rx ry ⟨z,i,c,rfl,rfl,hz,e,k _ S φ H _ h (List.prefix_refl _) (.refl _) R rfl⟩ hs
  ·exact h.elim
 ·rename_i xs i
  split at h
  ·rename_i w e
   obtain ⟨a,vs,rfl,sa,ra⟩:=hx
   cases hy
   obtain ⟨w',e',r'⟩:=atI_rel ra e
   exact ix_list value slice pins s σ H _ _ v u Q I rx ry ⟨a,vs,i,w',rfl,rfl,sa.sq,e',k _ S φ H _ h (List.prefix_refl _) (.refl _) R r'⟩ hs
  ·exact h.elim
 ·rename_i n
  obtain ⟨a,rfl,qa⟩:=hx
  split at h
  ·rename_i xs es
   split at h
   ·rename_i i
    split at h
    ·rename_i w e
     cases hy
     obtain ⟨vs,sa,ra⟩:=R.obj n a _ qa es
     obtain ⟨w',e',r'⟩:=atI_rel ra e
     exact ix_list value slice pins s σ H _ _ v u Q I rx ry ⟨a,vs,i,w',rfl,rfl,SqL.of sa,e',k _ S φ H _ h (List.prefix_refl _) (.refl _) R r'⟩ hs
    ·exact h.elim
   ·exact h.elim
  ·rename_i kvs es
   split at h
   ·rename_i kk ek
    split at h
    ·rename_i w e
     have hk:=q7p hy ek
     subst hk
     obtain ⟨ws,sa,ra⟩:=R.obj n a _ qa es
     obtain ⟨w',e',r'⟩:=(ra.val kk).1 w e
     refine ix_dict hu value slice pins s σ H _ _ v u Q I rx ry ⟨a,w',rfl,?_,k _ S φ H _ h (List.prefix_refl _) (.refl _) R r'⟩ hs
     rw [←e']
     exact DGet.k sa
    ·exact h.elim
   ·exact h.elim
  ·exact h.elim
 ·exact h.elim
variable {a b:Expr} {wa wb:WE}
theorem q0k (hu:X.A.units+200<cLine) (ha:SimE X G a wa) (hb:SimE X G b wb) (hs:PlainIx b:=by exact fun _ _=>rfl):SimE X G (.Subscript a b pos) (wBin bIx wa wb):=(pe_ix (ixs_seq hu) ha hb hs).imp fun _ _ _ h=>q8k h
def cutP {α:Type} (xs:List α) (lo hi:Option Int):List α:=(xs.drop (HT.sIx xs.length 0 lo)).take (HT.sIx xs.length xs.length hi - HT.sIx xs.length 0 lo)
theorem cut_rel {K:PySem.W.Frag} {H:Hp} {φ:List Addr} {xs:List PV} {vs:List V} (lo hi:Option Int) (r:RVs K H φ xs vs):RVs K H φ (cutP xs lo hi) (cutV vs lo hi):=by
 unfold cutP cutV
 rw [←r.length]
 exact (r.drop _).take _
abbrev F3:=PV→Option Int→Option Int→q0h→VC→Prop
def bSl:F3:=fun x lo hi S Q=>match x with
 | .str z=>z.length≤sizeLine∧Q (.str (Txt.slice z lo hi)) S
 | .tup xs=>¬(HT.sIx xs.length 0 lo=0∧HT.sIx xs.length xs.length hi=xs.length)∧Q (.tup (cutP xs lo hi)) S
 | .frl xs=>Q (.ref S.length) (S++[.lst (cutP xs lo hi)])
 | .ref n=>match q3u S n with
  | some xs=>Q (.ref S.length) (S++[.lst (cutP xs lo hi)])
  | none=>False
 | _=>False
def liftR3 (K:PySem.W.Frag) (f:F3):V→Option Int→Option Int→Hp→VK→Prop:=fun x' lo hi H Q=>∃φ S x Q0,Rel K φ S H∧RV K H φ x x'∧f x lo hi S Q0∧KE K φ H Q0 Q
theorem sls:SlR X (liftR3 X.K bSl):=by
 rintro pins s σ H x v vl vu lo hi sl Q I rx hs pl pu ⟨φ,S,px,Q0,R,hx,h,k⟩
 unfold bSl at h
 split at h
 ·rename_i z
  cases hx
  exact sl_str pins s σ H _ v vl vu lo hi sl Q I rx hs pl pu ⟨z,rfl,h.1,k _ S φ H _ h.2 (List.prefix_refl _) (.refl _) R rfl⟩
 ·rename_i xs
  obtain ⟨a,vs,rfl,sa,ra⟩:=hx
  exact sl_tup pins s σ H _ v vl vu lo hi sl Q I rx hs pl pu ⟨a,vs,rfl,sa,by rw [←ra.length]; exact h.1,k.tup h.2 R (cut_rel lo hi ra)⟩
 ·rename_i xs
  obtain ⟨a,vs,rfl,sa,ra⟩:=hx
  exact sl_list pins s σ H _ v vl vu lo hi sl Q I rx hs pl pu ⟨a,vs,rfl,sa.sq,k.lst h R (cut_rel lo hi ra)⟩
 ·rename_i n
  split at h
  ·rename_i xs es
   obtain ⟨a,rfl,qa⟩:=hx
   obtain ⟨vs,sa,ra⟩:=R.seq qa es
   exact sl_list pins s σ H _ v vl vu lo hi sl Q I rx hs pl pu ⟨a,vs,rfl,sa,k.lst h R (cut_rel lo hi ra)⟩
  ·exact h.elim
 ·exact h.elim
abbrev WO:=Loc→q0h→EK→(Option Int→q0h→Prop)→Prop
def KO (K:PySem.W.Frag) (φ:List Addr) (H:Hp) (Q0:Option Int→q0h→Prop) (Q:Option Int→Hp→Prop):Prop:=∀v S' φ' H',Q0 v S'→φ <+: φ'→Mono H H'→Rel K φ' S' H'→Q v H'
def liftO (K:PySem.W.Frag) (G:GX) (w:WO):TO:=fun σV H Q=>∃φ σ S Q0,LRel K G H φ σ σV∧Rel K φ S H∧w σ S G.ek Q0∧KO K φ H Q0 Q
def SimO (X:Cx) (G:GX) (e:Option Expr) (w:WO):Prop:=PO X e (liftO X.K G w)
theorem PO.imp {e:Option Expr} {t t':TO} (h:PO X e t) (i:∀σ H Q,t' σ H Q→t σ H Q):PO X e t':=fun pins s σ H Q I q=>h pins s σ H Q I (i σ H Q q)
def q4j:WO:=fun _ S _ Q=>Q none S
def q8m (w:WE):WO:=fun σ S E Q=>w σ S E fun x S1=>match x with
 | .int i=>Q (some i) S1
 | _=>False
theorem q4z:SimO X G none q4j:=PO.imp po_none fun σV H Q hh1=>by obtain ⟨φ,σ,S,Q0,L,R,h,k⟩:=hh1; exact (k none S φ H h (List.prefix_refl _) (.refl _) R)
theorem q4y {e:Expr} {w:WE} (h:SimE X G e w):SimO X G (some e) (q8m w):=
 PO.imp (po_some h) fun σV H Q hh1=>by obtain ⟨φ,σ,S,Q0,L,R,h,k⟩:=hh1; exact (⟨φ,σ,S,_,L,R,h,fun v S1 φ1 H1 x q p1 m1 R1 r1=>by
  cases v with
  | int i=>exact ⟨i,r1,k _ S1 φ1 H1 q p1 m1 R1⟩
  | _=>exact q.elim⟩)
def wSl (w:WE) (wl wh:WO):WE:=fun σ S E Q=>w σ S E fun x S1=>wl σ S1 E fun lo S2=>wh σ S2 E fun hi S3=>bSl x lo hi S3 Q
theorem q4x {e:Expr} {w:WE} {lo hi:Option Expr} {wl wh:WO} {p2:Pos} (he:SimE X G e w) (hl:SimO X G lo wl) (hh:SimO X G hi wh):SimE X G (.Subscript e (.Slice lo hi none p2) pos) (wSl w wl wh):=
 (pe_slice sls he hl hh).imp fun σV H Q hh1=>by obtain ⟨φ,σ,S,Q0,L,R,h,k⟩:=hh1; exact (⟨φ,σ,S,_,L,R,h,fun v S1 φ1 H1 x q p1 m1 R1 r1=>
  ⟨φ1,σ,S1,_,L.mono m1 p1,R1,q,fun l S2 φ2 H2 q2 p2 m2 R2=>
   ⟨φ2,σ,S2,_,(L.mono m1 p1).mono m2 p2,R2,q2,fun u S3 φ3 H3 q3 p3 m3 R3=>
    ⟨φ3,S3,v,Q0,R3,RV.mono m3 p3 _ _ (RV.mono m2 p2 _ _ r1),q3,k.up ((p1.trans p2).trans p3) ((m1.trans m2).trans m3)⟩⟩⟩⟩)
abbrev FL:=List PV→q0h→VC→Prop
def liftC (K:PySem.W.Frag) (f:FL):List V→Hp→VK→Prop:=fun xs' H Q=>∃φ S xs Q0,Rel K φ S H∧RVs K H φ xs xs'∧f xs S Q0∧KE K φ H Q0 Q
def wCB (f:FL) (wa:WA):WE:=fun σ S E Q=>wa σ S E fun xs S1=>f xs S1 Q
theorem lift_cb {f:FL} {wa:WA} {σV:St} {H:Hp} {Q:VK} (h:q6j X.K G (wCB f wa) σV H Q):tCB (liftC X.K f) (liftA X.K G wa) σV H Q:=by
 obtain ⟨φ,σ,S,Q0,L,R,h,k⟩:=h
 exact ⟨φ,σ,S,_,L,R,h,fun v S1 φ1 H1 x q p1 m1 R1 r1=>⟨φ1,S1,v,Q0,R1,r1,q,k.up p1 m1⟩⟩
theorem q0v {f:FL} {x:Str} {id:String} {p:Pos} {e:Expr} {es:List Expr} {wa:WA} (hc:q5v X (.builtin id) (liftC X.K f)) (hm:X.mg x=none) (hv:bootBuiltins x=some (.builtin id)) (ha:SimA X G (e::es) wa) (hg:Gl X x:=by rfl) (hn:x≠ "__name__" :=by decide) (hdb:(x == ("__debug__" : Str))=false:=by decide)
  (he:starEach (e::es) X.env=(false,eval e X.env)::starEach es X.env:=by rfl) (hpl:(backTo pos (starEach es X.env)).any (·.1)=false:=by rfl):SimE X G (.Call (.Name x p) (e::es) [] pos) (wCB f wa):=
 (pe_callB hc hg hm hv ha hn hdb he hpl).imp fun _ _ _ h=>lift_cb h
theorem q6e {f:FL} {x:Str} {T:String} {p:Pos} {e:Expr} {es:List Expr} {wa:WA} (hc:q5v X (.type T) (liftC X.K f)) (hm:X.mg x=none) (hv:bootBuiltins x=some (.type T)) (ha:SimA X G (e::es) wa) (hg:Gl X x:=by rfl) (hn:x≠ "__name__" :=by decide) (hdb:(x == ("__debug__" : Str))=false:=by decide)
  (he:starEach (e::es) X.env=(false,eval e X.env)::starEach es X.env:=by rfl) (hpl:(backTo pos (starEach es X.env)).any (·.1)=false:=by rfl):SimE X G (.Call (.Name x p) (e::es) [] pos) (wCB f wa):=
 (pe_callTy hc hg hm hv ha hn hdb he hpl).imp fun _ _ _ h=>lift_cb h
theorem q2o {K:PySem.W.Frag} {H:Hp} {φ:List Addr} {x:PV} {vs:List V} (r:RVs K H φ [x] vs):∃v,vs=[v]∧RV K H φ x v:=by
 obtain ⟨y,ys,rfl,r1,r2⟩:=r
 rw [show ys=[] from r2]
 exact ⟨y,rfl,r1⟩
theorem two_rel {K:PySem.W.Frag} {H:Hp} {φ:List Addr} {x y:PV} {vs:List V} (r:RVs K H φ [x,y] vs):∃v w,vs=[v,w]∧RV K H φ x v∧RV K H φ y w:=by
 obtain ⟨a,as,rfl,r1,r2⟩:=r
 obtain ⟨b,rfl,r3⟩:=q2o r2
 exact ⟨a,b,rfl,r1,r3⟩
def fLen:FL:=fun xs S Q=>match xs with
 | [.str z]=>z.length≤sizeLine∧Q (.int z.length) S
 | [.tup xs]=>Q (.int xs.length) S
 | [.frl xs]=>Q (.int xs.length) S
 | [.ref n]=>match q3u S n with
  | some xs=>Q (.int xs.length) S
  | none=>False
 | _=>False
theorem q2b:q5v X (.builtin "len") (liftC X.K fLen):=by
 rintro pins s σ H xs us Q I r ⟨φ,S,pxs,Q0,R,hx,h,k⟩
 unfold fLen at h
 split at h
 ·rename_i z
  obtain ⟨v,rfl,r1⟩:=q2o hx
  cases r1
  exact call_len_str pins s σ H _ us Q I r ⟨z,rfl,h.1,k _ S φ H _ h.2 (List.prefix_refl _) (.refl _) R rfl⟩
 ·rename_i ys
  obtain ⟨v,rfl,a,vs,rfl,sa,ra⟩:=q2o hx
  exact q6d pins s σ H _ us Q I r ⟨a,vs,rfl,.inr sa,k _ S φ H _ h (List.prefix_refl _) (.refl _) R (by rw [←ra.length]; rfl)⟩
 ·rename_i ys
  obtain ⟨v,rfl,a,vs,rfl,sa,ra⟩:=q2o hx
  exact q6d pins s σ H _ us Q I r ⟨a,vs,rfl,.inl sa.sq,k _ S φ H _ h (List.prefix_refl _) (.refl _) R (by rw [←ra.length]; rfl)⟩
 ·rename_i n
  split at h
  ·rename_i ys es
   obtain ⟨v,rfl,a,rfl,qa⟩:=q2o hx
   obtain ⟨vs,sa,ra⟩:=R.seq qa es
   exact q6d pins s σ H _ us Q I r ⟨a,vs,rfl,.inl sa,k _ S φ H _ h (List.prefix_refl _) (.refl _) R (by rw [←ra.length]; rfl)⟩
  ·exact h.elim
 ·exact h.elim
def tyP (x:PV) (S:q0h):Option String:=match x with
 | .non=>some "NoneType"
 | .bl _=>some "bool"
 | .int _=>some "int"
 | .str _=>some "str"
 | .tup _=>some "tuple"
 | .ref n=>match S[n]? with
  | some (.lst _)=>some "list"
  | some (.dK _)=>some "dict"
  | _=>none
 | .frl _=>some "list"
 | .ty _=>none
 | .exc _=>none
def isT (T C:String):Bool:=T == C || (T == "bool" && C == "int")
def kinds:List String:=["NoneType", "bool", "int", "str", "tuple", "list", "dict"]
def q5d:List String:=["list", "tuple", "str", "int", "bool", "dict"]
theorem kit_tab (K:PySem.W.Frag):∀T∈kinds,∀C∈q5d,PySem.W.kitOne K (.type T) (.type C)=some (isT T C):=by
 intro T hT C hC
 simp only [kinds,List.mem_cons,List.not_mem_nil,or_false] at hT
 simp only [q5d,List.mem_cons,List.not_mem_nil,or_false] at hC
 rcases hT with rfl | rfl | rfl | rfl | rfl | rfl | rfl<;>rcases hC with rfl | rfl | rfl | rfl | rfl | rfl<;>kernel_rfl
theorem tyP_kind {x : PV} {S : q0h} {T : String} (h : tyP x S = some T) : T ∈ kinds := by
 unfold tyP at h
 split at h
 all_goals first
  | (cases h; simp [kinds])
  | (split at h <;> first | (cases h; simp [kinds]) | cases h)
  | cases h
end
end Ev
namespace Ev
open PySem L2
section
variable {X:Cx} {G:GX} {pos:Pos}
theorem isi_one {pins:List (Addr×Obj)} {s:Shared} {σ:St} {H:Hp} {φ:List Addr} {S:q0h} {x:PV} {x':V} {u c:Value} {T:String} {b:Bool} {A:Around} {E:Value→Shared→Prop} {Q:Value→Shared→Prop} (I:Inv X pins σ H s) (R:Rel X.K φ S H) (rx:RV X.K H φ x x') (q:RelV x' u)
  (ht:tyP x S=some T) (e:PySem.W.kitOne X.K (.type T) c=some b) (h:∀tk,Q (.bool b) { s with toks:=tk }):wpAny (model X.prog X.w) A (call (.builtin "isinstance") [u,c]) Q E s:=by
 unfold tyP at ht
 split at ht
 ·cases ht; cases rx; cases (show u=Value.none from q); exact PySem.W.kia_one PySem.W.kitx_none I.kIn True.intro e (fun z=>nomatch z) h
 ·rename_i y; cases ht; cases rx; cases (show u=Value.bool y from q); exact PySem.W.kia_one PySem.W.kitx_bool I.kIn True.intro e (fun z=>nomatch z) h
 ·rename_i y; cases ht; cases rx; obtain ⟨t,rfl⟩:=(show ∃t,u=Value.int y t from q); exact PySem.W.kia_one PySem.W.kitx_int I.kIn True.intro e (fun z=>nomatch z) h
 ·rename_i y; cases ht; cases rx; obtain ⟨t,rfl⟩:=(show ∃t,u=Value.str y t from q); exact PySem.W.kia_one PySem.W.kitx_str I.kIn True.intro e (fun z=>nomatch z) h
 ·cases ht
  obtain ⟨a,vs,rfl,sa,ra⟩:=rx
  cases q
  obtain ⟨its,_,⟨o,h1,h2,_⟩,_⟩:=I.tuple sa
  exact PySem.W.kia_one PySem.W.kitx_tuple I.kIn ⟨o,h1,h2⟩ e (fun z=>nomatch z) h
 ·rename_i n
  obtain ⟨a,rfl,qa⟩:=rx
  cases q
  split at ht
  ·rename_i xs es
   cases ht
   obtain ⟨vs,e1,_⟩:=R.obj n a _ qa es
   exact isinst_ok (x:=.ref a) I rfl (TyOf.lst (K:=X.K) e1) e h
  ·rename_i xs es
   cases ht
   obtain ⟨vs,e1,_⟩:=R.obj n a _ qa es
   exact isinst_ok (x:=.ref a) I rfl (TyOf.dK (K:=X.K) e1) e h
  ·cases ht
 ·cases ht
  obtain ⟨a,vs,rfl,sa,ra⟩:=rx
  cases q
  obtain ⟨its,_,p,_⟩:=I.list sa.sq
  obtain ⟨o,h1,h2,_⟩:=p.isList
  exact PySem.W.kia_one PySem.W.kitx_list I.kIn ⟨o,h1,h2⟩ e (fun z=>nomatch z) h
 ·cases ht
 ·cases ht
theorem isi_tup {pins:List (Addr×Obj)} {s:Shared} {σ:St} {H:Hp} {φ:List Addr} {S:q0h} {x:PV} {x':V} {u:Value} {T:String} {p:Addr} {its:List Value} {b:Bool} {A:Around} {E:Value→Shared→Prop} {Q:Value→Shared→Prop} (I:Inv X pins σ H s) (R:Rel X.K φ S H) (rx:RV X.K H φ x x') (q:RelV x' u)
  (ht:tyP x S=some T) (ho:PyProof.Rows.IsTup s.heap p its.toArray) (e:PySem.W.kitAny X.K (.type T) its=some b) (h:∀tk,Q (.bool b) { s with toks:=tk }):wpAny (model X.prog X.w) A (call (.builtin "isinstance") [u,.ref p]) Q E s:=by
 obtain ⟨⟨cls,dd,dat,sl⟩,ho,hc,n,hd⟩:=ho
 simp only at hc hd
 subst hc hd
 unfold tyP at ht
 split at ht
 ·cases ht; cases rx; cases (show u=Value.none from q); exact PySem.W.kia_tup PySem.W.kitx_none I.kIn True.intro ho e (fun z=>nomatch z) h
 ·rename_i y; cases ht; cases rx; cases (show u=Value.bool y from q); exact PySem.W.kia_tup PySem.W.kitx_bool I.kIn True.intro ho e (fun z=>nomatch z) h
 ·rename_i y; cases ht; cases rx; obtain ⟨t,rfl⟩:=(show ∃t,u=Value.int y t from q); exact PySem.W.kia_tup PySem.W.kitx_int I.kIn True.intro ho e (fun z=>nomatch z) h
 ·rename_i y; cases ht; cases rx; obtain ⟨t,rfl⟩:=(show ∃t,u=Value.str y t from q); exact PySem.W.kia_tup PySem.W.kitx_str I.kIn True.intro ho e (fun z=>nomatch z) h
 ·cases ht
  obtain ⟨a,vs,rfl,sa,ra⟩:=rx
  cases q
  obtain ⟨_,_,⟨o,h1,h2,_⟩,_⟩:=I.tuple sa
  exact PySem.W.kia_tup PySem.W.kitx_tuple I.kIn ⟨o,h1,h2⟩ ho e (fun z=>nomatch z) h
 ·rename_i m
  obtain ⟨a,rfl,qa⟩:=rx
  cases q
  split at ht
  ·rename_i xs es
   cases ht
   obtain ⟨vs,e1,_⟩:=R.obj m a _ qa es
   obtain ⟨_,_,n,_,h1⟩:=(show q3a X.prog X.w H s.heap a (.lst vs) from I.hok a _ e1)
   exact PySem.W.kia_tup PySem.W.kitx_list I.kIn ⟨_,h1,rfl⟩ ho e (fun z=>nomatch z) h
  ·rename_i xs es
   cases ht
   obtain ⟨vs,e1,_⟩:=R.obj m a _ qa es
   obtain ⟨_,_,_,_,p⟩:=(show q3a X.prog X.w H s.heap a (.dK vs) from I.hok a _ e1)
   obtain ⟨o,es,ep,h1,h2,_⟩:=p
   exact PySem.W.kia_tup PySem.W.kitx_dict I.kIn ⟨o,h1,h2.1⟩ ho e (fun z=>nomatch z) h
  ·cases ht
 ·cases ht
  obtain ⟨a,vs,rfl,sa,ra⟩:=rx
  cases q
  obtain ⟨_,_,p,_⟩:=I.list sa.sq
  obtain ⟨o,h1,h2,_⟩:=p.isList
  exact PySem.W.kia_tup PySem.W.kitx_list I.kIn ⟨o,h1,h2⟩ ho e (fun z=>nomatch z) h
 ·cases ht
 ·cases ht
def fIsi:FL:=fun xs S Q=>match xs with
 | [x,.ty D]=>match tyP x S with
  | some T=>D∈q5d∧Q (.bl (isT T D)) S
  | none=>False
 | [x,.tup [.ty D,.ty D']]=>match tyP x S with
  | some T=>(D∈q5d∧D'∈q5d)∧Q (.bl (isT T D || isT T D')) S
  | none=>False
 | _=>False
theorem q2z:q5v X (.builtin "isinstance") (liftC X.K fIsi):=by
 rintro pins s σ H xs us Q I r ⟨φ,S,pxs,Q0,R,hx,h,k⟩
 unfold fIsi at h
 split at h
 ·rename_i x D
  split at h
  ·rename_i T ht
   obtain ⟨v,w,rfl,r1,r2⟩:=two_rel hx
   cases r2
   obtain ⟨u,c,rfl,ru,rc⟩:=vals2 r
   cases (show c=Value.type D from rc)
   exact isi_one I R r1 ru ht (kit_tab X.K T (tyP_kind ht) D h.1) fun tk=>⟨.bl _,H,I.tok tk,rfl,k _ S φ H _ h.2 (List.prefix_refl _) (.refl _) R rfl⟩
  ·exact h.elim
 ·rename_i x D D'
  split at h
  ·rename_i T ht
   obtain ⟨v,w,rfl,r1,a,vs,rfl,sa,ra⟩:=two_rel hx
   obtain ⟨d1,d2,rfl,q1,q2⟩:=two_rel ra
   cases q1
   cases q2
   obtain ⟨u,c,rfl,ru,rc⟩:=vals2 r
   cases (show c=Value.ref a from rc)
   obtain ⟨its,rv,p,_⟩:=I.tuple sa
   obtain ⟨v1,v2,rfl,g1,g2⟩:=vals2 rv
   cases (show v1=Value.type D from g1)
   cases (show v2=Value.type D' from g2)
   exact isi_tup I R r1 ru ht p (kit_any2 (kit_tab X.K T (tyP_kind ht) D h.1.1) (kit_tab X.K T (tyP_kind ht) D' h.1.2)) fun tk=>⟨.bl _,H,I.tok tk,rfl,k _ S φ H _ h.2 (List.prefix_refl _) (.refl _) R rfl⟩
  ·exact h.elim
 ·exact h.elim
def q6k:List PV→Option (List Int)
 | []=>some []
 | .int i::r=>(q6k r).map (i::·)
 | _=>none
def blsOf:List PV→Option (List Bool)
 | []=>some []
 | .bl i::r=>(blsOf r).map (i::·)
 | _=>none
theorem q9m:∀{xs:List PV} {ns:List Int},q6k xs=some ns→xs=ns.map PV.int
 | [],ns,h=>by simp [q6k] at h; subst h; rfl
 | x::r,ns,h=>by
  cases x with
  | int i=>
   simp only [q6k,Option.map_eq_some_iff] at h
   obtain ⟨ms,h1,rfl⟩:=h
   rw [q9m h1]; rfl
  | _=>simp [q6k] at h
theorem blsOf_eq:∀{xs:List PV} {ns:List Bool},blsOf xs=some ns→xs=ns.map PV.bl
 | [],ns,h=>by simp [blsOf] at h; subst h; rfl
 | x::r,ns,h=>by
  cases x with
  | bl i=>
   simp only [blsOf,Option.map_eq_some_iff] at h
   obtain ⟨ms,h1,rfl⟩:=h
   rw [blsOf_eq h1]; rfl
  | _=>simp [blsOf] at h
theorem intsOf_map (ns:List Int):q6k (ns.map PV.int)=some ns:=by induction ns with
 | nil=>rfl
 | cons a r ih=>simp [q6k,ih]
def fSum:FL:=fun xs S Q=>match xs with
 | [.frl ys]=>match q6k ys with
  | some ns=>Q (.int ns.sum) S
  | none=>False
 | [.ref n]=>match (q3u S n).bind q6k with
  | some ns=>Q (.int ns.sum) S
  | none=>False
 | _=>False
def fAll:FL:=fun xs S Q=>match xs with
 | [.ref n]=>match (q3u S n).bind blsOf with
  | some ns=>Q (.bl (ns.all id)) S
  | none=>False
 | _=>False
theorem calls_sum (hc:X.calm=true):q5v X (.builtin "sum") (liftC X.K fSum):=by
 rintro pins s σ H xs us Q I r ⟨φ,S,pxs,Q0,R,hx,h,k⟩
 unfold fSum at h
 split at h
 ·split at h
  ·rename_i ns e
   have:=q9m e
   subst this
   obtain ⟨v,rfl,a,vs,rfl,sa,ra⟩:=q2o hx
   have sa:=sa.sq
   rw [ra.ints] at sa
   exact call_sum hc pins s σ H _ us Q I r ⟨a,ns,rfl,sa,k _ S φ H _ h (List.prefix_refl _) (.refl _) R rfl⟩
  ·exact h.elim
 ·rename_i n
  split at h
  ·rename_i ns e
   obtain ⟨ys,e1,e2⟩:=Option.bind_eq_some_iff.mp e
   have:=q9m e2
   subst this
   obtain ⟨v,rfl,a,rfl,qa⟩:=q2o hx
   obtain ⟨vs,sa,ra⟩:=R.seq qa e1
   rw [ra.ints] at sa
   exact call_sum hc pins s σ H _ us Q I r ⟨a,ns,rfl,sa,k _ S φ H _ h (List.prefix_refl _) (.refl _) R rfl⟩
  ·exact h.elim
 ·exact h.elim
theorem calls_all (hc:X.calm=true):q5v X (.builtin "all") (liftC X.K fAll):=by
 rintro pins s σ H xs us Q I r ⟨φ,S,pxs,Q0,R,hx,h,k⟩
 unfold fAll at h
 split at h
 ·rename_i n
  split at h
  ·rename_i ns e
   obtain ⟨ys,e1,e2⟩:=Option.bind_eq_some_iff.mp e
   have:=blsOf_eq e2
   subst this
   obtain ⟨v,rfl,a,rfl,qa⟩:=q2o hx
   obtain ⟨vs,sa,ra⟩:=R.seq qa e1
   rw [ra.bls] at sa
   exact call_all hc pins s σ H _ us Q I r ⟨a,ns,rfl,sa,k _ S φ H _ h (List.prefix_refl _) (.refl _) R rfl⟩
  ·exact h.elim
 ·exact h.elim
def fList:FL:=fun xs S Q=>match xs with
 | [.frl ys]=>Q (.ref S.length) (S++[.lst ys])
 | [.tup ys]=>Q (.ref S.length) (S++[.lst ys])
 | [.ref n]=>match q3u S n with
  | some ys=>Q (.ref S.length) (S++[.lst ys])
  | none=>False
 | _=>False
def fTuple:FL:=fun xs S Q=>match xs with
 | [.tup ys]=>Q (.tup ys) S
 | [.ref n]=>match q3u S n with
  | some ys=>Q (.tup ys) S
  | none=>False
 | _=>False
theorem q7r:q5v X (.type "list") (liftC X.K fList):=by
 rintro pins s σ H xs us Q I r ⟨φ,S,pxs,Q0,R,hx,h,k⟩
 unfold fList at h
 split at h
 ·obtain ⟨v,rfl,a,vs,rfl,sa,ra⟩:=q2o hx
  exact q6c pins s σ H _ us Q I r ⟨a,vs,rfl,.inl sa.sq,k.lst h R ra⟩
 ·obtain ⟨v,rfl,a,vs,rfl,sa,ra⟩:=q2o hx
  exact q6c pins s σ H _ us Q I r ⟨a,vs,rfl,.inr sa,k.lst h R ra⟩
 ·rename_i n
  split at h
  ·rename_i ys e
   obtain ⟨v,rfl,a,rfl,qa⟩:=q2o hx
   obtain ⟨vs,sa,ra⟩:=R.seq qa e
   exact q6c pins s σ H _ us Q I r ⟨a,vs,rfl,.inl sa,k.lst h R ra⟩
  ·exact h.elim
 ·exact h.elim
theorem calls_tuple:q5v X (.type "tuple") (liftC X.K fTuple):=by
 rintro pins s σ H xs us Q I r ⟨φ,S,pxs,Q0,R,hx,h,k⟩
 unfold fTuple at h
 split at h
 ·obtain ⟨v,rfl,a,vs,rfl,sa,ra⟩:=q2o hx
  exact q7i pins s σ H _ us Q I r ⟨a,vs,rfl,.inr ⟨sa,k _ S φ H _ h (List.prefix_refl _) (.refl _) R ⟨a,vs,rfl,sa,ra⟩⟩⟩
 ·rename_i n
  split at h
  ·rename_i ys e
   obtain ⟨v,rfl,a,rfl,qa⟩:=q2o hx
   obtain ⟨vs,sa,ra⟩:=R.seq qa e
   exact q7i pins s σ H _ us Q I r ⟨a,vs,rfl,.inl ⟨sa,k.tup h R ra⟩⟩
  ·exact h.elim
 ·exact h.elim
def fStr:FL:=fun xs S Q=>match xs with
 | [.int i]=>i.natAbs.log2<1920∧Q (.str (toString i)) S
 | _=>False
abbrev FM:=PV→List PV→q0h→VC→Prop
def liftM (K:PySem.W.Frag) (f:FM):V→List V→Hp→VK→Prop:=fun x' xs' H Q=>∃φ S x xs Q0,Rel K φ S H∧RV K H φ x x'∧RVs K H φ xs xs'∧f x xs S Q0∧KE K φ H Q0 Q
def wBM (T:String) (f:FM) (wo:WE) (wa:WA):WE:=fun σ S E Q=>wo σ S E fun x S1=>tyP x S1=some T∧wa σ S1 E fun xs S2=>f x xs S2 Q
def wBM0 (T:String) (f:FM) (wo:WE):WE:=fun σ S E Q=>wo σ S E fun x S1=>tyP x S1=some T∧f x [] S1 Q
theorem ty_rel {K:PySem.W.Frag} {H:Hp} {φ:List Addr} {S:q0h} {x:PV} {x':V} {T:String} (R:Rel K φ S H) (r:RV K H φ x x') (h:tyP x S=some T) (hT:T = "str" ∨T = "list" ∨T = "dict"):tyV K T x' H:=by
 unfold tyP at h
 split at h
 ·cases h; simp at hT
 ·cases h; simp at hT
 ·cases h; simp at hT
 ·cases h; cases r; rfl
 ·cases h; simp at hT
 ·rename_i n
  obtain ⟨a,rfl,qa⟩:=r
  split at h
  ·rename_i xs es
   cases h
   obtain ⟨vs,e1,_⟩:=R.obj n a _ qa es
   exact .inl ⟨rfl,vs,SqL.of e1⟩
  ·rename_i xs es
   cases h
   obtain ⟨vs,e1,_⟩:=R.obj n a _ qa es
   exact .inr (.inr (.inl ⟨rfl,.inl ⟨vs,e1⟩⟩))
  ·cases h
 ·cases h
  obtain ⟨a,vs,rfl,sa,ra⟩:=r
  exact .inl ⟨rfl,vs,sa.sq⟩
 ·cases h
 ·cases h
theorem q4n {f:FM} {T id:String} {name:Str} {o e:Expr} {es:List Expr} {apos cpos:Pos} {wo:WE} {wa:WA} (pa:PlainAttrs T) (slot:Slot T name id) (hty:typeOf (.builtin id)=pure (.type "method_descriptor")) (hm:MtR X id (liftM X.K f)) (ho:SimE X G o wo) (ha:SimA X G (e::es) wa)
  (hT:T = "str" ∨T = "list" ∨T = "dict" :=by first | exact Or.inl rfl | exact Or.inr (Or.inl rfl) | exact Or.inr (Or.inr rfl))
  (hbase:attributeBase o name X.env (eval o X.env)=eval o X.env:=by rfl)
  (hfew:((backTo cpos (starEach (e::es) X.env)).all (fun x=>!x.1) && (backToKw cpos (keywordEach [] X.env)).all (fun x=>x.1.isSome)
   && decide ((e::es).length+([]:List Keyword).length+(if ([]:List Keyword).isEmpty then 0 else 1)<30))=true:=by rfl)
  (hline:(apos.endLine == cpos.line)=true:=by rfl) (hs:starEach (e::es) X.env=(false,eval e X.env)::starEach es X.env:=by rfl) (hplain:(backTo cpos (starEach es X.env)).any (·.1)=false:=by rfl) :
  SimE X G (.Call (.Attribute o name apos) (e::es) [] cpos) (wBM T f wo wa):=
 (pe_bm pa slot hty hm ho ha hbase hfew hline hs hplain).imp fun σV H Q hh1=>by obtain ⟨φ,σ,S,Q0,L,R,h,k⟩:=hh1; exact (⟨φ,σ,S,_,L,R,h,fun v S1 φ1 H1 x hh2 p1 m1 R1 r1=>by obtain ⟨ht,q⟩:=hh2; exact (⟨ty_rel R1 r1 ht hT,
  ⟨φ1,σ,S1,_,L.mono m1 p1,R1,q,fun vs S2 φ2 H2 xs q2 p2 m2 R2 r2=>⟨φ2,S2,v,vs,Q0,R2,RV.mono m2 p2 _ _ r1,r2,q2,k.up (p1.trans p2) (m1.trans m2)⟩⟩⟩)⟩)
theorem q8u {f:FM} {T id:String} {name:Str} {o:Expr} {apos cpos:Pos} {wo:WE} (pa:PlainAttrs T) (slot:Slot T name id) (hty:typeOf (.builtin id)=pure (.type "method_descriptor")) (hm:MtR X id (liftM X.K f)) (ho:SimE X G o wo)
  (hT:T = "str" ∨T = "list" ∨T = "dict" :=by first | exact Or.inl rfl | exact Or.inr (Or.inl rfl) | exact Or.inr (Or.inr rfl))
  (hbase:attributeBase o name X.env (eval o X.env)=eval o X.env:=by rfl) (hline:(apos.endLine == cpos.line)=true:=by rfl) :
  SimE X G (.Call (.Attribute o name apos) [] [] cpos) (wBM0 T f wo):=
 (pe_bm0 pa slot hty hm ho hbase hline).imp fun σV H Q hh1=>by obtain ⟨φ,σ,S,Q0,L,R,h,k⟩:=hh1; exact (⟨φ,σ,S,_,L,R,h,fun v S1 φ1 H1 x hh2 p1 m1 R1 r1=>by obtain ⟨ht,q⟩:=hh2; exact (⟨ty_rel R1 r1 ht hT,⟨φ1,S1,v,[],Q0,R1,r1,rfl,q,k.up p1 m1⟩⟩)⟩)
theorem KE.put {K:PySem.W.Frag} {φ:List Addr} {H:Hp} {Q0:VC} {Q:VK} {S:q0h} {n:Nat} {a:Addr} {old:List V} {xs:List PV} {vs:List V} {y:PV} {y':V} (k:KE K φ H Q0 Q) (R:Rel K φ S H) (qa:φ[n]?=some a) (e:H a=some (.lst old)) (r:RVs K H φ xs vs) (ry:RV K H φ y y') (q:Q0 y (S.set n (.lst xs))):Q y' (upd H a (.lst vs)):=
 k _ _ φ _ _ q (List.prefix_refl _) (.lst e) (R.put (o:=.lst xs) qa (.lst e) ⟨vs,q1w,RVs.mono (.lst e) (List.prefix_refl _) _ _ r⟩) (RV.mono (.lst e) (List.prefix_refl _) _ _ ry)
def q1z:FM:=fun x xs S Q=>match x,xs with
 | .ref n,[y]=>match q6i S n with
  | some ys=>ys.length<sizeLine∧Q .non (S.set n (.lst (ys++[y])))
  | none=>False
 | _,_=>False
theorem q2i:MtR X "list.append" (liftM X.K q1z):=by
 rintro pins s σ H x xs v us Q I rx rs ⟨φ,S,px,pxs,Q0,R,hx,hxs,h,k⟩
 unfold q1z at h
 split at h
 ·rename_i n y
  split at h
  ·rename_i ys e
   obtain ⟨a,rfl,qa⟩:=hx
   obtain ⟨y',rfl,ry⟩:=q2o hxs
   obtain ⟨vs,ea,ra⟩:=R.lst qa e
   exact mt_append pins s σ H _ _ v us Q I rx rs ⟨a,vs,y',rfl,rfl,ea,by rw [←ra.length]; exact h.1,k.put R qa ea (ra.append (.one ry)) (show RV X.K H φ .non .non from rfl) h.2⟩
  ·exact h.elim
 ·exact h.elim
def mPop:FM:=fun x xs S Q=>match x,xs with
 | .ref n,[]=>match q6i S n with
  | some ys=>match ys.getLast? with
   | some y=>Q y (S.set n (.lst ys.dropLast))
   | none=>False
  | none=>False
 | _,_=>False
theorem q9b:MtR X "list.pop" (liftM X.K mPop):=by
 rintro pins s σ H x xs v us Q I rx rs ⟨φ,S,px,pxs,Q0,R,hx,hxs,h,k⟩
 unfold mPop at h
 split at h
 ·rename_i n
  split at h
  ·rename_i ys e
   split at h
   ·rename_i y ey
    obtain ⟨a,rfl,qa⟩:=hx
    have hxs':xs=[]:=hxs
    subst hxs'
    obtain ⟨vs,ea,ra⟩:=R.lst qa e
    rw [List.getLast?_eq_getElem?] at ey
    obtain ⟨y',e',r'⟩:=ra.get ey
    rw [ra.length] at e'
    exact mt_pop pins s σ H _ _ v us Q I rx rs ⟨a,vs,y',rfl,rfl,ea,e',k.put R qa ea ra.dropLast r' h⟩
   ·exact h.elim
  ·exact h.elim
 ·exact h.elim
def mPopAt:FM:=fun x xs S Q=>match x,xs with
 | .ref n,[.int i]=>match q6i S n with
  | some ys=>match ixN ys.length i with
   | some j=>match ys[j]? with
    | some y=>(-(2 ^ 63)≤i∧i<2 ^ 63)∧Q y (S.set n (.lst (ys.eraseIdx j)))
    | none=>False
   | none=>False
  | none=>False
 | _,_=>False
def q9e:FM:=fun x xs S Q=>match x,xs with
 | .ref n,[.ref m]=>match q6i S n,q6i S m with
  | some ys,some zs=>ys.length+zs.length≤sizeLine∧Q .non (S.set n (.lst (ys++zs)))
  | _,_=>False
 | .ref n,[.tup zs]=>match q6i S n with
  | some ys=>ys.length+zs.length≤sizeLine∧Q .non (S.set n (.lst (ys++zs)))
  | none=>False
 | _,_=>False
theorem ext_tup:MtM X "list.extend" (fun x vs H Q=>∃l b xs zs,x=.ref l∧vs=[.ref b]∧H l=some (.lst xs)∧SqT X.K H b zs∧xs.length+zs.length≤sizeLine∧Q .non (upd H l (.lst (xs++zs)))):=by
 intro pins s σ H x vs v us Q I rx rv h
 obtain ⟨l,b,xs,zs,rfl,rfl,hH,hB,hz,q⟩:=h
 cases rx
 obtain ⟨u,rfl,ru⟩:=rv.one
 cases ru
 obtain ⟨z,its,n,r,hl,e⟩:=I.lstM hH
 obtain ⟨its2,r2,⟨⟨cls,dd,dat,sl⟩,h1,h2,n2,h3⟩,z2⟩:=I.tuple hB
 simp only at h2 h3
 subst h2 h3
 have hl2:=r2.length
 have hss:its.toArray.size+its2.toArray.size≤sizeLine:=by simp only [List.size_toArray]; omega
 have hlong:¬(!its.toArray.isEmpty && Builtin.List.listTooLong (its.toArray.size+its2.toArray.size))=true:=by rw [notLongL hss,Bool.and_false]; exact Bool.false_ne_true
 refine call_meets F.slot_list_extend ⟨_,e,rfl⟩ F.entry_list_extend (F.args_list_extend_2 _ _) (extT l its.toArray n b its2.toArray n2 dd sl hlong (by rw [List.size_toArray]; omega) (by omega)) ⟨e,h1,?_⟩
 exact ⟨.non,_,I.lset (its':=its++its2) hH e (by simp) (r.append r2) (by rw [List.length_append]; omega),rfl,q⟩
theorem mts_extend:MtR X "list.extend" (liftM X.K q9e):=by
 rintro pins s σ H x xs v us Q I rx rs ⟨φ,S,px,pxs,Q0,R,hx,hxs,h,k⟩
 unfold q9e at h
 split at h
 ·rename_i n m
  split at h
  ·rename_i ys zs e1 e2
   obtain ⟨a,rfl,qa⟩:=hx
   obtain ⟨y',rfl,b,rfl,qb⟩:=q2o hxs
   obtain ⟨vs,ea,ra⟩:=R.lst qa e1
   obtain ⟨ws,eb,rb⟩:=R.lst qb e2
   exact mt_extend pins s σ H _ _ v us Q I rx rs ⟨a,b,vs,ws,rfl,rfl,ea,eb,by rw [←ra.length,←rb.length]; exact h.1,k.put (y:=.non) R qa ea (ra.append rb) rfl h.2⟩
  ·exact h.elim
 ·rename_i n zs
  split at h
  ·rename_i ys e1
   obtain ⟨a,rfl,qa⟩:=hx
   obtain ⟨y',rfl,b,ws,rfl,sb,rb⟩:=q2o hxs
   obtain ⟨vs,ea,ra⟩:=R.lst qa e1
   exact ext_tup pins s σ H _ _ v us Q I rx rs ⟨a,b,vs,ws,rfl,rfl,ea,sb,by rw [←ra.length,←rb.length]; exact h.1,k.put (y:=.non) R qa ea (ra.append rb) rfl h.2⟩
  ·exact h.elim
 ·exact h.elim
theorem mts_popAt:MtR X "list.pop" (liftM X.K mPopAt):=by
 rintro pins s σ H x xs v us Q I rx rs ⟨φ,S,px,pxs,Q0,R,hx,hxs,h,k⟩
 unfold mPopAt at h
 split at h
 ·rename_i n i
  split at h
  ·rename_i ys e
   split at h
   ·rename_i j ej
    split at h
    ·rename_i y ey
     obtain ⟨a,rfl,qa⟩:=hx
     obtain ⟨y',rfl,ry⟩:=q2o hxs
     cases ry
     obtain ⟨vs,ea,ra⟩:=R.lst qa e
     obtain ⟨y',e',r'⟩:=ra.get ey
     rw [ra.length] at ej
     exact mt_popAt pins s σ H _ _ v us Q I rx rs ⟨a,vs,i,j,y',rfl,rfl,ea,h.1.1,h.1.2,(ixN_seq ej).1,e',k.put R qa ea (ra.eraseIdx _) r' h.2⟩
    ·exact h.elim
   ·exact h.elim
  ·exact h.elim
 ·exact h.elim
theorem PJ.imp {e:List Expr} {t t':TJ} (h:PJ X e t) (i:∀σ H a Q,t' σ H a Q→t σ H a Q):PJ X e t':=fun pins s σ H acc Q I q=>h pins s σ H acc Q I (i σ H acc Q q)
end
end Ev
namespace Ev
open PySem L2
structure PEnds where
 nx:Loc→q0h→Prop
 rt:VC
 bk:Loc→q0h→Prop:=fun _ _=>False
 ct:Loc→q0h→Prop:=fun _ _=>False
abbrev WS:=PEnds→EK→Loc→q0h→Prop
def KN (K:PySem.W.Frag) (G:GX) (φ:List Addr) (H:Hp) (Q0:Loc→q0h→Prop) (Q:St→Hp→Prop):Prop:=∀σ' S' φ' H' σV',Q0 σ' S'→φ <+: φ'→Mono H H'→Rel K φ' S' H'→LRel K G H' φ' σ' σV'→Q σV' H'
theorem KN.up {K:PySem.W.Frag} {G:GX} {φ φ1:List Addr} {H H1:Hp} {Q0:Loc→q0h→Prop} {Q:St→Hp→Prop} (k:KN K G φ H Q0 Q) (p:φ <+: φ1) (m:Mono H H1):KN K G φ1 H1 Q0 Q:=fun σ' S' φ' H' σV' q p' m'=>k σ' S' φ' H' σV' q (p.trans p') (m.trans m')
structure KS (K:PySem.W.Frag) (G:GX) (φ:List Addr) (H:Hp) (D0:PEnds) (D:Ends):Prop where
 nx:KN K G φ H D0.nx D.nx
 rt:KE K φ H D0.rt D.rt
 bk:KN K G φ H D0.bk D.bk
 ct:KN K G φ H D0.ct D.ct
theorem KS.up {K:PySem.W.Frag} {G:GX} {φ φ1:List Addr} {H H1:Hp} {D0:PEnds} {D:Ends} (k:KS K G φ H D0 D) (p:φ <+: φ1) (m:Mono H H1):KS K G φ1 H1 D0 D:=⟨k.nx.up p m,k.rt.up p m,k.bk.up p m,k.ct.up p m⟩
def liftS (K:PySem.W.Frag) (G:GX) (w:WS):TS:=fun D σV H=>∃φ σ S D0,LRel K G H φ σ σV∧Rel K φ S H∧w D0 G.ek σ S∧KS K G φ H D0 D
def SimS (X:Cx) (G:GX) (st:Stmt) (w:WS):Prop:=PS X st (liftS X.K G w)
def q9r (X:Cx) (G:GX) (st:List Stmt) (w:WS):Prop:=PSs X st (liftS X.K G w)
theorem _root_.L2.PS.imp {X:Cx} {e:Stmt} {t t':TS} (h:PS X e t) (i:∀D σ H,t' D σ H→t D σ H):PS X e t':=fun pins s σ H D I q=>h pins s σ H D I (i D σ H q)
theorem _root_.L2.PSs.imp {X:Cx} {e:List Stmt} {t t':TS} (h:PSs X e t) (i:∀D σ H,t' D σ H→t D σ H):PSs X e t':=fun pins s σ H D I q=>h pins s σ H D I (i D σ H q)
section
variable {X:Cx} {G:GX} {pos:Pos}
def q2a:WS:=fun D _ σ S=>D.nx σ S
def wSeq (w1 w2:WS):WS:=fun D E σ S=>w1 { D with nx:=w2 D E } E σ S
theorem q0t:q9r X G [] q2a:=pss_nil.imp fun D σV H hh1=>by obtain ⟨φ,σ,S,D0,L,R,h,k⟩:=hh1; exact (k.nx σ S φ H σV h (List.prefix_refl _) (.refl _) R L)
theorem q0g {st:Stmt} {w:WS} (h:SimS X G st w):q9r X G [st] w:=pss_one h
theorem q0f {st:Stmt} {rest:List Stmt} {w1 w2:WS} (h1:SimS X G st w1) (h2:q9r X G rest w2):q9r X G (st::rest) (wSeq w1 w2):=
 (pss_cons h1 h2).imp fun D σV H hh1=>by obtain ⟨φ,σ,S,D0,L,R,h,k⟩:=hh1; exact (⟨φ,σ,S,_,L,R,h,⟨fun σ' S' φ' H' σV' q p m R' L'=>⟨φ',σ',S',D0,L',R',q,k.up p m⟩,k.rt,k.bk,k.ct⟩⟩)
def q4f (w:WE):WS:=fun D E σ S=>w σ S E fun _ S1=>D.nx σ S1
theorem q2s {e:Expr} {w:WE} (he:SimE X G e w) (hs:swapsWith e none pos.line X.env=pure false:=by rfl):SimS X G (.Expr e pos) (q4f w):=
 (ps_expr he hs).imp fun D σV H hh1=>by obtain ⟨φ,σ,S,D0,L,R,h,k⟩:=hh1; exact (⟨φ,σ,S,_,L,R,h,fun v S1 φ1 H1 x q p1 m1 R1 r1=>k.nx σ S1 φ1 H1 σV q p1 m1 R1 (L.mono m1 p1)⟩)
def wRet (w:WE):WS:=fun D E σ S=>w σ S E D.rt
theorem q0r {e:Expr} {w:WE} (he:SimE X G e w):SimS X G (.Return (some e) pos) (wRet w):=
 (ps_ret he).imp fun D σV H hh1=>by obtain ⟨φ,σ,S,D0,L,R,h,k⟩:=hh1; exact (⟨φ,σ,S,_,L,R,h,k.rt⟩)
def wIfS (c:WT) (t u:WS):WS:=fun D E σ S=>c σ S E fun b S1=>if b=true then t D E σ S1 else u D E σ S1
theorem q1d {c:Expr} {a b:List Stmt} {wc:WT} {t u:WS} (hc:SimT X G c wc) (ha:q9r X G a t) (hb:q9r X G b u):SimS X G (.If c a b pos) (wIfS wc t u):=
 (ps_if hc ha hb).imp fun D σV H hh1=>by obtain ⟨φ,σ,S,D0,L,R,h,k⟩:=hh1; exact (⟨φ,σ,S,_,L,R,h,fun c S1 φ1 H1 q p1 m1 R1=>by
  cases c with
  | true=>exact ⟨φ1,σ,S1,D0,L.mono m1 p1,R1,q,k.up p1 m1⟩
  | false=>exact ⟨φ1,σ,S1,D0,L.mono m1 p1,R1,q,k.up p1 m1⟩⟩)
abbrev WG:=PV→Loc→q0h→EK→(Loc→q0h→Prop)→Prop
abbrev WGs:=List PV→Loc→q0h→EK→(Loc→q0h→Prop)→Prop
def liftG (K:PySem.W.Frag) (G:GX) (w:WG):TG:=fun v' σV H Q=>∃φ v σ S Q0,LRel K G H φ σ σV∧Rel K φ S H∧RV K H φ v v'∧w v σ S G.ek Q0∧KN K G φ H Q0 Q
def liftGs (K:PySem.W.Frag) (G:GX) (w:WGs):TGs:=fun v' σV H Q=>∃φ v σ S Q0,LRel K G H φ σ σV∧Rel K φ S H∧RVs K H φ v v'∧w v σ S G.ek Q0∧KN K G φ H Q0 Q
def SimG (X:Cx) (G:GX) (tg:Expr) (w:WG):Prop:=PG X tg (liftG X.K G w)
def SimGs (X:Cx) (G:GX) (tg:List Expr) (w:WGs):Prop:=PGs X tg (liftGs X.K G w)
theorem PG.imp {e:Expr} {t t':TG} (h:PG X e t) (i:∀v σ H Q,t' v σ H Q→t v σ H Q):PG X e t':=fun pins s σ H v u Q I r q=>h pins s σ H v u Q I r (i v σ H Q q)
theorem PGs.imp {e:List Expr} {t t':TGs} (h:PGs X e t) (i:∀v σ H Q,t' v σ H Q→t v σ H Q):PGs X e t':=fun pins s σ H v u Q I r q=>h pins s σ H v u Q I r (i v σ H Q q)
def q1s (i:Nat):WG:=fun v σ S _ Q=>Q (σ.set i (some v)) S
theorem q1b {i:Nat} {x:Str} (hN:X.N.Nodup) (hi:X.N[i]?=some x:=by rfl) (hx:L2.Loc X.env.scope x:=by first | exact Or.inl rfl | exact Or.inr rfl) (hf:X.fn x=true∨X.env.scope.names.lookup x=some .local:=by first | exact .inl rfl | exact .inr rfl | assumption):SimG X G (.Name x pos) (q1s i):=
 PG.imp (pg_name (i:=i) hN hi hx hf) fun v' σV H Q hh1=>by obtain ⟨φ,v,σ,S,Q0,L,R,r,h,k⟩:=hh1; exact (k _ S φ H _ h (List.prefix_refl _) (.refl _) R (L.set i r))
def q6m:WGs:=fun vs σ S _ Q=>match vs with
 | []=>Q σ S
 | _=>False
def q2d (w:WG) (ws:WGs):WGs:=fun vs σ S E Q=>match vs with
 | v::r=>w v σ S E fun σ' S'=>ws r σ' S' E Q
 | _=>False
theorem q4b:SimGs X G [] q6m:=PGs.imp pgs_nil fun v' σV H Q hh1=>by
 obtain ⟨φ,v,σ,S,Q0,L,R,r,h,k⟩:=hh1
 cases v with
 | nil=>exact ⟨r,k _ S φ H _ h (List.prefix_refl _) (.refl _) R L⟩
 | cons _ _=>exact h.elim
theorem q1h {e:Expr} {es:List Expr} {w:WG} {ws:WGs} (h1:SimG X G e w) (h2:SimGs X G es ws) (hs:(assignEach (e::es) X.env).map (·.2)=assign e X.env::(assignEach es X.env).map (·.2):=by rfl):SimGs X G (e::es) (q2d w ws):=
 PGs.imp (pgs_cons h1 h2 hs) fun v' σV H Q hh1=>by
  obtain ⟨φ,v,σ,S,Q0,L,R,r,h,k⟩:=hh1
  cases v with
  | nil=>exact h.elim
  | cons a b=>
   obtain ⟨y,ys,rfl,r1,r2⟩:=r
   exact ⟨y,ys,rfl,φ,a,σ,S,_,L,R,r1,h,fun σ' S' φ' H' σV' q p m R' L'=>⟨φ',b,σ',S',Q0,L',R',RVs.mono m p _ _ r2,q,k.up p m⟩⟩
def q6l (n:Nat) (ws:WGs):WG:=fun v σ S E Q=>match v with
 | .tup xs=>xs.length=n∧ws xs σ S E Q
 | _=>False
theorem q4o {es:List Expr} {kk:Nat} {ws:WGs} (n:Nat) (hc:X.calm=true) (h:SimGs X G es ws) (hn:(assignEach es X.env).length=n:=by rfl) (hst:(assignEach es X.env).findIdx? (·.1)=none:=by rfl):SimG X G (.Tuple es kk pos) (q6l n ws):=
 PG.imp (pg_tup hc h hn hst) fun v' σV H Q hh1=>by
  obtain ⟨φ,v,σ,S,Q0,L,R,r,h,k⟩:=hh1
  cases v with
  | tup xs=>
   obtain ⟨a,vs,rfl,sa,ra⟩:=r
   exact ⟨a,vs,rfl,sa,by rw [←ra.length]; exact h.1,φ,xs,σ,S,Q0,L,R,ra,h.2,k⟩
  | _=>exact h.elim
def wAsg (w:WE) (g:WG):WS:=fun D E σ S=>w σ S E fun v S1=>g v σ S1 E D.nx
theorem q5j {tg e:Expr} {w:WE} {g:WG} (he:SimE X G e w) (hg:SimG X G tg g) (hs:swapsWithSole [tg] e pos.line X.env=pure false:=by rfl) (hw:swappedStores [tg] e X.env=pure none:=by rfl)
  (h1:(assignEach [tg] X.env).map (·.2)=[assign tg X.env]:=by rfl):SimS X G (.Assign [tg] e pos) (wAsg w g):=
 (ps_asg he hg hs hw h1).imp fun D σV H hh1=>by obtain ⟨φ,σ,S,D0,L,R,h,k⟩:=hh1; exact (⟨φ,σ,S,_,L,R,h,fun v S1 φ1 H1 x q p1 m1 R1 r1=>⟨φ1,v,σ,S1,D0.nx,L.mono m1 p1,R1,r1,q,k.nx.up p1 m1⟩⟩)
def wSet (i:Nat) (w:WE):WS:=fun D E σ S=>w σ S E fun v S1=>D.nx (σ.set i (some v)) S1
theorem q0q (i:Nat) {x:Str} {e:Expr} {w:WE} {pos':Pos} (hN:X.N.Nodup) (he:SimE X G e w) (hi:X.N[i]?=some x:=by rfl) (hx:L2.Loc X.env.scope x:=by first | exact Or.inl rfl | exact Or.inr rfl) (hs:swapsWith e (some (.Name x pos')) pos.line X.env=pure false:=by rfl) (hf:X.fn x=true∨X.env.scope.names.lookup x=some .local:=by first | exact .inl rfl | exact .inr rfl | assumption) :
  SimS X G (.Assign [.Name x pos'] e pos) (wSet i w):=
 (ps_set (i:=i) hN hi hx he hs hf).imp fun D σV H hh1=>by obtain ⟨φ,σ,S,D0,L,R,h,k⟩:=hh1; exact (⟨φ,σ,S,_,L,R,h,fun v S1 φ1 H1 x q p1 m1 R1 r1=>k.nx _ S1 φ1 H1 _ q p1 m1 R1 ((L.mono m1 p1).set i r1)⟩)
abbrev FS:=PV→PV→PV→q0h→(q0h→Prop)→Prop
def liftSet (K:PySem.W.Frag) (f:FS):TSet:=fun o' i' v' H Q=>∃φ S o i v Q0,Rel K φ S H∧RV K H φ o o'∧RV K H φ i i'∧RV K H φ v v'∧f o i v S Q0∧∀S' H',Q0 S'→Mono H H'→Rel K φ S' H'→Q H'
def sSet:FS:=fun o i v S Q=>match o with
 | .ref n=>match S[n]? with
  | some (.lst xs)=>match i with
   | .int k=>match ixN xs.length k with
    | some j=>Q (S.set n (.lst (xs.set j v)))
    | none=>False
   | _=>False
  | some (.dK kvs)=>match q9i i with
   | some k=>kvs.length<sizeLine∧Q (S.set n (.dK (putP kvs k v)))
   | none=>False
  | _=>False
 | _=>False
theorem sets (hu:X.A.units+200<cLine):PSet X (liftSet X.K sSet):=by
 rintro pins s σ H o i v ov iv u Q I ro ri rv ⟨φ,S,po,pi,pv,Q0,R,ho,hi,hv,h,k⟩
 unfold sSet at h
 split at h
 ·rename_i n
  obtain ⟨a,rfl,qa⟩:=ho
  split at h
  ·rename_i xs e
   split at h
   ·rename_i kk
    split at h
    ·rename_i j ej
     cases hi
     obtain ⟨vs,ea,ra⟩:=R.obj n a _ qa e
     rw [ra.length] at ej
     refine set_list pins s σ H _ _ v ov iv u Q I ro ri rv ⟨a,vs,kk,j,rfl,rfl,ea,ej,k _ _ h (.lst ea) (R.put (o:=.lst (xs.set j pv)) qa (.lst ea) ⟨vs.set j v,q1w,RVs.mono (.lst ea) (List.prefix_refl _) _ _ (ra.set hv j)⟩)⟩
    ·exact h.elim
   ·exact h.elim
  ·rename_i kvs e
   split at h
   ·rename_i kk ek
    have hk:=q7p hi ek
    subst hk
    obtain ⟨ws,ea,ra⟩:=R.obj n a _ qa e
    cases ro
    refine d_setItem (by omega) I (DPut.k ea (by rw [←ra.length]; exact h.1)) ri rv fun s' I'=>⟨_,I',k _ _ h.2 (.dict ea) (R.put (o:=.dK (putP kvs kk pv)) qa (.dict ea) ⟨_,q1w,RKs.mono (.dict ea) (List.prefix_refl _) (ra.put kk hv)⟩)⟩
   ·exact h.elim
  ·exact h.elim
 ·exact h.elim
def q8a (wo wi:WE) (f:FS):WG:=fun v σ S E Q=>wo σ S E fun o S1=>wi σ S1 E fun i S2=>f o i v S2 fun S3=>Q σ S3
theorem q4p {o i:Expr} {wo wi:WE} {f:FS} (hf:PSet X (liftSet X.K f)) (ho:SimE X G o wo) (hi:SimE X G i wi)
  (ha:∀v,assign (.Subscript o i pos) X.env v=(do
   let ov ←holding [v] (eval o X.env)
   let iv ←holding [v,ov] (eval i X.env)
   standAt pos
   holding [v,ov,iv] (setItem ov iv v)
   release [v,ov,iv] []):=by intro _; rfl):SimG X G (.Subscript o i pos) (q8a wo wi f):=
 PG.imp (pg_sub ho hi hf ha) fun v' σV H Q hh1=>by obtain ⟨φ,v,σ,S,Q0,L,R,r,h,k⟩:=hh1; exact (⟨φ,σ,S,_,L,R,h,fun ov S1 φ1 H1 x q p1 m1 R1 r1=>⟨φ1,σ,S1,_,L.mono m1 p1,R1,q,fun iv S2 φ2 H2 y q2 p2 m2 R2 r2=>
  ⟨φ2,S2,ov,iv,v,_,R2,RV.mono m2 p2 _ _ r1,r2,RV.mono m2 p2 _ _ (RV.mono m1 p1 _ _ r),q2,fun S3 H3 q3 m3 R3=>k σ S3 φ2 H3 σV q3 (p1.trans p2) ((m1.trans m2).trans m3) R3 (((L.mono m1 p1).mono m2 p2).mono m3 (List.prefix_refl _))⟩⟩⟩)
def wWhile (c:WT) (b:WS):WS:=fun D E σ S=>∃W:Nat→Loc→q0h→Prop,(∃m,W m σ S)∧∀m σ S,W m σ S→
 c σ S E fun bo S1=>if bo=true then ∃N:Loc→q0h→Prop,(∀σ' S',N σ' S'→∃m',m'<m∧W m' σ' S')∧b { D with nx:=N,ct:=N,bk:=D.nx } E σ S1 else D.nx σ S1
theorem sim_while {c:Expr} {body:List Stmt} {wc:WT} {wb:WS} (hp:PassesOwn (model X.prog X.w) X.A X.env X.xe) (hc:SimT X G c wc) (hb:q9r X G body wb):SimS X G (.While c body [] pos) (wWhile wc wb):=
 (ps_while hp hc hb).imp fun D σV H hh1=>by
  obtain ⟨φ,σ,S,D0,L,R,h,k⟩:=hh1
  obtain ⟨W,⟨m0,w0⟩,st⟩:=h
  refine ⟨fun m σV' H'=>∃φ' σ' S',φ <+: φ'∧Mono H H'∧LRel X.K G H' φ' σ' σV'∧Rel X.K φ' S' H'∧W m σ' S',⟨m0,φ,σ,S,List.prefix_refl _,.refl _,L,R,w0⟩,?_⟩
  rintro m σV' H' ⟨φ',σ',S',p,mo,L',R',hw⟩
  refine ⟨φ',σ',S',_,L',R',st m σ' S' hw,fun bo S1 φ1 H1 q p1 m1 R1=>?_⟩
  cases bo with
  | true=>
   obtain ⟨N,hN,hb⟩:=q
   refine ⟨fun σ2V H2=>∃φ2 σ2 S2,φ1 <+: φ2∧Mono H1 H2∧LRel X.K G H2 φ2 σ2 σ2V∧Rel X.K φ2 S2 H2∧N σ2 S2,?_,?_⟩
   ·rintro σ2V H2 ⟨φ2,σ2,S2,p2,m2,L2,R2,hn⟩
    obtain ⟨m',hm,hw'⟩:=hN σ2 S2 hn
    exact ⟨m',hm,φ2,σ2,S2,(p.trans p1).trans p2,(mo.trans m1).trans m2,L2,R2,hw'⟩
   ·exact ⟨φ1,σ',S1,_,L'.mono m1 p1,R1,hb,⟨fun σ2 S2 φ2 H2 σ2V q p2 m2 R2 L2=>⟨φ2,σ2,S2,p2,m2,L2,R2,q⟩,k.rt.up (p.trans p1) (mo.trans m1),k.nx.up (p.trans p1) (mo.trans m1),fun σ2 S2 φ2 H2 σ2V q p2 m2 R2 L2=>⟨φ2,σ2,S2,p2,m2,L2,R2,q⟩⟩⟩
  | false=>exact k.nx σ' S1 φ1 H1 σV' q (p.trans p1) (mo.trans m1) R1 (L'.mono m1 p1)
structure PIt where
 xs:List PV
 chk:q0h→Prop
structure ItR (K:PySem.W.Frag) (φ0:List Addr) (H0:Hp) (J:It) (it:PIt):Prop where
 go:∀φ H S,φ0 <+: φ→Mono H0 H→Rel K φ S H→it.chk S→∀(i:Nat) x,it.xs[i]?=some x→J.go i H∧∀y H',J.yld i H y H'→∃φ',φ <+: φ'∧Mono H H'∧Rel K φ' S H'∧RV K H' φ' x y
 stop:∀φ H S,φ0 <+: φ→Mono H0 H→Rel K φ S H→it.chk S→∀i:Nat,it.xs.length≤i→J.stop i H
abbrev WI:=Loc→q0h→EK→(PIt→q0h→Prop)→Prop
def KI (K:PySem.W.Frag) (φ:List Addr) (H:Hp) (Q0:PIt→q0h→Prop) (R:It→Hp→Prop):Prop:=∀it S' φ' H' J,Q0 it S'→φ <+: φ'→Mono H H'→Rel K φ' S' H'→ItR K φ' H' J it→R J H'
def liftI (K:PySem.W.Frag) (G:GX) (w:WI):TI:=fun σV H R=>∃φ σ S Q0,LRel K G H φ σ σV∧Rel K φ S H∧w σ S G.ek Q0∧KI K φ H Q0 R
def SimI (X:Cx) (G:GX) (tg iter:Expr) (w:WI):Prop:=PI X tg iter (liftI X.K G w)
theorem PI.imp {tg e:Expr} {t t':TI} (h:PI X tg e t) (i:∀σ H Q,t' σ H Q→t σ H Q):PI X tg e t':=fun pins s σ H R I q=>h pins s σ H R I (i σ H R q)
def iAny (K:PySem.W.Frag) (tl:TE):TI:=fun σ H R=>tl σ H fun x H1=>(∃a,x=.ref a∧(∃xs,SqL K H1 a xs)∧R (Itl K a) H1)∨(∃a,x=.ref a∧(∃xs,SqT K H1 a xs)∧R (Itt K a) H1)∨∃z,x=.str z∧R (Its z) H1
theorem pi_any {tg l:Expr} {tl:TE} (hl:PE X l tl):PI X tg l (iAny X.K tl):=by
 intro pins s σ H R I h
 refine thn (hl pins s σ H _ I h) fun v s1 hh1=>?_
 obtain ⟨x,H1,I1,r1,q1⟩:=hh1
 rcases q1 with ⟨a,e,⟨xs,hq⟩,q⟩ | ⟨a,e,⟨xs,hq⟩,q⟩ | ⟨z,rfl,q⟩
 ·subst e
  cases r1
  obtain ⟨its,rv,p,hz⟩:=I1.list hq
  refine wpAny_pyIter_list p.isList ?_
  refine ⟨s1.heap.objs.size,[s1.heap.objs.size],_,_,H1,rfl,I1.kept (t':=s1.toks) fun b o e=>Heap.get?_push_of_some _ e,turn_list a _,⟨_,Heap.get?_push_size _ rfl,rfl,rfl⟩,fun b hb=>?_,q⟩
  have e:b=s1.heap.objs.size:=by simpa using hb
  subst e
  exact I1.fpOk (Nat.le_refl _) (I1.hok.fresh (Nat.le_refl _))
 ·subst e
  cases r1
  obtain ⟨its,rv,p,hz⟩:=I1.tuple hq
  refine wpAny_pyIter_tuple (show s1.heap.IsTuple a its.toArray from p) ?_
  refine ⟨s1.heap.objs.size,[s1.heap.objs.size],_,_,H1,rfl,I1.kept (t':=s1.toks) fun b o e=>Heap.get?_push_of_some _ e,turn_tuple a _,⟨_,Heap.get?_push_size _ rfl,rfl,rfl⟩,fun b hb=>?_,q⟩
  have e:b=s1.heap.objs.size:=by simpa using hb
  subst e
  exact I1.fpOk (Nat.le_refl _) (I1.hok.fresh (Nat.le_refl _))
 ·obtain ⟨t,rfl⟩:=r1
  refine wpAny_pyIter_strU ?_
  refine ⟨s1.heap.objs.size,[s1.heap.objs.size],_,_,H1,rfl,I1.kept (t':=s1.toks) fun b o e=>Heap.get?_push_of_some _ e,turn_str _ z t,⟨Nat.zero_le _,_,Heap.get?_push_size _ rfl,rfl,rfl⟩,fun b hb=>?_,q⟩
  obtain rfl:=List.mem_singleton.mp hb
  exact I1.fpOk (Nat.le_refl _) I1.fresh
def chr1 (c:Nat):PV:=.str ⟨#[c]⟩
def wiAny (w:WE):WI:=fun σ S E Q=>w σ S E fun x S1=>match x with
 | .ref n=>match q3u S1 n with
  | some xs=>Q ⟨xs,fun S=>q3u S n=some xs⟩ S1
  | none=>False
 | .tup xs=>Q ⟨xs,fun _=>True⟩ S1
 | .frl xs=>Q ⟨xs,fun _=>True⟩ S1
 | .str z=>Q ⟨z.cps.toList.map chr1,fun _=>True⟩ S1
 | _=>False
theorem itr_list {K:PySem.W.Frag} {φ:List Addr} {H:Hp} {n:Nat} {a:Addr} {xs:List PV} (qa:φ[n]?=some a):ItR K φ H (Itl K a) ⟨xs,fun S=>q3u S n=some xs⟩ where
 go:=fun φ1 H1 S1 p m R e i x hx=>by
  obtain ⟨vs,sa,ra⟩:=R.seq (q6p p qa) e
  obtain ⟨y,ey,ry⟩:=ra.get hx
  refine ⟨⟨vs,y,sa,ey⟩,fun y' H' hh1=>?_⟩
  obtain ⟨e1,e2⟩:=hh1
  subst e1
  have:=e2 vs sa
  rw [ey] at this
  cases this
  exact ⟨φ1,List.prefix_refl _,.refl _,R,ry⟩
 stop:=fun φ1 H1 S1 p m R e i hi=>by
  obtain ⟨vs,sa,ra⟩:=R.seq (q6p p qa) e
  exact ⟨vs,sa,by rw [←ra.length]; exact hi⟩
theorem itr_tup {K:PySem.W.Frag} {φ:List Addr} {H:Hp} {a:Addr} {xs:List PV} {vs:List V} (sa:SqT K H a vs) (ra:RVs K H φ xs vs):ItR K φ H (Itt K a) ⟨xs,fun _=>True⟩ where
 go:=fun φ1 H1 S1 p m R e i x hx=>by
  have sa1:=m.sqT sa
  obtain ⟨y,ey,ry⟩:=(RVs.mono m p _ _ ra).get hx
  refine ⟨⟨vs,y,sa1,ey⟩,fun y' H' hh1=>?_⟩
  obtain ⟨e1,e2⟩:=hh1
  subst e1
  have:=e2 vs sa1
  rw [ey] at this
  cases this
  exact ⟨φ1,List.prefix_refl _,.refl _,R,ry⟩
 stop:=fun φ1 H1 S1 p m R e i hi=>⟨vs,m.sqT sa,by rw [←ra.length]; exact hi⟩
theorem itr_frl {K:PySem.W.Frag} {φ:List Addr} {H:Hp} {a:Addr} {xs:List PV} {vs:List V} (sa:SqF K H a vs) (ra:RVs K H φ xs vs):ItR K φ H (Itl K a) ⟨xs,fun _=>True⟩ where
 go:=fun φ1 H1 S1 p m R e i x hx=>by
  have sa1:=(m.sqF sa).sq
  obtain ⟨y,ey,ry⟩:=(RVs.mono m p _ _ ra).get hx
  refine ⟨⟨vs,y,sa1,ey⟩,fun y' H' hh1=>?_⟩
  obtain ⟨e1,e2⟩:=hh1
  subst e1
  have:=e2 vs sa1
  rw [ey] at this
  cases this
  exact ⟨φ1,List.prefix_refl _,.refl _,R,ry⟩
 stop:=fun φ1 H1 S1 p m R e i hi=>⟨vs,(m.sqF sa).sq,by rw [←ra.length]; exact hi⟩
theorem itr_str {K:PySem.W.Frag} {φ:List Addr} {H:Hp} {z:Str}:ItR K φ H (Its z) ⟨z.cps.toList.map chr1,fun _=>True⟩ where
 go:=fun φ1 H1 S1 p m R e i x hx=>by
  have hx':(z.cps.toList.map chr1)[i]?=some x:=hx
  rw [List.getElem?_map] at hx'
  obtain ⟨c,hc,rfl⟩:=Option.map_eq_some_iff.mp hx'
  have hc':z.cps[i]?=some c:=by simpa using hc
  refine ⟨(Array.getElem?_eq_some_iff.mp hc').1,fun y' H' ⟨e1,c',e2,e3⟩=>?_⟩
  subst e1
  rw [hc'] at e2
  cases e2
  exact ⟨φ1,List.prefix_refl _,.refl _,R,e3⟩
 stop:=fun φ1 H1 S1 p m R e i hi=>by
  have:(z.cps.toList.map chr1).length≤i:=hi
  show z.cps.size≤i
  simpa using this
theorem q6u {tg l:Expr} {w:WE} (hl:SimE X G l w):SimI X G tg l (wiAny w):=
 PI.imp (pi_any hl) fun σV H Q hh1=>by obtain ⟨φ,σ,S,Q0,L,R,h,k⟩:=hh1; exact (⟨φ,σ,S,_,L,R,h,fun v S1 φ1 H1 x q p1 m1 R1 r1=>by
  split at q
  ·rename_i n
   split at q
   ·rename_i xs e
    obtain ⟨a,rfl,qa⟩:=r1
    obtain ⟨vs,sa,ra⟩:=R1.seq qa e
    exact .inl ⟨a,rfl,⟨vs,sa⟩,k _ S1 φ1 H1 _ q p1 m1 R1 (itr_list qa)⟩
   ·exact q.elim
  ·rename_i xs
   obtain ⟨a,vs,rfl,sa,ra⟩:=r1
   exact .inr (.inl ⟨a,rfl,⟨vs,sa⟩,k _ S1 φ1 H1 _ q p1 m1 R1 (itr_tup sa ra)⟩)
  ·rename_i xs
   obtain ⟨a,vs,rfl,sa,ra⟩:=r1
   exact .inl ⟨a,rfl,⟨vs,sa.sq⟩,k _ S1 φ1 H1 _ q p1 m1 R1 (itr_frl sa ra)⟩
  ·rename_i z
   cases r1
   exact .inr (.inr ⟨z,rfl,k _ S1 φ1 H1 _ q p1 m1 R1 itr_str⟩)
  ·exact q.elim⟩)
def rngP (lo:Int) (n:Nat):List PV:=(List.range n).map fun i=>.int (lo+(i:Nat))
def q5y (wa:WA):WI:=fun σ S E Q=>wa σ S E fun xs S1=>match xs with
 | [.int j]=>(-(2 ^ 62)≤j∧j<2 ^ 62)∧Q ⟨rngP 0 j.toNat,fun _=>True⟩ S1
 | _=>False
theorem itr_range {K:PySem.W.Frag} {φ:List Addr} {H:Hp} {lo:Int} {n:Nat}:ItR K φ H (Itr lo n) ⟨rngP lo n,fun _=>True⟩ where
 go:=fun φ1 H1 S1 p m R e i x hx=>by
  have hx':(rngP lo n)[i]?=some x:=hx
  unfold rngP at hx'
  rw [List.getElem?_map] at hx'
  obtain ⟨c,hc,rfl⟩:=Option.map_eq_some_iff.mp hx'
  obtain ⟨hl,rfl⟩:=List.getElem?_eq_some_iff.mp hc
  rw [List.getElem_range]
  refine ⟨by show i<n; simpa using hl,fun y' H' hh1=>?_⟩
  obtain ⟨e1,e2⟩:=hh1
  subst e1
  exact ⟨φ1,List.prefix_refl _,.refl _,R,e2⟩
 stop:=fun φ1 H1 S1 p m R e i hi=>by
  have:(rngP lo n).length≤i:=hi
  unfold rngP at this
  show n≤i
  simpa using this
theorem q5a {tg a:Expr} {wa:WA} {p:Pos} (hm:X.mg "range" = none) (ha:SimA X G [a] wa) (hg:Gl X "range" :=by rfl) (hs:starEach [a] X.env=[(false,eval a X.env)]:=by rfl):SimI X G tg (.Call (.Name "range" p) [a] [] pos) (q5y wa):=
 PI.imp (pi_range1 hg hm ha hs) fun σV H Q hh1=>by obtain ⟨φ,σ,S,Q0,L,R,h,k⟩:=hh1; exact (⟨φ,σ,S,_,L,R,h,fun v S1 φ1 H1 x q p1 m1 R1 r1=>by
  split at q
  ·rename_i j
   obtain ⟨y,rfl,r⟩:=q2o r1
   cases r
   exact ⟨j,rfl,q.1.1,q.1.2,k _ S1 φ1 H1 _ q.2 p1 m1 R1 itr_range⟩
  ·exact q.elim⟩)
def forGo (chk:q0h→Prop) (g:WG) (wb:WS) (D:PEnds) (E:EK):List PV→Loc→q0h→Prop
 | [],σ,S=>chk S∧D.nx σ S
 | x::r,σ,S=>chk S∧∃N:Loc→q0h→Prop,(∀σ' S',N σ' S'→forGo chk g wb D E r σ' S')∧g x σ S E fun σ2 S2=>wb { nx:=N,rt:=D.rt,ct:=N,bk:=D.nx } E σ2 S2
def wFor (wi:WI) (g:WG) (wb:WS):WS:=fun D E σ S=>wi σ S E fun it S1=>forGo it.chk g wb D E it.xs σ S1
theorem q6o {tg iter:Expr} {body:List Stmt} {wi:WI} {g:WG} {wb:WS} (hp:PassesOwn (model X.prog X.w) X.A X.env X.xe) (hc:X.calm=true) (hi:SimI X G tg iter wi) (hg:SimG X G tg g) (hb:q9r X G body wb) (hs:∀x,foldedSetIterable iter X.env x=pure x:=by intro _; rfl):SimS X G (.For tg iter body [] pos) (wFor wi g wb):=
 (ps_for hp hc hi hg hb hs).imp fun D σV H hh1=>by obtain ⟨φ,σ,S,D0,L,R,h,k⟩:=hh1; exact (⟨φ,σ,S,_,L,R,h,fun it S1 φ1 H1 J q p1 m1 R1 hj=>by
  refine ⟨fun i m σV' H'=>m=it.xs.length - i∧i≤it.xs.length∧∃φ' σ' S',φ1 <+: φ'∧Mono H1 H'∧LRel X.K G H' φ' σ' σV'∧Rel X.K φ' S' H'∧forGo it.chk g wb D0 G.ek (it.xs.drop i) σ' S',⟨it.xs.length,by simp,Nat.zero_le _,φ1,σ,S1,List.prefix_refl _,.refl _,L.mono m1 p1,R1,by simpa using q⟩,?_⟩
  rintro i m σV' H' ⟨rfl,hi,φ',σ',S',p',m',L',R',hf⟩
  by_cases hlt:i<it.xs.length
  ·rw [List.drop_eq_getElem_cons hlt] at hf
   obtain ⟨hch,N,hN,hb⟩:=hf
   obtain ⟨jg,jy⟩:=hj.go φ' H' S' p' m' R' hch i _ (List.getElem?_eq_getElem hlt)
   refine .inr ⟨jg,fun σ2V H2=>∃φ2 σ2 S2,φ' <+: φ2∧Mono H' H2∧LRel X.K G H2 φ2 σ2 σ2V∧Rel X.K φ2 S2 H2∧N σ2 S2,?_,?_⟩
   ·rintro σ2V H2 ⟨φ2,σ2,S2,p2,m2,L2,R2,hn⟩
    exact ⟨it.xs.length - (i+1),by omega,rfl,hlt,φ2,σ2,S2,p'.trans p2,m'.trans m2,L2,R2,hN σ2 S2 hn⟩
   ·intro y H2 hy
    obtain ⟨φ2,p2,m2,R2,r2⟩:=jy y H2 hy
    refine ⟨φ2,_,σ',S',_,L'.mono m2 p2,R2,r2,hb,fun σ3 S3 φ3 H3 σ3V q3 p3 m3 R3 L3=>?_⟩
    refine ⟨φ3,σ3,S3,_,L3,R3,q3,⟨?_,k.rt.up (((p1.trans p').trans p2).trans p3) (((m1.trans m').trans m2).trans m3),k.nx.up (((p1.trans p').trans p2).trans p3) (((m1.trans m').trans m2).trans m3),?_⟩⟩
    ·exact fun σ4 S4 φ4 H4 σ4V q4 p4 m4 R4 L4=>⟨φ4,σ4,S4,(p2.trans p3).trans p4,(m2.trans m3).trans m4,L4,R4,q4⟩
    ·exact fun σ4 S4 φ4 H4 σ4V q4 p4 m4 R4 L4=>⟨φ4,σ4,S4,(p2.trans p3).trans p4,(m2.trans m3).trans m4,L4,R4,q4⟩
  ·have e:i=it.xs.length:=by omega
   subst e
   rw [List.drop_length] at hf
   exact .inl ⟨hj.stop φ' H' S' p' m' R' hf.1 _ (Nat.le_refl _),k.nx σ' S' φ' H' σV' hf.2 (p1.trans p') (m1.trans m') R' L'⟩⟩)
def q9n (ix:List (Option Nat)) (σ:Loc):Loc:=ix.map fun o=>match o with
 | none=>none
 | some j=>match σ[j]? with
  | some v=>v
  | none=>none
abbrev NoX:EK:=fun _ _=>False
abbrev NoG:GX:=⟨NoX,fun _ _=>False⟩
def compGo (chk:q0h→Prop) (g:WG) (wc:WT) (we:WE) (Q:VC):List PV→List PV→Loc→q0h→Prop
 | [],ys,_,S=>chk S∧Q (.ref S.length) (S++[.lst ys])
 | x::r,ys,σ,S=>chk S∧∃N:List PV→Loc→q0h→Prop,(∀ys' σ' S',N ys' σ' S'→compGo chk g wc we Q r ys' σ' S')∧g x σ S NoX fun σ2 S2=>wc σ2 S2 NoX fun b S3=>if b=true then we σ2 S3 NoX (fun y S4=>N (ys++[y]) σ2 S4) else N ys σ2 S3
def q6t:WT:=fun _ S _ Q=>Q true S
def wComp (wi:WI) (ix:List (Option Nat)) (g:WG) (wc:WT) (we:WE):WE:=fun σ S E Q=>wi σ S E fun it S1=>it.xs.length≤sizeLine∧compGo it.chk g wc we Q it.xs [] (q9n ix σ) S1
theorem inner_rel {K:PySem.W.Frag} {H:Hp} {φ:List Addr} {σ:Loc} {σV:St} (ix:List (Option Nat)) (L:LRel K G H φ σ σV):LRel K NoG H φ (q9n ix σ) (q3t ix σV):=by
 refine ⟨by simp [q9n,q3t],fun i v e=>?_,fun _ _ _ _ q=>q.elim⟩
 unfold q9n at e
 rw [List.getElem?_map] at e
 obtain ⟨o,ho,e'⟩:=Option.map_eq_some_iff.mp e
 cases o with
 | none=>cases e'
 | some j=>
  dsimp only at e'
  cases hj:σ[j]? with
  | none=>rw [hj] at e'; cases e'
  | some w=>
   rw [hj] at e'
   dsimp only at e'
   subst e'
   obtain ⟨x,hx,r⟩:=L.at' j v hj
   refine ⟨x,?_,r⟩
   unfold q3t
   rw [List.getElem?_map,ho]
   simp [hx]
end
end Ev
namespace Ev
open PySem L2 PySem.Spec PyProof.Rows
section
variable {X:Cx} {G:GX} {pos:Pos}
def sqOf (x:PV) (S:q0h):Option (Bool×List PV):=match x with
 | .tup xs=>some (true,xs)
 | .frl xs=>some (false,xs)
 | .ref n=>(q6i S n).map fun xs=>(false,xs)
 | _=>none
theorem sq_rel {K:PySem.W.Frag} {φ:List Addr} {H:Hp} {S:q0h} {x:PV} {x':V} {tp:Bool} {xs:List PV} (R:Rel K φ S H) (r:RV K H φ x x') (e:sqOf x S=some (tp,xs)):∃a vs,x'=.ref a∧Sq tp K H a vs∧RVs K H φ xs vs:=by
 unfold sqOf at e
 split at e
 ·cases e
  obtain ⟨a,vs,rfl,sa,ra⟩:=r
  exact ⟨a,vs,rfl,sa,ra⟩
 ·cases e
  obtain ⟨a,vs,rfl,sa,ra⟩:=r
  exact ⟨a,vs,rfl,sa.sq,ra⟩
 ·obtain ⟨ys,e1,e2⟩:=Option.map_eq_some_iff.mp e
  cases e2
  obtain ⟨a,rfl,qa⟩:=r
  obtain ⟨vs,ea,ra⟩:=R.lst qa e1
  exact ⟨a,vs,rfl,SqL.of ea,ra⟩
 ·cases e
def zipP (xs ys:List PV):List PV:=(xs.zip ys).map fun p=>.tup [p.1,p.2]
def wiZip (wa:WA):WI:=fun σ S E Q=>wa σ S E fun vs S1=>match vs with
 | [x,y]=>match sqOf x S1,sqOf y S1 with
  | some (tp,xs),some (tq,ys)=>Q ⟨zipP xs ys,fun S=>sqOf x S=some (tp,xs)∧sqOf y S=some (tq,ys)⟩ S1
  | _,_=>False
 | _=>False
theorem sq_same {K:PySem.W.Frag} {φ φ1:List Addr} {H H1:Hp} {x:PV} {x':V} (m:Mono H H1) (p:φ <+: φ1) (r:RV K H φ x x'):RV K H1 φ1 x x':=RV.mono m p _ _ r
theorem itr_zip {K:PySem.W.Frag} {φ:List Addr} {H:Hp} {x y:PV} {a b:Addr} {tp tq:Bool} {xs ys:List PV} (rx:RV K H φ x (.ref a)) (ry:RV K H φ y (.ref b)):ItR K φ H (Itz tp tq K a b) ⟨zipP xs ys,fun S=>sqOf x S=some (tp,xs)∧sqOf y S=some (tq,ys)⟩ where
 go:=fun φ1 H1 S1 p m R hh1 i z hz=>by
  obtain ⟨e1,e2⟩:=hh1
  obtain ⟨a',vs,ea,sa,ra⟩:=sq_rel R (sq_same m p rx) e1
  obtain ⟨b',ws,eb,sb,rb⟩:=sq_rel R (sq_same m p ry) e2
  cases ea
  cases eb
  have hz':(zipP xs ys)[i]?=some z:=hz
  unfold zipP at hz'
  rw [List.getElem?_map] at hz'
  obtain ⟨⟨u,v⟩,hu,rfl⟩:=Option.map_eq_some_iff.mp hz'
  obtain ⟨h1,h2⟩:=List.getElem?_zip_eq_some.mp hu
  obtain ⟨u',g1,q1⟩:=ra.get h1
  obtain ⟨v',g2,q2⟩:=rb.get h2
  refine ⟨⟨vs,ws,u',v',sa,sb,g1,g2⟩,fun y' H' hh2=>?_⟩
  obtain ⟨p',x1,x2,e1,hp,e2,h3,h4⟩:=hh2
  subst e1 e2
  have:=h3 vs sa
  rw [g1] at this
  cases this
  have:=h4 ws sb
  rw [g2] at this
  cases this
  exact ⟨φ1,List.prefix_refl _,.new _ hp,R.frame _ hp,p',_,rfl,SqT.of q1w,RVs.mono (.new _ hp) (List.prefix_refl _) _ _ (.cons q1 (.one q2))⟩
 stop:=fun φ1 H1 S1 p m R hh3 i hi=>by
  obtain ⟨e1,e2⟩:=hh3
  obtain ⟨a',vs,ea,sa,ra⟩:=sq_rel R (sq_same m p rx) e1
  obtain ⟨b',ws,eb,sb,rb⟩:=sq_rel R (sq_same m p ry) e2
  cases ea
  cases eb
  refine ⟨vs,ws,sa,sb,?_⟩
  have:(zipP xs ys).length≤i:=hi
  unfold zipP at this
  rw [List.length_map,List.length_zip,ra.length,rb.length] at this
  omega
theorem simI_zip {es:List Expr} {kk:Nat} {ps:Pos} {a b:Expr} {wa:WA} {p:Pos} (hm:X.mg "zip" = none) (ha:SimA X G [a,b] wa) (hg:Gl X "zip" :=by rfl) (hs:starEach [a,b] X.env=[(false,eval a X.env),(false,eval b X.env)]:=by rfl) (hs2:starEach [b] X.env=[(false,eval b X.env)]:=by rfl):SimI X G (.Tuple es kk ps) (.Call (.Name "zip" p) [a,b] [] pos) (wiZip wa):=
 PI.imp (pi_zip hg hm ha hs hs2) fun σV H Q hh1=>by obtain ⟨φ,σ,S,Q0,L,R,h,k⟩:=hh1; exact (⟨φ,σ,S,_,L,R,h,fun v S1 φ1 H1 x q p1 m1 R1 r1=>by
  split at q
  ·rename_i x1 x2
   split at q
   ·rename_i tp xs tq ys e1 e2
    obtain ⟨y1,y2,rfl,g1,g2⟩:=two_rel r1
    obtain ⟨a',vs,rfl,sa,ra⟩:=sq_rel R1 g1 e1
    obtain ⟨b',ws,rfl,sb,rb⟩:=sq_rel R1 g2 e2
    exact ⟨tp,tq,a',b',vs,ws,rfl,sa,sb,k _ S1 φ1 H1 _ q p1 m1 R1 (itr_zip g1 g2)⟩
   ·exact q.elim
  ·exact q.elim⟩)
end
abbrev Den:=List PV→q0h→EK→VC→Prop
def ClsP (K:PySem.W.Frag) (v:PV) (cls:Value):Prop:=∃c C,v=.exc c∧cls=.ref C∧PySem.W.nsIn K mainGlobals (Str.ofString c)=some (some (.ref C))
def xkOf (K:PySem.W.Frag) (f:PV→Hp→Prop):XK:=fun cls _ H'=>∃v,ClsP K v cls∧f v H'
def KX (K:PySem.W.Frag) (φ:List Addr) (H:Hp) (E0:EK) (f:PV→Hp→Prop):Prop:=∀v S' φ' H',E0 v S'→φ <+: φ'→Mono H H'→Rel K φ' S' H'→f v H'
theorem passNo {P:Program} {w:World} {X:Cx} {K:PySem.W.Frag}:q5h (CXE P w) X (xkOf K NoG.xh):=passE0.imp fun _ _ _ hh1=>by obtain ⟨_,_,q⟩:=hh1; exact (q)
def q0o (K:PySem.W.Frag) (sp:Den):Sp:=fun vs H Q E=>∃φ args S Q0 E0 f,RVs K H φ args vs∧Rel K φ S H∧sp args S E0 Q0∧KE K φ H Q0 Q∧KX K φ H E0 f∧∀cls d H',xkOf K f cls d H'→E cls d H'
def q0s (sp:Den) (wa:WA):WE:=fun σ S E Q=>wa σ S E fun xs S1=>sp xs S1 E Q
theorem q0i {X:Cx} {G:GX} {pos:Pos} {k:Nat} {f:Addr} {fd:FuncData} {ps:List Str} {sp:Den} {x:Str} {p:Pos} {e:Expr} {es:List Expr} {wa:WA} (C:Cal X.prog X.w X.K X.mg X.base k x ps (q0o X.K sp) f fd) (hr:Room k X.A) (hx:q5h (CXE X.prog X.w) X (xkOf X.K G.xh)) (ha:SimA X G (e::es) wa) (hg:Gl X x:=by rfl)
  (hdb:(x == ("__debug__" : Str))=false:=by decide) (he:starEach (e::es) X.env=(false,eval e X.env)::starEach es X.env:=by rfl) (hpl:(backTo pos (starEach es X.env)).any (·.1)=false:=by rfl) :
  SimE X G (.Call (.Name x p) (e::es) [] pos) (q0s sp wa):=
 (pe_call C.G hr hg C.m C.kp C.b .nil hx ha hdb he hpl).imp fun σV H Q hh1=>by obtain ⟨φ,σ,S,Q0,L,R,h,k⟩:=hh1; exact (⟨φ,σ,S,_,L,R,h,fun v S1 φ1 H1 x q p1 m1 R1 r1=>
  ⟨φ1,v,S1,Q0,G.ek,G.xh,by rw [List.append_nil]; exact r1,R1,q,k.up p1 m1,(L.mono m1 p1).kx,fun _ _ _ z=>z⟩⟩)
def fnP (np nl:Nat) (w:WS):Den:=fun args S E Q=>args.length=np∧w { nx:=fun _ S'=>Q .non S',rt:=Q } E (args.map some++List.replicate (nl - np) none) S
theorem start_rel {K:PySem.W.Frag} {G:GX} {H:Hp} {φ:List Addr} {args:List PV} {vs:List V} (N:List Str) (r:RVs K H φ args vs) (kx:KX K φ H G.ek G.xh):LRel K G H φ (args.map some++List.replicate (N.length - args.length) none) (L2.q8o N vs):=by
 refine ⟨by unfold L2.q8o; simp [r.length],fun i v e=>?_,kx⟩
 by_cases hi:i<args.length
 ·rw [List.getElem?_append_left (by simpa using hi),List.getElem?_map] at e
  obtain ⟨u,hu,e'⟩:=Option.map_eq_some_iff.mp e
  cases e'
  obtain ⟨x,hx,rx⟩:=r.get hu
  refine ⟨x,?_,rx⟩
  unfold L2.q8o
  rw [List.getElem?_append_left (by simpa [←r.length] using hi),List.getElem?_map,hx]
  rfl
 ·rw [List.getElem?_append_right (by simpa using hi),List.getElem?_replicate] at e
  split at e<;>cases e
theorem q2j {P:Program} {w:World} {K:PySem.W.Frag} {mg:Str→Option Value} {base:Heap} {x qual:Str} {st:Stmt} {f:Addr} {fd:FuncData} {N ps:List Str} {k:Nat} {wb:WS} (F:Fun K x qual st f fd) (Sc:FnScope N ps (q0j st))
  (sim:∀(cdv:Value) (A:Around) (outer:List Env) (s:Shared) (H:Hp) (E:XK) (G:GX),Room k (A.deeper (envOfC qual (q0j st) s.heap.objs.size f cdv))→q5h (CXE P w) (cxOf (CXE P w) P w K mg base N qual (q0j st) f cdv A outer s H E) (xkOf K G.xh)→
   q9r (cxOf (CXE P w) P w K mg base N qual (q0j st) f cdv A outer s H E) G (q0z st) wb) :
  FnOk P w K mg base (CXE P w) (k+1) f fd ps (q0o K (fnP ps.length N.length wb)):=by
 refine F.okX Sc (fun vs H Q E h=>?_) (fun cdv A outer s H vs Q E hr h=>?_)
 ·obtain ⟨φ,args,S,Q0,E0,g,r,_,⟨h,_⟩,_⟩:=h
  rw [←r.length,h]
 ·obtain ⟨φ,args,S,Q0,E0,g,r,R,⟨hl,h⟩,kk,kx,hE⟩:=h
  refine ⟨_,sim cdv A outer s H E ⟨E0,g⟩ hr (passX.imp hE),φ,_,S,{ nx:=fun _ S'=>Q0 .non S',rt:=Q0 },?_,R,h,⟨fun σ' S' φ' H' σV' q p m R' L'=>kk _ S' φ' H' _ q p m R' rfl,kk,fun _ _ _ _ _ q=>q.elim,fun _ _ _ _ _ q=>q.elim⟩⟩
  have:=start_rel (G:=⟨E0,g⟩) N r kx
  rw [hl] at this
  exact this
theorem q3v {P:Program} {w:World} {K:PySem.W.Frag} {mg:Str→Option Value} {base:Heap} {k:Nat} {f:Addr} {fd:FuncData} {ps:List Str}:FnOk P w K mg base (CXE P w) k f fd ps (q0o K fun _ _ _ _=>False):=
 ⟨fun vs H Q E hh1=>by obtain ⟨_,_,_,_,_,_,_,_,h,_⟩:=hh1; exact (h.elim),fun A outer s H args us vs Q E _ _ _ _ hh2=>by obtain ⟨_,_,_,_,_,_,_,_,h,_⟩:=hh2; exact (h.elim)⟩
def LawP (sp:Den):Prop:=∀ns:List Int,ns.length≤63→sp [.frl (ns.map .int)] [] NoX fun v _=>v=.bl true
theorem law_sp {K:PySem.W.Frag} {sp:Den} (h:LawP sp):∀(H:Hp) (a:Addr) (ns:List Int),ns.length≤63→Only H→SqL K H a (ns.map V.int)→q0o K sp [.ref a] H (fun v _=>v=.bl true) fun _ _ _=>False:=by
 intro H a ns hl hO hS
 refine ⟨[],[.frl (ns.map .int)],[],_,NoX,fun _ _=>False,⟨_,_,rfl,⟨a,_,rfl,?_,RVs.of_ints ns⟩,rfl⟩,⟨rfl,by simp,fun n a o e=>by simp at e⟩,h ns hl,fun v S' φ' H' x q p m R r=>?_,fun _ _ _ _ q=>q.elim,fun _ _ _ hh1=>by obtain ⟨_,_,q⟩:=hh1; exact (q)⟩
 ·rcases hS with hS | hS
  ·rcases hS with z | ⟨o,z⟩
   ·rcases hO a with w | ⟨o,xs,w⟩
    ·rw [z] at w; cases w
    ·rw [z] at w; cases w
   ·exact .inl ⟨o,z⟩
  ·exact .inr hS
 ·subst q
  exact r
end Ev
namespace L2
open PySem PySem.Spec PyProof.Rows
section
variable {prog:Program} {w:World} {A:Around} {E:Value→Shared→Prop} {s:Shared}
end
end L2
namespace Ev
open PySem L2
section
variable {X:Cx} {G:GX} {pos:Pos}
abbrev WD:=Loc→q0h→EK→(List (Key×PV)→q0h→Prop)→Prop
def KD (K:PySem.W.Frag) (φ:List Addr) (H:Hp) (Q0:List (Key×PV)→q0h→Prop) (Q:List (V×V)→Hp→Prop):Prop:=∀kvs S' φ' H' ws,Q0 kvs S'→φ <+: φ'→Mono H H'→Rel K φ' S' H'→RKs K H' φ' kvs ws→Q (ws.map fun kv=>(kV kv.1,kv.2)) H'
def liftD (K:PySem.W.Frag) (G:GX) (w:WD) (σV:St) (H:Hp) (Q:List (V×V)→Hp→Prop):Prop:=∃φ σ S Q0,LRel K G H φ σ σV∧Rel K φ S H∧w σ S G.ek Q0∧KD K φ H Q0 Q
def SimD (X:Cx) (G:GX) (pos:Pos) (ks:List (Option Expr)) (vs:List Expr) (w:WD):Prop:=∃trs,PPs X pos ks vs trs∧∀σV H Q,liftD X.K G w σV H Q→tPairs trs σV H Q
def wdNil:WD:=fun _ S _ Q=>Q [] S
def q4t (wk wv:WE) (w:WD):WD:=fun σ S E Q=>wk σ S E fun k S1=>wv σ S1 E fun v S2=>match q9i k with
 | some kk=>w σ S2 E fun kvs S3=>Q ((kk,v)::kvs) S3
 | none=>False
theorem simD_nil:SimD X G pos [] [] wdNil:=⟨[],pps_nil,fun σV H Q hh1=>by obtain ⟨φ,σ,S,Q0,L,R,h,k⟩:=hh1; exact (k [] S φ H [] h (List.prefix_refl _) (.refl _) R .nil)⟩
theorem q3g {k v:Expr} {ks:List (Option Expr)} {vs:List Expr} {wk wv:WE} {w:WD} (hk:SimE X G k wk) (hv:SimE X G v wv) (hr:SimD X G pos ks vs w):SimD X G pos (some k::ks) (v::vs) (q4t wk wv w):=by
 obtain ⟨trs,hp,hi⟩:=hr
 refine ⟨_,pps_cons hk hv hp,fun σV H Q hh1=>?_⟩
 obtain ⟨φ,σ,S,Q0,L,R,h,kk⟩:=hh1
 refine ⟨φ,σ,S,_,L,R,h,fun pk S1 φ1 H1 x q p1 m1 R1 r1=>⟨φ1,σ,S1,_,L.mono m1 p1,R1,q,fun pv S2 φ2 H2 y q2 p2 m2 R2 r2=>?_⟩⟩
 refine hi _ _ _ ?_
 split at q2
 ·rename_i key ek
  refine ⟨φ2,σ,S2,_,(L.mono m1 p1).mono m2 p2,R2,q2,fun kvs S3 φ3 H3 ws q3 p3 m3 R3 r3=>?_⟩
  have:=kk ((key,pv)::kvs) S3 φ3 H3 ((key,y)::ws) q3 ((p1.trans p2).trans p3) ((m1.trans m2).trans m3) R3 (.cons ⟨rfl,RV.mono m3 p3 _ _ r2⟩ r3)
  rw [q7p r1 ek]
  exact this
 ·exact q2.elim
def mergeP (kvs more:List (Key×PV)):List (Key×PV):=more.foldl (fun acc kv=>putP acc kv.1 kv.2) kvs
theorem RKs.merge {K:PySem.W.Frag} {H:Hp} {φ:List Addr} {more:List (Key×PV)} {rs:List (Key×V)} (r:RKs K H φ more rs):∀{kvs:List (Key×PV)} {vs:List (Key×V)},RKs K H φ kvs vs→RKs K H φ (mergeP kvs more) (mergeK vs rs):=by
 unfold RKs at r
 induction r with
 | nil=>intro kvs vs q; exact q
 | @cons p q ps qs h t ih=>
  intro kvs vs r0
  have e:RKs K H φ (putP kvs p.1 p.2) (putK vs q.1 q.2):=by
   have:=r0.put p.1 h.2
   rw [←h.1]; exact this
  exact ih e
def wDisp (w:WD):WE:=fun σ S E Q=>w σ (S++[.dK []]) E fun kvs S1=>(S1[S.length]?=some (.dK [])∧kvs.length≤15)∧Q (.ref S.length) (S1.set S.length (.dK (mergeP [] kvs)))
theorem sim_disp {keys:List (Option Expr)} {values:List Expr} {w:WD} (h:SimD X G pos keys values w) (hall:keys.all (·.isSome)=true:=by rfl) (hl:keys.length=values.length:=by rfl) (h0:keys≠[]:=by simp) (h15:keys.length≤15:=by decide):SimE X G (.Dict keys values pos) (wDisp w):=by
 obtain ⟨trs,hp,hi⟩:=h
 refine (pe_disp hp hall hl h0 h15).imp fun σV H Q hh1=>?_
 obtain ⟨φ,σ,S,Q0,L,R,h,k⟩:=hh1
 intro p hp
 refine hi _ _ _ ?_
 have R1:Rel X.K (φ++[p]) (S++[.dK []]) (upd H p (.dK [])):=R.new (o:=.dK []) hp ⟨[],q1w,.nil⟩
 refine ⟨φ++[p],σ,_,_,L.mono (.new _ hp) (List.prefix_append _ _),R1,h,fun kvs S' φ' H' ws q p' m' R' r'=>?_⟩
 obtain ⟨⟨e,hl⟩,q⟩:=q
 have ep:φ'[S.length]?=some p:=q6p p' (by rw [←R.len]; simp)
 obtain ⟨vs,ev,rv⟩:=R'.obj _ _ _ ep e
 have:vs=[]:=List.length_eq_zero_iff.mp (by rw [←RKs.length rv]; rfl)
 subst this
 refine ⟨ev,ws,rfl,by rw [←RKs.length r']; exact hl,?_⟩
 refine k _ _ φ' _ _ q ((List.prefix_append _ _).trans p') (((Mono.new _ hp).trans m').trans (.dict ev)) (R'.put (o:=.dK (mergeP [] kvs)) ep (.dict ev) ⟨_,q1w,?_⟩) ⟨p,rfl,ep⟩
 exact RKs.mono (.dict ev) (List.prefix_refl _) (RKs.merge r' .nil)
end
end Ev
namespace Ev
open PySem L2
section
variable {X:Cx} {G:GX} {pos:Pos}
theorem liftI_mono {K:PySem.W.Frag} {w:WI} (σ:St) (H:Hp) (R R':It→Hp→Prop) (h:∀J H1,R J H1→R' J H1) (q:liftI K G w σ H R):liftI K G w σ H R':=by
 obtain ⟨φ,σ,S,Q0,L,R,hw,k⟩:=q
 exact ⟨φ,σ,S,Q0,L,R,hw,fun it S' φ' H' J q p m R hj=>h _ _ (k it S' φ' H' J q p m R hj)⟩
theorem comp_goIf {tg iter elt c:Expr} {scope:Scope} {wi:WI} {g:WG} {wc:WT} {we:WE} {ix:List (Option Nat)} {σV:St} {H:Hp} {Q:VK} (h:q6j X.K G (wComp wi ix g wc we) σV H Q):tCompIf (liftI X.K G wi) ix (liftG X.K NoG g) (liftT X.K NoG wc) (q6j X.K NoG we) σV H Q:=by
 obtain ⟨φ,σ,S,Q0,L,R,h,k⟩:=h
 refine ⟨φ,σ,S,_,L,R,h,fun it S1 φ1 H1 J hh1 p1 m1 R1 hj=>?_⟩
 obtain ⟨hz,q⟩:=hh1
 refine ⟨fun i ys σV' H'=>∃φ' σ' S' pys,φ1 <+: φ'∧Mono H1 H'∧LRel X.K NoG H' φ' σ' σV'∧Rel X.K φ' S' H'∧RVs X.K H' φ' pys ys∧compGo it.chk g wc we Q0 (it.xs.drop i) pys σ' S',it.xs.length,hz,⟨φ1,_,S1,[],List.prefix_refl _,.refl _,inner_rel ix (L.mono m1 p1),R1,rfl,by simpa using q⟩,?_⟩
 rintro i ys σV' H' hi ⟨φ',σ',S',pys,p',m',L',R',rys,hf⟩
 by_cases hlt:i<it.xs.length
 ·rw [List.drop_eq_getElem_cons hlt] at hf
  obtain ⟨hch,N,hN,hb⟩:=hf
  obtain ⟨jg,jy⟩:=hj.go φ' H' S' p' m' R' hch i _ (List.getElem?_eq_getElem hlt)
  refine .inr ⟨hlt,jg,fun y H2 hy=>?_⟩
  obtain ⟨φ2,p2,m2,R2,r2⟩:=jy y H2 hy
  refine ⟨φ2,_,σ',S',_,L'.mono m2 p2,R2,r2,hb,fun σ3 S3 φ3 H3 σ3V q3 p3 m3 R3 L3=>?_⟩
  refine ⟨φ3,σ3,S3,_,L3,R3,q3,fun b S4 φ4 H4 q4 p4 m4 R4=>?_⟩
  cases b with
  | true=>
   have hw:we σ3 S4 NoX (fun y S4=>N (pys++[y]) σ3 S4):=q4
   refine ⟨φ4,σ3,S4,_,L3.mono m4 p4,R4,hw,fun z S5 φ5 H5 z' q5 p5 m5 R5 r5=>?_⟩
   exact ⟨φ5,σ3,S5,pys++[z],(((p'.trans p2).trans p3).trans p4).trans p5,(((m'.trans m2).trans m3).trans m4).trans m5,(L3.mono m4 p4).mono m5 p5,R5,(RVs.mono (((m2.trans m3).trans m4).trans m5) (((p2.trans p3).trans p4).trans p5) _ _ rys).append (.one r5),hN _ _ _ q5⟩
  | false=>exact ⟨φ4,σ3,S4,pys,((p'.trans p2).trans p3).trans p4,((m'.trans m2).trans m3).trans m4,L3.mono m4 p4,R4,RVs.mono ((m2.trans m3).trans m4) ((p2.trans p3).trans p4) _ _ rys,hN _ _ _ q4⟩
 ·have e:i=it.xs.length:=by omega
  subst e
  rw [List.drop_length] at hf
  exact .inl ⟨hj.stop φ' H' S' p' m' R' hf.1 _ (Nat.le_refl _),(k.up (p1.trans p') (m1.trans m')).lst hf.2 R' rys⟩
theorem set_lift {D:Ends} {σV:St} {H:Hp} {i:Nat} {w:WE} (h:liftS X.K G (wSet i w) D σV H):q6j X.K G w σV H fun v H1=>D.nx (σV.set i (some v)) H1:=by
 obtain ⟨φ,σ,S,D0,L,R,h,k⟩:=h
 exact ⟨φ,σ,S,_,L,R,h,fun v S1 φ1 H1 x q p1 m1 R1 r1=>k.nx _ S1 φ1 H1 _ q p1 m1 R1 ((L.mono m1 p1).set i r1)⟩
theorem true_lift {K:PySem.W.Frag} (σ:St) (H:Hp) (Q:Bool→Hp→Prop) (h:liftT K NoG q6t σ H Q):Q true H:=by
 obtain ⟨φ,σ,S,Q0,L,R,h,k⟩:=h
 exact k true S φ H h (List.prefix_refl _) (.refl _) R
theorem sim_comp {tg iter elt:Expr} {scope:Scope} {wi:WI} {g:WG} {we:WE} (N':List Str) (ix:List (Option Nat)) (hc:X.calm=true) (co:CompOk X scope N' ix) (hi:SimI X G tg iter wi) (hg:∀cl C s H fp,SimG (X.comp scope N' cl C s H fp) NoG tg g) (he:∀cl C s H fp,SimE (X.comp scope N' cl C s H fp) NoG elt we)
  (hs:∀x,foldedSetIterable iter X.env x=pure x:=by intro _; rfl):SimE X G (.ListComp elt [⟨tg,iter,[],0⟩] scope pos) (wComp wi ix g q6t we):=
 (pe_compG (g:=liftG X.K NoG g) (tc:=liftT X.K NoG q6t) (te:=q6j X.K NoG we) hc co hi liftI_mono hg (fun _ _ _ _ _=>pts_nil true_lift) he hs).imp fun σV H Q h=>comp_goIf (tg:=tg) (iter:=iter) (elt:=elt) (c:=elt) (scope:=scope) h
theorem sim_setCompIf (i:Nat) {x:Str} {px sp:Pos} {tg iter elt c:Expr} {scope:Scope} {wi:WI} {g:WG} {wc:WT} {we:WE} (N':List Str) (ix:List (Option Nat)) (hN:X.N.Nodup) (hc:X.calm=true) (co:CompOk X scope N' ix) (hi:SimI X G tg iter wi) (hg:∀cl C s H fp,SimG (X.comp scope N' cl C s H fp) NoG tg g) (ht:∀cl C s H fp,SimT (X.comp scope N' cl C s H fp) NoG c wc) (he:∀cl C s H fp,SimE (X.comp scope N' cl C s H fp) NoG elt we)
  (hsw:swapsWith (.ListComp elt [⟨tg,iter,[c],0⟩] scope pos) (some (.Name x px)) sp.line X.env=pure true:=by rfl) (hii:X.N[i]?=some x:=by rfl) (hx:L2.Loc X.env.scope x:=by first | exact Or.inl rfl | exact Or.inr rfl)
  (hs:∀x,foldedSetIterable iter X.env x=pure x:=by intro _; rfl) (hf:X.fn x=true∨X.env.scope.names.lookup x=some .local:=by first | exact .inl rfl | exact .inr rfl | assumption) :
  SimS X G (.Assign [.Name x px] (.ListComp elt [⟨tg,iter,[c],0⟩] scope pos) sp) (wSet i (wComp wi ix g wc we)):=
 (ps_setCompG (g:=liftG X.K NoG g) (tc:=liftT X.K NoG wc) (te:=q6j X.K NoG we) hsw hN hii hx hc co hi liftI_mono hg (fun cl C s H fp=>pts_one (ht cl C s H fp)) he hs hf).imp fun D σV H h=>comp_goIf (tg:=tg) (iter:=iter) (elt:=elt) (c:=c) (scope:=scope) (set_lift h)
end
end Ev
namespace My
open PySem L2 Ev
def Ex (D:List Nat) (S S':q0h):Prop:=S.length≤S'.length∧∀i,i<S.length→i∉D→S'[i]?=S[i]?
theorem Ex.refl (D:List Nat) (S:q0h):Ex D S S:=⟨Nat.le_refl _,fun _ _ _=>rfl⟩
theorem Ex.trans {D:List Nat} {S S1 S2:q0h} (a:Ex D S S1) (b:Ex D S1 S2):Ex D S S2:=⟨Nat.le_trans a.1 b.1,fun i h n=>(b.2 i (Nat.lt_of_lt_of_le h a.1) n).trans (a.2 i h n)⟩
theorem Ex.weak {D D':List Nat} {S S':q0h} (a:Ex D S S') (h:∀i∈D,i∈D'):Ex D' S S':=⟨a.1,fun i l n=>a.2 i l fun z=>n (h i z)⟩
theorem Ex.nil {D:List Nat} {S S':q0h} (a:Ex [] S S'):Ex D S S':=a.weak fun i h=>by cases h
theorem Ex.app {D:List Nat} {S S':q0h} (a:Ex D S S') (xs:List SO):Ex D S (S'++xs):=⟨by rw [List.length_append]; exact Nat.le_trans a.1 (Nat.le_add_right _ _),fun i h n=>by rw [List.getElem?_append_left (Nat.lt_of_lt_of_le h a.1)]; exact a.2 i h n⟩
theorem Ex.set {D:List Nat} {S S':q0h} (a:Ex D S S') {i:Nat} {o:SO} (hi:i∈D∨S.length≤i):Ex D S (S'.set i o):=⟨by rw [List.length_set]; exact a.1,fun j h n=>by
 rw [List.getElem?_set_ne]
 ·exact a.2 j h n
 ·rintro rfl
  rcases hi with z | z
  ·exact n z
  ·omega⟩
theorem Ex.get {D:List Nat} {S S':q0h} (a:Ex D S S') {i:Nat} {o:SO} (e:S[i]?=some o) (n:i∉D):S'[i]?=some o:=by
 rw [a.2 i (List.getElem?_eq_some_iff.mp e).1 n]; exact e
theorem Ex.new (D:List Nat) (S:q0h) (xs:List SO):Ex D S (S++xs):=(Ex.refl D S).app xs
theorem q1v (S:q0h) (o:SO):(S++[o])[S.length]?=some o:=by simp
theorem q3e {S:q0h} {i:Nat} {o:SO} (e:S[i]?=some o) (xs:List SO):(S++xs)[i]?=some o:=by
 rw [List.getElem?_append_left (List.getElem?_eq_some_iff.mp e).1]; exact e
theorem q2q {S:q0h} {i:Nat} {o:SO} (u:SO) (e:S[i]?=some o):(S.set i u)[i]?=some u:=List.getElem?_set_self (List.getElem?_eq_some_iff.mp e).1
theorem q4h {S:q0h} {i j:Nat} {o:SO} (u:SO) (e:S[i]?=some o) (h:j≠i):(S.set j u)[i]?=some o:=by rw [List.getElem?_set_ne h]; exact e
theorem q1x {S:q0h} {i:Nat} {o:SO} (e:S[i]?=some o):i<S.length:=(List.getElem?_eq_some_iff.mp e).1
theorem q2y {S:q0h} {n:Nat} {xs:List PV} (e:S[n]?=some (.lst xs)):q6i S n=some xs:=by unfold q6i; rw [e]
theorem q1a {S:q0h} {n:Nat} {xs:List PV} (e:S[n]?=some (.lst xs)):q3u S n=some xs:=by unfold q3u; rw [e]
theorem seq_new (S:q0h) (xs:List PV):q3u (S++[.lst xs]) S.length=some xs:=q1a (q1v _ _)
theorem lst_new (S:q0h) (xs:List PV):q6i (S++[.lst xs]) S.length=some xs:=q2y (q1v _ _)
theorem seqI {a b:WS} {D:PEnds} {E:EK} {σ:Ev.Loc} {S:q0h} (h:∀K:Ev.Loc→q0h→Prop,(∀σ S,b D E σ S→K σ S)→a { D with nx:=K } E σ S):wSeq a b D E σ S:=h _ fun _ _ z=>z
theorem forI {chk:q0h→Prop} {g:WG} {wb:WS} {D:PEnds} {E:EK} (P:List PV→Ev.Loc→q0h→Prop) (hn:∀σ S,P [] σ S→chk S∧D.nx σ S)
  (hc:∀x r σ S,P (x::r) σ S→∀N:Ev.Loc→q0h→Prop,(∀σ S,P r σ S→N σ S)→chk S∧g x σ S E fun σ2 S2=>wb { nx:=N,rt:=D.rt,ct:=N,bk:=D.nx } E σ2 S2):∀(xs:List PV) (σ:Ev.Loc) (S:q0h),P xs σ S→forGo chk g wb D E xs σ S
 | [],σ,S,h=>hn σ S h
 | x::r,σ,S,h=>⟨(hc x r σ S h (P r) fun _ _ z=>z).1,P r,fun σ' S' q=>forI P hn hc r σ' S' q,(hc x r σ S h (P r) fun _ _ z=>z).2⟩
theorem compI {chk:q0h→Prop} {g:WG} {wc:WT} {we:WE} {Q:VC} (P:List PV→List PV→Ev.Loc→q0h→Prop) (hn:∀ys σ S,P [] ys σ S→chk S∧Q (.ref S.length) (S++[.lst ys]))
  (hc:∀x r ys σ S,P (x::r) ys σ S→∀N:List PV→Ev.Loc→q0h→Prop,(∀ys σ S,P r ys σ S→N ys σ S)→chk S∧g x σ S NoX fun σ2 S2=>wc σ2 S2 NoX fun b S3=>if b=true then we σ2 S3 NoX (fun y S4=>N (ys++[y]) σ2 S4) else N ys σ2 S3):∀(xs ys:List PV) (σ:Ev.Loc) (S:q0h),P xs ys σ S→compGo chk g wc we Q xs ys σ S
 | [],ys,σ,S,h=>hn ys σ S h
 | x::r,ys,σ,S,h=>⟨(hc x r ys σ S h (P r) fun _ _ _ z=>z).1,P r,fun ys' σ' S' q=>compI P hn hc r ys' σ' S' q,(hc x r ys σ S h (P r) fun _ _ _ z=>z).2⟩
theorem whileI {c:WT} {b:WS} {D:PEnds} {E:EK} {σ:Ev.Loc} {S:q0h} (P:Nat→Ev.Loc→q0h→Prop) (m:Nat) (h0:P m σ S)
  (hs:∀m σ S,P m σ S→∀T F:Ev.Loc→q0h→Prop,(∀S1,(∀N:Ev.Loc→q0h→Prop,(∀m' σ' S',m'<m→P m' σ' S'→N σ' S')→b { D with nx:=N,ct:=N,bk:=D.nx } E σ S1)→T σ S1)→(∀S1,D.nx σ S1→F σ S1)→c σ S E fun bo S1=>if bo=true then T σ S1 else F σ S1):wWhile c b D E σ S:=by
 refine ⟨P,⟨m,h0⟩,fun m σ S p=>?_⟩
 exact hs m σ S p (fun σ S1=>∃N:Ev.Loc→q0h→Prop,(∀σ' S',N σ' S'→∃m',m'<m∧P m' σ' S')∧b { D with nx:=N,ct:=N,bk:=D.nx } E σ S1) D.nx (fun S1 h=>⟨fun σ' S'=>∃m',m'<m∧P m' σ' S',fun σ' S' n=>n,h _ fun m' σ' S' a b=>⟨m',a,b⟩⟩) fun S1 h=>h
theorem kc_tuple:("tuple" ∈q5d)=True:=by simp [q5d]
theorem kc_str:("str" ∈q5d)=True:=by simp [q5d]
theorem kc_int:("int" ∈q5d)=True:=by simp [q5d]
theorem kc_bool:("bool" ∈q5d)=True:=by simp [q5d]
theorem q8f:isT "NoneType" "list" = false:=rfl
theorem q7q:isT "NoneType" "tuple" = false:=rfl
theorem q9j:isT "NoneType" "str" = false:=rfl
theorem q9k:isT "NoneType" "int" = false:=rfl
theorem q8g:isT "NoneType" "bool" = false:=rfl
theorem it_bool_list:isT "bool" "list" = false:=rfl
theorem it_bool_tuple:isT "bool" "tuple" = false:=rfl
theorem it_bool_str:isT "bool" "str" = false:=rfl
theorem it_bool_int:isT "bool" "int" = true:=rfl
theorem it_bool_bool:isT "bool" "bool" = true:=rfl
theorem it_int_list:isT "int" "list" = false:=rfl
theorem it_int_tuple:isT "int" "tuple" = false:=rfl
theorem it_int_str:isT "int" "str" = false:=rfl
theorem it_int_int:isT "int" "int" = true:=rfl
theorem it_int_bool:isT "int" "bool" = false:=rfl
theorem it_str_list:isT "str" "list" = false:=rfl
theorem it_str_tuple:isT "str" "tuple" = false:=rfl
theorem it_str_str:isT "str" "str" = true:=rfl
theorem it_str_int:isT "str" "int" = false:=rfl
theorem it_str_bool:isT "str" "bool" = false:=rfl
theorem it_tuple_list:isT "tuple" "list" = false:=rfl
theorem it_tuple_tuple:isT "tuple" "tuple" = true:=rfl
theorem it_tuple_str:isT "tuple" "str" = false:=rfl
theorem it_tuple_int:isT "tuple" "int" = false:=rfl
theorem it_tuple_bool:isT "tuple" "bool" = false:=rfl
theorem it_list_list:isT "list" "list" = true:=rfl
theorem it_list_tuple:isT "list" "tuple" = false:=rfl
theorem it_list_str:isT "list" "str" = false:=rfl
theorem it_list_int:isT "list" "int" = false:=rfl
theorem it_list_bool:isT "list" "bool" = false:=rfl
theorem nrf_non:nrf .non=true:=rfl
theorem nrf_bl (b:Bool):nrf (.bl b)=true:=rfl
theorem nrf_int (b:Int):nrf (.int b)=true:=rfl
theorem nrf_str (b:Str):nrf (.str b)=true:=rfl
theorem q9a (b:List PV):nrf (.tup b)=nrfs b:=by simp only [nrf]
theorem eqB_ii (a b:Int):eqB (.int a) (.int b)=decide (a=b):=by simp only [eqB]; exact Bool.beq_eq_decide_eq a b
theorem q7h (a b:Str):eqB (.str a) (.str b)=decide (a=b):=by
 simp only [eqB]
 by_cases h:a=b
 ·subst h; simp
 ·rw [decide_eq_false h]; exact beq_eq_false_iff_ne.mpr h
theorem eqB_st (a:Str) (b:List PV):eqB (.str a) (.tup b)=false:=by simp only [eqB]
theorem eqB_ts (a:List PV) (b:Str):eqB (.tup a) (.str b)=false:=by simp only [eqB]
theorem eqB_tt (a b:List PV):eqB (.tup a) (.tup b)=eqBs a b:=by simp only [eqB]
theorem okEq_str (a:Str):okEq (.str a)=True:=by simp [okEq,nrf,dep]
theorem okEqs_strs (l:List Str):q6r (l.map PV.str):=by
 refine ⟨?_,?_⟩
 ·induction l with
  | nil=>rfl
  | cons a r ih=>simp only [List.map_cons,nrfs,nrf,ih,Bool.and_self]
 ·induction l with
  | nil=>simp [deps]
  | cons a r ih=>simp only [List.map_cons,deps,dep]; omega
theorem q8z:q6r []=True:=by simp [q6r,nrfs,deps]
theorem cEq_ii (a b:Int) (S:q0h) (Q:VC):cEq (.int a) (.int b) S Q=(Q (.bl (decide (a=b))) S):=by simp only [cEq,cEqG,nrf,eqB_ii,q4s,q5w,true_and,and_self]
theorem cEq_ss (a b:Str) (S:q0h) (Q:VC):cEq (.str a) (.str b) S Q=(Q (.bl (decide (a=b))) S):=by simp only [cEq,cEqG,nrf,q7h,q4s,q5w,true_and,and_self]
theorem cEq_st (a:Str) (b:List PV) (S:q0h) (Q:VC):cEq (.str a) (.tup b) S Q=(nrfs b=true∧Q (.bl false) S):=by simp only [cEq,cEqG,nrf,eqB,q4s,q5w,true_and,and_true,Bool.not_false]
theorem cEq_ts (a:List PV) (b:Str) (S:q0h) (Q:VC):cEq (.tup a) (.str b) S Q=(nrfs a=true∧Q (.bl false) S):=by simp only [cEq,cEqG,nrf,eqB,q4s,q5w,true_and,and_true,Bool.not_false]
theorem cEq_tt (a b:List PV) (S:q0h) (Q:VC):cEq (.tup a) (.tup b) S Q=((okEq (.tup a)∧okEq (.tup b))∧Q (.bl (eqBs a b)) S):=by simp only [cEq,cEqG,q4s,q5w]
theorem cEq_rr (m n:Nat) (S:q0h) (Q:VC):cEq (.ref m) (.ref n) S Q=(match q3u S m,q3u S n with
  | some xs,some ys=>(q6r xs∧q6r ys)∧Q (.bl (eqBs xs ys)) S
  | _,_=>False):=by simp only [cEq,cEqG,q4s,q5w]; try rfl
theorem cNe_ii (a b:Int) (S:q0h) (Q:VC):cNe (.int a) (.int b) S Q=(Q (.bl (!decide (a=b))) S):=by simp only [cNe,cEqG,nrf,eqB_ii,q4s,q5w,true_and,and_self]
theorem cNe_ss (a b:Str) (S:q0h) (Q:VC):cNe (.str a) (.str b) S Q=(Q (.bl (!decide (a=b))) S):=by simp only [cNe,cEqG,nrf,q7h,q4s,q5w,true_and,and_self]
theorem cNe_st (a:Str) (b:List PV) (S:q0h) (Q:VC):cNe (.str a) (.tup b) S Q=(nrfs b=true∧Q (.bl true) S):=by simp only [cNe,cEqG,nrf,eqB,q4s,q5w,true_and,and_true,Bool.not_false]
theorem cNe_ts (a:List PV) (b:Str) (S:q0h) (Q:VC):cNe (.tup a) (.str b) S Q=(nrfs a=true∧Q (.bl true) S):=by simp only [cNe,cEqG,nrf,eqB,q4s,q5w,true_and,and_true,Bool.not_false]
theorem cNe_tt (a b:List PV) (S:q0h) (Q:VC):cNe (.tup a) (.tup b) S Q=((okEq (.tup a)∧okEq (.tup b))∧Q (.bl (!eqBs a b)) S):=by simp only [cNe,cEqG,q4s,q5w]
theorem cNe_rr (m n:Nat) (S:q0h) (Q:VC):cNe (.ref m) (.ref n) S Q=(match q3u S m,q3u S n with
  | some xs,some ys=>(q6r xs∧q6r ys)∧Q (.bl (!eqBs xs ys)) S
  | _,_=>False):=by simp only [cNe,cEqG,q4s,q5w]; try rfl
theorem cIn_r (x:PV) (n:Nat) (S:q0h) (Q:VC):cIn x (.ref n) S Q=(match q3u S n with
  | some ys=>(okEq x∧q6r ys)∧Q (.bl (ys.any fun y=>eqB y x)) S
  | none=>False):=by cases x<;>(simp only [cIn,cInG,q4s,q5w]; try rfl)
theorem big {n:Nat} (h:n≤1000000):n≤sizeLine:=Nat.le_trans h (by decide)
theorem bigl {n:Nat} (h:n≤1000000):n<sizeLine:=Nat.lt_of_le_of_lt h (by decide)
end My
namespace Ev
open PySem PySem.Spec PyProof.Rows L2
section
variable {X:Cx} {G:GX} {pos:Pos}
end
end Ev
namespace Ev
open PySem PySem.Spec PyProof.Rows L2
section
variable {X:Cx} {G:GX} {pos:Pos}
def Itv (K:PySem.W.Frag) (a:Addr) (n:Nat):It:=
 ⟨fun i H=>∃xs x,SqL K H a xs∧i<n∧xs[n - 1 - i]?=some x,fun i H x H'=>H'=H∧∀xs,SqL K H a xs→xs[n - 1 - i]?=some x,fun i _=>n≤i⟩
theorem turn_rev {P:Program} {w:World} {K:PySem.W.Frag} {tg:Expr} (a it:Addr) (n:Nat):Turn P w K tg (Itv K a n) [it] it (fun i h=>i≤n∧h.IsRevIter it a ((n:Int) - 1 - i)) where
 mem:=by simp
 obj:=fun i h st b hb=>by
  have e:b=it:=by simpa using hb
  subst e
  obtain ⟨_,o,e,c,d⟩:=st
  exact ⟨o,e,fun v z=>by rw [d] at z; cases z⟩
 keep:=fun i h h' st k=>⟨st.1,st.2.at fun o e=>k it (by simp) o e⟩
 item:=by
  intro X hP hw hK hc i pins s σ H E I hf st hg
  subst hP hw hK
  obtain ⟨xs,x,hq,hi,hx⟩:=hg
  obtain ⟨its,rv,p,hz⟩:=I.list hq
  obtain ⟨u,hu,ru⟩:=rv.get hx
  obtain ⟨f0,f1,f2,f3,f4,f5⟩:=hf it (by simp)
  have st2:=st.2
  rw [show (n:Int) - 1 - i=((n - 1 - i:Nat):Int) by omega] at st2
  refine wpAny_pyNext_rev_item st2 p.isList (x:=u) (by simpa using hu) fun h' st' sb=>?_
  have I1:Inv X pins σ H { s with heap:=h' }:=I.turned (t':=s.toks) (fun b o hb e=>(sb.2 b hb).trans e) f0 f1 f3 f4 f5
  rw [show ((n - 1 - i:Nat):Int) - 1=(n:Int) - 1 - ((i+1:Nat):Int) by omega] at st'
  obtain ⟨o,e,c,d⟩:=id st'
  exact ⟨u,rfl,go_of (s:={ s with heap:=h' }) e c d (by decide) ⟨x,H,I1,ru,⟨rfl,fun ys hy=>by rw [I.list_inj hy hq]; exact hx⟩,⟨hi,st'⟩,fun b hb=>(hf b hb).1⟩⟩
 done:=by
  intro X hP hw hK hc i pins s σ H E I hf st hg
  subst hP hw hK
  obtain ⟨f0,f1,f2,f3,f4,f5⟩:=hf it (by simp)
  have hg:n≤i:=hg
  have st2:=st.2
  have h1:=st.1
  rw [show (n:Int) - 1 - i=-1 by omega] at st2
  exact wpAny_pyNext_rev_end (I.ok.hd hc) st2 fun h' eb=>⟨rfl,I.turned (t':=s.toks) (fun b o hb e=>eb b o hb e) f0 f1 f3 f4 f5⟩
 self:=fun _ _ _ _ _ st h=>wpAny_pyIter_revIter st.2 h
def iRev (K:PySem.W.Frag) (tl:TE):TI:=fun σ H R=>tl σ H fun x H1=>∃a xs,x=.ref a∧SqL K H1 a xs∧R (Itv K a xs.length) H1
theorem boot_rev:bootBuiltins (Str.ofString "reversed")=some (.type "reversed"):=by with_unfolding_all rfl
theorem pi_rev {tg l:Expr} {tl:TE} {p:Pos} (hl:PE X l tl) (hm:X.mg "reversed" = none) (hg:Gl X "reversed" :=by rfl) (he:starEach [l] X.env=(false,eval l X.env)::starEach [] X.env:=by rfl):PI X tg (.Call (.Name "reversed" p) [l] [] pos) (iRev X.K tl):=by
 intro pins s σ H R I h
 refine wpAny_Call_Name_kw (ld_blt I hg hm boot_rev ?_)
 refine PyProof.Rows.callWith_type1 ?_ he rfl
 rw [he]
 show wpAny _ _ (spliced ((false,eval l X.env)::backTo pos (starEach [] X.env))) _ _ s
 refine Calls.spliced_cons (thn (hl pins s σ H _ I h) ?_)
 rintro v s1 ⟨x,H1,I1,r1,a,xs,rfl,hq,q⟩
 refine Calls.spliced_nil ?_
 cases r1
 obtain ⟨its,rv,p,hz⟩:=I1.list hq
 refine call_reversed_list p.isList ?_
 have e0:(its.toArray.size:Int) - 1=(xs.length:Int) - 1 - ((0:Nat):Int):=by have:=rv.length; simp; omega
 refine wpAny_pyIter_revIter (l:=a) (i:=(its.toArray.size:Int) - 1) ⟨_,Heap.get?_push_size _ rfl,rfl,rfl⟩ ?_
 refine ⟨s1.heap.objs.size,[s1.heap.objs.size],_,_,H1,rfl,I1.kept (t':=s1.toks) fun b o e=>Heap.get?_push_of_some _ e,turn_rev a _ xs.length,⟨Nat.zero_le _,_,Heap.get?_push_size _ rfl,rfl,by rw [e0]; rfl⟩,fun b hb=>?_,q⟩
 have e:b=s1.heap.objs.size:=by simpa using hb
 subst e
 exact I1.fpOk (Nat.le_refl _) (I1.hok.fresh (Nat.le_refl _))
theorem itr_rev {K:PySem.W.Frag} {φ:List Addr} {H:Hp} {n k:Nat} {a:Addr} {xs:List PV} (qa:φ[n]?=some a) (hk:k=xs.length):ItR K φ H (Itv K a k) ⟨xs.reverse,fun S=>q3u S n=some xs⟩ where
 go:=fun φ1 H1 S1 p m R e i x hx=>by
  subst hk
  obtain ⟨vs,sa,ra⟩:=R.seq (q6p p qa) e
  have hi:i<xs.length:=by have:=(List.getElem?_eq_some_iff.mp hx).1; simpa using this
  have hx':xs[xs.length - 1 - i]?=some x:=by rw [←List.getElem?_reverse hi]; exact hx
  obtain ⟨y,ey,ry⟩:=ra.get hx'
  refine ⟨⟨vs,y,sa,hi,ey⟩,fun y' H' hh1=>?_⟩
  obtain ⟨e1,e2⟩:=hh1
  subst e1
  have:=e2 vs sa
  rw [ey] at this
  cases this
  exact ⟨φ1,List.prefix_refl _,.refl _,R,ry⟩
 stop:=fun φ1 H1 S1 p m R e i hi=>by
  subst hk
  have:xs.reverse.length≤i:=hi
  rw [List.length_reverse] at this
  exact this
def wiRev (w:WE):WI:=fun σ S E Q=>w σ S E fun x S1=>match x with
 | .ref n=>match q3u S1 n with
  | some xs=>Q ⟨xs.reverse,fun S=>q3u S n=some xs⟩ S1
  | none=>False
 | _=>False
theorem simI_rev {tg l:Expr} {w:WE} {p:Pos} (hm:X.mg "reversed" = none) (hl:SimE X G l w) (hg:Gl X "reversed" :=by rfl) (he:starEach [l] X.env=(false,eval l X.env)::starEach [] X.env:=by rfl):SimI X G tg (.Call (.Name "reversed" p) [l] [] pos) (wiRev w):=
 PI.imp (pi_rev hl hm hg he) fun σV H Q hh1=>by obtain ⟨φ,σ,S,Q0,L,R,h,k⟩:=hh1; exact (⟨φ,σ,S,_,L,R,h,fun v S1 φ1 H1 x q p1 m1 R1 r1=>by
  split at q
  ·rename_i n
   split at q
   ·rename_i xs e
    obtain ⟨a,rfl,qa⟩:=r1
    obtain ⟨vs,sa,ra⟩:=R1.seq qa e
    exact ⟨a,vs,rfl,sa,k _ S1 φ1 H1 _ q p1 m1 R1 (itr_rev qa ra.length.symm)⟩
   ·exact q.elim
  ·exact q.elim⟩)
end
end Ev
namespace Ev
open PySem PySem.Spec PyProof.Rows L2
section
variable {X:Cx} {G:GX} {pos:Pos}
end
end Ev
namespace My
open PySem L2 Ev
theorem ix_t (xs:List PV) (i:Int) (S:q0h) (Q:VC):bIx (.tup xs) (.int i) S Q=match atI xs i with
  | some v=>Q v S
  | none=>False:=rfl
theorem ix_s (z:Str) (i:Int) (S:q0h) (Q:VC):bIx (.str z) (.int i) S Q=(z.length≤sizeLine∧match atI z.cps.toList i with
  | some c=>Q (.str ⟨#[c]⟩) S
  | none=>False):=rfl
theorem ix_f (xs:List PV) (i:Int) (S:q0h) (Q:VC):bIx (.frl xs) (.int i) S Q=match atI xs i with
  | some v=>Q v S
  | none=>False:=rfl
theorem ix_r (n:Nat) (y:PV) (S:q0h) (Q:VC):bIx (.ref n) y S Q=match S[n]? with
  | some (.lst xs)=>match y with
   | .int i=>match atI xs i with
    | some v=>Q v S
    | none=>False
   | _=>False
  | some (.dK kvs)=>match q9i y with
   | some k=>match valP kvs k with
    | some v=>Q v S
    | none=>False
   | none=>False
  | _=>False:=rfl
end My
namespace L2
open PySem PySem.Spec PyProof.Rows
def Cx.nx (X:Cx):Cx:={ X with xe:=fun _ _=>False }
def Cx.hd (X:Cx) (e:Addr):Cx:={ X with A:=X.A.mark (some (.ref e)),calm:=false,xe:=fun _ _=>False }
section
variable {X:Cx} {pins:List (Addr×Obj)} {σ:St} {H H':Hp} {s:Shared}
theorem Inv.nx (I:Inv X pins σ H s):Inv X.nx pins σ H s:=
 ⟨⟨I.ok.mod,I.ok.kind,I.ok.glob,I.ok.blt,I.ok.above,I.ok.inj,I.ok.has,I.ok.cab,I.ok.hd,I.ok.frames,I.ok.stk,I.ok.exf,I.ok.bs,I.ok.bsz,I.ok.noex,I.ok.exfs,I.ok.funs,I.ok.frf⟩,I.os,I.bare,I.base,I.loc,I.cell,I.free,I.freeC,I.pin,I.hok,I.len⟩
theorem Inv.ofnx (o:X.Ok) (I:Inv X.nx pins σ H s):Inv X pins σ H s:=⟨o,I.os,I.bare,I.base,I.loc,I.cell,I.free,I.freeC,I.pin,I.hok,I.len⟩
theorem Inv.hd {e:Addr} (I:Inv X pins σ H s):Inv (X.hd e) pins σ H s:=
 ⟨⟨I.ok.mod,I.ok.kind,I.ok.glob,I.ok.blt,I.ok.above,I.ok.inj,I.ok.has,I.ok.cab,fun z=>(Bool.false_ne_true z).elim,I.ok.frames,I.ok.stk,I.ok.exf,I.ok.bs,I.ok.bsz,I.ok.noex,I.ok.exfs,I.ok.funs,I.ok.frf⟩,I.os,I.bare,I.base,I.loc,I.cell,I.free,I.freeC,I.pin,I.hok,I.len⟩
theorem Inv.ofhd {e:Addr} (o:X.Ok) (I:Inv (X.hd e) pins σ H s):Inv X pins σ H s:=⟨o,I.os,I.bare,I.base,I.loc,I.cell,I.free,I.freeC,I.pin,I.hok,I.len⟩
theorem SP.imp {Y:Cx} {D:Ends} {f:Flow} (i:∀σ H s,Inv Y pins σ H s→Inv X pins σ H s) (h:SP Y pins D f s):SP X pins D f s:=by
 unfold SP at *
 cases f with
 | next=>obtain ⟨a,b,c,d⟩:=h; exact ⟨a,b,i _ _ _ c,d⟩
 | brk=>obtain ⟨a,b,c,d⟩:=h; exact ⟨a,b,i _ _ _ c,d⟩
 | cont=>obtain ⟨a,b,c,d⟩:=h; exact ⟨a,b,i _ _ _ c,d⟩
 | ret u=>obtain ⟨v,a,b,c,d⟩:=h; exact ⟨v,a,b,i _ _ _ c,d⟩
end
def EXE (X:Cx) (pins:List (Addr×Obj)) (σ:St) (E:XK):Value→Shared→Prop:=fun e s'=>∃H1 s1,Inv X pins σ H1 s1∧CXE X.prog X.w X.stack H1 s1 E e s'
abbrev TEX:=St→Hp→VK→XK→Prop
def PEX (X:Cx) (e:Expr) (t:TEX):Prop:=
 ∀(pins:List (Addr×Obj)) (s:Shared) (σ:St) (H:Hp) (Q:VK) (E:XK),Inv X pins σ H s→t σ H Q E→wpAny (model X.prog X.w) X.A (eval e X.env) (EP X pins σ Q) (EXE X pins σ E) s
abbrev XC:=Value→St→Hp→Prop
abbrev TSX:=Ends→XC→St→Hp→Prop
def XEnd (X:Cx) (pins:List (Addr×Obj)) (E:XC):Value→Shared→Prop:=fun e s'=>∃σ,EXE X pins σ (fun cls _ H'=>E cls σ H') e s'
def PSX (X:Cx) (st:Stmt) (t:TSX):Prop:=
 ∀(pins:List (Addr×Obj)) (s:Shared) (σ:St) (H:Hp) (D:Ends) (E:XC),Inv X pins σ H s→t D E σ H→wpAny (model X.prog X.w) X.A (exec st X.env) (SP X pins D) (XEnd X pins E) s
def PSXs (X:Cx) (st:List Stmt) (t:TSX):Prop:=
 ∀(pins:List (Addr×Obj)) (s:Shared) (σ:St) (H:Hp) (D:Ends) (E:XC),Inv X pins σ H s→t D E σ H→wpAny (model X.prog X.w) X.A (execs st X.env) (SP X pins D) (XEnd X pins E) s
section
variable {X:Cx} {k:Nat} {f:Addr} {fd:FuncData} {ps:List Str} {sp:Sp} {dvs:List V} {ds:List Value} {x:Str} {p pos:Pos} {e:Expr} {es:List Expr} {t:TA}
theorem run_fnX {pins:List (Addr×Obj)} {σ:St} {H:Hp} {s:Shared} {Q:VK} {E:XK} {us:List Value} {vs:List V} (F:FnOk X.prog X.w X.K X.mg X.base (CXE X.prog X.w) k f fd ps sp) (hr:Room k X.A) (hb:Binds X.K fd ps ds) (hd:Vals dvs ds)
  (I:Inv X pins σ H s) (r:Vals vs us) (h:sp (vs++dvs) H Q E):wpAny (model X.prog X.w) X.A (call (.ref f) us) (EP X pins σ Q) (EXE X pins σ E) s:=by
 have r2:Vals (vs++dvs) (us++ds):=r.append hd
 have hl:(us++ds).length=ps.length:=by rw [←r2.length]; exact F.len _ _ _ _ h
 refine wpAny_call (codeAny_mono (F.run X.A X.stack s H ⟨us,[]⟩ (us++ds) (vs++dvs) Q E hr I.env0 (hb s us I.kIn hl) r2 h) fun r s' hq=>?_)
 cases r with
 | error e=>exact ⟨H,s,I,hq⟩
 | ok fl=>
  cases fl with
  | ret u=>exact I.after hq
  | next=>exact False.elim hq
  | brk=>exact False.elim hq
  | cont=>exact False.elim hq
theorem pex_call (F:FnOk X.prog X.w X.K X.mg X.base (CXE X.prog X.w) k f fd ps sp) (hr:Room k X.A) (hg:Gl X x) (hm:X.mg x=some (.ref f)) (hk:PySem.W.keepIn X.K (.ref f)=true) (hb:Binds X.K fd ps ds) (hd:Vals dvs ds)
  (ha:PA X.nx (e::es) t) (hdb:(x == ("__debug__" : Str))=false:=by decide) (he:starEach (e::es) X.env=(false,eval e X.env)::starEach es X.env:=by rfl) (hpl:(backTo pos (starEach es X.env)).any (·.1)=false:=by rfl) :
  PEX X (.Call (.Name x p) (e::es) [] pos) (fun σ H Q E=>t σ H fun vs H1=>sp (vs++dvs) H1 Q E):=by
 intro pins s σ H Q E I h
 refine wpAny_Call_Name_kw (q9h I hg hm ?_ hdb)
 refine PySem.W.callWith_K (h₀:=X.base) I.ok.mod.kin hk (wpAny_mono (ha pos pins s σ H _ I.nx h) (fun us s1 ⟨vs,H1,I1,r,q⟩=>⟨(I1.ofnx I.ok).kIn,?_⟩) fun _ _ z=>z.elim) he hpl
 exact run_fnX F hr hb hd (I1.ofnx I.ok) r q
end
section
variable {X:Cx} {e:Expr} {te:TEX} {pos:Pos}
theorem psx_expr (he:PEX X e te) (hs:swapsWith e none pos.line X.env=pure false:=by rfl):PSX X (.Expr e pos) (fun D E σ H=>te σ H (fun _ H1=>D.nx σ H1) fun cls _ H'=>E cls σ H'):=by
 intro pins s σ H D E I h
 exact wpAny_Expr_any (wpAny_mono (he pins s σ H _ _ I h) (fun v s1 hh1=>by obtain ⟨x,H1,I1,r1,q1⟩:=hh1; exact (⟨σ,H1,I1,q1⟩)) fun _ _ z=>⟨σ,z⟩) I.quiet hs
theorem psxs_nil:PSXs X [] (fun D _ σ H=>D.nx σ H):=by
 intro pins s σ H D E I h
 exact wpAny_execs_nil ⟨σ,H,I,h⟩
theorem psxs_cons {st:Stmt} {sts:List Stmt} {t u:TSX} (a:PSX X st t) (b:PSXs X sts u):PSXs X (st::sts) (fun D E σ H=>t { D with nx:=fun σ1 H1=>u D E σ1 H1 } E σ H):=by
 intro pins s σ H D E I h
 refine wpAny_execs_cons (wpAny_mono (a pins s σ H _ E I h) (fun f s1 q=>?_) fun _ _ z=>z)
 cases f with
 | next=>obtain ⟨σ1,H1,I1,q1⟩:=q; exact b pins s1 σ1 H1 D E I1 q1
 | ret u=>exact q
 | brk=>exact q
 | cont=>exact q
end
end L2
namespace L2
open PySem PySem.Spec PyProof.Rows
section
variable {X:Cx} {pins:List (Addr×Obj)} {σ:St} {H H':Hp} {s:Shared}
theorem Inv.gone {i:Nat} {x:Str} {h':Heap} {t':Nat} {m:Str→Option Value} {v:Option Value} (I:Inv X pins σ H s) (hN:X.N.Nodup) (hi:X.N[i]?=some x) (hm:s.heap.Ns X.env.locals m) (hn':h'.Ns X.env.locals (fun y=>if y=x then v else m y)) (hs:Heap.SameBut X.env.locals s.heap h') :
  Inv X pins (σ.set i none) H { s with heap:=h',toks:=t' }:=by
 obtain ⟨m0,hn,hl⟩:=id I.loc
 have em:m0=m:=by rw [hn.eq_nsMap,hm.eq_nsMap]
 subst em
 have cne:=I.cne
 have tracked:HOk X.prog X.w H h':=fun b ob e=>by
  refine (I.hok b ob e).stay (fun c w' hc q=>(hs.2 c ?_).trans q) (fun _ q=>q) fun _ _ q=>q
  rintro rfl
  rcases hc with rfl | hc
  ·rw [I.free] at e; cases e
  ·rw [I.free] at hc; cases hc
 refine ⟨I.ok,I.os,I.bare,⟨fun b o e n hb hx=>?_,fun b o e n hb hx=>?_,I.base.free,fun b o e hx=>?_,I.base.tups,I.base.frzs,I.base.tbls⟩,⟨_,hn',fun j y v' e1 e2 e3=>?_⟩,fun y c e=>?_,I.free,I.freeC,fun p hp=>?_,tracked,by simpa using I.len⟩
 ·exact (hs.2 b (Nat.ne_of_lt (Nat.lt_of_lt_of_le (Heap.lt_size e) I.ok.above))).trans (I.base.keep b o e n hb hx)
 ·obtain ⟨sl,e1⟩:=I.base.slot b o e n hb hx
  exact ⟨sl,(hs.2 b (Nat.ne_of_lt (Nat.lt_of_lt_of_le (Heap.lt_size e) I.ok.above))).trans e1⟩
 ·obtain ⟨o',e1⟩:=I.base.there b o e hx
  exact ⟨o',(hs.2 b (Nat.ne_of_lt (Nat.lt_of_lt_of_le (Heap.lt_size e) I.ok.above))).trans e1⟩
 ·have hj:j≠i:=by
   rintro rfl
   by_cases hlt:j<σ.length
   ·rw [List.getElem?_set_self hlt] at e2; cases e2
   ·rw [List.getElem?_eq_none (by simpa using hlt)] at e2; cases e2
  rw [List.getElem?_set_ne (Ne.symm hj)] at e2
  obtain ⟨u',r',q⟩:=hl j y v' e1 e2 e3
  refine ⟨u',r',?_⟩
  rcases q with ⟨k,e⟩ | ⟨k,c,e,z⟩
  ·refine .inl ⟨k,?_⟩
   have:y≠x:=fun e=>hj (nodup_ix hN e1 (e▸hi))
   simp [this,e]
  ·exact .inr ⟨k,c,e,z.sameBut hs (cne y c e)⟩
 ·obtain ⟨w',z⟩:=I.cell y c e
  exact ⟨w',z.sameBut hs (cne y c e)⟩
 ·obtain ⟨e,n,ne,nf,d⟩:=I.pin p hp
  exact ⟨(hs.2 p.1 ne).trans e,n,ne,nf,d⟩
theorem Inv.news {b:Addr} (I:Inv X pins σ H s) (n:s.heap.get? b=none):(b∈X.ex∨X.s₀.heap.get? b=none)∧b≠X.env.locals∧(∀x c,X.env.cells.lookup x=some c→c≠b)∧∀p∈X.pn++pins,p.1≠b:=by
 refine ⟨?_,?_,fun x c e z=>?_,fun p hp z=>?_⟩
 ·by_cases hb:b∈X.ex
  ·exact .inl hb
  ·refine .inr ?_
   cases q:X.s₀.heap.get? b with
   | none=>rfl
   | some o=>
    obtain ⟨o',e1⟩:=I.base.there b o q hb
    rw [n] at e1; cases e1
 ·rintro rfl
  obtain ⟨m,⟨o,_,_,ho,_⟩,_⟩:=I.loc
  rw [n] at ho; cases ho
 ·subst z
  obtain ⟨v,o,ho,_⟩:=I.cell x c e
  rw [n] at ho; cases ho
 ·subst z
  obtain ⟨e,_⟩:=I.pin p hp
  rw [n] at e; cases e
theorem ns_slots {h h':Heap} {L:Addr} {m:Str→Option Value} (hn:h.Ns L m) (k:∀o,h.get? L=some o→∃sl,h'.get? L=some { o with slots:=sl }):h'.Ns L m:=by
 obtain ⟨o,es,ep,ho,r⟩:=hn
 obtain ⟨sl,e⟩:=k o ho
 exact ⟨_,es,ep,e,r⟩
theorem Inv.past {h':Heap} {own:List Addr} (I:Inv X pins σ H s) (hst:X.stack=X.env::X.outer) (hf:X.env.frame=some X.env.locals) (nw:∀b∈own,((b∈X.ex∨X.s₀.heap.get? b=none)∧b≠X.env.locals∧(∀x c,X.env.cells.lookup x=some c→c≠b)∧∀p∈X.pn++pins,p.1≠b)∧H b=none)
  (p:Past (frs X.stack) own s.heap h'):Inv X pins σ H { s with heap:=h' }:=by
 have efs:frs X.stack=X.env.locals::X.fs:=by rw [hst]; show frs (X.env::X.outer)=_; unfold frs; rw [List.filterMap_cons,hf]; rfl
 refine I.stepX (ch:=own) (g':=s.gens) (d':=s.drawn) (t':=s.toks) (fun b hb=>(nw b hb).1) (fun b o n1 n2 n3 e _=>?_) (fun b o n1 n2 n3 e _=>?_) (fun b o _ _ z=>z) (fun b o _ e=>p.there b o e) (fun b xs z=>z) (fun b o u z=>z) (fun b ps z=>⟨#[],by rw [Array.append_empty]; exact z⟩) (fun m hn=>?_) (HOk.past I.hok p I.stkFree fun b hb=>(nw b hb).2) I.bare
 ·exact p.keep b o e n3 (by rw [efs]; exact fun z=>(List.mem_cons.mp z).elim n1 n2)
 ·exact p.slot b o e n3 (by rw [efs]; exact List.mem_cons_of_mem _ n2)
 ·refine ns_slots hn fun o ho=>p.slot _ o ho (fun z=>(nw _ z).1.2.1 rfl) (by rw [efs]; exact List.mem_cons_self)
theorem Inv.trackX {a:Addr} {φ:Heap→Prop} (I:Inv X pins σ H s) (nw:(a∈X.ex∨X.s₀.heap.get? a=none)∧a≠X.env.locals∧(∀x c,X.env.cells.lookup x=some c→c≠a)∧∀p∈X.pn++pins,p.1≠a) (na:H a=none) (x:q3a X.prog X.w (upd H a (.ext φ)) s.heap a (.ext φ)):Inv X pins σ (upd H a (.ext φ)) s:=by
 have up:∀b u,H b=some u→upd H a (.ext φ) b=some u:=fun b u z=>by
  rw [q0w (fun w=>by subst w; rw [na] at z; cases z)]; exact z
 refine I.stepX (ch:=[a]) (h':=s.heap) (g':=s.gens) (d':=s.drawn) (t':=s.toks) (fun b hb=>by simp only [List.mem_singleton] at hb; subst hb; exact nw) (fun b o n1 n2 n3 e _=>e) (fun b o n1 n2 n3 e _=>⟨o.slots,e⟩) (fun b o n _ z=>by rw [q0w (by simpa using n)]; exact z) (fun b o _ e=>⟨o,e⟩) (fun b xs z=>up b _ z) (fun b o u z=>up b _ z) (fun b ps z=>⟨#[],by rw [Array.append_empty]; exact up b _ z⟩) (fun m hn=>hn) (fun b u e=>?_) I.bare
 by_cases hb:b=a
 ·subst hb
  rw [q1w] at e; cases e
  exact x
 ·rw [q0w hb] at e
  exact (I.hok b u e).stay (fun _ _ _ q=>q) (fun c q=>up c _ q) fun c xs q=>up c _ q
end
def dropN (i:Nat) (D:Ends):Ends:={ nx:=fun σ H=>D.nx (σ.set i none) H,rt:=D.rt,bk:=fun σ H=>D.bk (σ.set i none) H,ct:=fun σ H=>D.ct (σ.set i none) H }
def q7z (a:Addr) (cls:Value) (h:Heap):Prop:=∃o vs,h.get? a=some o∧o.cls=cls∧o.data=.fields vs
theorem q7z.ok {P:Program} {w:World} {H:Hp} {a T:Addr} {cls:Value} {h:Heap} (F:Fly a cls [T] h):q3a P w H h a (.ext (q7z a cls)):=by
 obtain ⟨oe,vs,hd,he,hc,hdt,h1,hh⟩:=F.is
 refine ⟨⟨oe,vs,he,hc,hdt⟩,⟨oe,he⟩,fun h1 h2 hh1 k=>by obtain ⟨o,vs,q,c,d⟩:=hh1; exact (⟨o,vs,k o q,c,d⟩)⟩
section
variable {X:Cx} {i:Nat} {y n:Str} {yp hpos pos:Pos} {cv:Value} {body suite:List Stmt} {b₀:Stmt} {tb:TSX} {ts:TS}
theorem caught {pins:List (Addr×Obj)} {E:XC} {e:Value} {s':Shared} {Q:Flow→Shared→Prop} {hs:List ExceptHandler} (hst:X.stack=X.env::X.outer) (hf:X.env.frame=some X.env.locals) (h:XEnd X pins E e s')
  (go:∀a T cls σ H h',e=.ref a→Inv X pins σ H { s' with heap:=h' }→Fly a cls [T] h'→(∀b∈[a,T],((b∈X.ex∨X.s₀.heap.get? b=none)∧b≠X.env.locals∧(∀x c,X.env.cells.lookup x=some c→c≠b)∧∀p∈X.pn++pins,p.1≠b)∧H b=none)→E cls σ H→wpAny (model X.prog X.w) X.A (handleBy (.ref a) X.env hs) Q X.xe { s' with heap:=h' }) :
  wpAny (model X.prog X.w) X.A (noteFrame e X.env) (fun _ s₂=>wpAny (model X.prog X.w) X.A (setFlight e none) (fun _ s₃=>wpAny (model X.prog X.w) X.A (handleBy e X.env hs) Q X.xe s₃) X.xe s₂) X.xe s':=by
 obtain ⟨σ,H1,s1,I1,a,cls,own,H2,rfl,os,bare,un,hok,F,new,q⟩:=h
 have I2:Inv X pins σ H2 s':=I1.call' os un hok bare (fun b z=>absurd z (by simp))
 refine note_fly (base:=X.base) (outer:=X.outer) (by rw [I2.ok.frames,hst]) (by have:=I2.stack; rw [hst] at this; exact this) hf F fun h' T nT P' F'=>?_
 have nw:∀b∈a::own,((b∈X.ex∨X.s₀.heap.get? b=none)∧b≠X.env.locals∧(∀x c,X.env.cells.lookup x=some c→c≠b)∧∀p∈X.pn++pins,p.1≠b)∧H2 b=none:=fun b hb=>⟨I1.news (new b hb).1,(new b hb).2⟩
 refine go a T cls σ H2 h' rfl (I2.past hst hf nw (by rw [hst]; exact P')) F' (fun b hb=>?_) q
 simp only [List.mem_cons,List.not_mem_nil,or_false] at hb
 rcases hb with rfl | rfl
 ·exact nw b (by simp)
 ·exact ⟨I2.news nT,HOk.none_of I2.hok nT⟩
theorem ps_try (hst:X.stack=X.env::X.outer) (hf:X.env.frame=some X.env.locals) (hB:PSXs X body tb) (hg:Gl X y) (hm:X.mg y=some cv) (hN:X.N.Nodup) (hi:X.N[i]?=some n) (hl:X.env.scope.names.lookup n=some .local) (hS:∀a,PSs (X.hd a) (b₀::suite) ts)
  (hk:X.env.kindOf n=some .local) (hd:(y == ("__debug__" : Str))=false:=by decide) :
  PS X (.Try body [.ExceptHandler (some (.Name y yp)) (some n) (b₀::suite) hpos] [] [] pos)
   (fun D σ H=>tb D (fun cls σ' H'=>PySem.W.exmOne X.K cls cv=some true∧∀a,H' a=none→ts (dropN i D) (σ'.set i (some (.ref a))) (upd H' a (.ext (q7z a cls)))) σ H):=by
 intro pins s σ H D I h
 have ok:=I.ok
 refine wpAny_Try_except (wpAny_mono (hB pins s σ H _ _ I h) (fun f s1 q=>?_) fun e s1 q=>?_)
 ·cases f with
  | next=>exact wpAny_execs_nil q
  | ret u=>exact q
  | brk=>exact q
  | cont=>exact q
 ·refine caught hst hf q fun a T cls σ1 H1 h1 _ I1 F1 nw hh1=>?_
  obtain ⟨em,hq⟩:=hh1
  refine wpAny_handleBy_cons (codeAny_handlers_test ?_) (by intro z; cases z)
  refine q9h (X:=X.hd a) (I1.hd (e:=a)) hg hm ?_ hd
  obtain ⟨oe,vs,hdv,he,hc,hdt,h1',hh⟩:=id F1.is
  subst hc
  have LT:PySem.W.Looks (model X.prog X.w) h1 (typeOf (.ref a)) oe.cls:=by
   unfold typeOf
   exact (PySem.W.Looks.ld he).andThen .now
  refine PySem.W.exm_one I1.kIn LT em _ _ _ _ (fun _ _ z=>z) ?_
  show codeAny _ _ _ _ _
  refine codeAny_handlers_suite_as ?_
  refine land_fly (fs:=frs X.stack) F1 fun h2 P2 F2=>?_
  have I2:Inv X pins σ1 H1 { s1 with heap:=h2 }:=I1.past (s:={ s1 with heap:=h1 }) (h':=h2) hst hf (own:=[T]) (fun b hb=>nw b (by simp only [List.mem_singleton] at hb; subst hb; simp)) P2
  have I3:=I2.trackX (φ:=q7z a oe.cls) (nw a (by simp)).1 (nw a (by simp)).2 (q7z.ok F2)
  refine store_ok (X:=X.hd a) (v:=.ref a) (u:=.ref a) (I3.hd (e:=a)) hN hi (.inl hl) rfl (fun s3 I4=>?_) (.inr hl)
  refine wpAny_mono (hS a pins s3 _ _ _ I4 (hq a (nw a (by simp)).2)) (fun f s4 q4=>?_) fun _ _ z=>z.elim
  show wpAny _ _ _ _ _ _
  have gone:∀σ' H',Inv (X.hd a) pins σ' H' s4→∀{Q:Flow→Shared→Prop},(∀s5,Inv X pins (σ'.set i none) H' s5→Q f s5)→wpAny (model X.prog X.w) X.A (do bindName X.env n .none; unbindBehindTheSuite X.env n hpos) (fun _ s₃=>Q f s₃) X.xe s4:=fun σ' H' I5 Q k=>by
   have I6:Inv X pins σ' H' s4:=I5.ofhd ok
   obtain ⟨m,hn,_⟩:=id I6.loc
   refine wpAny_nameGoes_keeps hk hn (by rw [ok.kind]; rfl) fun h' v hn' hs=>k _ (I6.gone hN hi hn hn' hs)
  cases f with
  | next=>obtain ⟨σ',H',I5,q5⟩:=q4; exact gone σ' H' I5 fun s5 I6=>⟨_,H',I6,q5⟩
  | brk=>obtain ⟨σ',H',I5,q5⟩:=q4; exact gone σ' H' I5 fun s5 I6=>⟨_,H',I6,q5⟩
  | cont=>obtain ⟨σ',H',I5,q5⟩:=q4; exact gone σ' H' I5 fun s5 I6=>⟨_,H',I6,q5⟩
  | ret u=>obtain ⟨v,σ',H',I5,r,q5⟩:=q4; exact gone σ' H' I5 fun s5 I6=>⟨v,_,H',I6,r,q5⟩
end
end L2
namespace L2
open PySem PySem.Spec PyProof.Rows
end L2
namespace L2
open PySem PySem.Spec PySem.W PySem.Calls PyProof.Rows Builtin Builtin.ObjectAttr Builtin.Getset_descriptor
structure ExcK (K:Frag) (D:Addr):Prop where
 c:(clsIn K D).isSome=true
 ga:findIn K (.ref D) "__getattribute__" = some (some (.builtin "BaseException.__getattribute__"))
 nga:findIn K (.ref D) "__getattr__" = some none
 cl:findIn K (.ref D) "__class__" = some (some (.builtin "object.__class__"))
 gt:specialIn K (.builtin "object.__class__") "__get__" = some (some (.builtin "getset_descriptor.__get__"))
 tk:takesIn K (.builtin "object.__class__")=some true
 mo:mroIn K D (.type "object")=some true
 mb:mroIn K D (.type "BaseException")=some true
section
variable {K:Frag} {D x:Addr} {prog:Program} {w:World} {A:Around} {E:Value→Shared→Prop} {s:Shared}
theorem exc_find {M:Model} {h:Heap} (X:K.In h) (e:ExcK K D):Looks M h (find (.ref x) (.ref D) "__class__") (.bind (.builtin "getset_descriptor.__get__") (.builtin "object.__class__")):=by
 have L1:=looks_findIn (M:=M) X e.cl
 have L2:Looks M h (getOf (some (.builtin "object.__class__"))) _:=looks_specialIn X e.gt
 have L3:=looks_takesIn (M:=M) X e.tk
 refine L1.andThen (L2.andThen ?_)
 exact (show Looks M h (dataDescriptor? (some (.builtin "object.__class__")) (some (.builtin "getset_descriptor.__get__"))) (some (_,_)) from L3.andThen .now).andThen (Looks.tag .now)
theorem exc_class_get {tp:Value} {R:Result→Shared→Prop} (X:K.In s.heap) (L0:Looks (model prog w) s.heap (typeOf (.ref x)) (.ref D)) (hm:mroIn K D (.type "object")=some true)
  (h:R (.ok (.ret (.ref D))) s):codeAny (model prog w) A (.call (.builtin "getset_descriptor.__get__") ⟨[.builtin "object.__class__",.ref x,tp],[]⟩) R s:=by
 obtain ⟨hh,g,dr,t,os⟩:=s
 have L1:=looks_mroIn (M:=model prog w) X hm
 refine codeAny_call_builtin KF.slot_gs.plain KF.entry_gs (KF.slot_gs.check _ _ _ _ _ _ _ _ KF.type_class (KF.args_gs _ _ _) ?_)
 unfold Builtin.«getset_descriptor.__get__» descrGet
 rw [dga_obj]
 refine wpAny_bind (wpAny_pure ?_)
 unfold descrGetter descrCheckInstance descrNameAndClass isInstance
 simp only [KF.owner_class]
 repeat lk
 refine ⟨Code.quiet_builtin _ (by decide +kernel),codeAny_builtin KF.entry_class ?_⟩
 unfold Builtin.«object.__class__» shownTypeOf
 repeat lk
 exact h
theorem exc_check {nameV:Value} {Q:Unit→Shared→Prop} {M:Model} (X:K.In s.heap) (L0:Looks M s.heap (typeOf (.ref x)) (.ref D)) (e:ExcK K D) (hq:Q () s):wpAny M A (checkBuiltinCall "BaseException.__getattribute__" ⟨[.ref x,nameV],[]⟩) Q E s:=by
 obtain ⟨hh,g,dr,t,os⟩:=s
 have hk:builtinKind "BaseException.__getattribute__" = some .slot:=by decide +kernel
 have hsplit:splitId "BaseException.__getattribute__" = some ("BaseException", "__getattribute__"):=by decide +kernel
 have ha:=F.args_bexc_ga (.ref x) nameV
 have LI:Looks M hh (isInstance (.ref x) (.type "BaseException")) true:=L0.andThen (looks_mroIn X e.mb)
 simp only [checkBuiltinCall,hk,hsplit]
 refine wpAny_bind ?_
 refine wpAny_bind (L0.at ((looks_mroIn X e.mb).at ?_))
 repeat (first | assumption | wp_step)
theorem exc_entry {tk:Tok} {Q:Fin→Shared→Prop} (X:K.In s.heap) (L0:Looks (model prog w) s.heap (typeOf (.ref x)) (.ref D)) (e:ExcK K D) (hq:Q (.done (.ret (.ref D))) s) :
  wpAny (model prog w) A (Builtin.«object.__getattribute__» ⟨[.ref x,.str "__class__" tk],[]⟩) Q E s:=by
 obtain ⟨hh,g,dr,t,os⟩:=s
 have LF:=exc_find (M:=model prog w) (x:=x) X e
 unfold Builtin.«object.__getattribute__»
 refine wpAny_bind (wpAny_pure ?_)
 refine wpAny_bind (wpAny_pure ?_)
 refine wpAny_bind (L0.at (wpAny_bind (LF.at ?_)))
 show wpAny _ _ (bindTo _ _ _ _) _ _ _
 unfold bindTo
 show wpAny _ _ (holding [_] (call _ [_,_,_]) >>= ret) _ _ _
 exact wpAny_bind (wpAny_holding (wpAny_call (exc_class_get (s:=⟨hh,g,dr,t,os⟩) X L0 e.mo (wpAny_pure hq))))
theorem exc_ca {Q:Option Value→Shared→Prop} (X:K.In s.heap) (L0:Looks (model prog w) s.heap (typeOf (.ref x)) (.ref D)) (e:ExcK K D) (hq:Q (some (.ref D)) { s with toks:=s.toks+1 }):wpAny (model prog w) A (getAttr? (.ref x) "__class__") Q E s:=by
 obtain ⟨hh,g,dr,t,os⟩:=s
 have FB:=F.attrBase_ValueError
 have L1:=looks_findIn (M:=model prog w) X e.ga
 have L2:=looks_findIn (M:=model prog w) X e.nga
 unfold getAttr? getAttrBy? getAttrBy
 refine wpAny_bind (wpAny_mkText (wpAny_bind (wpAny_attempt (wpAny_holding (wpAny_bind (L0.at (wpAny_bind (L1.at ?_))))))))
 show wpAny _ _ (getAttrByItsOwn _ _ _ _ _ _) _ _ _
 unfold getAttrByItsOwn
 refine wpAny_bind ?_
 show wpAny _ _ (typeLookup _ _) _ _ _
 refine L2.at (wpAny_bind (wpAny_attempt (wpAny_holding ?_)))
 show wpAny _ _ (boundAndCalled _ _ _) _ _ _
 unfold boundAndCalled
 rw [FB.ga.bind (.ref x)]
 refine wpAny_bind (wpAny_pure ?_)
 refine wpAny_call (codeAny_call_builtin FB.ga.plain F.entry_bexc_ga (exc_check (s:=⟨hh,g,dr,t+1,os⟩) X L0 e (exc_entry (s:=⟨hh,g,dr,t+1,os⟩) X L0 e ?_)))
 exact handed_on rfl (wpAny_pure hq)
theorem kitx_exc (e:ExcK K D):KitX K (.ref x) (.ref D) (fun h=>∃o,h.get? x=some o∧o.cls=.ref D) where
 ty:=fun M h _ ⟨o,q,c⟩=>c▸(Looks.ld q).andThen .now
 it:=fun _ _ X _=>by
  obtain ⟨cdD,hcD⟩:=Option.isSome_iff_exists.mp e.c
  unfold clsIn at hcD
  split at hcD
  ·rename_i c' d' cd' sl' ho
   intro A' Q' E' s' k q
   unfold isType loadHead
   exact wpAny_bind (wpAny_loadPart (k _ _ (X _ _ ho)) (wpAny_pure q))
  ·cases hcD
 ne:=fun h tp dd its n sl X htp=>by
  obtain ⟨cdD,hcD⟩:=Option.isSome_iff_exists.mp e.c
  refine Bool.eq_false_iff.mpr fun q=>?_
  have e:D=tp:=Value.ref.inj (beq_iff_eq.mp q)
  subst e
  unfold clsIn at hcD
  split at hcD
  ·rename_i c' d' cd' sl' ho
   have z:=(X _ _ ho).symm.trans htp
   cases z
  ·cases hcD
 ca:=fun X ⟨o,q,c⟩ k=>exc_ca X (c▸(Looks.ld q).andThen .now) e k
end
end L2
namespace Ev
open PySem L2 PySem.Spec PyProof.Rows
theorem LRel.nog {K:PySem.W.Frag} {G:GX} {H:Hp} {φ:List Addr} {σ:Loc} {σV:L2.St} (L:LRel K G H φ σ σV):LRel K NoG H φ σ σV:=⟨L.len,L.at',fun _ _ _ _ q=>q.elim⟩
theorem LRel.forget {K:PySem.W.Frag} {G:GX} {H:Hp} {φ:List Addr} {σ:Loc} {σV:L2.St} (L:LRel K G H φ σ σV) (i:Nat):LRel K G H φ (σ.set i none) (σV.set i none):=by
 refine ⟨by simp [L.len],fun j v e=>?_,L.kx⟩
 have hj:j≠i:=by
  rintro rfl
  by_cases hlt:j<σ.length
  ·rw [List.getElem?_set_self hlt] at e; cases e
  ·rw [List.getElem?_eq_none (by simpa using hlt)] at e; cases e
 rw [List.getElem?_set_ne (Ne.symm hj)] at e ⊢
 exact L.at' j v e
structure ExcC (K:PySem.W.Frag) (mg:Str→Option Value) (c:String):Prop where
 is:∃C,PySem.W.nsIn K mainGlobals (Str.ofString c)=some (some (.ref C))∧mg (Str.ofString c)=some (.ref C)∧PySem.W.excIn K C vErr "ValueError.__new__" = true
def wRaise (c:String) (wa:WA):WS:=fun _ E σ S=>wa σ S E fun xs S1=>xs.length≤sizeLine∧E (.exc c) S1
section
variable {X:Cx} {G:GX} {pos:Pos}
theorem q8r {c:String} {x:Str} {np cpos:Pos} {e0:Expr} {wa:WA} (C:ExcC X.K X.mg c) (hx:q5h (CXE X.prog X.w) X (xkOf X.K G.xh)) (hc:X.calm=true) (ha:SimA X G [e0] wa) (ex:x=Str.ofString c:=by rfl) (hg:Gl X x:=by rfl)
  (hd:(x == ("__debug__" : Str))=false:=by decide) (he:starEach [e0] X.env=(false,eval e0 X.env)::starEach [] X.env:=by rfl):SimS X G (.Raise (some (.Call (.Name x np) [e0] [] cpos)) none pos) (wRaise c wa):=by
 obtain ⟨C,h1,h2,h3⟩:=C.is
 subst ex
 exact (ps_raise hx hc hg h2 h3 ha hd he).imp fun D σV H hh1=>by obtain ⟨φ,σ,S,D0,L,R,h,k⟩:=hh1; exact (⟨φ,σ,S,_,L,R,h,fun v S1 φ1 H1 x hh2 p1 m1 R1 r1=>by obtain ⟨hl,q⟩:=hh2; exact (⟨by rw [←r1.length]; exact hl,.exc c,⟨c,C,rfl,rfl,h1⟩,(L.mono m1 p1).kx _ S1 φ1 H1 q (List.prefix_refl _) (.refl _) R1⟩)⟩)
end
abbrev XEK:=PV→Loc→q0h→Prop
abbrev WSX:=PEnds→XEK→Loc→q0h→Prop
def KXS (K:PySem.W.Frag) (G:GX) (φ:List Addr) (H:Hp) (E0:XEK) (E:XC):Prop:=∀v σ' S' φ' H' σV' cls,E0 v σ' S'→φ <+: φ'→Mono H H'→Rel K φ' S' H'→LRel K G H' φ' σ' σV'→ClsP K v cls→E cls σV' H'
theorem KXS.up {K:PySem.W.Frag} {G:GX} {φ φ1:List Addr} {H H1:Hp} {E0:XEK} {E:XC} (k:KXS K G φ H E0 E) (p:φ <+: φ1) (m:Mono H H1):KXS K G φ1 H1 E0 E:=fun v σ' S' φ' H' σV' cls q p' m'=>k v σ' S' φ' H' σV' cls q (p.trans p') (m.trans m')
def liftSX (K:PySem.W.Frag) (G:GX) (w:WSX):TSX:=fun D E σV H=>∃φ σ S D0 E0,LRel K G H φ σ σV∧Rel K φ S H∧w D0 E0 σ S∧KS K G φ H D0 D∧KXS K G φ H E0 E
def SimSX (X:Cx) (G:GX) (st:Stmt) (w:WSX):Prop:=PSX X st (liftSX X.K G w)
def SimSXs (X:Cx) (G:GX) (st:List Stmt) (w:WSX):Prop:=PSXs X st (liftSX X.K G w)
def liftEX (K:PySem.W.Frag) (G:GX) (w:WE):TEX:=fun σV H Q E=>∃φ σ S Q0 E0,LRel K G H φ σ σV∧Rel K φ S H∧w σ S E0 Q0∧KE K φ H Q0 Q∧∀v S' φ' H' cls d,E0 v S'→φ <+: φ'→Mono H H'→Rel K φ' S' H'→ClsP K v cls→E cls d H'
def SimEX (X:Cx) (G:GX) (e:Expr) (w:WE):Prop:=PEX X e (liftEX X.K G w)
theorem _root_.L2.PEX.imp {X:Cx} {e:Expr} {t t':TEX} (h:PEX X e t) (i:∀σ H Q E,t' σ H Q E→t σ H Q E):PEX X e t':=fun pins s σ H Q E I q=>h pins s σ H Q E I (i σ H Q E q)
theorem _root_.L2.PSX.imp {X:Cx} {e:Stmt} {t t':TSX} (h:PSX X e t) (i:∀D E σ H,t' D E σ H→t D E σ H):PSX X e t':=fun pins s σ H D E I q=>h pins s σ H D E I (i D E σ H q)
theorem _root_.L2.PSXs.imp {X:Cx} {e:List Stmt} {t t':TSX} (h:PSXs X e t) (i:∀D E σ H,t' D E σ H→t D E σ H):PSXs X e t':=fun pins s σ H D E I q=>h pins s σ H D E I (i D E σ H q)
def wCallX (sp:Den) (wa:WA):WE:=fun σ S E Q=>wa σ S NoX fun xs S1=>sp xs S1 E Q
def wxDrop (w:WE):WSX:=fun D E σ S=>w σ S (fun v S'=>E v σ S') fun _ S1=>D.nx σ S1
def wxNil:WSX:=fun D _ σ S=>D.nx σ S
def wxSeq (w1 w2:WSX):WSX:=fun D E σ S=>w1 { D with nx:=w2 D E } E σ S
section
variable {X:Cx} {G:GX} {pos:Pos}
theorem simx_call {k:Nat} {f:Addr} {fd:FuncData} {ps:List Str} {sp:Den} {x:Str} {p:Pos} {e:Expr} {es:List Expr} {wa:WA} (C:Cal X.prog X.w X.K X.mg X.base k x ps (q0o X.K sp) f fd) (hr:Room k X.A) (ha:SimA X.nx NoG (e::es) wa) (hg:Gl X x:=by rfl)
  (hdb:(x == ("__debug__" : Str))=false:=by decide) (he:starEach (e::es) X.env=(false,eval e X.env)::starEach es X.env:=by rfl) (hpl:(backTo pos (starEach es X.env)).any (·.1)=false:=by rfl) :
  SimEX X G (.Call (.Name x p) (e::es) [] pos) (wCallX sp wa):=
 (pex_call (dvs:=[]) C.G hr hg C.m C.kp C.b .nil ha hdb he hpl).imp fun σV H Q E hh1=>by obtain ⟨φ,σ,S,Q0,E0,L,R,h,k,kx⟩:=hh1; exact (⟨φ,σ,S,_,L.nog,R,h,fun v S1 φ1 H1 x q p1 m1 R1 r1=>
  ⟨φ1,v,S1,Q0,E0,fun v' H'=>∀cls d,ClsP X.K v' cls→E cls d H',by rw [List.append_nil]; exact r1,R1,q,k.up p1 m1,fun v' S' φ' H' q' p' m' R' cls d hc=>kx v' S' φ' H' cls d q' (p1.trans p') (m1.trans m') R' hc,fun cls d H' hh2=>by obtain ⟨v',hc,q'⟩:=hh2; exact (q' cls d hc)⟩⟩)
theorem simx_expr {e:Expr} {w:WE} (he:SimEX X G e w) (hs:swapsWith e none pos.line X.env=pure false:=by rfl):SimSX X G (.Expr e pos) (wxDrop w):=
 (psx_expr he hs).imp fun D E σV H hh1=>by obtain ⟨φ,σ,S,D0,E0,L,R,h,k,kx⟩:=hh1; exact (⟨φ,σ,S,_,_,L,R,h,fun v S1 φ1 H1 x q p1 m1 R1 r1=>k.nx σ S1 φ1 H1 σV q p1 m1 R1 (L.mono m1 p1),fun v S' φ' H' cls d q p m R' hc=>kx v σ S' φ' H' σV cls q p m R' (L.mono m p) hc⟩)
theorem simx_nil:SimSXs X G [] wxNil:=psxs_nil.imp fun D E σV H hh1=>by obtain ⟨φ,σ,S,D0,E0,L,R,h,k,kx⟩:=hh1; exact (k.nx σ S φ H σV h (List.prefix_refl _) (.refl _) R L)
theorem simx_cons {st:Stmt} {rest:List Stmt} {w1 w2:WSX} (h1:SimSX X G st w1) (h2:SimSXs X G rest w2):SimSXs X G (st::rest) (wxSeq w1 w2):=
 (psxs_cons h1 h2).imp fun D E σV H hh1=>by obtain ⟨φ,σ,S,D0,E0,L,R,h,k,kx⟩:=hh1; exact (⟨φ,σ,S,_,_,L,R,h,⟨fun σ' S' φ' H' σV' q p m R' L'=>⟨φ',σ',S',D0,E0,L',R',q,k.up p m,kx.up p m⟩,k.rt,k.bk,k.ct⟩,kx⟩)
theorem simx_one {st:Stmt} {w:WSX} (h:SimSX X G st w):SimSXs X G [st] w:=(simx_cons h simx_nil).imp fun D E σV H hh1=>by obtain ⟨φ,σ,S,D0,E0,L,R,h,k,kx⟩:=hh1; exact (⟨φ,σ,S,D0,E0,L,R,h,k,kx⟩)
end
def pdrop (i:Nat) (D:PEnds):PEnds:={ nx:=fun σ S=>D.nx (σ.set i none) S,rt:=D.rt,bk:=fun σ S=>D.bk (σ.set i none) S,ct:=fun σ S=>D.ct (σ.set i none) S }
structure Cau (K:PySem.W.Frag) (mg:Str→Option Value) (y:Str) (cs:List String):Prop where
 is:∃cv,mg y=some cv∧∀c∈cs,∃C,PySem.W.nsIn K mainGlobals (Str.ofString c)=some (some (.ref C))∧PySem.W.exmOne K (.ref C) cv=some true
def wTry (i:Nat) (cs:List String) (wb:WSX) (ws:WS):WS:=fun D _ σ S=>wb D (fun v σ' S'=>match v with
 | .exc c=>c∈cs∧ws (pdrop i D) NoX (σ'.set i (some v)) S'
 | _=>False) σ S
theorem exc_at {K:PySem.W.Frag} {H:Hp} {a C:Addr} {c:String} {φ:List Addr} (h:PySem.W.nsIn K mainGlobals (Str.ofString c)=some (some (.ref C))):RV K (upd H a (.ext (q7z a (.ref C)))) φ (.exc c) (.ref a):=
 ⟨a,rfl,_,C,q1w,h,fun h hh1=>by obtain ⟨o,vs,q,c,d⟩:=hh1; exact (⟨o,q,c⟩)⟩
section
variable {X:Cx} {G:GX} {pos:Pos}
theorem sim_try (i:Nat) {y n:Str} {yp hpos:Pos} {body suite:List Stmt} {b₀:Stmt} {wb:WSX} {ws:WS} {cs:List String} (C:Cau X.K X.mg y cs) (hB:SimSXs X G body wb) (hN:X.N.Nodup) (hS:∀a,q9r (X.hd a) NoG (b₀::suite) ws) (hst:X.stack=X.env::X.outer:=by rfl) (hf:X.env.frame=some X.env.locals:=by rfl)
  (hi:X.N[i]?=some n:=by rfl) (hg:Gl X y:=by rfl) (hl:X.env.scope.names.lookup n=some .local:=by rfl) (hk:X.env.kindOf n=some .local:=by rfl) (hd:(y == ("__debug__" : Str))=false:=by decide) :
  SimS X G (.Try body [.ExceptHandler (some (.Name y yp)) (some n) (b₀::suite) hpos] [] [] pos) (wTry i cs wb ws):=by
 obtain ⟨cv,hm,hc⟩:=C.is
 refine (ps_try (ts:=liftS X.K NoG ws) hst hf hB hg hm hN hi hl hS hk hd).imp fun D σV H ⟨φ,σ,S,D0,L,R,h,k⟩=>⟨φ,σ,S,D0,_,L,R,h,k,fun v σ' S' φ' H' σV' cls q p m R' L' hcl=>?_⟩
 obtain ⟨c,C',rfl,rfl,hn⟩:=hcl
 obtain ⟨hcs,hw⟩:=q
 obtain ⟨C2,hn2,hx⟩:=hc c hcs
 rw [hn] at hn2
 cases hn2
 refine ⟨hx,fun a ha=>?_⟩
 have mn:Mono H' (upd H' a (.ext (q7z a (.ref C')))):=.new _ ha
 refine ⟨φ',_,S',_,((L'.mono mn (List.prefix_refl _)).nog).set i (exc_at hn),R'.frame _ ha,hw,?_⟩
 have kk:=(k.up p m).up (List.prefix_refl φ') mn
 have kx:=((L'.mono mn (List.prefix_refl φ'))).kx
 have up:∀{σ1 φ1 H1 σV1},φ' <+: φ1→Mono (upd H' a (.ext (q7z a (.ref C')))) H1→LRel X.K NoG H1 φ1 σ1 σV1→LRel X.K G H1 φ1 (σ1.set i none) (σV1.set i none):=fun {σ1 φ1 H1 σV1} p1 m1 L1=>
  LRel.forget ⟨L1.len,L1.at',((L'.mono mn (List.prefix_refl φ')).mono m1 p1).kx⟩ i
 exact ⟨fun σ1 S1 φ1 H1 σV1 q1 p1 m1 R1 L1=>kk.nx _ S1 φ1 H1 _ q1 p1 m1 R1 (up p1 m1 L1),kk.rt,fun σ1 S1 φ1 H1 σV1 q1 p1 m1 R1 L1=>kk.bk _ S1 φ1 H1 _ q1 p1 m1 R1 (up p1 m1 L1),fun σ1 S1 φ1 H1 σV1 q1 p1 m1 R1 L1=>kk.ct _ S1 φ1 H1 _ q1 p1 m1 R1 (up p1 m1 L1)⟩
end
end Ev
namespace Ev
open PySem L2 PySem.Spec PyProof.Rows
def cV:V→Value
 | .ref a=>.ref a
 | .ty T=>.type T
 | _=>.none
def IsCV (v:V):Prop:=(∃a,v=.ref a)∨∃T,v=.ty T
theorem IsCV.eq {v:V} {u:Value} (h:IsCV v) (r:RelV v u):u=cV v:=by
 rcases h with ⟨a,rfl⟩ | ⟨T,rfl⟩
 ·exact r
 ·exact r
theorem cvs_eq {vs:List V} {us:List Value} (h:∀v∈vs,IsCV v) (r:Vals vs us):us=vs.map cV:=by
 induction r with
 | nil=>rfl
 | cons a b ih=>rw [List.map_cons,(h _ (by simp)).eq a,ih fun v hv=>h v (by simp [hv])]
def NameV (X:Cx) (y:Str) (v:V):Prop:=IsCV v∧∃u,RelV v u∧((X.mg y=some u)∨(X.mg y=none∧bootBuiltins y=some u∧y≠ "__name__"))
section
variable {X:Cx} {G:GX} {pos:Pos}
theorem pe_cls {y:Str} {v:V} (h:NameV X y v) (hg:Gl X y) (hd:(y == ("__debug__" : Str))=false):PE X (.Name y pos) (tC v):=by
 obtain ⟨_,u,r,h | ⟨h1,h2,h3⟩⟩:=h
 ·exact pe_glob hg h r hd
 ·exact pe_bltn hg h1 h2 r h3 hd
def tList (vs:List V):TA:=fun _ H Q=>Q vs H
inductive Names (X:Cx):List Expr→List V→Prop
 | nil:Names X [] []
 | cons {y:Str} {p:Pos} {v:V} {es:List Expr} {vs:List V} (h:NameV X y v) (hg:Gl X y) (hd:(y == ("__debug__" : Str))=false) (r:Names X es vs):Names X (.Name y p::es) (v::vs)
theorem Names.pa {es:List Expr} {vs:List V} (h:Names X es vs):PA X es (tList vs):=by
 induction h with
 | nil=>exact pa_nil
 | cons h hg hd r ih=>exact q8x (pe_cls h hg hd) ih
theorem Names.cv {es:List Expr} {vs:List V} (h:Names X es vs):∀v∈vs,IsCV v:=by
 induction h with
 | nil=>simp
 | cons h hg hd r ih=>intro v hv; rcases List.mem_cons.mp hv with rfl | hv; exact h.1; exact ih v hv
def ExcH (H:Hp) (a C:Addr):Prop:=∃f:Heap→Prop,H a=some (.ext f)∧∀h,f h→∃o,h.get? a=some o∧o.cls=.ref C
theorem ExcH.rec {pins:List (Addr×Obj)} {s:Shared} {σ:L2.St} {H:Hp} {a C:Addr} (x:ExcH H a C) (I:Inv X pins σ H s):∃o,s.heap.get? a=some o∧o.cls=.ref C:=by
 obtain ⟨f,e,k⟩:=x
 exact k _ (I.hok a _ e).1
def rX1 (K:PySem.W.Frag):List V→Hp→VK→Prop:=fun vs H Q=>∃a C v b,vs=[.ref a,v]∧IsCV v∧ExcH H a C∧ExcK K C∧PySem.W.kitOne K (.ref C) (cV v)=some b∧Q (.bl b) H
theorem calls_x1:q5v X (.builtin "isinstance") (rX1 X.K):=by
 rintro pins s σ H xs us Q I r ⟨a,C,v,b,rfl,hv,hx,hk,e,q⟩
 obtain ⟨u,c,rfl,ru,rc⟩:=vals2 r
 cases (show u=Value.ref a from ru)
 cases hv.eq rc
 exact PySem.W.kia_one (kitx_exc hk) I.kIn (hx.rec I) e (fun z=>nomatch z) fun tk=>⟨.bl _,H,I.tok tk,rfl,q⟩
def rXT (K:PySem.W.Frag):List V→Hp→VK→Prop:=fun vs H Q=>∃a C p its b,vs=[.ref a,.ref p]∧(∀v∈its,IsCV v)∧H p=some (.tup its)∧ExcH H a C∧ExcK K C∧PySem.W.kitAny K (.ref C) (its.map cV)=some b∧Q (.bl b) H
theorem calls_xt:q5v X (.builtin "isinstance") (rXT X.K):=by
 rintro pins s σ H xs us Q I r ⟨a,C,p,its,b,rfl,hv,hp,hx,hk,e,q⟩
 obtain ⟨u,c,rfl,ru,rc⟩:=vals2 r
 cases (show u=Value.ref a from ru)
 cases (show c=Value.ref p from rc)
 obtain ⟨us,rv,pp,_⟩:=I.tuple (SqT.of hp)
 rw [cvs_eq hv rv] at pp
 obtain ⟨⟨cls,dd,dat,sl⟩,ho,hc,n,hd⟩:=pp
 simp only at hc hd
 subst hc hd
 exact PySem.W.kia_tup (kitx_exc hk) I.kIn (hx.rec I) ho e (fun z=>nomatch z) fun tk=>⟨.bl _,H,I.tok tk,rfl,q⟩
def wIsX (w:WE) (tab:List (String×Bool)):WE:=fun σ S E Q=>w σ S E fun v S1=>match v with
 | .exc c=>(match tab.lookup c with
  | some b=>Q (.bl b) S1
  | none=>False)
 | _=>False
structure TabX1 (K:PySem.W.Frag) (cv:Value) (tab:List (String×Bool)):Prop where
 is:∀c b,tab.lookup c=some b→∃C,PySem.W.nsIn K mainGlobals (Str.ofString c)=some (some (.ref C))∧ExcK K C∧PySem.W.kitOne K (.ref C) cv=some b
structure TabXT (K:PySem.W.Frag) (cvs:List Value) (tab:List (String×Bool)):Prop where
 is:∀c b,tab.lookup c=some b→∃C,PySem.W.nsIn K mainGlobals (Str.ofString c)=some (some (.ref C))∧ExcK K C∧PySem.W.kitAny K (.ref C) cvs=some b
theorem excH_of {K:PySem.W.Frag} {H:Hp} {φ:List Addr} {c:String} {x:V} {C:Addr} (r:RV K H φ (.exc c) x) (h:PySem.W.nsIn K mainGlobals (Str.ofString c)=some (some (.ref C))):∃a,x=.ref a∧ExcH H a C:=by
 obtain ⟨a,rfl,f,C',e,h',k⟩:=r
 rw [h] at h'
 cases h'
 exact ⟨a,rfl,f,e,k⟩
theorem sim_isX1 {e:Expr} {w:WE} {y:Str} {v:V} {p yp:Pos} {tab:List (String×Bool)} (hm:X.mg "isinstance" = none) (he:SimE X G e w) (hv:NameV X y v) (T:TabX1 X.K (cV v) tab) (hg:Gl X y:=by rfl) (hd:(y == ("__debug__" : Str))=false:=by decide) (hgi:Gl X "isinstance" :=by rfl)
  (hs:starEach [e,.Name y yp] X.env=(false,eval e X.env)::starEach [.Name y yp] X.env:=by rfl) (hpl:(backTo pos (starEach [.Name y yp] X.env)).any (·.1)=false:=by rfl):SimE X G (.Call (.Name "isinstance" p) [e,.Name y yp] [] pos) (wIsX w tab):=
 (pe_callB (calls_x1 (X:=X)) hgi hm rfl (q8x he (Names.cons (p:=yp) hv hg hd .nil).pa hs) (by decide) (by decide) hs hpl).imp fun σV H Q hh1=>by obtain ⟨φ,σ,S,Q0,L,R,h,k⟩:=hh1; exact (⟨φ,σ,S,_,L,R,h,fun u S1 φ1 H1 x q p1 m1 R1 r1=>by
  cases u with
  | exc c=>
   dsimp only at q
   split at q
   ·rename_i b hb
    obtain ⟨C,h1,h2,h3⟩:=T.is c b hb
    obtain ⟨a,rfl,hx⟩:=excH_of r1 h1
    exact ⟨a,C,v,b,rfl,hv.1,hx,h2,h3,k _ S1 φ1 H1 _ q p1 m1 R1 rfl⟩
   ·exact q.elim
  | _=>exact q.elim⟩)
theorem ExcH.upd {H:Hp} {a C p:Addr} {o:HO} (x:ExcH H a C) (hp:H p=none):ExcH (upd H p o) a C:=by
 obtain ⟨f,e,k⟩:=x
 exact ⟨f,by rw [q0w (fun z=>by subst z; rw [hp] at e; cases e)]; exact e,k⟩
theorem sim_isXT {e:Expr} {w:WE} {ys:List Expr} {vs:List V} {p tp:Pos} {kk:Nat} {tab:List (String×Bool)} (hm:X.mg "isinstance" = none) (he:SimE X G e w) (hv:Names X ys vs) (T:TabXT X.K (vs.map cV) tab) (hl:vs.length≤60) (hgi:Gl X "isinstance" :=by rfl)
  (hs:starEach [e,.Tuple ys kk tp] X.env=(false,eval e X.env)::starEach [.Tuple ys kk tp] X.env:=by rfl) (hpl:(backTo pos (starEach [.Tuple ys kk tp] X.env)).any (·.1)=false:=by rfl):SimE X G (.Call (.Name "isinstance" p) [e,.Tuple ys kk tp] [] pos) (wIsX w tab):=
 (pe_callB (calls_xt (X:=X)) hgi hm rfl (q8x he (q8x (pe_tup hv.pa) pa_nil) hs) (by decide) (by decide) hs hpl).imp fun σV H Q hh1=>by obtain ⟨φ,σ,S,Q0,L,R,h,k⟩:=hh1; exact (⟨φ,σ,S,_,L,R,h,fun u S1 φ1 H1 x q p1 m1 R1 r1=>by
  cases u with
  | exc c=>
   dsimp only at q
   split at q
   ·rename_i b hb
    obtain ⟨C,h1,h2,h3⟩:=T.is c b hb
    obtain ⟨a,rfl,hx⟩:=excH_of r1 h1
    refine ⟨Nat.le_trans hl (by unfold sizeLine; decide),fun q' hq'=>⟨a,C,q',vs,b,rfl,hv.cv,q1w,hx.upd hq',h2,h3,?_⟩⟩
    exact k _ S1 φ1 _ _ q p1 (m1.trans (.new _ hq')) (R1.frame _ hq') rfl
   ·exact q.elim
  | _=>exact q.elim⟩)
end
def YV (mg:Str→Option Value) (y:Str) (v:V):Prop:=IsCV v∧∃u,RelV v u∧((mg y=some u)∨(mg y=none∧bootBuiltins y=some u∧y≠ "__name__"))
theorem YV.own {mg:Str→Option Value} {y:Str} {C:Addr} (h:mg y=some (.ref C)):YV mg y (.ref C):=⟨.inl ⟨C,rfl⟩,_,rfl,.inl h⟩
theorem YV.ty {mg:Str→Option Value} {y:Str} {T:String} (h:mg y=none) (b:bootBuiltins y=some (.type T)) (n:y≠ "__name__" :=by decide):YV mg y (.ty T):=⟨.inr ⟨T,rfl⟩,_,rfl,.inr ⟨h,b,n⟩⟩
structure HIs1 (K:PySem.W.Frag) (mg:Str→Option Value) (y:Str) (tab:List (String×Bool)):Prop where
 is:∃v,YV mg y v∧TabX1 K (cV v) tab
def NamesM (mg:Str→Option Value):List Str→List V→Prop
 | [],[]=>True
 | y::ys,v::vs=>YV mg y v∧NamesM mg ys vs
 | _,_=>False
structure HIsT (K:PySem.W.Frag) (mg:Str→Option Value) (ys:List Str) (tab:List (String×Bool)):Prop where
 is:∃vs,NamesM mg ys vs∧TabXT K (vs.map cV) tab
def NamesE (X:Cx):List Str→List Expr→Prop
 | [],[]=>True
 | y::ys,.Name y' _::es=>y'=y∧Gl X y∧(y == ("__debug__" : Str))=false∧NamesE X ys es
 | _,_=>False
theorem names_of {X:Cx}:∀(ys:List Str) (es:List Expr) (vs:List V),NamesM X.mg ys vs→NamesE X ys es→Names X es vs∧vs.length=ys.length:=by
 intro ys
 induction ys with
 | nil=>
  intro es vs h r
  cases vs with
  | nil=>cases es with
   | nil=>exact ⟨.nil,rfl⟩
   | cons _ _=>exact (show False from r).elim
  | cons _ _=>exact (show False from h).elim
 | cons y ys ih=>
  intro es vs h r
  cases vs with
  | nil=>exact (show False from h).elim
  | cons v vs=>cases es with
   | nil=>exact (show False from r).elim
   | cons e es=>cases e with
    | Name y' p=>
     obtain ⟨e,g,d,r⟩:=r
     subst e
     obtain ⟨a,b⟩:=ih es vs h.2 r
     exact ⟨.cons h.1 g d a,by simp [b]⟩
    | _=>exact (show False from r).elim
theorem TabX1.nil {K:PySem.W.Frag} {cv:Value}:TabX1 K cv []:=⟨fun _ _ h=>by cases h⟩
theorem TabX1.cons {K:PySem.W.Frag} {cv:Value} {c:String} {C:Addr} {b:Bool} {tab:List (String×Bool)} (h:PySem.W.nsIn K mainGlobals (Str.ofString c)=some (some (.ref C))) (k:ExcK K C) (e:PySem.W.kitOne K (.ref C) cv=some b) (r:TabX1 K cv tab):TabX1 K cv ((c,b)::tab):=⟨fun c' b' q=>by
 rw [List.lookup_cons] at q
 split at q
 ·rename_i z
  have z:=eq_of_beq z
  subst z
  cases q
  exact ⟨C,h,k,e⟩
 ·exact r.is c' b' q⟩
theorem TabXT.nil {K:PySem.W.Frag} {cv:List Value}:TabXT K cv []:=⟨fun _ _ h=>by cases h⟩
theorem TabXT.cons {K:PySem.W.Frag} {cv:List Value} {c:String} {C:Addr} {b:Bool} {tab:List (String×Bool)} (h:PySem.W.nsIn K mainGlobals (Str.ofString c)=some (some (.ref C))) (k:ExcK K C) (e:PySem.W.kitAny K (.ref C) cv=some b) (r:TabXT K cv tab):TabXT K cv ((c,b)::tab):=⟨fun c' b' q=>by
 rw [List.lookup_cons] at q
 split at q
 ·rename_i z
  have z:=eq_of_beq z
  subst z
  cases q
  exact ⟨C,h,k,e⟩
 ·exact r.is c' b' q⟩
def CauL (K:PySem.W.Frag) (cv:Value) (cs:List String):Prop:=∀c∈cs,∃C,PySem.W.nsIn K mainGlobals (Str.ofString c)=some (some (.ref C))∧PySem.W.exmOne K (.ref C) cv=some true
theorem CauL.nil {K:PySem.W.Frag} {cv:Value}:CauL K cv []:=fun _ h=>by cases h
theorem CauL.cons {K:PySem.W.Frag} {cv:Value} {c:String} {C:Addr} {cs:List String} (h:PySem.W.nsIn K mainGlobals (Str.ofString c)=some (some (.ref C))) (e:PySem.W.exmOne K (.ref C) cv=some true) (r:CauL K cv cs):CauL K cv (c::cs):=fun c' hc=>by
 rcases List.mem_cons.mp hc with rfl | hc
 ·exact ⟨C,h,e⟩
 ·exact r c' hc
section
variable {X:Cx} {G:GX} {pos:Pos}
theorem sim_is1 {e:Expr} {w:WE} {y:Str} {p yp:Pos} {tab:List (String×Bool)} (hm:X.mg "isinstance" = none) (he:SimE X G e w) (T:HIs1 X.K X.mg y tab) (hg:Gl X y:=by rfl) (hd:(y == ("__debug__" : Str))=false:=by decide) (hgi:Gl X "isinstance" :=by rfl)
  (hs:starEach [e,.Name y yp] X.env=(false,eval e X.env)::starEach [.Name y yp] X.env:=by rfl) (hpl:(backTo pos (starEach [.Name y yp] X.env)).any (·.1)=false:=by rfl):SimE X G (.Call (.Name "isinstance" p) [e,.Name y yp] [] pos) (wIsX w tab):=by
 obtain ⟨v,h1,h2⟩:=T.is
 exact sim_isX1 hm he h1 h2 hg hd hgi hs hpl
theorem sim_isT (ys:List Str) {e:Expr} {w:WE} {es:List Expr} {p tp:Pos} {kk:Nat} {tab:List (String×Bool)} (hm:X.mg "isinstance" = none) (he:SimE X G e w) (T:HIsT X.K X.mg ys tab) (hE:NamesE X ys es) (hl:ys.length≤60:=by decide) (hgi:Gl X "isinstance" :=by rfl)
  (hs:starEach [e,.Tuple es kk tp] X.env=(false,eval e X.env)::starEach [.Tuple es kk tp] X.env:=by rfl) (hpl:(backTo pos (starEach [.Tuple es kk tp] X.env)).any (·.1)=false:=by rfl):SimE X G (.Call (.Name "isinstance" p) [e,.Tuple es kk tp] [] pos) (wIsX w tab):=by
 obtain ⟨vs,h1,h2⟩:=T.is
 obtain ⟨n,l⟩:=names_of ys es vs h1 hE
 exact sim_isXT hm he n h2 (by rw [l]; exact hl) hgi hs hpl
end
end Ev
namespace Ev
open PySem L2 PySem.Spec PyProof.Rows
section
variable {X:Cx} {G:GX} {pos:Pos}
end
end Ev
namespace Ev
open PySem L2 PySem.Spec PyProof.Rows
theorem isSome_of {K:PySem.W.Frag} {C:Addr} (h:PySem.W.hasDictIn K C=true):(PySem.W.clsIn K C).isSome=true:=by
 obtain ⟨cd,h,_⟩:=PySem.W.any_some h
 rw [h]; rfl
end Ev
namespace Ev
open PySem PySem.Spec PyProof.Rows L2
open PySem.AutoSeq1 (wpAny_loadPart')
section
variable {X:Cx}
end
end Ev
namespace Ev
open PySem PySem.Spec PyProof.Rows L2
section
variable {prog:Program} {w:World} {A:Around} {E:Value→Shared→Prop} {s:Shared} {r:Addr} {n:Int} {t u v:Tok} {Q:Value→Shared→Prop}
end
section
variable {X:Cx} {G:GX} {pos:Pos}
end
end Ev
namespace Ev
open PySem PySem.Spec PyProof.Rows L2
section
variable {X:Cx} {G:GX} {pos:Pos} {a:Expr} {ta:TE} {wa:WE}
end
end Ev
namespace Ev
open PySem PySem.Spec PyProof.Rows L2
section
variable {X:Cx}
end
end Ev
namespace Ev
open PySem PySem.Spec PyProof.Rows L2
section
variable {X:Cx}
end
end Ev
namespace Ev
open PySem PySem.Spec PyProof.Rows L2
section
variable {X:Cx} {G:GX} {pos:Pos}
structure EAt (e it a:Addr) (i:Nat) (h:Heap):Prop where
 ge:∃old,IsEnum h e it i old
 gi:h.IsListIter it a i
end
end Ev
namespace L2
open PySem PySem.Spec PyProof.Rows
section
variable {X:Cx} {tg iter kx vx:Expr} {scope:Scope} {pos:Pos} {N':List Str} {ix:List (Option Nat)} {wi:TI}
end
end L2
namespace Ev
open PySem PySem.Spec PyProof.Rows L2
section
variable {X:Cx} {G:GX} {pos:Pos}
end
end Ev
namespace Ev
open PySem PySem.Spec PyProof.Rows L2
section
variable {X:Cx}
end
end Ev
namespace Ev
open PySem PySem.Spec PyProof.Rows L2
section
variable {X:Cx} {G:GX} {pos:Pos} {pins:List (Addr×Obj)} {σ:L2.St} {H:Hp} {s:Shared} {φ:List Addr}
theorem Paired.app {α β:Type} {F:α→β→Prop} {l:List α} {m:List β} {a:α} {b:β} (h:Paired F l m) (r:F a b):Paired F (l++[a]) (m++[b]):=by
 induction h with
 | nil=>exact .cons r .nil
 | cons r' _ ih=>exact .cons r' ih
end
end Ev
namespace L2
open PySem PySem.Spec PyProof.Rows
theorem kcd_loop {prog:Program} {w:World} {A:Around} {s:Shared} {kx vx target iter:Expr} {scope:Scope} {pos:Pos} {it:Value} {D:Addr} {env:Env} {R:Result→Shared→Prop} (I:Nat→Shared→Prop)
  (turn:∀n s,I n s→wpAny (model prog w) A (pyNext it) (fun r s₁=>match r with
   | none=>R (.ok .next) s₁
   | some v=>wpAny (model prog w) A (letOwnedTupleGo target it v) (fun _ s₀=>wpAny (model prog w) A (assign target env v) (fun _ s₂=>
     wpAny (model prog w) A (eval kx env) (fun kv s₄=>wpAny (model prog w) A (eval vx env) (fun vv s₅=>
      wpAny (model prog w) A (dictSet D kv vv) (fun _ s₆=>∃m,m<n∧I m s₆) (notedBy (model prog w) A env fun e s'=>R (.error e) s') s₅) (notedBy (model prog w) A env fun e s'=>R (.error e) s') s₄)
      (notedBy (model prog w) A env fun e s'=>R (.error e) s') s₂)
     (notedBy (model prog w) A env fun e s'=>R (.error e) s') s₀) (notedBy (model prog w) A env fun e s'=>R (.error e) s') s₁) (notedBy (model prog w) A env fun e s'=>R (.error e) s') s)
  (n:Nat) (h:I n s):codeAny (model prog w) A (.compLoop (.DictComp kx vx [⟨target,iter,[],0⟩] scope pos) 0 it (.ref D) env) R s:=by
 refine codeAny_loop rfl I (fun n s hI=>?_) n h
 show wpAny _ A ((compTurn (.DictComp kx vx [⟨target,iter,[],0⟩] scope pos) 0 it (.ref D) env).onRaise (fun x=>do noteFrame x env; theTreesLotGoes x)) _ _ s
 refine wpAny_noted ?_
 rw [compTurn_dict]
 refine wpAny_bind (wpAny_standAt (wpAny_bind (wpAny_mono (turn n s hI) (fun r s₁ h₁=>?_) fun _ _ h'=>h')))
 cases r with
 | none=>exact wpAny_pure h₁
 | some v=>
  refine wpAny_bind (wpAny_mono h₁ (fun _ s₀ h₀'=>?_) fun _ _ h'=>h')
  refine wpAny_bind (wpAny_mono h₀' (fun _ s₂ h₂=>?_) fun _ _ h'=>h')
  refine wpAny_bind (wpAny_tests_nil ?_)
  exact wpAny_bind (wpAny_bind (wpAny_mono h₂ (fun kv s₄ h₄=>wpAny_bind (wpAny_holding (wpAny_mono h₄ (fun vv s₅ h₅=>wpAny_bind (wpAny_standAt (wpAny_holding (wpAny_mono h₅ (fun _ s₆ h₆=>wpAny_pure ⟨rfl,h₆⟩) fun _ _ h'=>h')))) fun _ _ h'=>h'))) fun _ _ h'=>h'))
theorem d_dictSet {X:Cx} {pins:List (Addr×Obj)} {σ:St} {H:Hp} {s:Shared} {a:Addr} {k:Key} {v:V} {kvs:List (Key×V)} {u r:Value} {A:Around} {E:Value→Shared→Prop} {Q:Unit→Shared→Prop} (I:Inv X pins σ H s) (e:H a=some (.dK kvs)) (l:kvs.length<sizeLine) (ry:RelV (kV k) u) (rv:RelV v r) (h:∀s',Inv X pins σ (upd H a (.dK (putK kvs k v))) s'→Q () s') :
  wpAny (model X.prog X.w) A (dictSet a u r) Q E s:=by
 obtain ⟨z,hd,vs,rel,dd⟩:=dk_of I.hok e
 have hz:vs.length≤sizeLine:=by rw [←rel.length]; exact z
 have hl:(putK kvs k v).length≤sizeLine:=by have:=q5s kvs k v; omega
 refine wpAny_dictSet_pairs (hsz:=hz) (kV_is ry) dd fun h' dd' hs=>h _ ?_
 have he:∃q,h'.get? a=some q:=let ⟨q,_,_,hq,_⟩:=dd'; ⟨q,hq⟩
 exact d_write I (by rw [e]; exact True.intro) hs he (dk_new hl hd (rel.put k rv) dd')
def DcGo (J:It) (g:TG) (tk tv:TE) (p:Addr) (Q:Hp→Prop) (σ₀:St) (H0:Hp):Prop:=∃(W:Nat→St→Hp→Prop) (n:Nat),W 0 σ₀ H0∧∀i σ H,i≤n→W i σ H→
 (J.stop i H∧Q H)∨(i<n∧J.go i H∧∀x H',J.yld i H x H'→g x σ H' fun σ2 H2=>tk σ2 H2 fun kv H3=>tv σ2 H3 fun vv H4=>∃kvs k,H4 p=some (.dK kvs)∧kv=kV k∧kvs.length<sizeLine∧W (i+1) σ2 (upd H4 p (.dK (putK kvs k vv))))
def tDComp (wi:TI) (ix:List (Option Nat)) (g:TG) (tk tv:TE):TE:=fun σ H Q=>wi σ H fun J H1=>∀p,H1 p=none→DcGo J g tk tv p (Q (.ref p)) (q3t ix σ) (upd H1 p (.dK []))
section
variable {X:Cx} {tg iter kx vx:Expr} {scope:Scope} {pos:Pos} {N':List Str} {ix:List (Option Nat)} {wi:TI} {g:TG} {tk tv:TE}
end
end L2
namespace Ev
open PySem PySem.Spec PyProof.Rows L2
section
variable {X:Cx} {G:GX} {pos:Pos}
def dcGo (chk:q0h→Prop) (g:WG) (wk wv:WE) (d:Nat) (Q:VC):List PV→Ev.Loc→q0h→Prop
 | [],_,S=>chk S∧Q (.ref d) S
 | x::r,σ,S=>chk S∧∃N:Ev.Loc→q0h→Prop,(∀σ' S',N σ' S'→dcGo chk g wk wv d Q r σ' S')∧g x σ S NoX fun σ2 S2=>wk σ2 S2 NoX fun k S3=>wv σ2 S3 NoX fun v S4=>∃kvs kk,S4[d]?=some (.dK kvs)∧q9i k=some kk∧kvs.length<sizeLine∧N σ2 (S4.set d (.dK (putP kvs kk v)))
def wDComp (wi:WI) (ix:List (Option Nat)) (g:WG) (wk wv:WE):WE:=fun σ S E Q=>wi σ S E fun it S1=>dcGo it.chk g wk wv S1.length Q it.xs (q9n ix σ) (S1++[.dK []])
end
end Ev
namespace Ev
open PySem PySem.Spec PyProof.Rows L2
section
variable {X:Cx} {G:GX} {pos:Pos}
def wDNew:WE:=fun _ S _ Q=>Q (.ref S.length) (S++[.dK []])
theorem sim_dnew:SimE X G (.Dict [] [] pos) wDNew:=
 (pe_dnewK (X:=X) (pos:=pos)).imp fun σV H Q hh1=>by obtain ⟨φ,σ,S,Q0,L,R,h,k⟩:=hh1; exact (fun p hp=>
  have R2:Rel X.K (φ++[p]) (S++[.dK []]) (upd H p (.dK [])):=R.new (o:=.dK []) hp ⟨[],q1w,.nil⟩
  k _ _ _ _ _ h (List.prefix_append _ _) (.new _ hp) R2 ⟨p,rfl,by rw [←R.len,List.getElem?_append_right (Nat.le_refl _)]; simp⟩)
end
end Ev
namespace L2
open PySem PySem.Spec PyProof.Rows
def tAsgDC (wi:TI) (ix:List (Option Nat)) (g:TG) (tk tv:TE) (i:Nat):TS:=fun D σ H=>tDComp wi ix g tk tv σ H fun v H1=>D.nx (σ.set i (some v)) H1
section
variable {X:Cx} {tg iter kx vx:Expr} {scope:Scope} {pos:Pos} {N':List Str} {ix:List (Option Nat)} {wi:TI} {g:TG} {tk tv:TE}
theorem ps_setDC {i:Nat} {x:Str} {px sp:Pos} (hsw:swapsWith (.DictComp kx vx [⟨tg,iter,[],0⟩] scope pos) (some (.Name x px)) sp.line X.env=pure true) (hN:X.N.Nodup) (hii:X.N[i]?=some x) (hx:Loc X.env.scope x) (hc:X.calm=true) (co:CompOk X scope N' ix) (hi:PI X tg iter wi) (hg:∀cl C s H fp,PG (X.comp scope N' cl C s H fp) tg g) (hk:∀cl C s H fp,PE (X.comp scope N' cl C s H fp) kx tk) (hv:∀cl C s H fp,PE (X.comp scope N' cl C s H fp) vx tv)
  (hs:∀x,foldedSetIterable iter X.env x=pure x:=by intro _; rfl) (hf:X.fn x=true∨X.env.scope.names.lookup x=some .local:=by first | exact .inl rfl | exact .inr rfl | assumption):PS X (.Assign [.Name x px] (.DictComp kx vx [⟨tg,iter,[],0⟩] scope pos) sp) (tAsgDC wi ix g tk tv i):=by
 intro pins s σ H Dn I h
 rw [exec_Assign_Name_used _ _ _ _ hsw]
 refine wpAny_bind (wpAny_standAt (wpAny_bind ?_))
 show wpAny _ X.A (do let _ ←comprehension (.DictComp kx vx [⟨tg,iter,[],0⟩] scope pos) scope X.env _ newDict false (eval iter X.env) (some (assign (.Name x px) X.env))) _ _ s
 obtain ⟨cl,hclos,hcl1,hcl2⟩:=q7y (scope:=scope) (env:=X.env) fun p hp e=>by
  rcases co.free p hp e with z | z
  ·exact I.ok.has p.1 (.inl z)
  ·exact I.ok.has p.1 (.inr z)
 refine wpAny_bind (wpAny_mono (wpAny_comprehension_free (Q:=fun _ s'=>SP X pins Dn .next s') (use:=some (assign (.Name x px) X.env)) rfl hs hclos co.kind co.names (thn (hi pins s σ H _ I h) fun v s1 h1=>thn h1 fun itv s₂ h2=>?_)) (fun _ s' hq=>wpAny_pure (wpAny_pure hq)) fun _ _ e=>e)
 obtain ⟨it,fp,tn,J,H₂,rfl,I₂,T,st2,f2,go0⟩:=h2
 obtain ⟨W,n,w0,turn⟩:=go0 s₂.heap.objs.size I₂.fresh
 refine wpAny_newObj_type (wpAny_newFunctionEnv co.cell (by intro y hy; simp at hy) (fun h₁ hns₁ hsb₁=>?_) co.kind)
 dsimp only at hns₁ hsb₁ ⊢
 have hne0:(s₂.heap.push { cls:=.type "dict",dict:=none,data:=.dict #[] }).DictOf (q1n X.prog X.w) s₂.heap.objs.size []:=Heap.DictOf.new s₂.heap
 generalize hH2:s₂.heap.push { cls:=.type "dict",dict:=none,data:=.dict #[] }=H2 at hns₁ hsb₁ hne0 ⊢
 have hC:H2.objs.size=s₂.heap.objs.size+1:=by rw [←hH2,Heap.size_push]
 have hCle:s₂.heap.objs.size≤H2.objs.size:=by omega
 have hDC:s₂.heap.objs.size≠H2.objs.size:=by omega
 have old:∀b o,s₂.heap.get? b=some o→h₁.get? b=some o:=fun b o e=>hsb₁.extBut b o (Nat.ne_of_lt (by rw [hC]; exact Nat.lt_succ_of_lt (Heap.lt_size e))) (Heap.get?_push_of_some _ (hH2▸Heap.get?_push_of_some _ e))
 have hacc:h₁.DictOf (q1n X.prog X.w) s₂.heap.objs.size []:=hne0.at fun o e=>hsb₁.extBut _ _ hDC (Heap.get?_push_of_some _ e)
 have hfz:∀b∈fp,b<s₂.heap.objs.size:=fun b hb=>by
  obtain ⟨o,e,_⟩:=T.obj _ _ st2 b hb
  exact Heap.lt_size e
 have hclD:∀x c,cl.lookup x=some c→c≠s₂.heap.objs.size:=fun x c e=>by
  obtain ⟨v,o,ho,_⟩:=I₂.cell x c (hcl1 x c e)
  exact Nat.ne_of_lt (Heap.lt_size ho)
 have st0:tn 0 h₁:=T.keep _ _ _ st2 fun b hb o e=>old b o e
 have loop:∀s₃:Shared,s₃={ s₂ with heap:=h₁,toks:=s₂.toks+([]:List (Str×Value)).length }→
   codeAny (model X.prog X.w) X.A (.compLoop (.DictComp kx vx [⟨tg,iter,[],0⟩] scope pos) 0 (.ref it) (.ref s₂.heap.objs.size) (compEnvC scope cl H2.objs.size X.env))
    (compPost (model X.prog X.w) X.A X.xe (some (assign (.Name x px) X.env)) (fun _ s'=>SP X pins Dn .next s') (.ref s₂.heap.objs.size) H2.objs.size) s₃:=by
  rintro s₃ rfl
  have I0:=I₂.comp (t':=s₂.toks+([]:List (Str×Value)).length) co hcl1 hcl2 hc hCle hns₁ old f2 hfz
  have nof:s₂.heap.objs.size∉(X.comp scope N' cl H2.objs.size s₂ H₂ fp).fs:=fun z=>by
   obtain ⟨_,o,ho,_⟩:=I0.ok.funs.mem z
   exact absurd (Heap.lt_size ho) (Nat.lt_irrefl _)
  have fD:FpOk (X.comp scope N' cl H2.objs.size s₂ H₂ fp) [] H₂ s₂.heap.objs.size:=⟨I₂.fresh,hDC,nof,.inr (Nat.le_refl _),hclD,fun p hp=>by cases hp⟩
  have I0':=I0.trackO (D:=s₂.heap.objs.size) (ob:=.dK []) fD (Nat.le_refl _) ⟨Nat.zero_le _,beq_eq_false_iff_ne.mpr (Ne.symm (Nat.ne_of_lt I₂.big)),[],.nil,hacc⟩
  have fpok:∀{H':Hp},(∀b∈fp,H' b=none)→∀b∈fp,FpOk (X.comp scope N' cl H2.objs.size s₂ H₂ fp) [] H' b:=fun hn' b hb=>
   ⟨hn' b hb,(I0.ok.exf b hb).1,I0.ok.exfs b hb,.inl hb,(I0.ok.exf b hb).2,fun p hp=>by cases hp⟩
  refine kcd_loop (fun k s'=>∃i σ' H',i≤n∧k=n - i∧Inv (X.comp scope N' cl H2.objs.size s₂ H₂ fp) [] σ' H' s'∧tn i s'.heap∧(∀b∈fp,H' b=none)∧W i σ' H') ?_ n
   ⟨0,q3t ix σ,_,Nat.zero_le _,rfl,I0',st0,fun b hb=>by rw [q0w (Nat.ne_of_lt (hfz b hb))]; exact (f2 b hb).1,w0⟩
  rintro k s3 ⟨i,σ3,H3,hi3,rfl,I3,st3,fr3,w3⟩
  have weak:∀{e:Value} {s':Shared},False→notedBy (model X.prog X.w) X.A (compEnvC scope cl H2.objs.size X.env) (fun e s'=>compPost (model X.prog X.w) X.A X.xe (some (assign (.Name x px) X.env)) (fun _ s'=>SP X pins Dn .next s') (.ref s₂.heap.objs.size) H2.objs.size (.error e) s') e s':=fun z=>z.elim
  rcases turn i σ3 H3 hi3 w3 with ⟨stop,q⟩ | ⟨hlt,go,step⟩
  ·refine thn (T.done (X.comp scope N' cl H2.objs.size s₂ H₂ fp) rfl rfl rfl rfl i _ s3 σ3 H3 _ I3 (fpok fr3) st3 stop) fun r s' hh1=>?_
   obtain ⟨hr,I'⟩:=hh1
   subst hr
   obtain ⟨m,hm,_⟩:=I'.loc
   have new:∀a,s₂.heap.objs.size≤a→a≠X.env.locals∧X.s₀.heap.objs.size≤a∧(∀x c,X.env.cells.lookup x=some c→c≠a)∧∀p∈X.pn++pins,p.1≠a:=fun a ha=>by
    refine ⟨Nat.ne_of_gt (Nat.lt_of_lt_of_le I₂.lt ha),Nat.le_trans I₂.sz ha,fun x c e=>?_,fun p hp=>?_⟩
    ·obtain ⟨v,o,ho,_⟩:=I₂.cell x c e
     exact Nat.ne_of_lt (Nat.lt_of_lt_of_le (Heap.lt_size ho) ha)
    ·exact Nat.ne_of_lt (Nat.lt_of_lt_of_le (Heap.lt_size (I₂.pin p hp).1) ha)
   have I4:Inv X pins σ H3 s':=I₂.call' I'.os I'.base I'.hok I'.bare fun b hb=>⟨(f2 b hb).2.2.2.1,(f2 b hb).2.1,(f2 b hb).2.2.2.2.1,(f2 b hb).2.2.2.2.2⟩
   obtain ⟨c1,c2,c3,c4⟩:=new H2.objs.size hCle
   show wpAny (model X.prog X.w) X.A (assign (.Name x px) X.env (.ref s₂.heap.objs.size)) _ _ _
   refine wpAny_assign_Name (q8n I4 hN hii hx (v:=.ref s₂.heap.objs.size) rfl (fun s'' I'' ⟨a,sb,ha⟩=>?_) hf)
   have haC:a≠H2.objs.size:=by
    rcases ha with rfl | ha
    ·exact c1.symm
    ·exact c3 _ _ ha
   refine ⟨m,hm.sameBut sb haC.symm,fun h' sb'=>⟨_,_,?_,q⟩⟩
   exact I''.turned (t':=s''.toks) (it:=H2.objs.size) (fun b o hb e=>(sb'.2 b hb).trans e) I'.free c1 (.inr c2) c3 c4
  ·refine thn (T.item (X.comp scope N' cl H2.objs.size s₂ H₂ fp) rfl rfl rfl rfl i _ s3 σ3 H3 _ I3 (fpok fr3) st3 go) fun r s4 hh2=>?_
   obtain ⟨u,hr,h4⟩:=hh2
   subst hr
   refine thn h4 fun _ s5 hh3=>?_
   obtain ⟨x,H5,I5,r5,y5,st5,fr5⟩:=hh3
   have I5':=I5.pinned (fpok fr5) (T.obj _ _ st5)
   refine wpAny_mono (hg cl _ s₂ H₂ fp _ s5 σ3 H5 x u _ I5' r5 (step x H5 y5)) (fun _ s6 ⟨σ6,H6,I6,q6⟩=>?_) fun _ _ z=>weak z
   refine wpAny_mono (hk cl _ s₂ H₂ fp _ s6 σ6 H6 _ I6 q6) (fun u7 s7 ⟨y7,H7,I7,r7,q7⟩=>?_) fun _ _ z=>weak z
   refine wpAny_mono (hv cl _ s₂ H₂ fp _ s7 σ6 H7 _ I7 q7) (fun u8 s8 ⟨y8,H8,I8,r8,q8⟩=>?_) fun _ _ z=>weak z
   obtain ⟨kvs,kk,e8,rfl,l8,w8⟩:=q8
   refine d_dictSet (X:=X.comp scope N' cl H2.objs.size s₂ H₂ fp) I8 e8 l8 r7 r8 fun s9 I9=>?_
   refine ⟨n - (i+1),by omega,i+1,σ6,_,hlt,rfl,I9.unpinned,?_,fun b hb=>?_,w8⟩
   ·exact T.keep _ _ _ st5 fun b hb o e=>(I9.pin (b,o) (List.mem_append_right _ (List.mem_append_right _ (q3l hb e)))).1
   ·obtain ⟨o,e,d⟩:=T.obj _ _ st5 b hb
    exact (I9.pin (b,o) (List.mem_append_right _ (List.mem_append_right _ (q3l hb e)))).2.1
 exact codeAny_compStart_dict (loop _ rfl) (T.self _ 0 _ _ _ st0 (loop _ rfl))
end
end L2
namespace Ev
open PySem PySem.Spec PyProof.Rows L2
section
variable {X:Cx} {G:GX} {pos:Pos}
theorem dc_go {tg iter:Expr} {scope:Scope} {wi:WI} {g:WG} {wk wv:WE} {ix:List (Option Nat)} {σV:L2.St} {H:Hp} {Q:VK} (h:q6j X.K G (wDComp wi ix g wk wv) σV H Q):tDComp (liftI X.K G wi) ix (liftG X.K NoG g) (q6j X.K NoG wk) (q6j X.K NoG wv) σV H Q:=by
 obtain ⟨φ,σ,S,Q0,L,R,h,k⟩:=h
 exact ⟨φ,σ,S,_,L,R,h,fun it S1 φ1 H1 J q p1 m1 R1 hj=>by
  intro p hp
  have R2:Rel X.K (φ1++[p]) (S1++[.dK []]) (upd H1 p (.dK [])):=R1.new (o:=.dK []) hp ⟨[],q1w,.nil⟩
  have ep:(φ1++[p])[S1.length]?=some p:=by rw [←R1.len,List.getElem?_append_right (Nat.le_refl _)]; simp
  have mp:Mono H1 (upd H1 p (.dK [])):=.new _ hp
  have pp:φ1 <+: φ1++[p]:=List.prefix_append _ _
  refine ⟨fun i σV' H'=>∃φ' σ' S',(φ1++[p]) <+: φ'∧Mono (upd H1 p (.dK [])) H'∧LRel X.K NoG H' φ' σ' σV'∧Rel X.K φ' S' H'∧dcGo it.chk g wk wv S1.length Q0 (it.xs.drop i) σ' S',it.xs.length,⟨φ1++[p],_,_,List.prefix_refl _,.refl _,inner_rel ix ((L.mono m1 p1).mono mp pp),R2,by simpa using q⟩,?_⟩
  rintro i σV' H' hi ⟨φ',σ',S',p',m',L',R',hf⟩
  by_cases hlt:i<it.xs.length
  ·rw [List.drop_eq_getElem_cons hlt] at hf
   obtain ⟨hch,N,hN,hb⟩:=hf
   obtain ⟨jg,jy⟩:=hj.go φ' H' S' (pp.trans p') (mp.trans m') R' hch i _ (List.getElem?_eq_getElem hlt)
   refine .inr ⟨hlt,jg,fun y H2 hy=>?_⟩
   obtain ⟨φ2,p2,m2,R2,r2⟩:=jy y H2 hy
   refine ⟨φ2,_,σ',S',_,L'.mono m2 p2,R2,r2,hb,fun σ3 S3 φ3 H3 σ3V q3 p3 m3 R3 L3=>?_⟩
   refine ⟨φ3,σ3,S3,_,L3,R3,q3,fun z S4 φ4 H4 z' q4 p4 m4 R4 r4=>?_⟩
   refine ⟨φ4,σ3,S4,_,L3.mono m4 p4,R4,q4,fun v S5 φ5 H5 v' q5 p5 m5 R5 r5=>?_⟩
   obtain ⟨kvs,kk,e5,ek,l5,n5⟩:=q5
   have hd:φ5[S1.length]?=some p:=q6p ((((p'.trans p2).trans p3).trans p4).trans p5) ep
   obtain ⟨ws,ea,ra⟩:=R5.obj _ _ _ hd e5
   have hk':=q7p (RV.mono m5 p5 _ _ r4) ek
   refine ⟨ws,kk,ea,hk',by rw [←ra.length]; exact l5,?_⟩
   refine ⟨φ5,σ3,_,(((p'.trans p2).trans p3).trans p4).trans p5,(((((m'.trans m2).trans m3).trans m4).trans m5)).trans (.dict ea),((L3.mono m4 p4).mono m5 p5).mono (.dict ea) (List.prefix_refl _),R5.put (o:=.dK (putP kvs kk v)) hd (.dict ea) ⟨_,q1w,RKs.mono (.dict ea) (List.prefix_refl _) (ra.put kk r5)⟩,hN _ _ n5⟩
  ·have e:i=it.xs.length:=by omega
   subst e
   rw [List.drop_length] at hf
   exact .inl ⟨hj.stop φ' H' S' (pp.trans p') (mp.trans m') R' hf.1 _ (Nat.le_refl _),k _ _ _ _ _ hf.2 ((p1.trans pp).trans p') ((m1.trans mp).trans m') R' ⟨p,rfl,q6p p' ep⟩⟩⟩
theorem sim_setDC (i:Nat) {x:Str} {px sp:Pos} {tg iter kx vx:Expr} {scope:Scope} {wi:WI} {g:WG} {wk wv:WE} (N':List Str) (ix:List (Option Nat)) (hN:X.N.Nodup) (hc:X.calm=true) (co:CompOk X scope N' ix) (hi:SimI X G tg iter wi) (hg:∀cl C s H fp,SimG (X.comp scope N' cl C s H fp) NoG tg g) (hk:∀cl C s H fp,SimE (X.comp scope N' cl C s H fp) NoG kx wk) (hv:∀cl C s H fp,SimE (X.comp scope N' cl C s H fp) NoG vx wv)
  (hsw:swapsWith (.DictComp kx vx [⟨tg,iter,[],0⟩] scope pos) (some (.Name x px)) sp.line X.env=pure true:=by rfl) (hii:X.N[i]?=some x:=by rfl) (hx:L2.Loc X.env.scope x:=by first | exact Or.inl rfl | exact Or.inr rfl)
  (hs:∀x,foldedSetIterable iter X.env x=pure x:=by intro _; rfl) (hf:X.fn x=true∨X.env.scope.names.lookup x=some .local:=by first | exact .inl rfl | exact .inr rfl | assumption) :
  SimS X G (.Assign [.Name x px] (.DictComp kx vx [⟨tg,iter,[],0⟩] scope pos) sp) (wSet i (wDComp wi ix g wk wv)):=
 (ps_setDC (g:=liftG X.K NoG g) (tk:=q6j X.K NoG wk) (tv:=q6j X.K NoG wv) hsw hN hii hx hc co hi hg hk hv hs hf).imp fun D σV H h=>dc_go (tg:=tg) (iter:=iter) (scope:=scope) (set_lift h)
end
end Ev
namespace Ev
open PySem PySem.Spec PyProof.Rows L2
section
variable {X:Cx} {G:GX} {pos:Pos}
theorem dk_get {K:PySem.W.Frag} {H:Hp} {φ:List Addr} {S:q0h} {n:Nat} {a:Addr} {kvs:List (Key×PV)} {k:Key} (R:Rel K φ S H) (qa:φ[n]?=some a) (es:S[n]?=some (.dK kvs)):∃o:Option V,DGet H a (kV k) o∧o.isSome=(valP kvs k).isSome∧RV K H φ ((valP kvs k).getD .non) (o.getD .non):=by
 obtain ⟨ws,sa,ra⟩:=R.obj n a _ qa es
 refine ⟨valV ws k,DGet.k sa,?_⟩
 cases e:valP kvs k with
 | none=>rw [(ra.val k).2 e]; exact ⟨rfl,rfl⟩
 | some v=>
  obtain ⟨w',e',r'⟩:=(ra.val k).1 v e
  rw [e']
  exact ⟨rfl,r'⟩
def mGet:FM:=fun x xs S Q=>match x,xs with
 | .ref n,[y]=>match S[n]? with
  | some (.dK kvs)=>match q9i y with
   | some k=>Q ((valP kvs k).getD .non) S
   | none=>False
  | _=>False
 | _,_=>False
theorem mts_get (hu:X.A.units+200<cLine):MtR X "dict.get" (liftM X.K mGet):=by
 rintro pins s σ H x xs v us Q I rx rs ⟨φ,S,px,pxs,Q0,R,hx,hxs,h,k⟩
 unfold mGet at h
 split at h
 ·rename_i n y
  split at h
  ·rename_i kvs es
   split at h
   ·rename_i kk ek
    obtain ⟨a,rfl,qa⟩:=hx
    obtain ⟨y',rfl,ry⟩:=q2o hxs
    have hk:=q7p ry ek
    subst hk
    obtain ⟨o,g,_,r'⟩:=dk_get (k:=kk) R qa es
    cases rx
    cases rs with
    | cons r1 r2=>
     cases r2
     exact d_get1 (by omega) I g r1 fun w' s' I' rw'=>⟨_,H,I',rw',k _ S φ H _ h (List.prefix_refl _) (.refl _) R r'⟩
   ·exact h.elim
  ·exact h.elim
 ·exact h.elim
def cNotInD:F2:=fun x y S Q=>match y with
 | .ref n=>match S[n]? with
  | some (.dK kvs)=>match q9i x with
   | some k=>Q (.bl (!(valP kvs k).isSome)) S
   | none=>False
  | _=>False
 | _=>False
theorem ops_notInD (hu:X.A.units+200<cLine):OpR X (compareOp .NotIn) (q5c X.K cNotInD):=by
 rintro pins s σ H x y v u Q I rx ry ⟨φ,S,px,py,Q0,R,hx,hy,h,k⟩
 unfold cNotInD at h
 split at h
 ·rename_i n
  split at h
  ·rename_i kvs es
   split at h
   ·rename_i kk ek
    obtain ⟨a,rfl,qa⟩:=hy
    have hk:=q7p hx ek
    subst hk
    obtain ⟨o,g,e1,_⟩:=dk_get (k:=kk) R qa es
    cases ry
    refine d_notIn (by omega) I g rx fun s' I'=>⟨.bl (!o.isSome),H,I',rfl,k _ S φ H _ h (List.prefix_refl _) (.refl _) R ?_⟩
    rw [e1]
    exact rfl
   ·exact h.elim
  ·exact h.elim
 ·exact h.elim
end
end Ev
namespace Ev
open PySem PySem.Spec PyProof.Rows L2
section
variable {X:Cx} {G:GX} {pos:Pos}
end
end Ev
namespace My
open PySem L2 Ev
def q4a:WS:=
 (wSeq (wSet 1 (wBin bAdd (wSl (wVar 0) q4j (q8m (wC (.int 63)))) (wLst (q0d (wC (.int 0)) wNil))))
 (wSeq (wSet 2 (wBin cEq (wBin bMod (wBin bIx (wVar 1) (wC (.int 0))) (wC (.int 2))) (wC (.int 1))))
 (wSeq (wAsg (wBin q4l (wBin bIx (wVar 1) (wC (.int 0))) (wC (.int 2))) (q8a (wVar 1) (wC (.int 0)) sSet))
 (wRet (wDisp (q4t (wC (.str (Str.ofString "cells"))) (wVar 1) (q4t (wC (.str (Str.ofString "left"))) (wC (.int 12)) (q4t (wC (.str (Str.ofString "at"))) (wC (.int 0)) (q4t (wC (.str (Str.ofString "seed"))) (wBin bAdd (wC (.int 1)) (wBin bMod (wCB fSum (q0d (wVar 1) wNil)) (wC (.int 2147483646)))) (q4t (wC (.str (Str.ofString "mixed"))) (wVar 2) wdNil))))))))))
def q3y:WS:=
 (wSeq (wSet 1 (wBin bIx (wVar 0) (wC (.str (Str.ofString "cells")))))
 (wSeq (wIfS (wTru (wBin bIx (wVar 0) (wC (.str (Str.ofString "mixed")))))
 (wSeq (wAsg (wBin bAdd (wBin bIx (wVar 0) (wC (.str (Str.ofString "at")))) (wC (.int 1))) (q8a (wVar 0) (wC (.str (Str.ofString "at"))) sSet))
 (wSeq (wSet 2 (wBin bIx (wVar 1) (wBin bMod (wBin bIx (wVar 0) (wC (.str (Str.ofString "at")))) (wCB fLen (q0d (wVar 1) wNil)))))
 (wSeq (wAsg (wBin bMod (wBin bAdd (wBin bAdd (wBin bMul (wBin bIx (wVar 0) (wC (.str (Str.ofString "seed")))) (wC (.int 48271))) (wVar 2)) (wBin bIx (wVar 0) (wC (.str (Str.ofString "at"))))) (wC (.int 2147483647))) (q8a (wVar 0) (wC (.str (Str.ofString "seed"))) sSet))
 (wSeq (wSet 3 (wBin bMod (wBin bAdd (wBin bMul (wBin bIx (wVar 0) (wC (.str (Str.ofString "seed")))) (wBin bIx (wVar 0) (wC (.str (Str.ofString "seed"))))) (wBin bMul (wC (.int 7919)) (wBin bIx (wVar 0) (wC (.str (Str.ofString "at")))))) (wC (.int 2147483629))))
 (wRet (wBin bMod (wBin bMul (wVar 3) (wBin bAdd (wVar 3) (wC (.int 69621)))) (wC (.int 999999999989))))))))
 q2a)
 (wSeq (wSet 3 (wBin bMod (wBin bIx (wVar 1) (wC (.int 0))) (wBin bPow (wC (.int 10)) (wC (.int 12)))))
 (wSeq (wAsg (wBin q4l (wBin bIx (wVar 1) (wC (.int 0))) (wBin bPow (wC (.int 10)) (wC (.int 12)))) (q8a (wVar 1) (wC (.int 0)) sSet))
 (wSeq (wAsg (wBin bSub (wBin bIx (wVar 0) (wC (.str (Str.ofString "left")))) (wC (.int 1))) (q8a (wVar 0) (wC (.str (Str.ofString "left"))) sSet))
 (wSeq (wIfS (wAnd (q0y (wBin cEq (wBin bIx (wVar 0) (wC (.str (Str.ofString "left")))) (wC (.int 0)))) (q0y (wBin cGt (wCB fLen (q0d (wVar 1) wNil)) (wC (.int 1)))))
 (wSeq (q4f (wBM "list" mPopAt (wVar 1) (q0d (wC (.int 0)) wNil)))
 (wAsg (wC (.int 12)) (q8a (wVar 0) (wC (.str (Str.ofString "left"))) sSet)))
 q2a)
 (wRet (wVar 3))))))))
def q2u:WS:=
 (wSeq (wSet 2 (wC (.str (Str.ofString ""))))
 (wSeq (wFor (q5y (q0d (wVar 1) wNil)) (q1s 3) (wSeq (wSet 2 (wBin bAdd (wVar 2) (wBin bIx (wC (.str (Str.ofString "abcdefghijklmnopqrstuvwxyz"))) (wBin bMod (wVar 0) (wC (.int 26))))))
 (wSet 0 (wBin q4l (wVar 0) (wC (.int 26))))))
 (wRet (wVar 2))))
def q5z (spLnext:Den) (spLspelled:Den):WS:=
 (wSeq (wSet 2 (q0s spLnext (q0d (wVar 0) wNil)))
 (wSeq (wSet 3 (q0s spLnext (q0d (wVar 0) wNil)))
 (wSeq (wSet 4 (wBin bAdd (wC (.int 1)) (wBin bMod (wVar 2) (wC (.int 8)))))
 (wSeq (wSet 5 (q0s spLspelled (q0d (wVar 3) (q0d (wVar 4) wNil))))
 (wSeq (wIfS (wAnd (q0y (wBin cNe (wVar 1) (wLst wNil))) (q0y (wBin cEq (wBin bMod (wBin q4l (wVar 2) (wC (.int 8))) (wC (.int 2))) (wC (.int 1)))))
 (wSeq (wSet 6 (wBin bMod (wBin q4l (wVar 2) (wC (.int 16))) (wCB fLen (q0d (wBin bIx (wVar 1) (wC (.int 0))) wNil))))
 (wSet 5 (wBin bAdd (wBin bAdd (wSl (wBin bIx (wVar 1) (wC (.int 0))) q4j (q8m (wVar 6))) (wBin bIx (wVar 5) (wC (.int 0)))) (wSl (wBin bIx (wVar 1) (wC (.int 0))) (q8m (wBin bAdd (wVar 6) (wC (.int 1)))) q4j))))
 q2a)
 (wSeq (wWhile (wOr (q0y (wBin cIn (wVar 5) (wVar 1))) (q0y (wBin cEq (wVar 5) (wC (.str (Str.ofString "any")))))) (wSeq (wSet 3 (wBin bAdd (wVar 3) (wC (.int 1))))
 (wSeq (wSet 4 (wBin bAdd (wBin bMod (wVar 4) (wC (.int 8))) (wC (.int 1))))
 (wSet 5 (q0s spLspelled (q0d (wVar 3) (q0d (wVar 4) wNil)))))))
 (wRet (wVar 5))))))))
def q3n (spLword:Den):WS:=
 (wSeq (wSet 2 (wLst wNil))
 (wSeq (wFor (q5y (q0d (wVar 1) wNil)) (q1s 3) (q4f (wBM "list" q1z (wVar 2) (q0d (q0s spLword (q0d (wVar 0) (q0d (wVar 2) wNil))) wNil))))
 (wRet (wVar 2))))
def q3x (spLsame:Den):WS:=
 (wSeq (wIfS (wTru (wCB fIsi (q0d (wVar 0) (q0d (wC (.ty "str")) wNil))))
 (wRet (wAndV (wCB fIsi (q0d (wVar 1) (q0d (wC (.ty "str")) wNil))) (wBin cEq (wVar 0) (wVar 1))))
 q2a)
 (wSeq (wIfS (wNot (wTru (wCB fIsi (q0d (wVar 0) (q0d (wC (.ty "tuple")) wNil)))))
 (wRet (wAndV (wCB fIsi (q0d (wVar 1) (q0d (wC (.ty "int")) wNil))) (wAndV (wNotV (wCB fIsi (q0d (wVar 1) (q0d (wC (.ty "bool")) wNil)))) (wBin cEq (wVar 0) (wVar 1)))))
 q2a)
 (wSeq (wIfS (wOr (wNot (wTru (wCB fIsi (q0d (wVar 1) (q0d (wC (.ty "tuple")) wNil))))) (q0y (wBin cNe (wCB fLen (q0d (wVar 0) wNil)) (wCB fLen (q0d (wVar 1) wNil)))))
 (wRet (wC (.bl false)))
 q2a)
 (wRet (wCB fAll (q0d (wComp (wiZip (q0d (wVar 0) (q0d (wVar 1) wNil))) [none,none] (q6l 2 (q2d (q1s 0) (q2d (q1s 1) q6m))) q6t (q0s spLsame (q0d (wVar 0) (q0d (wVar 1) wNil)))) wNil))))))
local macro_rules | `(tactic| dsimp! [$xs,*]) => do
 let ns := (("wSet wAsg q1s q8a q6l q2d q6m sSet wIfS q0y wTru truK wAnd wOr wNot wAndV wOrV wNotV wNeg wBin wVar wC wCB q0d wNil wTup wLst wRet q4f q0s wBM wBM0 wSl bSl q8m q4j q2a wFor wiAny q5y wiRev wDComp wDNew wiZip wComp q6t q9n bIAdd bAdd bI bSub q4l bMod bPow bMul cLt cGt cGe cEq_ii cEq_ss cEq_st cEq_ts cEq_tt cEq_rr cNe_ii cNe_ss cNe_st cNe_ts cNe_tt cNe_rr cIn_r cIs isNon wRaise wTry wCallX wxDrop wxNil wxSeq pdrop wIsX ix_t ix_s ix_f ix_r q1v q9i fLen fIsi tyP fSum fAll fList fTuple fStr q1z mPop mPopAt q9e wDisp q4t wdNil List.getElem?_cons_zero List.getElem?_cons_succ List.set_cons_zero List.set_cons_succ List.map_cons List.map_nil List.replicate List.cons_append List.nil_append List.length_cons List.length_nil q4s q5w seq_new lst_new true_and if_true Bool.false_eq_true if_false Bool.not_true Bool.not_false kc_tuple kc_str kc_int kc_bool q8f q7q q9j q9k q8g it_bool_list it_bool_tuple it_bool_str it_bool_int it_bool_bool it_int_list it_int_tuple it_int_str it_int_int it_int_bool it_str_list it_str_tuple it_str_str it_str_int it_str_bool it_tuple_list it_tuple_tuple it_tuple_str it_tuple_int it_tuple_bool it_list_list it_list_tuple it_list_str it_list_int it_list_bool nrf_non nrf_bl nrf_int nrf_str q9a eqB_ii q7h eqB_st eqB_ts eqB_tt okEq_str q8z decide_eq_true_eq and_self and_true decide_true decide_false not_true_eq_false not_false_eq_true Int.cast_ofNat_Int Int.reduceEq Int.reduceNeg Nat.reduceSub Nat.sub_self Bool.not_eq_true' decide_eq_false_iff_not Nat.reduceAdd mGet cNotInD".splitOn " ").map fun z => Lean.mkIdent z.toName).toArray
 let ds := (("wSet wAsg q1s q8a q6l q2d q6m sSet wIfS q0y wTru truK wAnd wOr wNot wAndV wOrV wNotV wNeg wBin wVar wC wCB q0d wNil wTup wLst wRet q4f q0s wBM wBM0 wSl bSl q8m q4j q2a wFor wiAny q5y wiRev wDComp wDNew wiZip wComp q6t q9n bIAdd bAdd bI bSub q4l bMod bPow bMul cLt cGt cGe cIs wRaise wTry wCallX wxDrop wxNil wxSeq pdrop wIsX ix_t ix_s ix_f ix_r q9i fLen fIsi tyP fSum fAll fList fTuple fStr q1z mPop mPopAt q9e wDisp q4t wdNil true_and mGet List.getElem?_cons_zero List.getElem?_cons_succ List.set_cons_zero List.set_cons_succ List.map_cons List.map_nil List.cons_append List.nil_append".splitOn " ").map fun z => Lean.mkIdent z.toName).toArray
 `(tactic| first | (dsimp only [$[$ds:ident],*]; first | simp only [$[$ns:ident],*, $xs,*] | skip) | simp only [$[$ns:ident],*, $xs,*])
def mk (l:List Nat):Str:=⟨l.toArray⟩
theorem q5r (l:List Nat):(mk l).cps.toList=l:=rfl
theorem q7v (l:List Nat):(mk l).length=l.length:=by simp [mk,Str.length]
theorem mk_app (a b:List Nat):mk a++mk b=mk (a++b):=by
 apply str_ext
 rw [app_list,q5r,q5r,q5r]
theorem mk_inj {a b:List Nat} (h:mk a=mk b):a=b:=by rw [←q5r a,h,q5r]
theorem len_list (z:Str):z.cps.toList.length=z.length:=by simp [Str.length]
theorem empty_mk:Str.ofString "" = mk []:=by decide +kernel
theorem chr_mk (c:Nat):(⟨#[c]⟩:Str)=mk [c]:=rfl
def isL (c:Nat):Bool:=inS ⟨#[c]⟩ (Str.ofString "abcdefghijklmnopqrstuvwxyz")
def q6h (z:Str):Bool:=!decide (z.length=0) && !decide (8<z.length) && z.cps.toList.all isL
inductive Kd where
 | a (s:Str) | p (f t:Kd)
def Kd.pv:Kd→PV
 | .a s=>.str s
 | .p f t=>.tup [f.pv,t.pv]
def Kd.lv:Kd→Nat
 | .a _=>1
 | .p f t=>f.lv+t.lv
def Kd.dp:Kd→Nat
 | .a _=>0
 | .p f t=>max f.dp t.dp+1
def Kd.ok:Kd→Prop
 | .a s=>q6h s=true
 | .p f t=>f.ok∧t.ok
theorem nameB_len {s:Str} (h:q6h s=true):1≤s.length∧s.length≤8∧s.cps.toList.all isL=true:=by
 unfold q6h at h
 simp only [Bool.and_eq_true,Bool.not_eq_true',decide_eq_false_iff_not] at h
 exact ⟨by omega,by omega,h.2⟩
theorem nrf_pv:∀k:Kd,nrf k.pv=true
 | .a _=>rfl
 | .p f t=>by simp only [Kd.pv,nrf,nrfs,nrf_pv f,nrf_pv t,Bool.and_self]
theorem q7x:∀k:Kd,dep k.pv=k.dp
 | .a _=>rfl
 | .p f t=>by simp only [Kd.pv,dep,deps,q7x f,q7x t,Kd.dp]; omega
theorem okEq_pv {k:Kd} (h:k.dp≤190):okEq k.pv:=⟨nrf_pv k,by rw [q7x]; exact h⟩
structure ReadAt (S0:q0h) (z:Str) (np ns:Nat) (pcs:List Str) (st:List Kd) (σ:Ev.Loc) (S:q0h):Prop where
 loc:∃j,σ=[some (.str z),some (.ref np),some (.ref ns),j]
 pcs:S[np]?=some (.lst (pcs.map PV.str))
 stk:S[ns]?=some (.lst (st.map Kd.pv))
 ext:Ex [] S0 S
section
variable {spc spi:Den} {S0:q0h} {z:Str} {np ns:Nat} {pcs:List Str} {D:PEnds} {E:EK}
end
def q4m (c:Nat) (l a s:Int) (m:Bool):List (Key×PV):=[(.inr (Str.ofString "cells"),.ref c),(.inr (Str.ofString "left"),.int l),(.inr (Str.ofString "at"),.int a),(.inr (Str.ofString "seed"),.int s),(.inr (Str.ofString "mixed"),.bl m)]
theorem dk_cells (c:Nat) (l a s:Int) (m:Bool):valP (q4m c l a s m) (.inr (Str.ofString "cells"))=some (.ref c):=rfl
theorem dk_left (c:Nat) (l a s:Int) (m:Bool):valP (q4m c l a s m) (.inr (Str.ofString "left"))=some (.int l):=rfl
theorem dk_at (c:Nat) (l a s:Int) (m:Bool):valP (q4m c l a s m) (.inr (Str.ofString "at"))=some (.int a):=rfl
theorem dk_seed (c:Nat) (l a s:Int) (m:Bool):valP (q4m c l a s m) (.inr (Str.ofString "seed"))=some (.int s):=rfl
theorem dk_mixed (c:Nat) (l a s:Int) (m:Bool):valP (q4m c l a s m) (.inr (Str.ofString "mixed"))=some (.bl m):=rfl
theorem dp_left (c:Nat) (l a s:Int) (m:Bool) (x:Int):putP (q4m c l a s m) (.inr (Str.ofString "left")) (.int x)=q4m c x a s m:=rfl
theorem dp_at (c:Nat) (l a s:Int) (m:Bool) (x:Int):putP (q4m c l a s m) (.inr (Str.ofString "at")) (.int x)=q4m c l x s m:=rfl
theorem dp_seed (c:Nat) (l a s:Int) (m:Bool) (x:Int):putP (q4m c l a s m) (.inr (Str.ofString "seed")) (.int x)=q4m c l a x m:=rfl
theorem dk_len (c:Nat) (l a s:Int) (m:Bool):(q4m c l a s m).length<sizeLine:=bigl (by show 5≤1000000; decide)
structure Deck (d c:Nat) (S:q0h):Prop where
 is:∃(l a s:Int) (m:Bool) (x:Int) (xs:List Int),S[d]?=some (.dK (q4m c l a s m))∧S[c]?=some (.lst ((x::xs).map PV.int))∧xs.length≤100∧0≤s∧s<2147483647
 ne:d≠c
theorem Deck.ex {d c:Nat} {S S':q0h} (h:Deck d c S) {D:List Nat} (e:Ex D S S') (h1:d∉D) (h2:c∉D):Deck d c S':=by
 obtain ⟨⟨l,a,s,m,x,xs,g1,g2,r⟩,ne⟩:=h
 exact ⟨⟨l,a,s,m,x,xs,e.get g1 h1,e.get g2 h2,r⟩,ne⟩
def NextD (sp:Den):Prop:=∀(d c:Nat) (S:q0h) (E:EK) (Q:VC),Deck d c S→(∀(n:Int) S',0≤n→n<1000000000000→Deck d c S'→Ex [d,c] S S'→Q (.int n) S')→sp [.ref d] S E Q
theorem q8l (n:Nat):ixN (n+1) 0=some 0:=by
 unfold ixN
 rw [if_pos (by decide),if_pos (by omega)]
 rfl
theorem q0p (x:PV) (xs:List PV):atI (x::xs) 0=some x:=by
 unfold atI ixN
 simp only [List.length_cons]
 rw [if_pos (by decide),if_pos (by omega)]
 rfl
theorem atI_mod {xs:List Int} {i:Int} (h:xs≠[]):∃y,atI (xs.map PV.int) (i % (xs.length:Int))=some (.int y):=by
 have hp:0<xs.length:=List.length_pos_iff.mpr h
 have h0:0≤i % (xs.length:Int):=Int.emod_nonneg _ (by omega)
 have h1:i % (xs.length:Int)<xs.length:=Int.emod_lt_of_pos _ (by omega)
 unfold atI ixN
 rw [List.length_map,if_pos h0,if_pos h1]
 have:(i % (xs.length:Int)).toNat<xs.length:=by omega
 exact ⟨xs[(i % (xs.length:Int)).toNat],by simp [this]⟩
theorem cmul_r {i j:Int} (h:-(2 ^ 64)<j) (h':j<2 ^ 64):CMul i j:=.inr ⟨h,h'⟩
theorem cmul_l {i j:Int} (h:-(2 ^ 64)<i) (h':i<2 ^ 64):CMul i j:=.inl ⟨h,h'⟩
theorem next_ok:NextD (fnP 1 4 q3y):=by
 rintro d c S E Q ⟨⟨l,a,s,m,x,xs,g1,g2,hl,s0,s1⟩,ne⟩ h
 refine ⟨rfl,?_⟩
 unfold q3y
 refine seqI fun K hK=>?_
 dsimp! [g1,dk_cells]
 refine hK _ _ ?_
 refine seqI fun K hK=>?_
 dsimp! [g1,dk_mixed]
 refine ite2 (fun hm=>?_) (fun hm=>?_)
 ·refine seqI fun K2 hK2=>?_
  dsimp! [g1,dk_at,dp_at]
  refine ⟨dk_len _ _ _ _ _,hK2 _ _ ?_⟩
  have a1:=q2q (.dK (q4m c l (a+1) s m)) g1
  have b1:=q4h (j:=d) (.dK (q4m c l (a+1) s m)) g2 ne
  refine seqI fun K2 hK2=>?_
  obtain ⟨y,hy⟩:=atI_mod (xs:=x::xs) (i:=a+1) (by simp)
  dsimp! [a1,b1,dk_at,q1a b1,List.length_map]
  simp only [List.map_cons,List.length_cons] at hy
  rw [show ((xs.length+1:Nat):Int)=((xs.length:Int)+1) by omega] at hy ⊢
  refine ⟨by omega,?_⟩
  rw [hy]
  refine hK2 _ _ ?_
  refine seqI fun K2 hK2=>?_
  dsimp! [a1,dk_at,dk_seed,dp_seed]
  refine ⟨cmul_r (by decide) (by decide),by decide,dk_len _ _ _ _ _,hK2 _ _ ?_⟩
  have s2:∀z:Int,0≤z % 2147483647∧z % 2147483647<2147483647:=fun z=>⟨Int.emod_nonneg _ (by decide),Int.emod_lt_of_pos _ (by decide)⟩
  obtain ⟨t0,t1⟩:=s2 (s*48271+y+(a+1))
  generalize hs':(s*48271+y+(a+1)) % 2147483647=s' at t0 t1 ⊢
  have a2:=q2q (.dK (q4m c l (a+1) s' m)) a1
  have b2:=q4h (j:=d) (.dK (q4m c l (a+1) s' m)) b1 ne
  refine seqI fun K2 hK2=>?_
  dsimp! [a2,dk_at,dk_seed]
  refine ⟨cmul_r (by omega) (by omega),cmul_l (by decide) (by decide),by decide,hK2 _ _ ?_⟩
  have n0:0≤(s'*s'+7919*(a+1)) % 2147483629:=Int.emod_nonneg _ (by decide)
  have n1:(s'*s'+7919*(a+1)) % 2147483629<2147483629:=Int.emod_lt_of_pos _ (by decide)
  generalize (s'*s'+7919*(a+1)) % 2147483629=nn at n0 n1 ⊢
  dsimp! [true_and]
  refine ⟨cmul_r (by omega) (by omega),by decide,?_⟩
  refine h _ _ (Int.emod_nonneg _ (by decide)) (Int.lt_trans (Int.emod_lt_of_pos _ (by decide)) (by decide)) ⟨⟨l,a+1,s',m,x,xs,a2,b2,hl,t0,t1⟩,ne⟩ (((Ex.refl _ _).set (.inl (by simp))).set (.inl (by simp)))
 ·refine hK _ _ ?_
  refine seqI fun K hK=>?_
  dsimp! [g2,q0p]
  refine ⟨⟨by decide,by decide,by decide⟩,by decide,hK _ _ ?_⟩
  rw [show ((10:Int) ^ (12:Int).toNat)=1000000000000 by decide]
  refine seqI fun K hK=>?_
  simp only [List.map_cons] at g2
  dsimp! [g2,q0p,q8l]
  rw [show ((10:Int) ^ (12:Int).toNat)=1000000000000 by decide]
  refine ⟨⟨by decide,by decide,by decide⟩,⟨by decide,by decide⟩,hK _ _ ?_⟩
  have b1:=q2q (.lst (PV.int (x / 1000000000000)::xs.map PV.int)) g2
  have a1:=q4h (j:=c) (.lst (PV.int (x / 1000000000000)::xs.map PV.int)) g1 (Ne.symm ne)
  refine seqI fun K hK=>?_
  dsimp! [a1,dk_left,dp_left]
  refine ⟨dk_len _ _ _ _ _,hK _ _ ?_⟩
  have a2:=q2q (.dK (q4m c (l - 1) a s m)) a1
  have b2:=q4h (j:=d) (.dK (q4m c (l - 1) a s m)) b1 ne
  have n0:0≤x % 1000000000000:=Int.emod_nonneg _ (by decide)
  have n1:x % 1000000000000<1000000000000:=Int.emod_lt_of_pos _ (by decide)
  have exx:Ex [d,c] S ((S.set c (.lst (PV.int (x / 1000000000000)::xs.map PV.int))).set d (.dK (q4m c (l - 1) a s m))):=((Ex.refl _ _).set (.inl (by simp))).set (.inl (by simp))
  refine seqI fun K hK=>?_
  dsimp! [a2,dk_left,q1a b2,List.length_map]
  have fin0:K [some (.ref d),some (.ref c),none,some (.int (x % 1000000000000))] ((S.set c (.lst (PV.int (x / 1000000000000)::xs.map PV.int))).set d (.dK (q4m c (l - 1) a s m))):=by
   refine hK _ _ ?_
   dsimp! [true_and]
   exact h _ _ n0 n1 ⟨⟨l - 1,a,s,m,x / 1000000000000,xs,a2,b2,hl,s0,s1⟩,ne⟩ exx
  refine ite2 (fun z=>ite2 (fun z2=>?_) (fun z2=>fin0)) (fun z=>fin0)
  refine seqI fun K2 hK2=>?_
  dsimp! [b2,q2y b2,q8l,List.eraseIdx_zero,List.tail_cons]
  refine ⟨⟨by decide,by decide⟩,hK2 _ _ ?_⟩
  have b3:=q2q (.lst (xs.map PV.int)) b2
  have a3:=q4h (j:=c) (.lst (xs.map PV.int)) a2 (Ne.symm ne)
  dsimp! [a3,dp_left]
  refine ⟨dk_len _ _ _ _ _,hK _ _ ?_⟩
  dsimp! [true_and]
  obtain ⟨x',xs',rfl⟩:∃x' xs',xs=x'::xs':=by
   cases xs with
   | nil=>simp at z2
   | cons a b=>exact ⟨a,b,rfl⟩
  refine h _ _ n0 n1 ⟨⟨12,a,s,m,x',xs',q2q _ a3,q4h _ b3 ne,by simp at hl; omega,s0,s1⟩,ne⟩ ((exx.set (.inl (by simp))).set (.inl (by simp)))
def DeckD (sp:Den):Prop:=∀(ns:List Int) (S:q0h) (E:EK) (Q:VC),ns.length≤63→(∀d c S',Deck d c S'→Ex [] S S'→S.length≤c→S.length≤d→Q (.ref d) S')→sp [.frl (ns.map .int)] S E Q
theorem cut63 (ns:List Int) (h:ns.length≤63):cutP (ns.map PV.int) none (some 63)=ns.map PV.int:=by
 unfold cutP
 have:HT.sIx (ns.map PV.int).length (ns.map PV.int).length (some 63)=(ns.map PV.int).length:=by
  rw [show (63:Int)=((63:Nat):Int) from rfl,HT.sIx_nat,List.length_map]
  omega
 rw [this,HT.sIx_none,List.drop_zero,Nat.sub_zero,List.take_length]
theorem deck_ok:DeckD (fnP 1 3 q4a):=by
 intro ns S E Q hl h
 refine ⟨rfl,?_⟩
 unfold q4a
 refine seqI fun K hK=>?_
 obtain ⟨x,xs,hxs,hxl⟩:∃x xs,ns++[0]=x::xs∧xs.length≤100:=by
  cases ns with
  | nil=>exact ⟨0,[],rfl,by simp⟩
  | cons a r=>exact ⟨a,r++[0],rfl,by simp at hl ⊢; omega⟩
 have e0:(S++[SO.lst (ns.map PV.int)])[S.length]?=some (.lst (ns.map PV.int)):=q1v _ _
 have e1:=q3e e0 [SO.lst [PV.int 0]]
 have e2:=q1v (S++[SO.lst (ns.map PV.int)]) (.lst [PV.int 0])
 dsimp! [cut63 ns hl,q2y e1]
 refine ⟨big (by decide),⟨by rw [List.length_map]; exact big (by omega),hK _ _ ?_⟩⟩
 have ecat:ns.map PV.int++[PV.int 0]=(x::xs).map PV.int:=by rw [←hxs]; simp
 rw [ecat]
 generalize hS3:S++[SO.lst (ns.map PV.int)]++[SO.lst [PV.int 0]]=S3
 have hx3:Ex [] S S3:=by rw [←hS3]; exact (Ex.new _ _ _).app _
 have g:=q1v S3 (.lst ((x::xs).map PV.int))
 refine seqI fun K hK=>?_
 simp only [List.map_cons] at g
 dsimp! [g,q0p]
 refine ⟨by decide,hK _ _ ?_⟩
 refine seqI fun K hK=>?_
 dsimp! [g,q0p,q8l]
 refine ⟨⟨by decide,by decide⟩,hK _ _ ?_⟩
 have g2:=q2q (.lst (PV.int (x / 2)::xs.map PV.int)) g
 have hx4:Ex [] S ((S3++[SO.lst (PV.int x::xs.map PV.int)]).set S3.length (.lst (PV.int (x / 2)::xs.map PV.int))):=(hx3.app _).set (.inr hx3.1)
 generalize hS4:(S3++[SO.lst (PV.int x::xs.map PV.int)]).set S3.length (.lst (PV.int (x / 2)::xs.map PV.int))=S4 at g2 hx4 ⊢
 have g3:=q3e g2 [SO.dK []]
 have eI:q6k (PV.int (x / 2)::xs.map PV.int)=some ((x / 2)::xs):=intsOf_map ((x / 2)::xs)
 dsimp! [q1a g3,Option.bind_some,eI]
 refine ⟨by decide,by first | exact ⟨q1v _ _,by decide⟩ | decide,?_⟩
 have em:∀(b:Bool) (s:Int),mergeP [] [(Sum.inr (Str.ofString "cells"),PV.ref S3.length),(Sum.inr (Str.ofString "left"),PV.int 12),(Sum.inr (Str.ofString "at"),PV.int 0),(Sum.inr (Str.ofString "seed"),PV.int s),(Sum.inr (Str.ofString "mixed"),PV.bl b)]=q4m S3.length 12 0 s b:=fun b s=>rfl
 rw [em]
 have hlt:S3.length<S4.length:=q1x g2
 have n0:0≤((x / 2)::xs).sum % 2147483646:=Int.emod_nonneg _ (by decide)
 have n1:((x / 2)::xs).sum % 2147483646<2147483646:=Int.emod_lt_of_pos _ (by decide)
 refine h S4.length S3.length _ ⟨⟨12,0,_,_,x / 2,xs,q2q _ (q1v S4 (SO.dK [])),q4h _ g3 (by omega),hxl,?_,?_⟩,by omega⟩ ((hx4.app _).set (.inr hx4.1)) hx3.1 hx4.1
 ·generalize ((x / 2)::xs).sum % 2147483646=y at n0 n1 ⊢; omega
 ·generalize ((x / 2)::xs).sum % 2147483646=y at n0 n1 ⊢; omega
def spl:Int→Nat→List Nat
 | _,0=>[]
 | n,k+1=>(97+(n % 26).toNat)::spl (n / 26) k
theorem q6n:∀(k:Nat) (n:Int),(spl n k).length=k
 | 0,_=>rfl
 | k+1,n=>by rw [spl,List.length_cons,q6n k]
def SpelledD (sp:Den):Prop:=∀(n:Int) (k:Nat) (S:q0h) (E:EK) (Q:VC),k≤8→Q (.str (mk (spl n k))) S→sp [.int n,.int k] S E Q
theorem q7n (lo:Int) (n:Nat):(rngP lo n).length=n:=by simp [rngP]
theorem spelled_ok:SpelledD (fnP 2 4 q2u):=by
 intro n k S E Q hk h
 refine ⟨rfl,?_⟩
 unfold q2u
 refine seqI fun K hK=>?_
 dsimp! [true_and]
 refine hK _ _ ?_
 refine seqI fun K hK=>?_
 dsimp! [true_and]
 refine ⟨⟨by omega,by omega⟩,?_⟩
 rw [Int.toNat_natCast]
 refine forI (fun rest σ S1=>∃(num:Int) (w:List Nat) (j:Option PV),σ=[some (.int num),some (.int k),some (.str (mk w)),j]∧S1=S∧w++spl num rest.length=spl n k) ?_ ?_ _ _ _ ⟨n,[],none,by rw [empty_mk],rfl,by rw [q7n]; rfl⟩
 ·rintro σ S1 ⟨num,w,j,rfl,rfl,hw⟩
  refine ⟨trivial,hK _ _ ?_⟩
  dsimp! [true_and]
  rw [List.length_nil,spl,List.append_nil] at hw
  rw [hw]
  exact h
 ·rintro x r σ S1 ⟨num,w,j,rfl,rfl,hw⟩ N hN
  rw [List.length_cons,spl] at hw
  refine ⟨trivial,?_⟩
  have hwl:w.length≤8:=by
   have:=congrArg List.length hw
   rw [List.length_append,q6n] at this
   omega
  have m0:0≤num % 26:=Int.emod_nonneg _ (by decide)
  have m1:num % 26<26:=Int.emod_lt_of_pos _ (by decide)
  dsimp! [true_and]
  refine seqI fun K2 hK2=>?_
  dsimp! [letters_at m0 m1]
  refine ⟨by decide,letters_len,?_⟩
  rw [chr_mk,mk_app,q7v,q7v]
  refine ⟨big (by simp; omega),hK2 _ _ ?_⟩
  dsimp! [true_and]
  refine ⟨⟨by decide,by decide⟩,hN _ _ ⟨num / 26,w++[97+(num % 26).toNat],_,rfl,rfl,by rw [←hw]; simp⟩⟩
theorem isL_low:∀m:Nat,m<26→isL (97+m)=true:=by decide +kernel
theorem spl_isL:∀(k:Nat) (n:Int),(spl n k).all isL=true
 | 0,_=>rfl
 | k+1,n=>by
  have m0:0≤n % 26:=Int.emod_nonneg _ (by decide)
  have m1:n % 26<26:=Int.emod_lt_of_pos _ (by decide)
  rw [spl,List.all_cons,spl_isL k,Bool.and_true]
  exact isL_low _ (by omega)
theorem nameB_mk {l:List Nat} (h1:1≤l.length) (h8:l.length≤8) (h:l.all isL=true):q6h (mk l)=true:=by
 unfold q6h
 rw [q7v,q5r,h,decide_eq_false (by omega),decide_eq_false (by omega)]
 rfl
theorem nodup_le {α:Type} [DecidableEq α]:∀{l F:List α},l.Nodup→(∀x∈l,x∈F)→l.length≤F.length
 | [],_,_,_=>Nat.zero_le _
 | a::l,F,nd,h=>by
  obtain ⟨h1,h2⟩:=List.nodup_cons.mp nd
  have ha:a∈F:=h a (by simp)
  have:=nodup_le (l:=l) (F:=F.erase a) h2 fun x hx=>(List.mem_erase_of_ne (by rintro rfl; exact h1 hx)).mpr (h x (List.mem_cons_of_mem _ hx))
  rw [List.length_erase_of_mem ha] at this
  have:0<F.length:=List.length_pos_of_mem ha
  simp only [List.length_cons]
  omega
def sAny:Str:=Str.ofString "any"
def szn (k i:Nat):Nat:=(k - 1+i) % 8+1
theorem szn_step (k i:Nat):szn (szn k 1) i=szn k (i+1):=by unfold szn; omega
def Bad (ws:List Str) (w:Str):Prop:=w∈ws∨w=sAny
def GoodAt (ws:List Str) (num:Int) (k i:Nat):Prop:=¬Bad ws (mk (spl (num+(i:Nat)) (szn k i)))
def WordD (sp:Den):Prop:=∀(d c n:Nat) (ws:List Str) (S:q0h) (E:EK) (Q:VC),Deck d c S→S[n]?=some (.lst (ws.map PV.str))→ws.length≤12→(∀w∈ws,q6h w=true)→n≠d→n≠c→
 (∀w S',q6h w=true→w∉ws→w≠sAny→Deck d c S'→Ex [d,c] S S'→Q (.str w) S')→sp [.ref d,.ref n] S E Q
theorem sl_take (z:Str) (k:Nat) (h:k≤z.length):Txt.slice z none (some (k:Int))=mk (z.cps.toList.take k):=by
 apply str_ext
 rw [slice_list,q5r,HT.sIx_none,HT.sIx_nat,List.drop_zero,Nat.sub_zero,Nat.min_eq_left h]
theorem sl_drop (z:Str) (k:Nat) (h:k≤z.length):Txt.slice z (some (k:Int)) none=mk (z.cps.toList.drop k):=by
 apply str_ext
 rw [slice_list,q5r,HT.sIx_none,HT.sIx_nat,Nat.min_eq_left h,List.take_of_length_le]
 rw [List.length_drop,len_list]
 exact Nat.le_refl _
theorem eqBs_nil (ws:List Str):eqBs (ws.map PV.str) []=ws.isEmpty:=by cases ws<;>simp [eqBs]
theorem any_eq (ws:List Str) (w:Str):((ws.map PV.str).any fun y=>eqB y (.str w))=decide (w∈ws):=by
 rw [List.any_map,Bool.eq_iff_iff,List.any_eq_true,decide_eq_true_eq]
 constructor
 ·rintro ⟨x,hx,e⟩
  have e':eqB (.str x) (.str w)=true:=e
  rw [q7h,decide_eq_true_eq] at e'
  rw [←e']; exact hx
 ·intro h
  exact ⟨w,h,by show eqB (.str w) (.str w)=true; rw [q7h]; simp⟩
theorem all_take {p:Nat→Bool} {l:List Nat} (k:Nat) (h:l.all p=true):(l.take k).all p=true:=List.all_eq_true.mpr fun x hx=>List.all_eq_true.mp h x (List.mem_of_mem_take hx)
theorem all_drop {p:Nat→Bool} {l:List Nat} (k:Nat) (h:l.all p=true):(l.drop k).all p=true:=List.all_eq_true.mpr fun x hx=>List.all_eq_true.mp h x (List.mem_of_mem_drop hx)
def WordsD (sp:Den):Prop:=∀(d c m:Nat) (S:q0h) (E:EK) (Q:VC),Deck d c S→m≤12→
 (∀(n:Nat) (ws:List Str) S',S'[n]?=some (.lst (ws.map PV.str))→ws.length=m→(∀w∈ws,q6h w=true)→S.length≤n→Deck d c S'→Ex [d,c] S S'→Q (.ref n) S')→sp [.ref d,.int m] S E Q
theorem words_ok {spw:Den} (hw:WordD spw):WordsD (fnP 2 4 (q3n spw)):=by
 intro d c m S E Q hd hm h
 refine ⟨rfl,?_⟩
 unfold q3n
 refine seqI fun K hK=>?_
 dsimp! [true_and]
 refine ⟨big (by decide),hK _ _ ?_⟩
 refine seqI fun K hK=>?_
 dsimp! [true_and]
 refine ⟨⟨by omega,by omega⟩,?_⟩
 rw [Int.toNat_natCast]
 have hdl:d<S.length:=by obtain ⟨⟨_,_,_,_,_,_,g,_⟩,_⟩:=hd; exact q1x g
 have hcl:c<S.length:=by obtain ⟨⟨_,_,_,_,_,_,_,g,_⟩,_⟩:=hd; exact q1x g
 refine forI (fun rest σ S1=>∃(ws:List Str) (j:Option PV),σ=[some (.ref d),some (.int m),some (.ref S.length),j]∧S1[S.length]?=some (.lst (ws.map PV.str))∧ws.length+rest.length=m∧(∀w∈ws,q6h w=true)∧Deck d c S1∧Ex [d,c] S S1) ?_ ?_ _ _ _ ⟨[],none,rfl,q1v _ _,by rw [q7n]; simp,by simp,hd.ex (Ex.new [] _ _) (by simp) (by simp),Ex.new _ _ _⟩
 ·rintro σ S1 ⟨ws,j,rfl,hs,hl,hn,hd1,hx⟩
  refine ⟨trivial,hK _ _ ?_⟩
  dsimp! [true_and]
  exact h _ ws _ hs (by simpa using hl) hn (Nat.le_refl _) hd1 hx
 ·rintro x r σ S1 ⟨ws,j,rfl,hs,hl,hn,hd1,hx⟩ N hN
  rw [List.length_cons] at hl
  refine ⟨trivial,?_⟩
  dsimp! [hs]
  refine hw d c S.length ws _ _ _ hd1 hs (by omega) hn (by omega) (by omega) fun w S2 nw _ _ hd2 hx2=>?_
  have hs2:S2[S.length]?=some (.lst (ws.map PV.str)):=hx2.get hs (by simp; omega)
  dsimp! [q2y hs2]
  refine ⟨by rw [List.length_map]; exact bigl (by omega),hN _ _ ⟨ws++[w],_,rfl,?_,?_,?_,hd2.ex (D:=[S.length]) ((Ex.refl _ _).set (.inl (by simp))) (by simp; omega) (by simp; omega),(hx.trans hx2).set (.inr (Nat.le_refl _))⟩⟩
  ·rw [q2q _ hs2]; simp
  ·simp; omega
  ·intro y hy
   rcases List.mem_append.mp hy with z | z
   ·exact hn y z
   ·simp at z; subst z; exact nw
theorem q7k {α:Type} (xs:List α) (j:Nat) (h:j<xs.length):atI xs (j:Int)=some xs[j]:=by
 unfold atI ixN
 rw [if_pos (by omega),if_pos (by omega)]
 simp [h]
theorem cut_pre (xs:List PV) (k:Nat) (h:k≤xs.length):cutP xs none (some (k:Int))=xs.take k:=by
 unfold cutP
 rw [HT.sIx_none,HT.sIx_nat,List.drop_zero,Nat.sub_zero,Nat.min_eq_left h]
theorem cut_suf (xs:List PV) (k:Nat) (h:k≤xs.length):cutP xs (some (k:Int)) none=xs.drop k:=by
 unfold cutP
 rw [HT.sIx_none,HT.sIx_nat,Nat.min_eq_left h,List.take_of_length_le]
 rw [List.length_drop]
 exact Nat.le_refl _
def q7t (spLnext:Den) (spLspelled:Den):WS:=
 (wSeq (wSet 2 (q0s spLnext (q0d (wVar 0) wNil)))
 (wSeq (wSet 3 (q0s spLnext (q0d (wVar 0) wNil)))
 (wSeq (wSet 4 (wBin bAdd (wC (.int 1)) (wBin bMod (wVar 2) (wC (.int 8)))))
 (wSeq (wSet 5 (q0s spLspelled (q0d (wVar 3) (q0d (wVar 4) wNil))))
 (wSeq (wIfS (wAnd (q0y (wBin cNe (wVar 1) (wLst wNil))) (q0y (wBin cEq (wBin bMod (wBin q4l (wVar 2) (wC (.int 8))) (wC (.int 2))) (wC (.int 1)))))
 (wSeq (wSet 6 (wBin bMod (wBin q4l (wVar 2) (wC (.int 16))) (wCB fLen (q0d (wBin bIx (wVar 1) (wC (.int 0))) wNil))))
 (wSet 5 (wBin bAdd (wBin bAdd (wSl (wBin bIx (wVar 1) (wC (.int 0))) q4j (q8m (wVar 6))) (wBin bIx (wVar 5) (wC (.int 0)))) (wSl (wBin bIx (wVar 1) (wC (.int 0))) (q8m (wBin bAdd (wVar 6) (wC (.int 1)))) q4j))))
 q2a)
 (wSeq (wWhile (wOr (q0y (wBin cIn (wVar 5) (wVar 1))) (q0y (wBin cEq (wVar 5) (wC (.str (Str.ofString "any")))))) (wSeq (wSet 3 (wBin bAdd (wVar 3) (wC (.int 1))))
 (wSeq (wSet 4 (wBin bAdd (wBin bMod (wVar 4) (wC (.int 8))) (wC (.int 1))))
 (wSet 5 (q0s spLspelled (q0d (wVar 3) (q0d (wVar 4) wNil)))))))
 (wRet (wVar 5))))))))
def q3j (spLnext:Den) (spLkind:Den):WS:=
 (wSeq (wSet 3 (q0s spLnext (q0d (wVar 0) wNil)))
 (wSeq (wIfS (wOr (q0y (wBin cEq (wVar 2) (wC (.int 0)))) (q0y (wBin cEq (wBin bMod (wVar 3) (wC (.int 3))) (wC (.int 0)))))
 (wRet (wBin bIx (wVar 1) (wBin bMod (wBin q4l (wVar 3) (wC (.int 3))) (wCB fLen (q0d (wVar 1) wNil)))))
 q2a)
 (wRet (wTup (q0d (q0s spLkind (q0d (wVar 0) (q0d (wVar 1) (q0d (wBin bSub (wVar 2) (wC (.int 1))) wNil)))) (q0d (q0s spLkind (q0d (wVar 0) (q0d (wVar 1) (q0d (wBin bSub (wVar 2) (wC (.int 1))) wNil)))) wNil))))))
def q4w (spLterm:Den):WS:=
 (wSeq (q4f (wBM "list" q1z (wVar 3) (q0d (wLst (q0d (wBin bIx (wVar 2) (wC (.int 0))) (q0d (wBin bIx (wVar 1) (wC (.str (Str.ofString "uses")))) wNil))) wNil)))
 (wSeq (wSet 5 (q0s spLterm (q0d (wVar 0) (q0d (wVar 1) (q0d (wBin bIx (wVar 2) (wC (.int 1))) (q0d (wVar 3) (q0d (wBin bSub (wVar 4) (wC (.int 1))) wNil)))))))
 (wSeq (q4f (wBM0 "list" mPop (wVar 3)))
 (wRet (wTup (q0d (wC (.str (Str.ofString "fn"))) (q0d (wBin bIx (wVar 2) (wC (.int 0))) (q0d (wVar 5) wNil))))))))
def q4v (spLkind:Den) (spLnext:Den) (spLfn:Den) (spLterm:Den):WS:=
 (wSeq (wSet 5 (q0s spLkind (q0d (wVar 0) (q0d (wBin bIx (wVar 1) (wC (.str (Str.ofString "basics")))) (q0d (wC (.int 2)) wNil)))))
 (wSeq (wSet 6 (q0s spLnext (q0d (wVar 0) wNil)))
 (wSeq (wIfS (q0y (wBin cGt (wBin bMod (wVar 6) (wC (.int 3))) (wC (.int 0))))
 (wSet 7 (q0s spLfn (q0d (wVar 0) (q0d (wVar 1) (q0d (wTup (q0d (wVar 5) (q0d (wVar 2) wNil))) (q0d (wVar 3) (q0d (wVar 4) wNil)))))))
 (wSet 7 (q0s spLterm (q0d (wVar 0) (q0d (wVar 1) (q0d (wTup (q0d (wVar 5) (q0d (wVar 2) wNil))) (q0d (wVar 3) (q0d (wBin bSub (wVar 4) (wC (.int 1))) wNil))))))))
 (wRet (wTup (q0d (wC (.str (Str.ofString "of"))) (q0d (wVar 7) (q0d (q0s spLterm (q0d (wVar 0) (q0d (wVar 1) (q0d (wVar 5) (q0d (wVar 3) (q0d (wBin bSub (wVar 4) (wC (.int 1))) wNil)))))) wNil))))))))
def q3b (spLwidth:Den):WS:=
 (wSeq (wIfS (wTru (wCB fIsi (q0d (wVar 0) (q0d (wC (.ty "str")) wNil))))
 (wRet (wC (.int 1)))
 q2a)
 (wRet (wBin bAdd (q0s spLwidth (q0d (wBin bIx (wVar 0) (wC (.int 0))) wNil)) (q0s spLwidth (q0d (wBin bIx (wVar 0) (wC (.int 1))) wNil)))))
def q3k (spLform:Den):WS:=
 (wSeq (wIfS (wTru (wCB fIsi (q0d (wVar 0) (q0d (wC (.ty "str")) wNil))))
 (wRet (wTup (q0d (wC (.str (Str.ofString "basic"))) (q0d (wVar 0) wNil))))
 q2a)
 (wRet (wTup (q0d (wBin bIx (wLst (q0d (wC (.str (Str.ofString "/"))) (q0d (wC (.str (Str.ofString "\\"))) wNil))) (wBin bMod (wVar 1) (wC (.int 2)))) (q0d (q0s spLform (q0d (wBin bIx (wVar 0) (wC (.int 1))) (q0d (wBin q4l (wVar 1) (wC (.int 2))) wNil))) (q0d (q0s spLform (q0d (wBin bIx (wVar 0) (wC (.int 0))) (q0d (wBin q4l (wVar 1) (wC (.int 5))) wNil))) wNil))))))
def q3z (spLwidth:Den) (spLform:Den) (spLword:Den):WS:=
 (wSeq (wIfS (wAnd (wTru (wBin bIx (wVar 0) (wC (.str (Str.ofString "leaves"))))) (wAnd (q0y (wBin cEq (wBin bMod (wVar 2) (wC (.int 2))) (wC (.int 1)))) (q0y (wBin cLt (q0s spLwidth (q0d (wVar 1) wNil)) (wC (.int 13))))))
 (wRet (wTup (q0d (wC (.str (Str.ofString "leaf"))) (q0d (wBin bMod (wBin q4l (wVar 2) (wC (.int 2))) (wC (.int 10))) (q0d (q0s spLform (q0d (wVar 1) (q0d (wBin q4l (wVar 2) (wC (.int 20))) wNil))) wNil)))))
 q2a)
 (wSeq (wFor (wiAny (wBin bIx (wVar 0) (wC (.str (Str.ofString "names"))))) (q6l 2 (q2d (q1s 3) (q2d (q1s 4) q6m))) (wIfS (wAnd (q0y (wBin cEq (wVar 4) (wVar 1))) (q0y (wBin cGt (wBin bMod (wBin q4l (wVar 2) (wC (.int 2))) (wC (.int 4))) (wC (.int 0)))))
 (wRet (wTup (q0d (wC (.str (Str.ofString "name"))) (q0d (wVar 3) wNil))))
 q2a))
 (wSeq (wSet 5 (q0s spLword (q0d (wBin bIx (wVar 0) (wC (.str (Str.ofString "deck")))) (q0d (wComp (wiAny (wBin bIx (wVar 0) (wC (.str (Str.ofString "names"))))) [none,none] (q6l 2 (q2d (q1s 0) (q2d (q1s 1) q6m))) q6t (wVar 0)) wNil))))
 (wSeq (q4f (wBM "list" q1z (wBin bIx (wVar 0) (wC (.str (Str.ofString "names")))) (q0d (wTup (q0d (wVar 5) (q0d (wVar 1) wNil))) wNil)))
 (wRet (wTup (q0d (wC (.str (Str.ofString "name"))) (q0d (wVar 5) wNil))))))))
def q3w (spLnext:Den) (spLfn:Den) (spLof:Den) (spLlone:Den):WS:=
 (wSeq (wSet 5 (q0s spLnext (q0d (wVar 0) wNil)))
 (wSeq (wSet 6 (wComp (q5y (q0d (wCB fLen (q0d (wVar 3) wNil)) wNil)) [none,some 2,some 3] (q1s 0) (wAnd (q0y (wBin cEq (wBin bIx (wBin bIx (wVar 2) (wVar 0)) (wC (.int 0))) (wVar 1))) (q0y (wBin cGt (wBin bIx (wBin bIx (wVar 2) (wVar 0)) (wC (.int 1))) (wC (.int 0))))) (wVar 0)))
 (wSeq (wIfS (wAnd (q0y (wBin cNe (wVar 6) (wLst wNil))) (wOr (q0y (wBin cLt (wBin bMod (wVar 5) (wC (.int 8))) (wC (.int 4)))) (q0y (wBin cLt (wVar 4) (wC (.int 1))))))
 (wSeq (wSet 7 (wBin bIx (wVar 6) (wBin bMod (wBin q4l (wVar 5) (wC (.int 8))) (wCB fLen (q0d (wVar 6) wNil)))))
 (wSeq (wAsg (wBin bSub (wBin bIx (wBin bIx (wVar 3) (wVar 7)) (wC (.int 1))) (wC (.int 1))) (q8a (wBin bIx (wVar 3) (wVar 7)) (wC (.int 1)) sSet))
 (wRet (wTup (q0d (wC (.str (Str.ofString "bound"))) (q0d (wBin bSub (wBin bSub (wCB fLen (q0d (wVar 3) wNil)) (wC (.int 1))) (wVar 7)) wNil))))))
 q2a)
 (wSeq (wIfS (wAnd (q0y (wBin cGt (wVar 4) (wC (.int 0)))) (wAnd (wTru (wCB fIsi (q0d (wVar 2) (q0d (wC (.ty "tuple")) wNil)))) (q0y (wBin cGt (wBin bMod (wVar 5) (wC (.int 8))) (wC (.int 4))))))
 (wRet (q0s spLfn (q0d (wVar 0) (q0d (wVar 1) (q0d (wVar 2) (q0d (wVar 3) (q0d (wVar 4) wNil)))))))
 q2a)
 (wSeq (wIfS (wAnd (q0y (wBin cGt (wVar 4) (wC (.int 0)))) (q0y (wBin cGt (wBin bMod (wVar 5) (wC (.int 8))) (wC (.int 0)))))
 (wRet (q0s spLof (q0d (wVar 0) (q0d (wVar 1) (q0d (wVar 2) (q0d (wVar 3) (q0d (wVar 4) wNil)))))))
 q2a)
 (wRet (q0s spLlone (q0d (wVar 1) (q0d (wVar 2) (q0d (wBin q4l (wVar 5) (wC (.int 8))) wNil))))))))))
def q2t:WS:=
 (wSeq (wIfS (q0y (wBin cGe (wVar 1) (wCB fLen (q0d (wVar 0) wNil))))
 (wRet (wC .non))
 q2a)
 (wRet (wBin bIx (wVar 0) (wBin bSub (wBin bSub (wCB fLen (q0d (wVar 0) wNil)) (wC (.int 1))) (wVar 1)))))
def q1o:WS:=
 (wSeq (wSet 1 (wLst wNil))
 (wSeq (wSet 2 (wLst (q0d (wTup (q0d (wVar 0) (q0d (wTup wNil) wNil))) wNil)))
 (wSeq (wWhile (wTru (wVar 2)) (wSeq (wAsg (wBM0 "list" mPop (wVar 2)) (q6l 2 (q2d (q1s 3) (q2d (q1s 4) q6m))))
 (wSeq (wIfS (q0y (wBin cEq (wBin bIx (wVar 3) (wC (.int 0))) (wC (.str (Str.ofString "fn")))))
 (q4f (wBM "list" q1z (wVar 2) (q0d (wTup (q0d (wBin bIx (wVar 3) (wC (.int 2))) (q0d (wBin bAdd (wVar 4) (wTup (q0d (wCB fLen (q0d (wVar 1) wNil)) wNil))) wNil))) wNil)))
 (wIfS (q0y (wBin cEq (wBin bIx (wVar 3) (wC (.int 0))) (wC (.str (Str.ofString "of")))))
 (q4f (wBM "list" q9e (wVar 2) (q0d (wLst (q0d (wTup (q0d (wBin bIx (wVar 3) (wC (.int 2))) (q0d (wVar 4) wNil))) (q0d (wTup (q0d (wBin bIx (wVar 3) (wC (.int 1))) (q0d (wVar 4) wNil))) wNil))) wNil)))
 q2a))
 (q4f (wBM "list" q1z (wVar 1) (q0d (wTup (q0d (wVar 3) (q0d (wVar 4) wNil))) wNil))))))
 (wRet (wVar 1)))))
inductive Tm where
 | nm (w:Str) | lf (n:Int) (f:PV) | bd (k:Nat) | fn (k:PV) (t:Tm) | ap (f a:Tm)
def Tm.pv:Tm→PV
 | .nm w=>.tup [.str (Str.ofString "name"),.str w]
 | .lf n f=>.tup [.str (Str.ofString "leaf"),.int n,f]
 | .bd k=>.tup [.str (Str.ofString "bound"),.int k]
 | .fn k t=>.tup [.str (Str.ofString "fn"),k,t.pv]
 | .ap f a=>.tup [.str (Str.ofString "of"),f.pv,a.pv]
def Tm.sz:Tm→Nat
 | .fn _ t=>1+t.sz
 | .ap f a=>1+f.sz+a.sz
 | _=>1
def Tm.dp:Tm→Nat
 | .fn _ t=>t.dp+1
 | .ap f a=>max f.dp a.dp+1
 | _=>0
theorem tg1:(Str.ofString "name" = Str.ofString "fn")=False:=eq_false (by decide +kernel)
theorem tg2:(Str.ofString "name" = Str.ofString "of")=False:=eq_false (by decide +kernel)
theorem tg4:(Str.ofString "leaf" = Str.ofString "fn")=False:=eq_false (by decide +kernel)
theorem tg5:(Str.ofString "leaf" = Str.ofString "of")=False:=eq_false (by decide +kernel)
theorem tg7:(Str.ofString "bound" = Str.ofString "fn")=False:=eq_false (by decide +kernel)
theorem tg8:(Str.ofString "bound" = Str.ofString "of")=False:=eq_false (by decide +kernel)
theorem tg9:(Str.ofString "fn" = Str.ofString "of")=False:=eq_false (by decide +kernel)
theorem tga:(Str.ofString "fn" = Str.ofString "bound")=False:=eq_false (by decide +kernel)
theorem tgb:(Str.ofString "of" = Str.ofString "fn")=False:=eq_false (by decide +kernel)
theorem tgc:(Str.ofString "of" = Str.ofString "bound")=False:=eq_false (by decide +kernel)
theorem q4d (x y:PV) (xs:List PV):atI (x::y::xs) 1=some y:=q7k (x::y::xs) 1 (by simp)
theorem q6s (x y z:PV) (xs:List PV):atI (x::y::z::xs) 2=some z:=q7k (x::y::z::xs) 2 (by simp)
def encI (fs:List Nat):List PV:=fs.map fun x:Nat=>PV.int x
def enc (p:Tm×List Nat):PV:=.tup [p.1.pv,.tup (encI p.2)]
def q2x:Tm→List Nat→Nat→List (Tm×List Nat)
 | .fn k b,fs,i=>(.fn k b,fs)::q2x b (fs++[i]) (i+1)
 | .ap f a,fs,i=>(.ap f a,fs)::(q2x f fs (i+1)++q2x a fs (i+1+f.sz))
 | t,fs,_=>[(t,fs)]
def flat : List (Tm × List Nat) → Nat → List (Tm × List Nat)
 | [], _ => []
 | (t, fs) :: r, i => q2x t fs i ++ flat r (i + t.sz)
def szT : List (Tm × List Nat) → Nat
 | [] => 0
 | (t, _) :: r => t.sz + szT r
theorem sz_pos:∀t:Tm,1≤t.sz
 | .nm _=>Nat.le_refl _
 | .lf _ _=>Nat.le_refl _
 | .bd _=>Nat.le_refl _
 | .fn _ _=>by simp only [Tm.sz]; omega
 | .ap _ _=>by simp only [Tm.sz]; omega
theorem szT_len : ∀ st : List (Tm × List Nat), st.length ≤ szT st
 | [] => Nat.le_refl _
 | (t, _) :: r => by have := szT_len r; have := sz_pos t; simp only [List.length_cons, szT]; omega
theorem q8j:∀(t:Tm) (fs:List Nat) (i:Nat),(q2x t fs i).length=t.sz
 | .nm _,_,_=>rfl
 | .lf _ _,_,_=>rfl
 | .bd _,_,_=>rfl
 | .fn _ b,fs,i=>by simp only [q2x,List.length_cons,q8j b,Tm.sz]; omega
 | .ap f a,fs,i=>by simp only [q2x,List.length_cons,List.length_append,q8j f,q8j a,Tm.sz]; omega
def PartsD (sp:Den):Prop:=∀(t:Tm) (S:q0h) (E:EK) (Q:VC),t.sz≤1000→(∀(r:Nat) S',S'[r]?=some (.lst ((q2x t [] 0).map enc))→S.length≤r→Ex [] S S'→Q (.ref r) S')→sp [t.pv] S E Q
theorem tm3:∀x:Tm,(∃z rs,x.pv=.tup (.str z::rs)∧(z=Str.ofString "fn")=False∧(z=Str.ofString "of")=False∧x.sz=1∧∀fs i,q2x x fs i=[(x,fs)])∨(∃k b,x=.fn k b)∨∃f a,x=.ap f a
 | .nm _=>.inl ⟨_,_,rfl,tg1,tg2,rfl,fun _ _=>rfl⟩
 | .lf _ _=>.inl ⟨_,_,rfl,tg4,tg5,rfl,fun _ _=>rfl⟩
 | .bd _=>.inl ⟨_,_,rfl,tg7,tg8,rfl,fun _ _=>rfl⟩
 | .fn k b=>.inr (.inl ⟨k,b,rfl⟩)
 | .ap f a=>.inr (.inr ⟨f,a,rfl⟩)
theorem parts_ok:PartsD (fnP 1 5 q1o):=by
 intro t S E Q hz h
 refine ⟨rfl,?_⟩
 unfold q1o
 refine seqI fun K hK=>?_
 dsimp! [true_and]
 refine ⟨big (by decide),hK _ _ ?_⟩
 refine seqI fun K hK=>?_
 dsimp! [true_and]
 refine ⟨big (by decide),big (by decide),big (by decide),hK _ _ ?_⟩
 refine seqI fun K hK=>?_
 have hl1:(S++[SO.lst []]).length=S.length+1:=by simp
 refine whileI (fun m σ S1=>∃(st dn:List (Tm×List Nat)) (j1 j2:Option PV),σ=[some t.pv,some (.ref S.length),some (.ref (S.length+1)),j1,j2]∧S1[S.length]?=some (.lst (dn.map enc))∧S1[S.length+1]?=some (.lst (st.reverse.map enc))∧Ex [] S S1∧
  dn++flat st dn.length=q2x t [] 0∧dn.length+szT st=t.sz∧(∀p∈st,p.2.length≤dn.length)∧m=szT st) (szT [(t,[])]) ?_ ?_
 ·exact ⟨[(t,[])],[],none,none,by rw [hl1],q3e (q1v _ _) _,by rw [←hl1]; exact q1v _ _,(Ex.new _ _ _).app _,by simp [flat],by simp [szT],by simp,rfl⟩
 ·rintro m σ S1 ⟨st,dn,j1,j2,rfl,h1,h2,hx,hf,hb,hfl,rfl⟩ T F hT hF
  have hlen:=szT_len st
  dsimp! [h2]
  refine ite2 (fun c=>?_) (fun c=>?_)
  ·obtain ⟨⟨x,fs⟩,r,rfl⟩:∃x r,st=x::r:=by
    cases st with
    | nil=>simp at c
    | cons a b=>exact ⟨a,b,rfl⟩
   refine hT _ fun N hN=>?_
   refine seqI fun K2 hK2=>?_
   have hfs:fs.length≤dn.length:=hfl (x,fs) (by simp)
   dsimp! [h2,q2y h2,List.reverse_cons,List.map_append,List.getLast?_append,List.getLast?_singleton,Option.or,Option.some_or,List.dropLast_concat,enc]
   refine hK2 _ _ ?_
   have g2:=q2q (.lst (r.reverse.map enc)) h2
   have g1:=q4h (j:=S.length+1) (.lst (r.reverse.map enc)) h1 (by omega)
   have hx1:Ex [] S (S1.set (S.length+1) (.lst (r.reverse.map enc))):=hx.set (.inr (by omega))
   generalize S1.set (S.length+1) (.lst (r.reverse.map enc))=S2 at g1 g2 hx1 ⊢
   simp only [szT,List.length_cons] at hb hlen
   have fin:∀(S3:q0h) (st':List (Tm×List Nat)),S3[S.length]?=some (.lst (dn.map enc))→S3[S.length+1]?=some (.lst (st'.reverse.map enc))→Ex [] S S3→q2x x fs dn.length++flat r (dn.length+x.sz)=(x,fs)::flat st' (dn.length+1)→szT st'+1=x.sz+szT r→(∀p∈st',p.2.length≤dn.length+1)→
     q4f (wBM "list" q1z (wVar 1) (q0d (wTup (q0d (wVar 3) (q0d (wVar 4) wNil))) wNil)) { nx:=N,rt:=Q,ct:=N,bk:=K } E [some t.pv,some (.ref S.length),some (.ref (S.length+1)),some x.pv,some (.tup (encI fs))] S3:=by
    intro S3 st' e1 e2 ex e3 e4 e5
    dsimp! [e1,q2y e1]
    refine ⟨big (by decide),by rw [List.length_map]; exact bigl (by omega),hN (szT st') _ _ (by simp only [szT]; omega) ?_⟩
    refine ⟨st',dn++[(x,fs)],_,_,rfl,?_,q4h _ e2 (by omega),ex.set (.inr (Nat.le_refl _)),?_,?_,?_,rfl⟩
    ·rw [q2q _ e1]; simp [enc]
    ·rw [←hf]; simp only [flat,List.length_append,List.length_singleton,List.append_assoc,e3,List.singleton_append]
    ·simp only [List.length_append,List.length_singleton]; omega
    ·intro p hp; simp only [List.length_append,List.length_singleton]; exact e5 p hp
   have keep:∀p∈r,p.2.length≤dn.length+1:=fun p hp=>Nat.le_succ_of_le (hfl p (by simp [hp]))
   refine seqI fun K3 hK3=>?_
   rcases tm3 x with ⟨z,rs,ex,z1,z2,hs,hro⟩ | ⟨k,b,rfl⟩ | ⟨f,a,rfl⟩
   ·have f2:=fin _ r g1 g2 hx1 (by rw [hro,hs]; simp) (by omega) keep
    rw [ex] at f2 ⊢
    dsimp! [q0p,z1,z2]
    exact hK3 _ _ f2
   ·simp only [Tm.sz] at hb hlen
    dsimp! [Tm.pv,q0p,q6s,g1,g2,q1a g1,q2y g2]
    refine ⟨big (by decide),by rw [encI,List.length_map]; exact big (by simp; omega),big (by decide),by rw [List.length_map,List.length_reverse]; exact bigl (by omega),hK3 _ _ ?_⟩
    refine fin _ ((b,fs++[dn.length])::r) (q4h _ g1 (by omega)) ?_ (hx1.set (.inr (by omega))) ?_ ?_ ?_
    ·rw [q2q _ g2]; simp [enc,encI]
    ·simp only [q2x,flat,Tm.sz,List.cons_append]
     rw [show dn.length+(1+b.sz)=dn.length+1+b.sz by omega]
    ·simp only [szT,Tm.sz]; omega
    ·intro p hp
     rcases List.mem_cons.mp hp with rfl | z
     ·simp; exact hfs
     ·exact keep p z
   ·simp only [Tm.sz] at hb hlen
    dsimp! [Tm.pv,q0p,q4d,q6s,g1,g2,tgb]
    have g3:=q3e g2 [SO.lst [PV.tup [a.pv,PV.tup (encI fs)],PV.tup [f.pv,PV.tup (encI fs)]]]
    refine ⟨big (by decide),big (by decide),big (by decide),?_⟩
    dsimp! [q2y g3]
    refine ⟨by rw [List.length_map,List.length_reverse]; exact big (by omega),hK3 _ _ ?_⟩
    refine fin _ ((f,fs)::(a,fs)::r) (q4h _ (q3e g1 _) (by omega)) ?_ ((hx1.app _).set (.inr (by omega))) ?_ ?_ ?_
    ·rw [q2q _ g3]; simp [enc]
    ·simp only [q2x,flat,Tm.sz,List.cons_append,List.append_assoc]
     rw [show dn.length+(1+f.sz+a.sz)=dn.length+1+f.sz+a.sz by omega]
    ·simp only [szT,Tm.sz]; omega
    ·intro p hp
     rcases List.mem_cons.mp hp with rfl | z
     ·exact Nat.le_succ_of_le hfs
     ·rcases List.mem_cons.mp z with rfl | z
      ·exact Nat.le_succ_of_le hfs
      ·exact keep p z
  ·obtain rfl:st=[]:=by
    cases st with
    | nil=>rfl
    | cons a b=>simp at c
   refine hF _ (hK _ _ ?_)
   dsimp! [true_and]
   refine h _ _ ?_ (Nat.le_refl _) hx
   rw [h1,←hf]; simp [flat]
def own (fs:List Nat) (k:Nat):Option Nat:=if k<fs.length then fs[fs.length - 1 - k]? else none
def encO:Option Nat→PV
 | none=>.non
 | some x=>.int (x:Nat)
theorem atI_back (xs:List PV) (j k:Nat) (h:k<xs.length) (e:(xs.length:Int) - 1 - k=j):atI xs (xs.length - 1 - k:Int)=xs[xs.length - 1 - k]?:=by
 have:((xs.length:Int) - 1 - k)=((xs.length - 1 - k:Nat):Int):=by omega
 rw [this,q7k xs _ (by omega)]
 simp
theorem owner_ok {fs:List Nat} {k:Nat} {S:q0h} {E:EK} {Q:VC} (h:Q (encO (own fs k)) S):fnP 2 2 q2t [.tup (encI fs),.int k] S E Q:=by
 refine ⟨rfl,?_⟩
 unfold q2t
 have hl:(encI fs).length=fs.length:=by simp [encI]
 refine seqI fun K hK=>?_
 dsimp! [hl]
 by_cases c:k<fs.length
 ·rw [if_neg (by omega)]
  refine hK _ _ ?_
  dsimp! [hl]
  have e:=atI_back (encI fs) (fs.length - 1 - k) k (by omega) (by omega)
  rw [hl] at e
  rw [e]
  have e2:(encI fs)[fs.length - 1 - k]?=some (.int ((fs[fs.length - 1 - k]'(by omega):Nat):Int)):=by
   unfold encI; rw [List.getElem?_map,List.getElem?_eq_getElem (by omega)]; rfl
  rw [e2]
  unfold own at h
  rw [if_pos c,List.getElem?_eq_getElem (by omega)] at h
  exact h
 ·rw [if_pos (by omega)]
  unfold own at h
  rw [if_neg c] at h
  exact h
def OwnerD (sp:Den):Prop:=∀(fs:List Nat) (k:Nat) (S:q0h) (E:EK) (Q:VC),Q (encO (own fs k)) S→sp [.tup (encI fs),.int k] S E Q
theorem atI_neg (xs:List PV) (k:Nat) (h:k<xs.length):atI xs (-1 - (k:Int))=xs[xs.length - 1 - k]?:=by
 unfold atI ixN
 rw [if_neg (by omega),if_pos (by omega)]
 rw [Option.bind_some]
 congr 1
 omega
theorem ixN_nat (n j:Nat) (h:j<n):ixN n (j:Int)=some j:=by
 unfold ixN
 rw [if_pos (by omega),if_pos (by omega)]
 simp
theorem spl_ne2 {n m:Int} (h:spl n 8=spl m 8) (h1:0<n - m) (h2:n - m≤640):False:=by
 simp only [spl,List.cons.injEq] at h
 obtain ⟨a,b,-⟩:=h
 have a':n % 26=m % 26:=by have:=Int.emod_nonneg n (show (26:Int)≠0 by decide); have:=Int.emod_nonneg m (show (26:Int)≠0 by decide); omega
 have b':n / 26 % 26=m / 26 % 26:=by have:=Int.emod_nonneg (n / 26) (show (26:Int)≠0 by decide); have:=Int.emod_nonneg (m / 26) (show (26:Int)≠0 by decide); omega
 clear a b
 omega
theorem row_free2 (n:Int) (F:List Str) (hF:F.length≤80):∃j:Nat,j≤80∧mk (spl (n+8*j) 8)∉F:=by
 refine Classical.byContradiction fun hc=>?_
 have hall:∀j:Nat,j≤80→mk (spl (n+8*j) 8)∈F:=fun j hj=>Classical.byContradiction fun hz=>hc ⟨j,hj,hz⟩
 have nd:((List.range 81).map fun j:Nat=>mk (spl (n+8*j) 8)).Nodup:=by
  refine List.pairwise_map.mpr (List.Pairwise.imp_of_mem ?_ (List.nodup_range (n:=81)))
  intro a b ha hb hab e
  have e:=mk_inj e
  rw [List.mem_range] at ha hb
  refine hab ?_
  rcases Nat.lt_trichotomy a b with z | z | z
  ·exact (spl_ne2 e.symm (by omega) (by omega)).elim
  ·exact z
  ·exact (spl_ne2 e (by omega) (by omega)).elim
 have:=nodup_le nd (F:=F) fun x hx=>by
  obtain ⟨j,hj,rfl⟩:=List.mem_map.mp hx
  rw [List.mem_range] at hj
  exact hall j (by omega)
 rw [List.length_map,List.length_range] at this
 omega
theorem good_some2 (ws:List Str) (num:Int) (k:Nat) (h:ws.length≤79):∃i:Nat,GoodAt ws num k (i+1):=by
 have h1:∃r:Nat,r<8∧szn k (r+1)=8:=⟨(15 - (k - 1) % 8 - 1) % 8,by omega,by unfold szn; omega⟩
 obtain ⟨r,hr,hs⟩:=h1
 obtain ⟨j,hj,hf⟩:=row_free2 (num+((r+1:Nat):Int)) (sAny::ws) (by simp; omega)
 refine ⟨r+8*j,?_⟩
 have e1:szn k (r+8*j+1)=8:=by unfold szn at hs ⊢; omega
 have e2:num+((r+8*j+1:Nat):Int)=num+((r+1:Nat):Int)+8*j:=by omega
 unfold GoodAt Bad
 rw [e1,e2]
 rintro (z | z)
 ·exact hf (List.mem_cons_of_mem _ z)
 ·exact hf (by rw [z]; exact List.mem_cons_self)
def WordD2 (sp:Den):Prop:=∀(d c n:Nat) (ws:List Str) (S:q0h) (E:EK) (Q:VC),Deck d c S→S[n]?=some (.lst (ws.map PV.str))→ws.length≤79→(∀w∈ws,q6h w=true)→n≠d→n≠c→
 (∀w S',q6h w=true→w∉ws→w≠sAny→Deck d c S'→Ex [d,c] S S'→Q (.str w) S')→sp [.ref d,.ref n] S E Q
theorem word_ok2 {spn sps:Den} (hn:NextD spn) (hs:SpelledD sps):WordD2 (fnP 2 7 (q7t spn sps)):=by
 intro d c n ws S E Q hd hw hl hna nd nc h
 refine ⟨rfl,?_⟩
 unfold q7t
 refine seqI fun K hK=>?_
 dsimp! [true_and]
 refine hn d c _ _ _ hd fun way S1 w0 w1 hd1 hx1=>hK _ _ ?_
 refine seqI fun K hK=>?_
 dsimp! [true_and]
 refine hn d c _ _ _ hd1 fun num S2 n0 n1 hd2 hx2=>hK _ _ ?_
 have hx12:=hx1.trans hx2
 have hw2:S2[n]?=some (.lst (ws.map PV.str)):=hx12.get hw (by simp; exact ⟨nd,nc⟩)
 obtain ⟨k,hk,hk1,hk8⟩:∃k:Nat,1+way % 8=(k:Int)∧1≤k∧k≤8:=⟨(1+way % 8).toNat,by omega,by omega,by omega⟩
 refine seqI fun K hK=>?_
 dsimp! [true_and]
 refine ⟨by decide,hK _ _ ?_⟩
 rw [hk]
 refine seqI fun K hK=>?_
 dsimp! [true_and]
 refine hs num k _ _ _ hk8 (hK _ _ ?_)
 have spn1:q6h (mk (spl num k))=true:=nameB_mk (by rw [q6n]; exact hk1) (by rw [q6n]; exact hk8) (spl_isL _ _)
 have rest:∀(w:Str) (S':q0h) (j:Option PV),q6h w=true→Ex [] S2 S'→wSeq (wWhile (wOr (q0y (wBin cIn (wVar 5) (wVar 1))) (q0y (wBin cEq (wVar 5) (wC (.str (Str.ofString "any")))))) (wSeq (wSet 3 (wBin bAdd (wVar 3) (wC (.int 1))))
   (wSeq (wSet 4 (wBin bAdd (wBin bMod (wVar 4) (wC (.int 8))) (wC (.int 1))))
   (wSet 5 (q0s sps (q0d (wVar 3) (q0d (wVar 4) wNil)))))))
   (wRet (wVar 5)) { nx:=fun _ S'=>Q .non S',rt:=Q } E [some (.ref d),some (.ref n),some (.int way),some (.int num),some (.int (k:Nat)),some (.str w),j] S':=by
  intro w S' j hwn hx'
  refine seqI fun K hK=>?_
  obtain ⟨i0,hi0⟩:=good_some2 ws num k hl
  refine whileI (fun m σ S3=>∃(nu:Int) (kk:Nat) (ww:Str),σ=[some (.ref d),some (.ref n),some (.int way),some (.int nu),some (.int (kk:Nat)),some (.str ww),j]∧S3=S'∧1≤kk∧kk≤8∧q6h ww=true∧((m=0∧¬Bad ws ww)∨∃i,m=i+1∧GoodAt ws nu kk (i+1))) (i0+1) ⟨num,k,w,rfl,rfl,hk1,hk8,hwn,.inr ⟨i0,rfl,hi0⟩⟩ ?_
  rintro m σ S3 ⟨nu,kk,ww,rfl,rfl,k1,k8,nw,hm⟩ T F hT hF
  have hw3:=hx'.get hw2 (by simp)
  dsimp! [q1a hw3,any_eq]
  refine ⟨okEqs_strs ws,?_⟩
  have bad:Bad ws ww→T [some (.ref d),some (.ref n),some (.int way),some (.int nu),some (.int (kk:Nat)),some (.str ww),j] S3:=fun hb=>by
   obtain ⟨i,rfl,hg⟩:∃i,m=i+1∧GoodAt ws nu kk (i+1):=by
    rcases hm with ⟨_,z⟩ | z
    ·exact absurd hb z
    ·exact z
   refine hT _ fun N hN=>?_
   refine seqI fun K2 hK2=>?_
   dsimp! [true_and]
   refine hK2 _ _ ?_
   refine seqI fun K2 hK2=>?_
   dsimp! [true_and]
   refine ⟨by decide,hK2 _ _ ?_⟩
   have ek:((kk:Nat):Int) % 8+1=((szn kk 1:Nat):Int):=by unfold szn; omega
   have hz1:1≤szn kk 1:=by unfold szn; omega
   have hz8:szn kk 1≤8:=by unfold szn; omega
   rw [ek]
   dsimp! [true_and]
   refine hs (nu+1) (szn kk 1) _ _ _ hz8 ?_
   refine hN i _ _ (by omega) ⟨nu+1,szn kk 1,mk (spl (nu+1) (szn kk 1)),rfl,rfl,hz1,hz8,nameB_mk (by rw [q6n]; exact hz1) (by rw [q6n]; exact hz8) (spl_isL _ _),?_⟩
   cases i with
   | zero=>exact .inl ⟨rfl,hg⟩
   | succ i=>
    refine .inr ⟨i,rfl,?_⟩
    unfold GoodAt at hg ⊢
    rw [szn_step,show nu+1+((i+1:Nat):Int)=nu+((i+1+1:Nat):Int) by omega]
    exact hg
  refine ite2 (fun z=>bad (.inl z)) (fun z=>ite2 (fun z2=>bad (.inr z2)) (fun z2=>?_))
  refine hF _ (hK _ _ ?_)
  dsimp! [true_and]
  have hx3:Ex [d,c] S S3:=hx12.trans hx'.nil
  exact h ww S3 nw z z2 (hd2.ex hx' (by simp) (by simp)) hx3
 refine seqI fun K hK=>?_
 have g1:=q3e hw2 [SO.lst []]
 have hx3:Ex [] S2 (S2++[SO.lst []]):=Ex.new _ _ _
 dsimp! [q1a g1,eqBs_nil]
 refine ⟨big (by decide),okEqs_strs ws,ite2 (fun z=>?_) (fun z=>hK _ _ (rest _ _ _ spn1 hx3))⟩
 refine ⟨by decide,by decide,ite2 (fun z2=>?_) (fun z2=>hK _ _ (rest _ _ _ spn1 hx3))⟩
 obtain ⟨v,vs,rfl⟩:∃v vs,ws=v::vs:=by
  cases ws with
  | nil=>simp at z
  | cons a b=>exact ⟨a,b,rfl⟩
 have hv:=nameB_len (hna v (by simp))
 simp only [List.map_cons] at g1
 refine seqI fun K2 hK2=>?_
 dsimp! [g1,q0p]
 refine ⟨⟨by decide,by decide⟩,big (by omega),by omega,hK2 _ _ ?_⟩
 obtain ⟨at',hat,hat1⟩:∃a:Nat,way / 16 % (v.length:Int)=(a:Int)∧a<v.length:=⟨(way / 16 % (v.length:Int)).toNat,by have:=Int.emod_nonneg (way / 16) (show (v.length:Int)≠0 by omega); omega,by have:=Int.emod_lt_of_pos (way / 16) (show (0:Int)<v.length by omega); have:=Int.emod_nonneg (way / 16) (show (v.length:Int)≠0 by omega); omega⟩
 rw [hat]
 obtain ⟨c0,cs,hc0⟩:∃c0 cs,spl num k=c0::cs:=by
  obtain ⟨k',rfl⟩:∃k',k=k'+1:=⟨k - 1,by omega⟩
  exact ⟨_,_,rfl⟩
 have hc0':atI (mk (spl num k)).cps.toList 0=some c0:=by
  rw [q5r,hc0]
  unfold atI
  rw [List.length_cons,q8l]
  rfl
 have hcl:isL c0=true:=by
  have:=spl_isL k num
  rw [hc0,List.all_cons,Bool.and_eq_true] at this
  exact this.1
 dsimp! [g1,q0p,hc0']
 rw [show ((at':Nat):Int)+1=((at'+1:Nat):Int) by omega,sl_take v at' (by omega),sl_drop v (at'+1) (by omega),chr_mk]
 have hvl:=len_list v
 refine ⟨big (by omega),big (by rw [q7v,q6n]; omega),big (by rw [q7v,q7v]; simp; omega),big (by omega),?_⟩
 rw [mk_app,mk_app,q7v,q7v]
 refine ⟨big (by simp only [List.length_append,List.length_take,List.length_drop,List.length_singleton]; omega),hK _ _ (rest _ _ _ ?_ hx3)⟩
 refine nameB_mk ?_ ?_ ?_
 ·simp only [List.length_append,List.length_take,List.length_drop,List.length_singleton]; omega
 ·simp only [List.length_append,List.length_take,List.length_drop,List.length_singleton]; omega
 ·simp only [List.all_append,all_take _ hv.2.2,all_drop _ hv.2.2,List.all_cons,List.all_nil,hcl,Bool.and_self]
theorem word_of2 {sp:Den} (h:WordD2 sp):WordD sp:=fun d c n ws S E Q h1 h2 h3=>h d c n ws S E Q h1 h2 (Nat.le_trans h3 (by decide))
mutual
def q3d:PV→Bool
 | .str _=>true
 | .int _=>true
 | .tup xs=>q6q xs && decide (xs.length≤10)
 | _=>false
def q6q:List PV→Bool
 | []=>true
 | x::xs=>q3d x && q6q xs
end
theorem q6g:∀k:Kd,q3d k.pv=true
 | .a s=>by simp only [Kd.pv,q3d]
 | .p f t=>by simp only [Kd.pv,q3d,q6q,List.length_cons,List.length_nil,Nat.reduceAdd,Nat.reduceLeDiff,decide_true,Bool.and_true,q6g f,q6g t,Bool.and_self]
def Tm.gd:Tm→Nat→Prop
 | .nm _,_=>True
 | .lf _ f,_=>q3d f=true∧dep f≤30
 | .bd k,n=>k<n
 | .fn k t,n=>(q3d k=true∧dep k≤30)∧t.gd (n+1)
 | .ap f a,n=>f.gd n∧a.gd n
theorem atI_modS {ws:List Str} {i:Int} (h:ws≠[]):∃y,atI (ws.map PV.str) (i % (ws.length:Int))=some (.str y):=by
 have hp:0<ws.length:=List.length_pos_iff.mpr h
 have h0:0≤i % (ws.length:Int):=Int.emod_nonneg _ (by omega)
 have h1:i % (ws.length:Int)<ws.length:=Int.emod_lt_of_pos _ (by omega)
 unfold atI ixN
 rw [List.length_map,if_pos h0,if_pos h1]
 have:(i % (ws.length:Int)).toNat<ws.length:=by omega
 exact ⟨ws[(i % (ws.length:Int)).toNat],by simp [this]⟩
theorem kind_ok {T N:Nat→Den} (hT:∀n,T (n+1)=fnP 3 4 (q3j (N n) (T n))) (hN:∀n,NextD (N (n+1))):∀(deep n:Nat),deep+2≤n→∀(d c b:Nat) (ws:List Str) (S:q0h) (E:EK) (Q:VC),Deck d c S→S[b]?=some (.lst (ws.map PV.str))→ws≠[]→b≠d→b≠c→
  (∀(k:Kd) S',k.dp≤deep→Deck d c S'→Ex [d,c] S S'→Q k.pv S')→T n [.ref d,.ref b,.int deep] S E Q:=by
 intro deep
 induction deep with
 | zero=>
  intro n hn d c b ws S E Q hd hb hw n1 n2 h
  obtain ⟨m,rfl⟩:∃m,n=m+1+1:=⟨n - 2,by omega⟩
  rw [hT]
  refine ⟨rfl,?_⟩
  unfold q3j
  refine seqI fun K hK=>?_
  dsimp! [true_and]
  refine hN m d c _ _ _ hd fun way S1 w0 w1 hd1 hx1=>hK _ _ ?_
  have hb1:=hx1.get hb (by simp; exact ⟨n1,n2⟩)
  refine seqI fun K hK=>?_
  obtain ⟨y,hy⟩:=atI_modS (i:=way / 3) hw
  dsimp! [q1a hb1,hb1,List.length_map,Int.ofNat_eq_natCast,Int.natCast_zero]
  rw [hy]
  have:0<ws.length:=List.length_pos_iff.mpr hw
  refine ⟨by decide,by omega,h (.a y) _ (Nat.le_refl _) hd1 hx1⟩
 | succ deep ih=>
  intro n hn d c b ws S E Q hd hb hw n1 n2 h
  obtain ⟨m,rfl⟩:∃m,n=m+1+1:=⟨n - 2,by omega⟩
  rw [hT]
  refine ⟨rfl,?_⟩
  unfold q3j
  refine seqI fun K hK=>?_
  dsimp! [true_and]
  refine hN m d c _ _ _ hd fun way S1 w0 w1 hd1 hx1=>hK _ _ ?_
  have hb1:=hx1.get hb (by simp; exact ⟨n1,n2⟩)
  have:0<ws.length:=List.length_pos_iff.mpr hw
  refine seqI fun K hK=>?_
  obtain ⟨y,hy⟩:=atI_modS (i:=way / 3) hw
  have e0:(((deep+1:Nat):Int)=0)=False:=eq_false (by omega)
  dsimp! [q1a hb1,hb1,List.length_map,e0]
  rw [hy]
  refine ⟨by decide,ite2 (fun z=>⟨by decide,by omega,h (.a y) _ (Nat.zero_le _) hd1 hx1⟩) (fun z=>hK _ _ ?_)⟩
  dsimp! [true_and]
  rw [show ((deep+1:Nat):Int) - 1=(deep:Int) by omega]
  refine ih (m+1) (by omega) d c b ws _ _ _ hd1 hb1 hw n1 n2 fun k1 S2 l1 hd2 hx2=>?_
  have hb2:=hx2.get hb1 (by simp; exact ⟨n1,n2⟩)
  refine ih (m+1) (by omega) d c b ws _ _ _ hd2 hb2 hw n1 n2 fun k2 S3 l2 hd3 hx3=>?_
  exact ⟨big (by decide),h (.p k1 k2) S3 (by simp only [Kd.dp]; omega) hd3 ((hx1.trans hx2).trans hx3)⟩
theorem width_ok {T:Nat→Den} (hT:∀n,T (n+1)=fnP 1 1 (q3b (T n))):∀(k:Kd) (n:Nat),k.dp<n→∀(S:q0h) (E:EK) (Q:VC),Q (.int k.lv) S→T n [k.pv] S E Q:=by
 intro k
 induction k with
 | a s=>
  intro n hn S E Q h
  obtain ⟨m,rfl⟩:∃m,n=m+1:=⟨n - 1,by omega⟩
  rw [hT]
  refine ⟨rfl,?_⟩
  unfold q3b
  refine seqI fun K hK=>?_
  dsimp! [Kd.pv]
  exact h
 | p f t ihf iht=>
  intro n hn S E Q h
  simp only [Kd.dp] at hn
  obtain ⟨m,rfl⟩:∃m,n=m+1:=⟨n - 1,by omega⟩
  rw [hT]
  refine ⟨rfl,?_⟩
  unfold q3b
  refine seqI fun K hK=>?_
  dsimp! [Kd.pv]
  refine hK _ _ ?_
  dsimp! [q0p,q4d]
  refine ihf m (by omega) _ _ _ ?_
  refine iht m (by omega) _ _ _ ?_
  dsimp! [true_and]
  rw [show (f.lv:Int)+t.lv=((Kd.p f t).lv:Nat) by simp only [Kd.lv]; omega]
  exact h
def q7s (b m d:Nat) (u:Int):List (Key×PV):=[(.inr (Str.ofString "basics"),.ref b),(.inr (Str.ofString "names"),.ref m),(.inr (Str.ofString "deck"),.ref d),(.inr (Str.ofString "uses"),.int u),(.inr (Str.ofString "leaves"),.bl true)]
theorem q5x (b m d:Nat) (u:Int):valP (q7s b m d u) (.inr (Str.ofString "basics"))=some (.ref b):=rfl
theorem q5i (b m d:Nat) (u:Int):valP (q7s b m d u) (.inr (Str.ofString "names"))=some (.ref m):=rfl
theorem wk_deck (b m d:Nat) (u:Int):valP (q7s b m d u) (.inr (Str.ofString "deck"))=some (.ref d):=rfl
theorem wk_uses (b m d:Nat) (u:Int):valP (q7s b m d u) (.inr (Str.ofString "uses"))=some (.int u):=rfl
theorem wk_leaves (b m d:Nat) (u:Int):valP (q7s b m d u) (.inr (Str.ofString "leaves"))=some (.bl true):=rfl
def encN (p:Str×Kd):PV:=.tup [.str p.1,p.2.pv]
structure Wd (w b m d c N:Nat) (S:q0h):Prop where
 dk:Deck d c S
 wd:∃u,S[w]?=some (.dK (q7s b m d u))
 bs:∃ws:List Str,S[b]?=some (.lst (ws.map PV.str))∧ws≠[]
 nm:∃ps:List (Str×Kd),S[m]?=some (.lst (ps.map encN))∧ps.length≤N∧∀p∈ps,q6h p.1=true∧p.2.dp≤20
 ne:(w≠d∧w≠c)∧(b≠d∧b≠c)∧(m≠d∧m≠c)∧w≠m∧b≠m
theorem Wd.ex {w b m d c N:Nat} {S S':q0h} (h:Wd w b m d c N S) {D:List Nat} (e:Ex D S S') (hw:w∉D) (hb:b∉D) (hm:m∉D) (hd:d∉D) (hc:c∉D):Wd w b m d c N S':=by
 obtain ⟨dk,⟨u,wd⟩,⟨ws,b1,b2⟩,⟨ps,p1,p2⟩,ne⟩:=h
 exact ⟨dk.ex e hd hc,⟨u,e.get wd hw⟩,⟨ws,e.get b1 hb,b2⟩,⟨ps,e.get p1 hm,p2⟩,ne⟩
theorem Wd.nx {w b m d c N:Nat} {S S':q0h} (h:Wd w b m d c N S) (hd:Deck d c S') (e:Ex [d,c] S S'):Wd w b m d c N S':=by
 obtain ⟨dk,⟨u,wd⟩,⟨ws,b1,b2⟩,⟨ps,p1,p2⟩,ne⟩:=h
 exact ⟨hd,⟨u,e.get wd (by simp; exact ne.1)⟩,⟨ws,e.get b1 (by simp; exact ne.2.1),b2⟩,⟨ps,e.get p1 (by simp; exact ne.2.2.1),p2⟩,ne⟩
structure Ar (w b m d c a:Nat) (rs:List Nat) (S:q0h):Prop where
 at':S[a]?=some (.lst (rs.map PV.ref))
 rw':∀r∈rs,∃(k:Kd) (u:Int),S[r]?=some (.lst [k.pv,.int u])∧k.dp≤20
 ne:∀r∈a::rs,r≠w∧r≠b∧r≠m∧r≠d∧r≠c
 na:a∉rs
theorem Ar.ex {w b m d c a:Nat} {rs:List Nat} {S S':q0h} (h:Ar w b m d c a rs S) (e:Ex [m,d,c] S S'):Ar w b m d c a rs S':=by
 have g:∀r∈a::rs,r∉[m,d,c]:=fun r hr=>by have:=h.ne r hr; simp; exact ⟨this.2.2.1,this.2.2.2.1,this.2.2.2.2⟩
 exact ⟨e.get h.at' (g a (by simp)),fun r hr=>by obtain ⟨k,u,h1,h2⟩:=h.rw' r hr; exact ⟨k,u,e.get h1 (g r (by simp [hr])),h2⟩,h.ne,h.na⟩
theorem Ar.nx {w b m d c a:Nat} {rs:List Nat} {S S':q0h} (h:Ar w b m d c a rs S) (e:Ex [d,c] S S'):Ar w b m d c a rs S':=h.ex (e.weak (by simp))
def KindP (sp:Den):Prop:=∀(d c b:Nat) (ws:List Str) (S:q0h) (E:EK) (Q:VC),Deck d c S→S[b]?=some (.lst (ws.map PV.str))→ws≠[]→b≠d→b≠c→(∀(k:Kd) S',k.dp≤2→Deck d c S'→Ex [d,c] S S'→Q k.pv S')→sp [.ref d,.ref b,.int 2] S E Q
theorem okEqs_encI:∀l:List Nat,q6r (encI l)
 | []=>by rw [encI,List.map_nil,q8z]; trivial
 | x::r=>by
  obtain ⟨h1,h2⟩:=okEqs_encI r
  simp only [encI] at h1 h2
  exact ⟨by simp only [encI,List.map_cons,nrfs,nrf,h1,Bool.and_self],by simp only [encI,List.map_cons,deps,dep]; omega⟩
theorem eqBs_encI (l:List Nat):eqBs (encI l) []=l.isEmpty:=by cases l<;>simp [eqBs,encI]
theorem atI_modN {is:List Nat} {i:Int} (h:is≠[]):∃y,y∈is∧atI (encI is) (i % (is.length:Int))=some (.int (y:Nat)):=by
 have hp:0<is.length:=List.length_pos_iff.mpr h
 have h0:0≤i % (is.length:Int):=Int.emod_nonneg _ (by omega)
 have h1:i % (is.length:Int)<is.length:=Int.emod_lt_of_pos _ (by omega)
 unfold atI ixN encI
 rw [List.length_map,if_pos h0,if_pos h1]
 have:(i % (is.length:Int)).toNat<is.length:=by omega
 exact ⟨is[(i % (is.length:Int)).toNat],List.getElem_mem _,by simp [this]⟩
theorem rng_mem {n:Nat} {x:PV} (h:x∈rngP 0 n):∃j:Nat,j<n∧x=.int j:=by
 unfold rngP at h
 obtain ⟨j,hj,rfl⟩:=List.mem_map.mp h
 exact ⟨j,List.mem_range.mp hj,by simp⟩
def q3m (spLwords:Den):WS:=
 (wSeq (wSet 3 (q0s spLwords (q0d (wVar 0) (q0d (wC (.int 3)) wNil))))
 (wRet (wDisp (q4t (wC (.str (Str.ofString "basics"))) (wVar 3) (q4t (wC (.str (Str.ofString "names"))) (wLst wNil) (q4t (wC (.str (Str.ofString "deck"))) (wVar 0) (q4t (wC (.str (Str.ofString "uses"))) (wVar 1) (q4t (wC (.str (Str.ofString "leaves"))) (wVar 2) wdNil))))))))
def mb (F:Nat→Nat→Tm):Tm→Nat→Tm
 | .bd k,d=>F k d
 | .fn k t,d=>.fn k (mb F t (d+1))
 | .ap f a,d=>.ap (mb F f d) (mb F a d)
 | t,_=>t
def rsF (m:Nat) (k d:Nat):Tm:=.bd (if k<d then k else k+m)
def rs (t:Tm) (m d:Nat):Tm:=mb (rsF m) t d
def sbF (a:Tm) (k d:Nat):Tm:=if k<d then .bd k else if k=d then rs a d 0 else .bd (k - 1)
def sb (t:Tm) (d:Nat) (a:Tm):Tm:=mb (sbF a) t d
def dn:Tm→List Nat→Tm
 | .ap (.fn _ b) a,[]=>sb b 0 a
 | t,[]=>t
 | .fn k t,_::p=>.fn k (dn t p)
 | .ap f a,0::p=>.ap (dn f p) a
 | .ap f a,_::p=>.ap f (dn a p)
 | t,_=>t
inductive Pl:Tm→List Nat→Prop
 | here (k:PV) (b a:Tm):Pl (.ap (.fn k b) a) []
 | fn (k:PV) (t:Tm) (p:List Nat):Pl t p→Pl (.fn k t) (0::p)
 | l (f a:Tm) (p:List Nat):Pl f p→Pl (.ap f a) (0::p)
 | r (f a:Tm) (p:List Nat):Pl a p→Pl (.ap f a) (1::p)
inductive Nt where
 | nm (w:Str) | lf (n:Int) (f:PV) | vr (i:Nat) | fn (k:PV) (o:Nat) (t:Nt) | ap (f a:Nt)
def nf:Tm→Nat
 | .fn _ t=>nf t+1
 | .ap f a=>nf f+nf a
 | _=>0
theorem forC {chk:q0h→Prop} {g:WG} {wb:WS} {D:PEnds} {E:EK} {x:PV} {r:List PV} {σ:Ev.Loc} {S:q0h} (hc:chk S) (h:∀N:Ev.Loc→q0h→Prop,(∀σ S,forGo chk g wb D E r σ S→N σ S)→g x σ S E fun σ2 S2=>wb { nx:=N,rt:=D.rt,ct:=N,bk:=D.nx } E σ2 S2):forGo chk g wb D E (x::r) σ S:=⟨hc,_,fun _ _ z=>z,h _ fun _ _ z=>z⟩
def bo:Tm→Nat→List (Nat×Nat)
 | .bd k,d=>[(k,d)]
 | .fn _ b,d=>bo b (d+1)
 | .ap f a,d=>bo f d++bo a d
 | _,_=>[]
structure Wb (x0 x1:PV) (r tl rw:Nat) (rows:List PV) (S0:q0h) (R st:List Tm) (σ:Ev.Loc) (S:q0h):Prop where
 loc:∃j4 j5 j6:Option PV,σ=[some x0,some x1,some (.ref r),some (.ref tl),j4,j5,j6]
 gr:S[r]?=some (.lst (R.map Tm.pv))
 gt:S[tl]?=some (.lst (st.reverse.map Tm.pv))
 gw:S[rw]?=some (.lst rows)
 ex:Ex [] S0 S
def wi:Tm→Nat→Tm→Tm
 | .fn k _,_,x=>.fn k x
 | .ap _ a,0,x=>.ap x a
 | .ap f _,_,x=>.ap f x
 | t,_,_=>t
def Nt.pv:Nt→PV
 | .nm w=>.tup [.str (Str.ofString "name"),.str w]
 | .lf n f=>.tup [.str (Str.ofString "leaf"),.int n,f]
 | .vr i=>.tup [.str (Str.ofString "var"),.int (i:Nat)]
 | .fn k o t=>.tup [.str (Str.ofString "fn"),k,.int (o:Nat),t.pv]
 | .ap f a=>.tup [.str (Str.ofString "of"),f.pv,a.pv]
def Nt.dp:Nt→Nat
 | .fn _ _ t=>t.dp+1
 | .ap f a=>max f.dp a.dp+1
 | _=>0
def Tm.pp:Tm→Prop
 | .lf _ f=>q3d f=true∧dep f≤30
 | .fn k t=>(q3d k=true∧dep k≤30)∧t.pp
 | .ap f a=>f.pp∧a.pp
 | _=>True
theorem dep_mem:∀{xs:List PV} {x:PV},x∈xs→dep x≤deps xs
 | y::r,x,h=>by
  rcases List.mem_cons.mp h with z | z
  ·subst z; simp only [deps]; omega
  ·have:=dep_mem z; simp only [deps]; omega
theorem plain_mem:∀{xs:List PV} {x:PV},q6q xs=true→x∈xs→q3d x=true
 | y::r,x,hp,h=>by
  rw [q6q,Bool.and_eq_true] at hp
  rcases List.mem_cons.mp h with z | z
  ·subst z; exact hp.1
  ·exact plain_mem hp.2 z
theorem bls_rep:∀n:Nat,blsOf (List.replicate n (PV.bl true))=some (List.replicate n true)
 | 0=>rfl
 | n+1=>by simp only [List.replicate,blsOf,bls_rep n,Option.map_some]
theorem zip_self:∀xs:List PV,zipP xs xs=xs.map fun z=>PV.tup [z,z]
 | []=>rfl
 | x::r=>by have:=zip_self r; unfold zipP at this ⊢; rw [List.zip_cons_cons,List.map_cons,this]; rfl
theorem same_pv {T:Nat→Den} (hT:∀n,T (n+1)=fnP 2 2 (q3x (T n))):∀(n:Nat) (x:PV),q3d x=true→dep x<n→∀(S:q0h) (E:EK) (Q:VC),(∀S',Ex [] S S'→Q (.bl true) S')→T n [x,x] S E Q:=by
 intro n
 induction n with
 | zero=>intro x _ h; omega
 | succ n ih=>
  intro x hp hd S E Q h
  rw [hT]
  refine ⟨rfl,?_⟩
  unfold q3x
  refine seqI fun K hK=>?_
  cases x with
  | str s=>
   dsimp! [true_and]
   exact h S (Ex.refl _ _)
  | int i=>
   dsimp! [true_and]
   refine hK _ _ ?_
   refine seqI fun K hK=>?_
   dsimp! [true_and]
   exact h S (Ex.refl _ _)
  | tup xs=>
   rw [q3d,Bool.and_eq_true,decide_eq_true_eq] at hp
   simp only [dep] at hd
   dsimp! [true_and]
   refine hK _ _ ?_
   refine seqI fun K hK=>?_
   dsimp! [true_and]
   refine hK _ _ ?_
   refine seqI fun K hK=>?_
   dsimp! [true_and]
   refine hK _ _ ?_
   dsimp! [sqOf]
   rw [zip_self]
   refine ⟨by rw [List.length_map]; exact big (by omega),?_⟩
   refine compI (fun rest ys σ S2=>∃(zs:List PV) (j1 j2:Option PV) (m:Nat),rest=zs.map (fun z=>PV.tup [z,z])∧(∀z∈zs,z∈xs)∧ys=List.replicate m (PV.bl true)∧σ=[j1,j2]∧Ex [] S S2) ?_ ?_ _ _ _ _ ⟨xs,none,none,0,rfl,fun _ z=>z,rfl,rfl,Ex.refl _ _⟩
   ·rintro ys σ S2 ⟨zs,j1,j2,m,hr,hz,rfl,rfl,hx⟩
    refine ⟨trivial,?_⟩
    simp only [seq_new,Option.bind_some,bls_rep]
    have:=h _ (hx.app [.lst (List.replicate m (PV.bl true))])
    simpa using this
   ·rintro x rest ys σ S2 ⟨zs,j1,j2,m,hr,hz,rfl,rfl,hx⟩ N hN
    obtain ⟨u,zs,rfl⟩:∃p r,zs=p::r:=by
     cases zs with
     | nil=>simp at hr
     | cons a b=>exact ⟨a,b,rfl⟩
    simp only [List.map_cons,List.cons.injEq] at hr
    obtain ⟨rfl,rfl⟩:=hr
    refine ⟨trivial,?_⟩
    dsimp! [true_and]
    have hm:=hz u (by simp)
    refine ih u (plain_mem hp.1 hm) (by have:=dep_mem hm; omega) _ _ _ fun S3 hx3=>?_
    exact hN _ _ _ ⟨zs,_,_,m+1,rfl,fun z hz'=>hz z (by simp [hz']),by rw [List.replicate_succ'],rfl,hx.trans hx3⟩
  | non=>simp [q3d] at hp
  | bl _=>simp [q3d] at hp
  | ty _=>simp [q3d] at hp
  | frl _=>simp [q3d] at hp
  | ref _=>simp [q3d] at hp
  | exc _=>simp [q3d] at hp
def isFn:Tm→Bool
 | .fn _ _=>true
 | _=>false
def pls:Tm→List (List Int)
 | .fn _ b=>(pls b).map (0::·)
 | .ap f a=>(if isFn f=true then [[]] else [])++((pls f).map (0::·)++(pls a).map (1::·))
 | _=>[]
def out (st:List (Tm×List Int)):List (List Int):=st.flatMap fun x=>(pls x.1).map (x.2++·)
theorem rs_bd (k m d:Nat):rs (.bd k) m d=.bd (if k<d then k else k+m):=rfl
theorem rs_fn (k:PV) (t:Tm) (m d:Nat):rs (.fn k t) m d=.fn k (rs t m (d+1)):=rfl
theorem rs_ap (f a:Tm) (m d:Nat):rs (.ap f a) m d=.ap (rs f m d) (rs a m d):=rfl
theorem rs_nm (w:Str) (m d:Nat):rs (.nm w) m d=.nm w:=rfl
theorem rs_lf (n:Int) (f:PV) (m d:Nat):rs (.lf n f) m d=.lf n f:=rfl
theorem sb_bd (k d:Nat) (a:Tm):sb (.bd k) d a=if k<d then .bd k else if k=d then rs a d 0 else .bd (k - 1):=rfl
theorem sb_fn (k:PV) (t:Tm) (d:Nat) (a:Tm):sb (.fn k t) d a=.fn k (sb t (d+1) a):=rfl
theorem sb_ap (f g:Tm) (d:Nat) (a:Tm):sb (.ap f g) d a=.ap (sb f d a) (sb g d a):=rfl
theorem sb_nm (w:Str) (d:Nat) (a:Tm):sb (.nm w) d a=.nm w:=rfl
theorem sb_lf (n:Int) (f:PV) (d:Nat) (a:Tm):sb (.lf n f) d a=.lf n f:=rfl
theorem sb_lt {k d:Nat} {a:Tm} (h:k<d):sb (.bd k) d a=.bd k:=by rw [sb_bd,if_pos h]
theorem sb_eq (d:Nat) (a:Tm):sb (.bd d) d a=rs a d 0:=by rw [sb_bd,if_neg (by omega),if_pos rfl]
theorem sb_gt {k d:Nat} {a:Tm} (h:d<k):sb (.bd k) d a=.bd (k - 1):=by rw [sb_bd,if_neg (by omega),if_neg (by omega)]
theorem rs_lt {k m d:Nat} (h:k<d):rs (.bd k) m d=.bd k:=by rw [rs_bd,if_pos h]
theorem rs_ge {k m d:Nat} (h:d≤k):rs (.bd k) m d=.bd (k+m):=by rw [rs_bd,if_neg (by omega)]
def oc:Tm→Nat→Nat
 | .bd k,j=>if k=j then 1 else 0
 | .fn _ t,j=>oc t (j+1)
 | .ap f a,j=>oc f j+oc a j
 | _,_=>0
def af (u:Nat):Tm→Prop
 | .fn _ t=>oc t 0≤u∧af u t
 | .ap f a=>af u f∧af u a
 | _=>True
def Tm.nd:Tm→Nat
 | .fn _ t=>1+t.nd
 | .ap f a=>1+f.nd+a.nd
 | _=>0
theorem nd_sz:∀t:Tm,t.nd+1≤t.sz
 | .nm _=>Nat.le_refl _
 | .lf _ _=>Nat.le_refl _
 | .bd _=>Nat.le_refl _
 | .fn _ t=>by have:=nd_sz t; simp only [Tm.nd,Tm.sz]; omega
 | .ap f a=>by have:=nd_sz f; have:=nd_sz a; simp only [Tm.nd,Tm.sz]; omega
theorem dp_nd:∀t:Tm,t.dp≤t.nd
 | .nm _=>Nat.le_refl _
 | .lf _ _=>Nat.le_refl _
 | .bd _=>Nat.le_refl _
 | .fn _ t=>by have:=dp_nd t; simp only [Tm.nd,Tm.dp]; omega
 | .ap f a=>by have:=dp_nd f; have:=dp_nd a; simp only [Tm.nd,Tm.dp]; omega
theorem oc_rs:∀(t:Tm) (m d j:Nat),oc (rs t m d) j=if j<d then oc t j else if j<d+m then 0 else oc t (j - m)
 | .nm _,m,d,j=>by simp [rs_nm,oc]
 | .lf _ _,m,d,j=>by simp [rs_lf,oc]
 | .bd k,m,d,j=>by
  by_cases h:k<d
  ·rw [rs_lt h]; simp only [oc]; (repeat' split)<;>first | rfl | omega
  ·rw [rs_ge (by omega)]; simp only [oc]; (repeat' split)<;>first | rfl | omega
 | .fn _ t,m,d,j=>by
  rw [rs_fn]
  simp only [oc]
  rw [oc_rs t m (d+1) (j+1)]
  by_cases h:j<d
  ·rw [if_pos h,if_pos (by omega)]
  ·rw [if_neg h,if_neg (by omega)]
   by_cases h2:j<d+m
   ·rw [if_pos h2,if_pos (by omega)]
   ·rw [if_neg h2,if_neg (by omega),show j+1 - m=j - m+1 by omega]
 | .ap f a,m,d,j=>by
  rw [rs_ap]
  simp only [oc]
  rw [oc_rs f m d j,oc_rs a m d j]
  split
  ·rfl
  ·split<;>rfl
theorem oc_sb (a:Tm):∀(t:Tm) (d j:Nat),oc (sb t d a) j=(if j<d then oc t j else oc t (j+1))+oc t d*(if j<d then 0 else oc a (j - d))
 | .nm _,d,j=>by simp [sb_nm,oc]
 | .lf _ _,d,j=>by simp [sb_lf,oc]
 | .bd k,d,j=>by
  rcases Nat.lt_trichotomy k d with h | h | h
  ·rw [sb_lt h]; simp only [oc,if_neg (show ¬k=d by omega),Nat.zero_mul,Nat.add_zero]; (repeat' split)<;>first | rfl | omega
  ·subst h
   rw [sb_eq,oc_rs]
   simp only [oc,Nat.zero_add,if_true,Nat.one_mul,Nat.not_lt_zero,if_false]
   split
   ·split<;>omega
   ·rw [if_neg (by omega)]; omega
  ·rw [sb_gt h]; simp only [oc]
   rw [if_neg (show ¬k=d by omega),Nat.zero_mul,Nat.add_zero]
   (repeat' split)<;>first | rfl | omega
 | .fn _ t,d,j=>by
  rw [sb_fn]
  simp only [oc]
  rw [oc_sb a t (d+1) (j+1)]
  by_cases h:j<d
  ·rw [if_pos h,if_pos h,if_pos (by omega),if_pos (by omega)]
  ·rw [if_neg h,if_neg h,if_neg (by omega),if_neg (by omega),show j+1 - (d+1)=j - d by omega]
 | .ap f g,d,j=>by
  rw [sb_ap]
  simp only [oc]
  rw [oc_sb a f d j,oc_sb a g d j,Nat.add_mul]
  split<;>omega
theorem sz_rs:∀(t:Tm) (m d:Nat),(rs t m d).sz=t.sz∧(rs t m d).nd=t.nd
 | .nm _,_,_=>⟨rfl,rfl⟩
 | .lf _ _,_,_=>⟨rfl,rfl⟩
 | .bd _,_,_=>⟨rfl,rfl⟩
 | .fn _ t,m,d=>by have:=sz_rs t m (d+1); rw [rs_fn]; simp only [Tm.sz,Tm.nd]; omega
 | .ap f a,m,d=>by have:=sz_rs f m d; have:=sz_rs a m d; rw [rs_ap]; simp only [Tm.sz,Tm.nd]; omega
theorem sz_sb (a:Tm):∀(t:Tm) (d:Nat),(sb t d a).sz+oc t d=t.sz+oc t d*a.sz∧(sb t d a).nd=t.nd+oc t d*a.nd
 | .nm _,d=>by simp [sb_nm,oc]
 | .lf _ _,d=>by simp [sb_lf,oc]
 | .bd k,d=>by
  rcases Nat.lt_trichotomy k d with h | h | h
  ·rw [sb_lt h]; simp only [oc,if_neg (show ¬k=d by omega)]; simp
  ·subst h
   have:=sz_rs a k 0
   rw [sb_eq]; simp only [oc,if_true,Tm.sz,Tm.nd]; omega
  ·rw [sb_gt h]; simp only [oc,if_neg (show ¬k=d by omega)]; simp [Tm.sz,Tm.nd]
 | .fn _ t,d=>by have:=sz_sb a t (d+1); rw [sb_fn]; simp only [oc,Tm.sz,Tm.nd]; omega
 | .ap f g,d=>by
  have h1:=sz_sb a f d
  have h2:=sz_sb a g d
  rw [sb_ap]; simp only [oc,Tm.sz,Tm.nd,Nat.add_mul]; omega
theorem af_rs (u:Nat):∀(t:Tm) (m d:Nat),af u t→af u (rs t m d)
 | .nm _,_,_,_=>trivial
 | .lf _ _,_,_,_=>trivial
 | .bd _,_,_,_=>trivial
 | .fn _ t,m,d,h=>by
  rw [rs_fn]
  exact ⟨by rw [oc_rs,if_pos (by omega)]; exact h.1,af_rs u t m (d+1) h.2⟩
 | .ap f a,m,d,h=>⟨af_rs u f m d h.1,af_rs u a m d h.2⟩
theorem af_sb (u:Nat) {a:Tm} (ha:af u a):∀(t:Tm) (d:Nat),af u t→af u (sb t d a)
 | .nm _,_,_=>trivial
 | .lf _ _,_,_=>trivial
 | .bd k,d,_=>by
  rw [sb_bd]
  split
  ·trivial
  ·split
   ·exact af_rs u a d 0 ha
   ·trivial
 | .fn _ t,d,h=>by
  rw [sb_fn]
  refine ⟨?_,af_sb u ha t (d+1) h.2⟩
  rw [oc_sb,if_pos (by omega),if_pos (by omega),Nat.mul_zero,Nat.add_zero]
  exact h.1
 | .ap f g,d,h=>⟨af_sb u ha f d h.1,af_sb u ha g d h.2⟩
inductive R:Tm→Tm→Prop
 | be (k:PV) (b a:Tm):R (.ap (.fn k b) a) (sb b 0 a)
 | fn (k:PV) {t t':Tm}:R t t'→R (.fn k t) (.fn k t')
 | l (a:Tm) {f f':Tm}:R f f'→R (.ap f a) (.ap f' a)
 | r (f:Tm) {a a':Tm}:R a a'→R (.ap f a) (.ap f a')
inductive Rs:Tm→Tm→Prop
 | nil (t:Tm):Rs t t
 | cons {t u v:Tm}:R t u→Rs u v→Rs t v
theorem Rs.one {t u:Tm} (h:R t u):Rs t u:=.cons h (.nil _)
theorem Rs.trans {t u v:Tm} (h:Rs t u) (g:Rs u v):Rs t v:=by
 induction h with
 | nil=>exact g
 | cons h1 _ ih=>exact .cons h1 (ih g)
theorem Rs.fn (k:PV) {t u:Tm} (h:Rs t u):Rs (.fn k t) (.fn k u):=by
 induction h with
 | nil=>exact .nil _
 | cons h1 _ ih=>exact .cons (.fn k h1) ih
theorem Rs.l (a:Tm) {t u:Tm} (h:Rs t u):Rs (.ap t a) (.ap u a):=by
 induction h with
 | nil=>exact .nil _
 | cons h1 _ ih=>exact .cons (.l a h1) ih
theorem Rs.r (f:Tm) {t u:Tm} (h:Rs t u):Rs (.ap f t) (.ap f u):=by
 induction h with
 | nil=>exact .nil _
 | cons h1 _ ih=>exact .cons (.r f h1) ih
theorem pl_R {t:Tm} {p:List Nat} (h:Pl t p):R t (dn t p):=by
 induction h with
 | here k b a=>exact .be k b a
 | fn k t p _ ih=>exact .fn k ih
 | l f a p _ ih=>rw [show dn (.ap f a) (0::p)=.ap (dn f p) a by simp only [dn]]; exact .l a ih
 | r f a p _ ih=>rw [show dn (.ap f a) (1::p)=.ap f (dn a p) by simp only [dn]]; exact .r f ih
theorem R_pl {t u:Tm} (h:R t u):∃p,Pl t p∧u=dn t p:=by
 induction h with
 | be k b a=>exact ⟨[],.here k b a,rfl⟩
 | fn k _ ih=>obtain ⟨p,h1,rfl⟩:=ih; exact ⟨0::p,.fn k _ p h1,rfl⟩
 | l a _ ih=>obtain ⟨p,h1,rfl⟩:=ih; exact ⟨0::p,.l _ a p h1,by simp only [dn]⟩
 | r f _ ih=>obtain ⟨p,h1,rfl⟩:=ih; exact ⟨1::p,.r f _ p h1,by simp only [dn]⟩
theorem R_af {t u:Tm} (h:R t u):af 1 t→af 1 u∧(∀j,oc u j≤oc t j)∧u.sz+3≤t.sz∧u.nd+2≤t.nd:=by
 induction h with
 | be k b a=>
  rintro ⟨⟨h1,h2⟩,h3⟩
  refine ⟨af_sb 1 h3 b 0 h2,fun j=>?_,?_⟩
  ·rw [oc_sb,if_neg (by omega),if_neg (by omega)]
   simp only [oc,Nat.sub_zero]
   have:=Nat.mul_le_mul_right (oc a j) h1
   omega
  ·obtain ⟨e1,e2⟩:=sz_sb a b 0
   have m1:=Nat.mul_le_mul_right a.nd h1
   have sp:=nd_sz a
   simp only [Tm.sz,Tm.nd]
   refine ⟨?_,by omega⟩
   rcases Nat.le_one_iff_eq_zero_or_eq_one.mp h1 with z | z
   ·rw [z] at e1; omega
   ·rw [z] at e1; omega
 | fn k _ ih=>
  rintro ⟨h1,h2⟩
  obtain ⟨i1,i2,i3,i4⟩:=ih h2
  exact ⟨⟨Nat.le_trans (i2 0) h1,i1⟩,fun j=>i2 (j+1),by simp only [Tm.sz]; omega,by simp only [Tm.nd]; omega⟩
 | l a _ ih=>
  rintro ⟨h1,h2⟩
  obtain ⟨i1,i2,i3,i4⟩:=ih h1
  exact ⟨⟨i1,h2⟩,fun j=>by have:=i2 j; simp only [oc]; omega,by simp only [Tm.sz]; omega,by simp only [Tm.nd]; omega⟩
 | r f _ ih=>
  rintro ⟨h1,h2⟩
  obtain ⟨i1,i2,i3,i4⟩:=ih h2
  exact ⟨⟨h1,i1⟩,fun j=>by have:=i2 j; simp only [oc]; omega,by simp only [Tm.sz]; omega,by simp only [Tm.nd]; omega⟩
def Nf (t:Tm):Prop:=∀u,¬R t u
inductive FK:PV→Kd→Prop
 | b (s:Str):FK (.tup [.str (Str.ofString "basic"),.str s]) (.a s)
 | n (l:Bool) {x y:PV} {kx ky:Kd}:FK x kx→FK y ky→FK (.tup [.str (if l=true then Str.ofString "\\" else Str.ofString "/"),x,y]) (.p ky kx)
theorem FK.plain {f:PV} {k:Kd} (h:FK f k):q3d f=true∧dep f≤k.dp+1:=by
 induction h with
 | b s=>exact ⟨by simp [q3d,q6q],by simp [dep,deps]⟩
 | n l _ _ h1 h2=>exact ⟨by simp only [q3d,q6q,List.length_cons,List.length_nil,Nat.reduceAdd,Nat.reduceLeDiff,decide_true,Bool.and_true,h1.1,h2.1,Bool.and_self],by simp only [dep,deps,Kd.dp]; omega⟩
def lkN (ps:List (Str×Kd)) (w:Str):Option Kd:=(ps.find? fun p=>decide (p.1=w)).map (·.2)
theorem lkN_app {ps qs:List (Str×Kd)} {w:Str} {k:Kd} (h:lkN ps w=some k):lkN (ps++qs) w=some k:=by
 unfold lkN at h ⊢
 rw [List.find?_append]
 cases e:ps.find? fun p=>decide (p.1=w) with
 | none=>rw [e] at h; cases h
 | some p=>rw [e] at h; exact h
theorem lkN_new {ps:List (Str×Kd)} {w:Str} {k:Kd} (h:w∉ps.map (·.1)):lkN (ps++[(w,k)]) w=some k:=by
 unfold lkN
 have:(ps.find? fun p=>decide (p.1=w))=none:=List.find?_eq_none.mpr fun p hp=>by
  simp only [decide_eq_true_eq]
  exact fun z=>h (List.mem_map.mpr ⟨p,hp,z⟩)
 rw [List.find?_append,this]
 simp
theorem lkN_of:∀{ps:List (Str×Kd)},(ps.map (·.1)).Nodup→∀{p:Str×Kd},p∈ps→lkN ps p.1=some p.2
 | x::r,nd,p,hp=>by
  rw [List.map_cons,List.nodup_cons] at nd
  unfold lkN
  rw [List.find?_cons]
  rcases List.mem_cons.mp hp with z | z
  ·subst z; simp
  ·have:¬x.1=p.1:=fun e=>nd.1 (List.mem_map.mpr ⟨p,z,e.symm⟩)
   rw [decide_eq_false this]
   exact lkN_of nd.2 z
inductive Ty (ps:List (Str×Kd)):List Kd→Tm→Kd→Prop
 | nm {e:List Kd} {w:Str} {k:Kd}:lkN ps w=some k→Ty ps e (.nm w) k
 | lf {e:List Kd} (n:Int) {f:PV} {k:Kd}:FK f k→k.dp≤20→Ty ps e (.lf n f) k
 | bd {e:List Kd} {j:Nat} {k:Kd}:e[j]?=some k→Ty ps e (.bd j) k
 | fn {e:List Kd} {k k':Kd} {t:Tm}:k.dp≤20→Ty ps (k::e) t k'→Ty ps e (.fn k.pv t) (.p k k')
 | ap {e:List Kd} {k k':Kd} {f a:Tm}:Ty ps e f (.p k k')→Ty ps e a k→Ty ps e (.ap f a) k'
theorem Ty.mono {ps qs:List (Str×Kd)} {e:List Kd} {t:Tm} {k:Kd} (h:Ty ps e t k):Ty (ps++qs) e t k:=by
 induction h with
 | nm h=>exact .nm (lkN_app h)
 | lf n h g=>exact .lf n h g
 | bd h=>exact .bd h
 | fn h _ ih=>exact .fn h ih
 | ap _ _ i1 i2=>exact .ap i1 i2
theorem Ty.gd {ps:List (Str×Kd)} {e:List Kd} {t:Tm} {k:Kd} (h:Ty ps e t k):t.gd e.length:=by
 induction h with
 | nm h=>trivial
 | lf n h g=>exact ⟨h.plain.1,by have:=h.plain.2; omega⟩
 | bd h=>exact (List.getElem?_eq_some_iff.mp h).1
 | fn h _ ih=>exact ⟨⟨q6g _,by rw [q7x]; omega⟩,ih⟩
 | ap _ _ i1 i2=>exact ⟨i1,i2⟩
instance kdDec:DecidableEq Kd:=fun _ _=>Classical.propDecidable _
theorem q9o:∀f g:Kd,eqB f.pv g.pv=decide (f=g)
 | .a s,.a t=>by simp [Kd.pv,q7h]
 | .a s,.p f t=>by simp [Kd.pv,eqB_st]
 | .p f t,.a s=>by simp [Kd.pv,eqB_ts]
 | .p f t,.p f' t'=>by
  have h1:=q9o f f'
  have h2:=q9o t t'
  simp only [Kd.pv,eqB_tt,eqBs,h1,h2,Bool.and_true,Kd.p.injEq]
  by_cases z1:f=f'<;>by_cases z2:t=t'<;>simp [z1,z2]
theorem cEq_kd {k k':Kd} {S:q0h} {Q:VC} (h1:k.dp≤20) (h2:k'.dp≤20) (h:Q (.bl (decide (k=k'))) S):cEq k.pv k'.pv S Q:=by
 have o1:=okEq_pv (k:=k) (by omega)
 have o2:=okEq_pv (k:=k') (by omega)
 rw [←q9o] at h
 cases k with
 | a s=>
  cases k' with
  | a t=>rw [Kd.pv,Kd.pv,cEq_ss]; simpa [Kd.pv,q7h] using h
  | p f t=>rw [Kd.pv,Kd.pv,cEq_st]; exact ⟨by have:=o2.1; rw [Kd.pv,q9a] at this; exact this,by simpa [Kd.pv,eqB_st] using h⟩
 | p f t=>
  cases k' with
  | a t=>rw [Kd.pv,Kd.pv,cEq_ts]; exact ⟨by have:=o1.1; rw [Kd.pv,q9a] at this; exact this,by simpa [Kd.pv,eqB_ts] using h⟩
  | p f' t'=>rw [Kd.pv,Kd.pv,cEq_tt]; rw [Kd.pv] at o1 o2; exact ⟨⟨o1,o2⟩,by simpa [Kd.pv,eqB_tt] using h⟩
theorem form_ok2 {T:Nat→Den} (hT:∀n,T (n+1)=fnP 2 2 (q3k (T n))):∀(k:Kd) (n:Nat),k.dp<n→∀(x:Int) (S:q0h) (E:EK) (Q:VC),(∀y S',FK y k→Ex [] S S'→Q y S')→T n [k.pv,.int x] S E Q:=by
 intro k
 induction k with
 | a s=>
  intro n hn x S E Q h
  obtain ⟨m,rfl⟩:∃m,n=m+1:=⟨n - 1,by omega⟩
  rw [hT]
  refine ⟨rfl,?_⟩
  unfold q3k
  refine seqI fun K hK=>?_
  dsimp! [Kd.pv]
  exact ⟨big (by decide),h _ _ (.b s) (Ex.refl _ _)⟩
 | p f t ihf iht=>
  intro n hn x S E Q h
  simp only [Kd.dp] at hn
  obtain ⟨m,rfl⟩:∃m,n=m+1:=⟨n - 1,by omega⟩
  rw [hT]
  refine ⟨rfl,?_⟩
  unfold q3k
  refine seqI fun K hK=>?_
  dsimp! [Kd.pv]
  refine hK _ _ ?_
  have g:=q1v S (.lst [PV.str (Str.ofString "/"),PV.str (Str.ofString "\\")])
  have m0:0≤x % 2:=Int.emod_nonneg _ (by decide)
  have m1:x % 2<2:=Int.emod_lt_of_pos _ (by decide)
  obtain ⟨l,hy⟩:∃l:Bool,atI [PV.str (Str.ofString "/"),PV.str (Str.ofString "\\")] (x % 2)=some (.str (if l=true then Str.ofString "\\" else Str.ofString "/")):=by
   rcases (show x % 2=0∨x % 2=1 by omega) with e | e<;>rw [e]
   ·exact ⟨false,q0p _ _⟩
   ·exact ⟨true,q4d _ _ _⟩
  dsimp! [q0p,q4d,g,hy]
  refine ⟨big (by decide),by decide,⟨by decide,by decide⟩,?_⟩
  refine iht m (by omega) _ _ _ _ fun y1 S1 p1 h1=>?_
  refine ⟨⟨by decide,by decide⟩,?_⟩
  refine ihf m (by omega) _ _ _ _ fun y2 S2 p2 h2=>?_
  exact ⟨big (by decide),h _ _ (.n l p1 p2) (((Ex.new _ _ _).trans h1).trans h2)⟩
structure Wt (w b m d c u:Nat) (ps:List (Str×Kd)) (S:q0h):Prop where
 dk:Deck d c S
 wd:S[w]?=some (.dK (q7s b m d (u:Nat)))
 bs:∃ws:List Str,S[b]?=some (.lst (ws.map PV.str))∧ws.length=3
 nm:S[m]?=some (.lst (ps.map encN))
 ok:∀p∈ps,q6h p.1=true∧p.2.dp≤20
 nd:(ps.map (·.1)).Nodup
 ne:(w≠d∧w≠c)∧(b≠d∧b≠c)∧(m≠d∧m≠c)∧w≠m∧b≠m
theorem Wt.ex {w b m d c u:Nat} {ps:List (Str×Kd)} {S S':q0h} (h:Wt w b m d c u ps S) {D:List Nat} (e:Ex D S S') (hw:w∉D) (hb:b∉D) (hm:m∉D) (hd:d∉D) (hc:c∉D):Wt w b m d c u ps S':=by
 obtain ⟨dk,wd,⟨ws,b1,b2⟩,p1,p2,p3,ne⟩:=h
 exact ⟨dk.ex e hd hc,e.get wd hw,⟨ws,e.get b1 hb,b2⟩,e.get p1 hm,p2,p3,ne⟩
theorem Wt.nx {w b m d c u:Nat} {ps:List (Str×Kd)} {S S':q0h} (h:Wt w b m d c u ps S) (hd:Deck d c S') (e:Ex [d,c] S S'):Wt w b m d c u ps S':=by
 obtain ⟨dk,wd,⟨ws,b1,b2⟩,p1,p2,p3,ne⟩:=h
 exact ⟨hd,e.get wd (by simp; exact ne.1),⟨ws,e.get b1 (by simp; exact ne.2.1),b2⟩,e.get p1 (by simp; exact ne.2.2.1),p2,p3,ne⟩
theorem Wt.new {w b m d c u:Nat} {ps:List (Str×Kd)} {S:q0h} (h:Wt w b m d c u ps S) (xs:List SO):Wt w b m d c u ps (S++xs):=h.ex (Ex.new [] _ _) (by simp) (by simp) (by simp) (by simp) (by simp)
theorem Wt.lt {w b m d c u:Nat} {ps:List (Str×Kd)} {S:q0h} (h:Wt w b m d c u ps S):w<S.length∧b<S.length∧m<S.length∧d<S.length∧c<S.length:=by
 obtain ⟨ws,g,_⟩:=h.bs
 have hd:=h.dk
 obtain ⟨⟨_,_,_,_,_,_,g1,g2,_⟩,_⟩:=hd
 exact ⟨q1x h.wd,q1x g,q1x h.nm,q1x g1,q1x g2⟩
def WorldQ (sp:Den):Prop:=∀(d c u:Nat) (S:q0h) (E:EK) (Q:VC),Deck d c S→(∀w b m S',Wt w b m d c u [] S'→Q (.ref w) S')→sp [.ref d,.int (u:Nat),.bl true] S E Q
theorem world_ok2 {sp:Den} (hw:WordsD sp):WorldQ (fnP 3 4 (q3m sp)):=by
 intro d c u S E Q hd h
 refine ⟨rfl,?_⟩
 unfold q3m
 refine seqI fun K hK=>?_
 dsimp! [true_and]
 refine hw d c 3 _ _ _ hd (by decide) fun n ws S1 e hl hna hn hd1 hx=>hK _ _ ?_
 have hdl:d<S1.length:=by obtain ⟨⟨_,_,_,_,_,_,g,_⟩,_⟩:=hd1; exact q1x g
 have hcl:c<S1.length:=by obtain ⟨⟨_,_,_,_,_,_,_,g,_⟩,_⟩:=hd1; exact q1x g
 have hdl0:d<S.length:=by obtain ⟨⟨_,_,_,_,_,_,g,_⟩,_⟩:=hd; exact q1x g
 have hcl0:c<S.length:=by obtain ⟨⟨_,_,_,_,_,_,_,g,_⟩,_⟩:=hd; exact q1x g
 have hnl:n<S1.length:=q1x e
 dsimp! [true_and]
 have em:mergeP [] [(Sum.inr (Str.ofString "basics"),PV.ref n),(Sum.inr (Str.ofString "names"),PV.ref (List.length (S1++[SO.dK []]))),(Sum.inr (Str.ofString "deck"),PV.ref d),(Sum.inr (Str.ofString "uses"),PV.int u),(Sum.inr (Str.ofString "leaves"),PV.bl true)]=q7s n (S1++[SO.dK []]).length d u:=rfl
 rw [em]
 have hl2:(S1++[SO.dK []]).length=S1.length+1:=by simp
 have g1:=q3e (q1v S1 (SO.dK [])) [SO.lst []]
 have g2:=q1v (S1++[SO.dK []]) (SO.lst [])
 have g3:=q3e (q3e e [SO.dK []]) [SO.lst []]
 refine ⟨big (by decide),⟨g1,by decide⟩,h S1.length n (S1++[SO.dK []]).length _ ⟨?_,q2q _ g1,⟨ws,q4h _ g3 (by omega),hl⟩,q4h _ g2 (by omega),by simp,by simp,?_⟩⟩
 ·refine hd1.ex (D:=[S1.length]) ((((Ex.refl _ _).app _).app _).set (.inl (by simp))) (by simp; omega) (by simp; omega)
 ·rw [hl2]; exact ⟨⟨by omega,by omega⟩,⟨by omega,by omega⟩,⟨by omega,by omega⟩,by omega,by omega⟩
def LoneQ (sp:Den):Prop:=∀(w b m d c u:Nat) (ps:List (Str×Kd)) (k:Kd) (cell:Int) (S:q0h) (E:EK) (Q:VC),Wt w b m d c u ps S→ps.length+1≤79→k.dp≤7→
 (∀(t:Tm) (qs:List (Str×Kd)) S',t.dp=0→t.sz=1→(∀e,Ty (ps++qs) e t k)→(∀j,oc t j=0)→af u t→qs.length≤1→Wt w b m d c u (ps++qs) S'→Ex [m,d,c] S S'→Q t.pv S')→sp [.ref w,k.pv,.int cell] S E Q
theorem lone_ok2 {sw sf sn:Den} (hw:∀(k:Kd) (S:q0h) (E:EK) (Q:VC),k.dp≤7→Q (.int k.lv) S→sw [k.pv] S E Q) (hf:∀(k:Kd) (x:Int) (S:q0h) (E:EK) (Q:VC),k.dp≤7→(∀y S',FK y k→Ex [] S S'→Q y S')→sf [k.pv,.int x] S E Q) (hn:WordD2 sn):LoneQ (fnP 3 6 (q3z sw sf sn)):=by
 intro w b m d c u ps k cell S E Q hW hN hk h
 have gw:=hW.wd
 have gm:=hW.nm
 have pn:=hW.ok
 have hne:=hW.ne
 refine ⟨rfl,?_⟩
 unfold q3z
 have rest:wSeq (wFor (wiAny (wBin bIx (wVar 0) (wC (.str (Str.ofString "names"))))) (q6l 2 (q2d (q1s 3) (q2d (q1s 4) q6m))) (wIfS (wAnd (q0y (wBin cEq (wVar 4) (wVar 1))) (q0y (wBin cGt (wBin bMod (wBin q4l (wVar 2) (wC (.int 2))) (wC (.int 4))) (wC (.int 0)))))
   (wRet (wTup (q0d (wC (.str (Str.ofString "name"))) (q0d (wVar 3) wNil))))
   q2a))
   (wSeq (wSet 5 (q0s sn (q0d (wBin bIx (wVar 0) (wC (.str (Str.ofString "deck")))) (q0d (wComp (wiAny (wBin bIx (wVar 0) (wC (.str (Str.ofString "names"))))) [none,none] (q6l 2 (q2d (q1s 0) (q2d (q1s 1) q6m))) q6t (wVar 0)) wNil))))
   (wSeq (q4f (wBM "list" q1z (wBin bIx (wVar 0) (wC (.str (Str.ofString "names")))) (q0d (wTup (q0d (wVar 5) (q0d (wVar 1) wNil))) wNil)))
   (wRet (wTup (q0d (wC (.str (Str.ofString "name"))) (q0d (wVar 5) wNil)))))) { nx:=fun _ S'=>Q .non S',rt:=Q } E [some (.ref w),some k.pv,some (.int cell),none,none,none] S:=by
  refine seqI fun K hK=>?_
  dsimp! [gw,q5i,q1a gm]
  refine forI (fun rest σ S2=>∃(qs:List (Str×Kd)) (j1 j2:Option PV),rest=qs.map encN∧(∀p∈qs,p∈ps)∧σ=[some (.ref w),some k.pv,some (.int cell),j1,j2,none]∧S2=S) ?_ ?_ _ _ _ ⟨ps,none,none,rfl,fun _ z=>z,rfl,rfl⟩
  ·rintro σ S2 ⟨qs,j1,j2,hr,hq,rfl,rfl⟩
   refine ⟨q1a gm,hK _ _ ?_⟩
   refine seqI fun K hK=>?_
   dsimp! [gw,q5i,wk_deck,q1a gm]
   refine ⟨by rw [List.length_map]; exact big (by omega),?_⟩
   refine compI (fun rest ys σ S3=>∃(qs rs:List (Str×Kd)) (j1 j2:Option PV),rest=qs.map encN∧ys=rs.map (fun p=>PV.str p.1)∧rs++qs=ps∧σ=[j1,j2]∧S3=S2) ?_ ?_ _ _ _ _ ⟨ps,[],none,none,rfl,rfl,rfl,rfl,rfl⟩
   ·rintro ys σ S3 ⟨qs,rs,i1,i2,hr,rfl,hq2,rfl,rfl⟩
    obtain rfl:qs=[]:=by cases qs with
     | nil=>rfl
     | cons a b=>simp at hr
    rw [List.append_nil] at hq2
    subst hq2
    refine ⟨q1a gm,?_⟩
    have g1:=q1v S3 (.lst (rs.map (fun p=>PV.str p.1)))
    have e1:rs.map (fun p=>PV.str p.1)=(rs.map (·.1)).map PV.str:=by simp
    rw [e1] at g1 ⊢
    have hx1:Ex [] S3 (S3++[.lst ((rs.map (·.1)).map PV.str)]):=Ex.new _ _ _
    have hW1:=hW.new [.lst ((rs.map (·.1)).map PV.str)]
    have hlt:=hW.lt
    refine hn d c S3.length (rs.map (·.1)) _ _ _ hW1.dk g1 (by rw [List.length_map]; omega) ?_ (by omega) (by omega) fun ww S4 nw nin _ hd4 hx4=>hK _ _ ?_
    ·intro v hv
     obtain ⟨p,hp,rfl⟩:=List.mem_map.mp hv
     exact (pn p hp).1
    have hW4:=hW1.nx hd4 hx4
    have hx5:Ex [m,d,c] S3 S4:=hx1.nil.trans (hx4.weak (by simp))
    have gm4:=hx4.get (q3e gm [.lst ((rs.map (·.1)).map PV.str)]) (by simp; exact hne.2.2.1)
    have gw4:=hx4.get (q3e gw [.lst ((rs.map (·.1)).map PV.str)]) (by simp; exact hne.1)
    refine seqI fun K2 hK2=>?_
    dsimp! [gw4,q5i,gm4,q2y gm4]
    refine ⟨big (by decide),by rw [List.length_map]; exact bigl (by omega),hK2 _ _ ?_⟩
    dsimp! [true_and]
    refine ⟨big (by decide),h (.nm ww) [(ww,k)] _ rfl rfl (fun e=>.nm (lkN_new nin)) (fun _=>rfl) trivial (Nat.le_refl _) ?_ (hx5.set (.inl (by simp)))⟩
    obtain ⟨dk,wd,⟨ws,b1,b2⟩,_,_,_,ne⟩:=hW4
    refine ⟨dk.ex (D:=[m]) ((Ex.refl _ _).set (.inl (by simp))) (by simp; exact fun z=>hne.2.2.1.1 z.symm) (by simp; exact fun z=>hne.2.2.1.2 z.symm),q4h _ wd (Ne.symm hne.2.2.2.1),⟨ws,q4h _ b1 (Ne.symm hne.2.2.2.2),b2⟩,?_,?_,?_,ne⟩
    ·rw [q2q _ gm4]; simp [encN]
    ·intro p hp
     rcases List.mem_append.mp hp with z | z
     ·exact pn p z
     ·simp at z; subst z; exact ⟨nw,by simp only; omega⟩
    ·rw [List.map_append,List.map_cons,List.map_nil,List.nodup_append]
     exact ⟨hW.nd,by simp,fun x hx y hy e=>by simp at hy; subst hy; subst e; exact nin hx⟩
   ·rintro x rest ys σ S3 ⟨qs,rs,i1,i2,hr,rfl,hq2,rfl,rfl⟩ N2 hN2
    obtain ⟨u1,qs,rfl⟩:∃p r,qs=p::r:=by
     cases qs with
     | nil=>simp at hr
     | cons a b=>exact ⟨a,b,rfl⟩
    simp only [List.map_cons,List.cons.injEq] at hr
    obtain ⟨rfl,rfl⟩:=hr
    refine ⟨q1a gm,?_⟩
    dsimp! [encN]
    exact hN2 _ _ _ ⟨qs,rs++[u1],_,_,rfl,by simp,by simp [←hq2],rfl,rfl⟩
  ·rintro x rest σ S2 ⟨qs,j1,j2,hr,hq,rfl,rfl⟩ N2 hN2
   obtain ⟨u1,qs,rfl⟩:∃p r,qs=p::r:=by
    cases qs with
    | nil=>simp at hr
    | cons a b=>exact ⟨a,b,rfl⟩
   simp only [List.map_cons,List.cons.injEq] at hr
   obtain ⟨rfl,rfl⟩:=hr
   refine ⟨q1a gm,?_⟩
   have hu1:=hq u1 (by simp)
   dsimp! [encN]
   refine cEq_kd (pn u1 hu1).2 (by omega) ?_
   have nxt:N2 [some (.ref w),some k.pv,some (.int cell),some (.str u1.1),some u1.2.pv,none] S2:=hN2 _ _ ⟨qs,_,_,rfl,fun p hp=>hq p (by simp [hp]),rfl,rfl⟩
   dsimp! [true_and]
   refine ite2 (fun z=>?_) (fun z=>nxt)
   refine ⟨⟨by decide,by decide⟩,by decide,ite2 (fun z2=>?_) (fun z2=>nxt)⟩
   exact ⟨big (by decide),h (.nm u1.1) [] S2 rfl rfl (fun e=>.nm (by rw [List.append_nil,lkN_of hW.nd hu1,z])) (fun _=>rfl) trivial (by simp) (by rw [List.append_nil]; exact hW) (Ex.refl _ _)⟩
 refine seqI fun K hK=>?_
 dsimp! [gw,wk_leaves]
 refine ⟨by decide,ite2 (fun z=>?_) (fun z=>hK _ _ rest)⟩
 refine hw k _ _ _ hk ?_
 dsimp! [true_and]
 refine ite2 (fun z=>?_) (fun z=>hK _ _ rest)
 refine ⟨⟨by decide,by decide⟩,by decide,⟨by decide,by decide⟩,?_⟩
 exact hf k _ _ _ _ hk fun y S' fy hx=>⟨big (by decide),h (.lf _ y) [] S' rfl rfl (fun e=>.lf _ fy (by omega)) (fun _=>rfl) trivial (by simp) (by rw [List.append_nil]; exact hW.ex hx (by simp) (by simp) (by simp) (by simp) (by simp)) hx.nil⟩
structure At (w b m d c a:Nat) (V:List (Nat×Kd)) (g:Nat→Nat) (S:q0h):Prop where
 at':S[a]?=some (.lst (V.reverse.map fun x=>PV.ref x.1))
 rw':∀x∈V,S[x.1]?=some (.lst [x.2.pv,.int (g x.1:Nat)])∧x.2.dp≤20
 ne:∀r∈a::V.map (·.1),r≠w∧r≠b∧r≠m∧r≠d∧r≠c
 na:a∉V.map (·.1)
 nd:(V.map (·.1)).Nodup
theorem At.ex {w b m d c a:Nat} {V:List (Nat×Kd)} {g:Nat→Nat} {S S':q0h} (h:At w b m d c a V g S) (e:Ex [m,d,c] S S'):At w b m d c a V g S':=by
 have k:∀r∈a::V.map (·.1),r∉[m,d,c]:=fun r hr=>by have:=h.ne r hr; simp; exact ⟨this.2.2.1,this.2.2.2.1,this.2.2.2.2⟩
 exact ⟨e.get h.at' (k a (by simp)),fun x hx=>by obtain ⟨h1,h2⟩:=h.rw' x hx; exact ⟨e.get h1 (k x.1 (List.mem_cons_of_mem _ (List.mem_map.mpr ⟨x,hx,rfl⟩))),h2⟩,h.ne,h.na,h.nd⟩
theorem At.nx {w b m d c a:Nat} {V:List (Nat×Kd)} {g:Nat→Nat} {S S':q0h} (h:At w b m d c a V g S) (e:Ex [d,c] S S'):At w b m d c a V g S':=h.ex (e.weak (by simp))
structure Got (u:Nat) (ps:List (Str×Kd)) (V:List (Nat×Kd)) (g g':Nat→Nat) (t:Tm) (k:Kd):Prop where
 ty:Ty ps (V.map (·.2)) t k
 af:af u t
 us:∀j x,V[j]?=some x→oc t j+g' x.1≤g x.1
def TermQ (sp:Den) (dd:Nat):Prop:=∀(w b m d c u a:Nat) (ps:List (Str×Kd)) (V:List (Nat×Kd)) (g:Nat→Nat) (k:Kd) (S:q0h) (E:EK) (Q:VC),Wt w b m d c u ps S→At w b m d c a V g S→ps.length+2 ^ dd≤79→k.dp+dd≤7→V.length+dd≤50→
 (∀(t:Tm) (qs:List (Str×Kd)) (g':Nat→Nat) S',t.dp≤2*dd→t.sz+2≤3*2 ^ dd→Got u (ps++qs) V g g' t k→qs.length≤2 ^ dd→Wt w b m d c u (ps++qs) S'→At w b m d c a V g' S'→Ex (m::d::c::a::V.map (·.1)) S S'→Q t.pv S')→sp [.ref d,.ref w,k.pv,.ref a,.int dd] S E Q
def FnQ (sp:Den) (dd:Nat):Prop:=∀(w b m d c u a:Nat) (ps:List (Str×Kd)) (V:List (Nat×Kd)) (g:Nat→Nat) (k0 k1:Kd) (S:q0h) (E:EK) (Q:VC),Wt w b m d c u ps S→At w b m d c a V g S→ps.length+2 ^ dd≤79→k0.dp≤20→k1.dp+dd≤7→V.length+dd+1≤50→
 (∀(t:Tm) (qs:List (Str×Kd)) (g':Nat→Nat) S',t.dp≤2*dd+1→t.sz+1≤3*2 ^ dd→Got u (ps++qs) V g g' t (.p k0 k1)→qs.length≤2 ^ dd→Wt w b m d c u (ps++qs) S'→At w b m d c a V g' S'→Ex (m::d::c::a::V.map (·.1)) S S'→Q t.pv S')→sp [.ref d,.ref w,.tup [k0.pv,k1.pv],.ref a,.int ((dd+1:Nat):Int)] S E Q
theorem fn_ok2 {sp:Den} {dd:Nat} (ht:TermQ sp dd):FnQ (fnP 5 6 (q4w sp)) dd:=by
 intro w b m d c u a ps V g k0 k1 S E Q hW hA hN d0 d1 hl h
 have gw:=hW.wd
 refine ⟨rfl,?_⟩
 unfold q4w
 refine seqI fun K hK=>?_
 dsimp! [hA.at',gw,wk_uses,q0p]
 have g1:=q3e hA.at' [SO.lst [k0.pv,PV.int u]]
 have g2:=q1v S (SO.lst [k0.pv,PV.int u])
 refine ⟨big (by decide),?_⟩
 dsimp! [q2y g1]
 refine ⟨by rw [List.length_map,List.length_reverse]; exact bigl (by omega),hK _ _ ?_⟩
 have hal:a<S.length:=q1x hA.at'
 obtain ⟨hwl,hbl,hml,hdl,hcl⟩:=hW.lt
 have hna:=hA.ne a (by simp)
 have e1:V.reverse.map (fun x=>PV.ref x.1)++[PV.ref S.length]=((S.length,k0)::V).reverse.map fun x=>PV.ref x.1:=by simp
 rw [e1]
 have hlt:∀x∈V,x.1<S.length:=fun x hx=>q1x (hA.rw' x hx).1
 have xS1:Ex [a] S ((S++[SO.lst [k0.pv,PV.int u]]).set a (.lst (((S.length,k0)::V).reverse.map fun x=>PV.ref x.1))):=((Ex.refl _ _).app _).set (.inl (by simp))
 have hW1:Wt w b m d c u ps ((S++[SO.lst [k0.pv,PV.int u]]).set a (.lst (((S.length,k0)::V).reverse.map fun x=>PV.ref x.1))):=hW.ex (D:=[a]) (((Ex.refl _ _).app _).set (.inl (by simp))) (by simp; exact Ne.symm hna.1) (by simp; exact Ne.symm hna.2.1) (by simp; exact Ne.symm hna.2.2.1) (by simp; exact Ne.symm hna.2.2.2.1) (by simp; exact Ne.symm hna.2.2.2.2)
 have hA1:At w b m d c a ((S.length,k0)::V) (fun r=>if r=S.length then u else g r) ((S++[SO.lst [k0.pv,PV.int u]]).set a (.lst (((S.length,k0)::V).reverse.map fun x=>PV.ref x.1))):=by
  refine ⟨q2q _ g1,fun x hx=>?_,fun r hr=>?_,?_,?_⟩
  ·rcases List.mem_cons.mp hx with z | z
   ·subst z
    refine ⟨?_,d0⟩
    simp only [if_true]
    exact q4h _ g2 (by omega)
   ·obtain ⟨h1,h2⟩:=hA.rw' x z
    have:=hlt x z
    rw [if_neg (by omega)]
    exact ⟨q4h _ (q3e h1 _) (fun e=>hA.na (List.mem_map.mpr ⟨x,z,e.symm⟩)),h2⟩
  ·rcases List.mem_cons.mp hr with z | z
   ·subst z; exact hna
   ·rw [List.map_cons,List.mem_cons] at z
    rcases z with z | z
    ·subst z; exact ⟨by omega,by omega,by omega,by omega,by omega⟩
    ·exact hA.ne r (by simp only [List.mem_cons]; exact .inr z)
  ·rw [List.map_cons,List.mem_cons]
   rintro (z | z)
   ·have:a=S.length:=z
    omega
   ·exact hA.na z
  ·rw [List.map_cons,List.nodup_cons]
   refine ⟨fun z=>?_,hA.nd⟩
   obtain ⟨x,hx,e⟩:=List.mem_map.mp z
   have:=hlt x hx
   have:x.1=S.length:=e
   omega
 generalize hr0:S.length=r0 at hA1 hW1 hlt xS1 ⊢
 generalize (S++[SO.lst [k0.pv,PV.int u]]).set a (.lst (((r0,k0)::V).reverse.map fun x=>PV.ref x.1))=S1 at hW1 hA1 xS1 ⊢
 refine seqI fun K hK=>?_
 dsimp! [q4d]
 rw [show ((dd+1:Nat):Int) - 1=(dd:Int) by omega]
 refine ht w b m d c u a ps _ _ k1 _ _ _ hW1 hA1 hN d1 (by simp; omega) fun t qs g' S2 t1 t2 t3 t4 hW2 hA2 xS2=>hK _ _ ?_
 refine seqI fun K hK=>?_
 have g3:=hA2.at'
 rw [List.reverse_cons,List.map_append,List.map_cons,List.map_nil] at g3
 dsimp! [g3,q2y g3,List.getLast?_append,List.getLast?_singleton,Option.or,Option.some_or,List.dropLast_concat]
 refine hK _ _ ?_
 dsimp! [q0p]
 refine ⟨big (by decide),h (.fn k0.pv t) qs g' _ (by simp only [Tm.dp]; omega) (by simp only [Tm.sz]; omega) ⟨.fn d0 t3.ty,⟨?_,t3.af⟩,fun j x hx=>?_⟩ t4 (hW2.ex (D:=[a]) ((Ex.refl _ _).set (.inl (by simp))) (by simp; exact Ne.symm hna.1) (by simp; exact Ne.symm hna.2.1) (by simp; exact Ne.symm hna.2.2.1) (by simp; exact Ne.symm hna.2.2.2.1) (by simp; exact Ne.symm hna.2.2.2.2)) ⟨q2q _ g3,fun x hx=>?_,hA.ne,hA.na,hA.nd⟩ ?_⟩
 ·have:=t3.us 0 (r0,k0) rfl
  simp only [if_true] at this
  omega
 ·have:=t3.us (j+1) x (by simpa using hx)
  have hxl:=hlt x (List.mem_of_getElem? hx)
  rw [if_neg (by omega)] at this
  exact this
 ·obtain ⟨h1,h2⟩:=hA2.rw' x (List.mem_cons_of_mem _ hx)
  exact ⟨q4h _ h1 (fun e=>hA.na (List.mem_map.mpr ⟨x,hx,e.symm⟩)),h2⟩
 ·have l1:=xS1.1
  have l2:=xS2.1
  have xx:Ex (m::d::c::a::V.map (·.1)) S S2:=⟨by omega,fun i hi ni=>by
   simp only [List.mem_cons,not_or] at ni
   rw [xS2.2 i (by omega) (by
    simp only [List.map_cons,List.mem_cons,not_or]
    exact ⟨ni.1,ni.2.1,ni.2.2.1,ni.2.2.2.1,by omega,ni.2.2.2.2⟩)]
   exact xS1.2 i hi (by simp; exact ni.2.2.2.1)⟩
  exact xx.set (.inl (by simp))
def OfQ (sp:Den) (dd:Nat):Prop:=∀(w b m d c u a:Nat) (ps:List (Str×Kd)) (V:List (Nat×Kd)) (g:Nat→Nat) (k:Kd) (S:q0h) (E:EK) (Q:VC),Wt w b m d c u ps S→At w b m d c a V g S→ps.length+2 ^ (dd+1)≤79→k.dp+dd+1≤7→dd≤4→V.length+dd+1≤50→
 (∀(t:Tm) (qs:List (Str×Kd)) (g':Nat→Nat) S',t.dp≤2*(dd+1)→t.sz+2≤3*2 ^ (dd+1)→Got u (ps++qs) V g g' t k→qs.length≤2 ^ (dd+1)→Wt w b m d c u (ps++qs) S'→At w b m d c a V g' S'→Ex (m::d::c::a::V.map (·.1)) S S'→Q t.pv S')→sp [.ref d,.ref w,k.pv,.ref a,.int ((dd+1:Nat):Int)] S E Q
theorem of_ok2 {sk sn sf st:Den} {dd:Nat} (hk:KindP sk) (hn:NextD sn) (hf:FnQ sf dd) (ht:TermQ st dd):OfQ (fnP 5 8 (q4v sk sn sf st)) dd:=by
 intro w b m d c u a ps V g k S E Q hW hA hN dk d4 hl h
 have gw:=hW.wd
 obtain ⟨ws,gb,hws⟩:=hW.bs
 have e2:2 ^ (dd+1)=2*2 ^ dd:=by rw [Nat.pow_succ]; omega
 refine ⟨rfl,?_⟩
 unfold q4v
 refine seqI fun K hK=>?_
 dsimp! [gw,q5x]
 refine hk d c b ws _ _ _ hW.dk gb (by rintro rfl; simp at hws) hW.ne.2.1.1 hW.ne.2.1.2 fun o S1 o2 hd1 hx1=>hK _ _ ?_
 have hW1:=hW.nx hd1 hx1
 have hA1:=hA.nx hx1
 refine seqI fun K hK=>?_
 dsimp! [true_and]
 refine hn d c _ _ _ hd1 fun way S2 w0 w1 hd2 hx2=>hK _ _ ?_
 have hW2:=hW1.nx hd2 hx2
 have hA2:=hA1.nx hx2
 have hx12:Ex (m::d::c::a::V.map (·.1)) S S2:=(hx1.trans hx2).weak (by simp)
 have last:∀(f:Tm) (qs:List (Str×Kd)) (g1:Nat→Nat) (S3:q0h),f.dp≤2*dd+1→f.sz+1≤3*2 ^ dd→Got u (ps++qs) V g g1 f (.p o k)→qs.length≤2 ^ dd→Wt w b m d c u (ps++qs) S3→At w b m d c a V g1 S3→Ex (m::d::c::a::V.map (·.1)) S S3→wRet (wTup (q0d (wC (.str (Str.ofString "of"))) (q0d (wVar 7) (q0d (q0s st (q0d (wVar 0) (q0d (wVar 1) (q0d (wVar 5) (q0d (wVar 3) (q0d (wBin bSub (wVar 4) (wC (.int 1))) wNil)))))) wNil)))) { nx:=fun _ S'=>Q .non S',rt:=Q } E [some (.ref d),some (.ref w),some k.pv,some (.ref a),some (.int ((dd+1:Nat):Int)),some o.pv,some (.int way),some f.pv] S3:=by
  intro f qs g1 S3 f1 f2 f3 f4 hW3 hA3 hx3
  dsimp! [true_and]
  rw [show ((dd+1:Nat):Int) - 1=(dd:Int) by omega]
  refine ht w b m d c u a _ V g1 o _ _ _ hW3 hA3 (by rw [List.length_append]; omega) (by omega) (by omega) fun t rs g2 S4 t1 t2 t3 t4 hW4 hA4 hx4=>⟨big (by decide),h (.ap f t) (qs++rs) g2 S4 (by simp only [Tm.dp]; omega) (by simp only [Tm.sz]; omega) ⟨?_,⟨f3.af,t3.af⟩,fun j x hx=>?_⟩ (by rw [List.length_append]; omega) (by rw [←List.append_assoc]; exact hW4) hA4 (hx3.trans hx4)⟩
  ·rw [←List.append_assoc]
   exact .ap f3.ty.mono t3.ty
  ·have h1:=f3.us j x hx
   have h2:=t3.us j x hx
   simp only [oc]
   omega
 refine seqI fun K hK=>?_
 dsimp! [true_and]
 refine ⟨by decide,ite2 (fun z=>?_) (fun z=>?_)⟩
 ·refine ⟨big (by decide),?_⟩
  refine hf w b m d c u a ps V g o k _ _ _ hW2 hA2 (by omega) (by omega) (by omega) (by omega) fun f qs g1 S3 f1 f2 f3 f4 hW3 hA3 hx3=>hK _ _ (last f qs g1 S3 f1 f2 f3 f4 hW3 hA3 (hx12.trans hx3))
 ·refine ⟨big (by decide),?_⟩
  rw [show ((dd+1:Nat):Int) - 1=(dd:Int) by omega]
  exact ht w b m d c u a ps V g (.p o k) _ _ _ hW2 hA2 (by omega) (by simp only [Kd.dp]; omega) (by omega) fun f qs g1 S3 f1 f2 f3 f4 hW3 hA3 hx3=>hK _ _ (last f qs g1 S3 (by omega) (by omega) f3 f4 hW3 hA3 (hx12.trans hx3))
theorem nd_inj {l:List Nat} (nd:l.Nodup) {i j:Nat} (hi:i<l.length) (hj:j<l.length) (e:l[i]=l[j]):i=j:=by
 rw [←List.Nodup.idxOf_getElem nd i hi,e,List.Nodup.idxOf_getElem nd j hj]
theorem term_ok2 {sn sf so sl:Den} {dd:Nat} (hn:NextD sn) (hl:LoneQ sl) (hf:∀e,dd=e+1→FnQ sf e) (ho:∀e,dd=e+1→OfQ so e) (h5:dd≤5):TermQ (fnP 5 8 (q3w sn sf so sl)) dd:=by
 intro w b m d c u a ps V g k S E Q hW hA hN dk hrl h
 have p1:1≤2 ^ dd:=Nat.one_le_two_pow
 refine ⟨rfl,?_⟩
 unfold q3w
 refine seqI fun K hK=>?_
 dsimp! [true_and]
 refine hn d c _ _ _ hW.dk fun way S1 w0 w1 hd1 hx1=>hK _ _ ?_
 have hW1:=hW.nx hd1 hx1
 have hA1:=hA.nx hx1
 clear hK K
 have tail:∀(S3:q0h) (j6 j7:Option PV),Wt w b m d c u ps S3→At w b m d c a V g S3→Ex (m::d::c::a::V.map (·.1)) S S3→wSeq (wIfS (wAnd (q0y (wBin cGt (wVar 4) (wC (.int 0)))) (wAnd (wTru (wCB fIsi (q0d (wVar 2) (q0d (wC (.ty "tuple")) wNil)))) (q0y (wBin cGt (wBin bMod (wVar 5) (wC (.int 8))) (wC (.int 4))))))
   (wRet (q0s sf (q0d (wVar 0) (q0d (wVar 1) (q0d (wVar 2) (q0d (wVar 3) (q0d (wVar 4) wNil)))))))
   q2a)
   (wSeq (wIfS (wAnd (q0y (wBin cGt (wVar 4) (wC (.int 0)))) (q0y (wBin cGt (wBin bMod (wVar 5) (wC (.int 8))) (wC (.int 0)))))
   (wRet (q0s so (q0d (wVar 0) (q0d (wVar 1) (q0d (wVar 2) (q0d (wVar 3) (q0d (wVar 4) wNil)))))))
   q2a)
   (wRet (q0s sl (q0d (wVar 1) (q0d (wVar 2) (q0d (wBin q4l (wVar 5) (wC (.int 8))) wNil)))))) { nx:=fun _ S'=>Q .non S',rt:=Q } E [some (.ref d),some (.ref w),some k.pv,some (.ref a),some (.int dd),some (.int way),j6,j7] S3:=by
  intro S3 j6 j7 hW3 hA3 hx3
  have lone:wRet (q0s sl (q0d (wVar 1) (q0d (wVar 2) (q0d (wBin q4l (wVar 5) (wC (.int 8))) wNil)))) { nx:=fun _ S'=>Q .non S',rt:=Q } E [some (.ref d),some (.ref w),some k.pv,some (.ref a),some (.int dd),some (.int way),j6,j7] S3:=by
   dsimp! [true_and]
   refine ⟨⟨by decide,by decide⟩,?_⟩
   exact hl w b m d c u ps k _ _ _ _ hW3 (by omega) (by omega) fun t qs S4 t1 t2 t3 t4 t5 t6 hW4 hx4=>h t qs g S4 (by omega) (by omega) ⟨t3 _,t5,fun j x hx=>by rw [t4 j]; omega⟩ (by omega) hW4 (hA3.ex hx4) (hx3.trans (hx4.weak (by simp)))
  cases dd with
  | zero=>
   refine seqI fun K hK=>?_
   have e0:((0:Int)<((0:Nat):Int))=False:=eq_false (by omega)
   dsimp! [e0]
   refine hK _ _ ?_
   refine seqI fun K hK=>?_
   dsimp! [e0]
   exact hK _ _ lone
  | succ e=>
   have e0:((0:Int)<((e+1:Nat):Int))=True:=eq_true (by omega)
   have second:wSeq (wIfS (wAnd (q0y (wBin cGt (wVar 4) (wC (.int 0)))) (q0y (wBin cGt (wBin bMod (wVar 5) (wC (.int 8))) (wC (.int 0)))))
     (wRet (q0s so (q0d (wVar 0) (q0d (wVar 1) (q0d (wVar 2) (q0d (wVar 3) (q0d (wVar 4) wNil)))))))
     q2a)
     (wRet (q0s sl (q0d (wVar 1) (q0d (wVar 2) (q0d (wBin q4l (wVar 5) (wC (.int 8))) wNil))))) { nx:=fun _ S'=>Q .non S',rt:=Q } E [some (.ref d),some (.ref w),some k.pv,some (.ref a),some (.int ((e+1:Nat):Int)),some (.int way),j6,j7] S3:=by
    refine seqI fun K hK=>?_
    dsimp! [e0]
    refine ⟨by decide,ite2 (fun z=>?_) (fun z=>hK _ _ lone)⟩
    exact ho e rfl w b m d c u a ps V g k _ _ _ hW3 hA3 hN (by omega) (by omega) (by omega) fun t qs g' S4 t1 t2 t3 t4 hW4 hA4 hx4=>h t qs g' S4 t1 t2 t3 t4 hW4 hA4 (hx3.trans hx4)
   refine seqI fun K hK=>?_
   cases k with
   | a s=>
    dsimp! [e0,Kd.pv]
    exact hK _ _ second
   | p k0 k1=>
    simp only [Kd.dp] at dk
    dsimp! [e0,Kd.pv]
    refine ⟨by decide,ite2 (fun z=>?_) (fun z=>hK _ _ second)⟩
    have e2:2 ^ (e+1)=2*2 ^ e:=by rw [Nat.pow_succ]; omega
    exact hf e rfl w b m d c u a ps V g k0 k1 _ _ _ hW3 hA3 (by omega) (by omega) (by omega) (by omega) fun t qs g' S4 t1 t2 t3 t4 hW4 hA4 hx4=>h t qs g' S4 (by omega) (by omega) t3 (by omega) hW4 hA4 (hx3.trans hx4)
 refine seqI fun K hK=>?_
 dsimp! [q1a hA1.at',List.length_map,List.length_reverse]
 rw [Int.toNat_natCast]
 refine ⟨⟨by omega,by omega⟩,by rw [q7n]; exact big (by omega),?_⟩
 have hAt:∀j:Nat,j<V.length→∃x,x∈V∧V[V.length - 1 - j]?=some x∧atI (V.reverse.map fun x=>PV.ref x.1) (j:Int)=some (.ref x.1):=fun j hj=>by
  have h1:V.length - 1 - j<V.length:=by omega
  refine ⟨V[V.length - 1 - j],List.getElem_mem _,List.getElem?_eq_getElem h1,?_⟩
  rw [q7k _ j (by simpa using hj),List.getElem_map,List.getElem_reverse]
 refine compI (fun rest ys σ S2=>∃(is:List Nat) (j1:Option PV),ys=encI is∧(∀i∈is,i<V.length∧∃x,V[V.length - 1 - i]?=some x∧x.2=k∧0<g x.1)∧is.length+rest.length≤V.length∧(∀x∈rest,∃j:Nat,j<V.length∧x=.int j)∧σ=[j1,some k.pv,some (.ref a)]∧S2=S1) ?_ ?_ _ _ _ _ ⟨[],none,rfl,by simp,by rw [q7n]; simp,fun x hx=>rng_mem hx,rfl,rfl⟩
 ·rintro ys σ S2 ⟨is,j1,rfl,hi,hil,-,rfl,rfl⟩
  refine ⟨trivial,hK _ _ ?_⟩
  simp only [List.length_nil,Nat.add_zero] at hil
  have hlI:(encI is).length=is.length:=by simp [encI]
  have g1:=q1v S2 (.lst (encI is))
  have hxA:Ex [] S2 (S2++[SO.lst (encI is)]):=Ex.new _ _ _
  have g1':=q3e g1 [SO.lst []]
  have hxB:Ex [] S2 (S2++[SO.lst (encI is)]++[SO.lst []]):=hxA.app _
  have hWB:=hW1.ex hxB (by simp) (by simp) (by simp) (by simp) (by simp)
  have hAB:=hA1.ex hxB.nil
  have hxT:Ex (m::d::c::a::V.map (·.1)) S (S2++[SO.lst (encI is)]++[SO.lst []]):=(hx1.weak (by simp)).trans hxB.nil
  refine seqI fun K hK=>?_
  dsimp! [q1a g1',eqBs_encI]
  refine ⟨big (by decide),okEqs_encI is,ite2 (fun z=>?_) (fun z=>hK _ _ (tail _ _ _ hWB hAB hxT))⟩
  have hne:is≠[]:=by rintro rfl; simp at z
  have go:∀K0:Ev.Loc→q0h→Prop,wSeq (wSet 7 (wBin bIx (wVar 6) (wBin bMod (wBin q4l (wVar 5) (wC (.int 8))) (wCB fLen (q0d (wVar 6) wNil)))))
    (wSeq (wAsg (wBin bSub (wBin bIx (wBin bIx (wVar 3) (wVar 7)) (wC (.int 1))) (wC (.int 1))) (q8a (wBin bIx (wVar 3) (wVar 7)) (wC (.int 1)) sSet))
    (wRet (wTup (q0d (wC (.str (Str.ofString "bound"))) (q0d (wBin bSub (wBin bSub (wCB fLen (q0d (wVar 3) wNil)) (wC (.int 1))) (wVar 7)) wNil))))) { nx:=K0,rt:=Q } E [some (.ref d),some (.ref w),some k.pv,some (.ref a),some (.int dd),some (.int way),some (.ref S2.length),none] (S2++[SO.lst (encI is)]++[SO.lst []]):=by
   intro K0
   refine seqI fun K2 hK2=>?_
   obtain ⟨y,hy,hat⟩:=atI_modN (i:=way / 8) hne
   have hpos:0<is.length:=List.length_pos_iff.mpr hne
   dsimp! [g1',q1a g1',hlI,hat]
   refine ⟨⟨by decide,by decide⟩,by omega,hK2 _ _ ?_⟩
   obtain ⟨hyl,x0,hx0,hk0,hg0⟩:=hi y hy
   obtain ⟨x,hx,hxg,har⟩:=hAt y hyl
   have exx:x0=x:=by rw [hx0] at hxg; exact Option.some.inj hxg
   subst exx
   obtain ⟨gr,dr⟩:=hAB.rw' x0 hx
   refine seqI fun K2 hK2=>?_
   have ix1:ixN 2 1=some 1:=ixN_nat 2 1 (by decide)
   dsimp! [hAB.at',har,gr,q4d,ix1]
   refine hK2 _ _ ?_
   have hmem:x0.1∈V.map (·.1):=List.mem_map.mpr ⟨x0,hx,rfl⟩
   have hna:=hAB.ne x0.1 (List.mem_cons_of_mem _ hmem)
   rw [show ((g x0.1:Nat):Int) - 1=((g x0.1 - 1:Nat):Int) by omega]
   have gr2:=q2q (.lst [x0.2.pv,PV.int ((g x0.1 - 1:Nat):Int)]) gr
   have hra:x0.1≠a:=fun e=>hAB.na (by rw [←e]; exact hmem)
   have ha2:=q4h (j:=x0.1) (.lst [x0.2.pv,PV.int ((g x0.1 - 1:Nat):Int)]) hAB.at' hra
   dsimp! [q1a ha2,List.length_map,List.length_reverse]
   rw [show (V.length:Int) - 1 - (y:Int)=((V.length - 1 - y:Nat):Int) by omega]
   refine ⟨big (by decide),h (.bd (V.length - 1 - y)) [] (fun r=>if r=x0.1 then g r - 1 else g r) _ (by simp only [Tm.dp]; omega) (by simp only [Tm.sz]; omega) ⟨.bd ?_,trivial,fun j x hxj=>?_⟩ (by simp) (by
    rw [List.append_nil]
    exact hWB.ex (D:=[x0.1]) ((Ex.refl _ _).set (.inl (by simp))) (by simp; exact Ne.symm hna.1) (by simp; exact Ne.symm hna.2.1) (by simp; exact Ne.symm hna.2.2.1) (by simp; exact Ne.symm hna.2.2.2.1) (by simp; exact Ne.symm hna.2.2.2.2)) ⟨ha2,fun x hx'=>?_,hAB.ne,hAB.na,hAB.nd⟩ (hxT.set (.inl (by simp only [List.mem_cons]; exact .inr (.inr (.inr (.inr hmem))))))⟩
   ·rw [List.getElem?_map,hx0,Option.map_some,hk0]
   ·simp only [oc]
    by_cases e:V.length - 1 - y=j
    ·subst e
     rw [hx0] at hxj
     cases hxj
     rw [if_pos rfl,if_pos rfl]
     omega
    ·rw [if_neg e,if_neg (fun e2=>?_)]
     ·omega
     ·have n1:(V.map (·.1))[V.length - 1 - y]?=some x0.1:=by rw [List.getElem?_map,hx0,Option.map_some]
      have n2:(V.map (·.1))[j]?=some x0.1:=by rw [List.getElem?_map,hxj,Option.map_some,e2]
      obtain ⟨l1,q1⟩:=List.getElem?_eq_some_iff.mp n1
      obtain ⟨l2,q2⟩:=List.getElem?_eq_some_iff.mp n2
      exact e (nd_inj hA.nd l1 l2 (q1.trans q2.symm))
   ·by_cases e:x.1=x0.1
    ·have:x=x0:=by
      obtain ⟨i,hi1,hi2⟩:=List.getElem_of_mem hx'
      obtain ⟨i',hi1',hi2'⟩:=List.getElem_of_mem hx
      have:i=i':=nd_inj hA.nd (by simpa using hi1) (by simpa using hi1') (by simp [hi2,hi2',e])
      subst this
      rw [←hi2,←hi2']
     subst this
     rw [if_pos rfl]
     exact ⟨gr2,dr⟩
    ·rw [if_neg e]
     obtain ⟨h1,h2⟩:=hAB.rw' x hx'
     exact ⟨q4h _ h1 (Ne.symm e),h2⟩
  refine ⟨by decide,ite2 (fun z=>go _) (fun z=>ite2 (fun z=>go _) (fun z=>hK _ _ (tail _ _ _ hWB hAB hxT)))⟩
 ·rintro x rest ys σ S2 ⟨is,j1,rfl,hi,hil,hx,rfl,rfl⟩ N2 hN2
  obtain ⟨j,hj,rfl⟩:=hx x (by simp)
  rw [List.length_cons] at hil
  refine ⟨trivial,?_⟩
  obtain ⟨y,hy,hyg,har⟩:=hAt j hj
  obtain ⟨gr,dr⟩:=hA1.rw' y hy
  dsimp! [hA1.at',har,gr,q0p,q4d]
  have nxt:N2 (encI is) [some (.int j),some k.pv,some (.ref a)] S2:=hN2 _ _ _ ⟨is,_,rfl,hi,by omega,fun x z=>hx x (by simp [z]),rfl,rfl⟩
  have nxt2:y.2=k→0<g y.1→N2 (encI is++[PV.int j]) [some (.int j),some k.pv,some (.ref a)] S2:=fun q1 q2=>hN2 _ _ _ ⟨is++[j],_,by simp [encI],fun i z=>by
   rcases List.mem_append.mp z with z | z
   ·exact hi i z
   ·simp at z; subst z; exact ⟨hj,y,hyg,q1,q2⟩,by simp; omega,fun x z=>hx x (by simp [z]),rfl,rfl⟩
  refine cEq_kd dr (by omega) ?_
  dsimp! [hA1.at',har,gr,q4d]
  exact ite2 (fun z=>ite2 (fun z2=>nxt2 z (by omega)) (fun z=>nxt)) (fun z=>nxt)
def q2f (spLnext:Den) (spLexchanged:Den) (spLkind:Den) (spLterm:Den):WS:=
 (wSeq (wSet 3 (wBin bMod (q0s spLnext (q0d (wVar 0) wNil)) (wC (.int 8))))
 (wSeq (wIfS (wAnd (q0y (wBin cEq (wBin bIx (wVar 2) (wC (.int 0))) (wC (.str (Str.ofString "fn"))))) (q0y (wBin cGt (wVar 3) (wC (.int 2)))))
 (wRet (wTup (q0d (wC (.str (Str.ofString "fn"))) (q0d (wBin bIx (wVar 2) (wC (.int 1))) (q0d (q0s spLexchanged (q0d (wVar 0) (q0d (wVar 1) (q0d (wBin bIx (wVar 2) (wC (.int 2))) wNil)))) wNil)))))
 q2a)
 (wSeq (wIfS (wAnd (q0y (wBin cEq (wBin bIx (wVar 2) (wC (.int 0))) (wC (.str (Str.ofString "of"))))) (q0y (wBin cGt (wVar 3) (wC (.int 4)))))
 (wRet (wTup (q0d (wC (.str (Str.ofString "of"))) (q0d (q0s spLexchanged (q0d (wVar 0) (q0d (wVar 1) (q0d (wBin bIx (wVar 2) (wC (.int 1))) wNil)))) (q0d (wBin bIx (wVar 2) (wC (.int 2))) wNil)))))
 q2a)
 (wSeq (wIfS (wAnd (q0y (wBin cEq (wBin bIx (wVar 2) (wC (.int 0))) (wC (.str (Str.ofString "of"))))) (q0y (wBin cGt (wVar 3) (wC (.int 1)))))
 (wRet (wTup (q0d (wC (.str (Str.ofString "of"))) (q0d (wBin bIx (wVar 2) (wC (.int 1))) (q0d (q0s spLexchanged (q0d (wVar 0) (q0d (wVar 1) (q0d (wBin bIx (wVar 2) (wC (.int 2))) wNil)))) wNil)))))
 q2a)
 (wSeq (wIfS (q0y (wBin cEq (wBin bIx (wVar 2) (wC (.int 0))) (wC (.str (Str.ofString "fn")))))
 (wRet (wTup (q0d (wC (.str (Str.ofString "fn"))) (q0d (q0s spLkind (q0d (wVar 0) (q0d (wBin bIx (wVar 1) (wC (.str (Str.ofString "basics")))) (q0d (wC (.int 1)) wNil)))) (q0d (wBin bIx (wVar 2) (wC (.int 2))) wNil)))))
 q2a)
 (wSeq (wIfS (wAnd (q0y (wBin cEq (wBin bIx (wVar 2) (wC (.int 0))) (wC (.str (Str.ofString "of"))))) (q0y (wBin cEq (wVar 3) (wC (.int 0)))))
 (wRet (wTup (q0d (wC (.str (Str.ofString "of"))) (q0d (wBin bIx (wVar 2) (wC (.int 2))) (q0d (wBin bIx (wVar 2) (wC (.int 1))) wNil)))))
 q2a)
 (wRet (q0s spLterm (q0d (wVar 0) (q0d (wVar 1) (q0d (q0s spLkind (q0d (wVar 0) (q0d (wBin bIx (wVar 1) (wC (.str (Str.ofString "basics")))) (q0d (wC (.int 2)) wNil)))) (q0d (wLst wNil) (q0d (wC (.int 1)) wNil)))))))))))))
def ci (p:List Nat):List Int:=p.map fun x:Nat=>(x:Int)
theorem pl_pls {t:Tm} {p:List Nat} (h:Pl t p):ci p∈pls t:=by
 induction h with
 | here k b a=>simp [pls,isFn,ci]
 | fn k t p _ ih=>simp only [pls]; exact List.mem_map.mpr ⟨_,ih,rfl⟩
 | l f a p _ ih=>simp only [pls,List.mem_append]; exact .inr (.inl (List.mem_map.mpr ⟨_,ih,rfl⟩))
 | r f a p _ ih=>simp only [pls,List.mem_append]; exact .inr (.inr (List.mem_map.mpr ⟨_,ih,rfl⟩))
theorem nf_of {t:Tm} (h:pls t=[]):Nf t:=fun u hu=>by
 obtain ⟨p,hp,_⟩:=R_pl hu
 have:=pl_pls hp
 rw [h] at this
 cases this
inductive StepL:Tm→List Tm→Prop
 | stop {t:Tm}:pls t=[]→StepL t [t]
 | go {t:Tm} {p:List Nat} {qs:List (List Int)} {L:List Tm}:pls t=ci p::qs→Pl t p→StepL (dn t p) L→StepL t (t::L)
theorem StepL.last {t:Tm} {L:List Tm} (h:StepL t L):∃M u,L=M++[u]∧Rs t u∧Nf u:=by
 induction h with
 | stop h=>exact ⟨[],_,rfl,.nil _,nf_of h⟩
 | go h hp _ ih=>
  obtain ⟨M,u,rfl,h1,h2⟩:=ih
  exact ⟨_::M,u,rfl,.cons (pl_R hp) h1,h2⟩
def Kind1P (sp:Den):Prop:=∀(d c b:Nat) (ws:List Str) (S:q0h) (E:EK) (Q:VC),Deck d c S→S[b]?=some (.lst (ws.map PV.str))→ws≠[]→b≠d→b≠c→(∀(k:Kd) S',k.dp≤1→Deck d c S'→Ex [d,c] S S'→Q k.pv S')→sp [.ref d,.ref b,.int 1] S E Q
theorem fresh_at {w b m d c u:Nat} {ps:List (Str×Kd)} {S:q0h} (h:Wt w b m d c u ps S) (g:Nat→Nat):At w b m d c S.length [] g (S++[SO.lst []]):=by
 have hl:=h.lt
 exact ⟨q1v _ _,by simp,fun r hr=>by simp at hr; subst hr; exact ⟨by omega,by omega,by omega,by omega,by omega⟩,by simp,by simp⟩
def q1g (spLkind_of_form:Den):WS:=
 (wSeq (wIfS (q0y (wBin cEq (wBin bIx (wVar 0) (wC (.int 0))) (wC (.str (Str.ofString "basic")))))
 (wRet (wBin bIx (wVar 0) (wC (.int 1))))
 q2a)
 (wRet (wTup (q0d (q0s spLkind_of_form (q0d (wBin bIx (wVar 0) (wC (.int 2))) wNil)) (q0d (q0s spLkind_of_form (q0d (wBin bIx (wVar 0) (wC (.int 1))) wNil)) wNil)))))
def q1e (spLkind_of_form:Den) (spLkind_of:Den):WS:=
 (wSeq (wIfS (q0y (wBin cEq (wBin bIx (wVar 1) (wC (.int 0))) (wC (.str (Str.ofString "name")))))
 (wRet (wBM "dict" mGet (wVar 0) (q0d (wBin bIx (wVar 1) (wC (.int 1))) wNil)))
 q2a)
 (wSeq (wIfS (q0y (wBin cEq (wBin bIx (wVar 1) (wC (.int 0))) (wC (.str (Str.ofString "leaf")))))
 (wRet (q0s spLkind_of_form (q0d (wBin bIx (wVar 1) (wC (.int 2))) wNil)))
 q2a)
 (wSeq (wIfS (q0y (wBin cEq (wBin bIx (wVar 1) (wC (.int 0))) (wC (.str (Str.ofString "bound")))))
 (wRet (wBin bIx (wVar 2) (wBin bSub (wNeg (wC (.int 1))) (wBin bIx (wVar 1) (wC (.int 1))))))
 q2a)
 (wSeq (wIfS (q0y (wBin cEq (wBin bIx (wVar 1) (wC (.int 0))) (wC (.str (Str.ofString "fn")))))
 (wSeq (wSet 3 (q0s spLkind_of (q0d (wVar 0) (q0d (wBin bIx (wVar 1) (wC (.int 2))) (q0d (wBin bAdd (wVar 2) (wLst (q0d (wBin bIx (wVar 1) (wC (.int 1))) wNil))) wNil)))))
 (wSeq (wIfS (q0y (wBin cIs (wVar 3) (wC .non)))
 (wRet (wC .non))
 q2a)
 (wRet (wTup (q0d (wBin bIx (wVar 1) (wC (.int 1))) (q0d (wVar 3) wNil))))))
 q2a)
 (wSeq (wSet 4 (q0s spLkind_of (q0d (wVar 0) (q0d (wBin bIx (wVar 1) (wC (.int 1))) (q0d (wVar 2) wNil)))))
 (wSeq (wSet 5 (q0s spLkind_of (q0d (wVar 0) (q0d (wBin bIx (wVar 1) (wC (.int 2))) (q0d (wVar 2) wNil)))))
 (wSeq (wIfS (wOr (q0y (wBin cIs (wVar 4) (wC .non))) (wOr (q0y (wBin cIs (wVar 5) (wC .non))) (wOr (wTru (wCB fIsi (q0d (wVar 4) (q0d (wC (.ty "str")) wNil)))) (q0y (wBin cNe (wBin bIx (wVar 4) (wC (.int 0))) (wVar 5))))))
 (wRet (wC .non))
 q2a)
 (wRet (wBin bIx (wVar 4) (wC (.int 1)))))))))))
theorem ty_rs {ps:List (Str×Kd)} {e:List Kd} {t:Tm} {k:Kd} (h:Ty ps e t k):∀e1 e' e2,e=e1++e2→Ty ps (e1++e'++e2) (rs t e'.length e1.length) k:=by
 induction h with
 | nm h=>intro e1 e' e2 _; exact .nm h
 | lf n h g=>intro e1 e' e2 _; exact .lf n h g
 | @bd e j k h=>
  rintro e1 e' e2 rfl
  rw [rs_bd]
  split
  ·rename_i hl
   rw [List.getElem?_append_left hl] at h
   exact .bd (by rw [List.append_assoc,List.getElem?_append_left hl]; exact h)
  ·rename_i hl
   rw [List.getElem?_append_right (by omega)] at h
   refine .bd ?_
   rw [List.getElem?_append_right (by simp; omega)]
   rw [←h]
   congr 1
   simp; omega
 | fn h _ ih=>
  rintro e1 e' e2 rfl
  exact .fn h (ih (_::e1) e' e2 rfl)
 | ap _ _ i1 i2=>
  rintro e1 e' e2 rfl
  exact .ap (i1 e1 e' e2 rfl) (i2 e1 e' e2 rfl)
theorem ty_sb {ps:List (Str×Kd)} {e:List Kd} {t:Tm} {k:Kd} (h:Ty ps e t k):∀e1 k0 e2 (a:Tm),e=e1++k0::e2→Ty ps e2 a k0→Ty ps (e1++e2) (sb t e1.length a) k:=by
 induction h with
 | nm h=>intro e1 k0 e2 a _ _; exact .nm h
 | lf n h g=>intro e1 k0 e2 a _ _; exact .lf n h g
 | @bd e j k h=>
  rintro e1 k0 e2 a rfl ha
  rcases Nat.lt_trichotomy j e1.length with z | z | z
  ·rw [sb_lt z]
   rw [List.getElem?_append_left z] at h
   exact .bd (by rw [List.getElem?_append_left z]; exact h)
  ·subst z
   rw [List.getElem?_append_right (Nat.le_refl _),Nat.sub_self,List.getElem?_cons_zero] at h
   cases h
   rw [sb_eq]
   exact ty_rs ha [] e1 e2 rfl
  ·rw [sb_gt z]
   rw [List.getElem?_append_right (by omega),show j - e1.length=(j - 1 - e1.length)+1 by omega,List.getElem?_cons_succ] at h
   exact .bd (by rw [List.getElem?_append_right (by omega)]; exact h)
 | fn h _ ih=>
  rintro e1 k0 e2 a rfl ha
  exact .fn h (ih (_::e1) k0 e2 a rfl ha)
 | ap _ _ i1 i2=>
  rintro e1 k0 e2 a rfl ha
  exact .ap (i1 e1 k0 e2 a rfl ha) (i2 e1 k0 e2 a rfl ha)
theorem R_ty {ps:List (Str×Kd)} {t u:Tm} (h:R t u):∀{e:List Kd} {k:Kd},Ty ps e t k→Ty ps e u k:=by
 induction h with
 | be kk b a=>
  intro e k ht
  cases ht with
  | ap h1 h2=>cases h1 with
   | fn _ h3=>exact ty_sb h3 [] _ e a rfl h2
 | fn kk _ ih=>
  intro e k ht
  cases ht with
  | fn h1 h2=>exact .fn h1 (ih h2)
 | l a _ ih=>
  intro e k ht
  cases ht with
  | ap h1 h2=>exact .ap (ih h1) h2
 | r f _ ih=>
  intro e k ht
  cases ht with
  | ap h1 h2=>exact .ap h1 (ih h2)
theorem kfk_ok {T:Nat→Den} (hT:∀n,T (n+1)=fnP 1 1 (q1g (T n))) {f:PV} {k:Kd} (hf:FK f k):∀(n:Nat),k.dp<n→∀(S:q0h) (E:EK) (Q:VC),Q k.pv S→T n [f] S E Q:=by
 induction hf with
 | b s=>
  intro n hn S E Q h
  obtain ⟨m,rfl⟩:∃m,n=m+1:=⟨n - 1,by omega⟩
  rw [hT]
  refine ⟨rfl,?_⟩
  unfold q1g
  dsimp! [wSeq,q0p,q4d]
  exact h
 | n l _ _ ix iy=>
  intro n hn S E Q h
  simp only [Kd.dp] at hn
  obtain ⟨m,rfl⟩:∃m,n=m+1:=⟨n - 1,by omega⟩
  rw [hT]
  refine ⟨rfl,?_⟩
  unfold q1g
  have e0:((if l=true then Str.ofString "\\" else Str.ofString "/")=Str.ofString "basic")=False:=by cases l<;>(simp only [eq_iff_iff,iff_false,if_true,Bool.false_eq_true,if_false]; decide +kernel)
  dsimp! [wSeq,q0p,q4d,q6s,e0]
  refine iy m (by omega) _ _ _ ?_
  refine ix m (by omega) _ _ _ ?_
  exact ⟨big (by decide),h⟩
theorem Ty.dp {ps:List (Str×Kd)} {e:List Kd} {t:Tm} {k:Kd} (h:Ty ps e t k):(∀p∈ps,p.2.dp≤20)→(∀x∈e,x.dp≤20)→k.dp≤20+t.dp:=by
 induction h with
 | @nm e w k h=>
  intro h1 _
  unfold lkN at h
  cases q:ps.find? fun p=>decide (p.1=w) with
  | none=>rw [q] at h; cases h
  | some p=>
   rw [q] at h
   cases h
   have:=h1 p (List.mem_of_find?_eq_some q)
   simp only [Tm.dp]; omega
 | lf n h g=>intro _ _; simp only [Tm.dp]; omega
 | bd h=>intro _ h2; have:=h2 _ (List.mem_of_getElem? h); simp only [Tm.dp]; omega
 | fn h _ ih=>
  intro h1 h2
  have:=ih h1 (fun x hx=>by
   rcases List.mem_cons.mp hx with z | z
   ·subst z; exact h
   ·exact h2 x z)
  simp only [Kd.dp,Tm.dp]; omega
 | ap _ _ i1 i2=>
  intro h1 h2
  have:=i1 h1 h2
  simp only [Kd.dp] at this
  simp only [Tm.dp]; omega
theorem tg_nl:(Str.ofString "leaf" = Str.ofString "name")=False:=eq_false (by decide +kernel)
theorem tg_nb:(Str.ofString "bound" = Str.ofString "name")=False:=eq_false (by decide +kernel)
theorem tg_nf:(Str.ofString "fn" = Str.ofString "name")=False:=eq_false (by decide +kernel)
theorem tg_no:(Str.ofString "of" = Str.ofString "name")=False:=eq_false (by decide +kernel)
theorem tg_lb:(Str.ofString "bound" = Str.ofString "leaf")=False:=eq_false (by decide +kernel)
theorem tg_lf:(Str.ofString "fn" = Str.ofString "leaf")=False:=eq_false (by decide +kernel)
theorem tg_lo:(Str.ofString "of" = Str.ofString "leaf")=False:=eq_false (by decide +kernel)
theorem q7l (p:Key×PV) (r:List (Key×PV)) (k:Key):valP (p::r) k=if p.1=k then some p.2 else valP r k:=by
 unfold valP
 rw [List.find?_cons]
 by_cases h:p.1=k
 ·rw [if_pos h,decide_eq_true h]; rfl
 ·rw [if_neg h,decide_eq_false h]
theorem vP_other (kvs:List (Key×PV)) (k k':Key) (v:PV) (h:k'≠k):valP (putP kvs k v) k'=valP kvs k':=by
 have hk:¬k=k':=fun z=>h z.symm
 unfold putP
 split
 ·rename_i hh
  clear hh
  induction kvs with
  | nil=>rfl
  | cons p r ih=>
   rw [List.map_cons,q7l,q7l]
   by_cases z:p.1=k
   ·have:¬p.1=k':=by rw [z]; exact hk
    rw [if_pos z,if_neg this,if_neg this,ih]
   ·rw [if_neg z,ih]
 ·rename_i hh
  clear hh
  induction kvs with
  | nil=>simp [valP,hk]
  | cons p r ih=>rw [List.cons_append,q7l,q7l]; simp_all
theorem vP_same (kvs:List (Key×PV)) (k:Key) (v:PV):valP (putP kvs k v) k=some v:=by
 unfold putP
 split
 ·rename_i h
  induction kvs with
  | nil=>simp at h
  | cons p r ih=>
   rw [List.map_cons,q7l]
   by_cases z:p.1=k
   ·simp [z]
   ·rw [if_neg z,if_neg z]
    refine ih ?_
    rw [List.any_cons,decide_eq_false z,Bool.false_or] at h
    exact h
 ·rename_i h
  induction kvs with
  | nil=>simp [valP]
  | cons p r ih=>
   rw [List.cons_append,q7l]
   simp_all
theorem pP_len (kvs:List (Key×PV)) (k:Key) (v:PV):(putP kvs k v).length≤kvs.length+1:=by
 unfold putP
 split<;>simp
structure Th (ps:List (Str×Kd)) (k:Kd) (t:Tm):Prop where
 af:af 1 t
 ty:Ty ps [] t k
 nd:t.nd≤93
 sz:t.sz≤94
theorem Th.gd {ps:List (Str×Kd)} {k:Kd} {t:Tm} (h:Th ps k t):t.gd 0:=h.ty.gd
theorem Th.r {ps:List (Str×Kd)} {k:Kd} {t u:Tm} (h:Th ps k t) (r:R t u):Th ps k u:=by
 obtain ⟨a,_,b,c⟩:=R_af r h.af
 have:=h.nd
 have:=h.sz
 exact ⟨a,R_ty r h.ty,by omega,by omega⟩
theorem Th.rs {ps:List (Str×Kd)} {k:Kd} {t u:Tm} (h:Th ps k t) (r:Rs t u):Th ps k u:=by
 induction r with
 | nil=>exact h
 | cons h1 _ ih=>exact ih (h.r h1)
theorem StepL.at {t:Tm} {L:List Tm} (h:StepL t L):∀i u,L[i]?=some u→Rs t u∧((pls u=[]∧i+1=L.length)∨∃p qs,pls u=ci p::qs∧Pl u p∧L[i+1]?=some (dn u p)):=by
 induction h with
 | @stop t h=>
  intro i u hi
  cases i with
  | zero=>cases hi; exact ⟨.nil _,.inl ⟨h,rfl⟩⟩
  | succ i=>simp at hi
 | @go t p qs L hp hP hL ih=>
  intro i u hi
  cases i with
  | zero=>
   cases hi
   refine ⟨.nil _,.inr ⟨p,qs,hp,hP,?_⟩⟩
   rw [List.getElem?_cons_succ]
   cases hL with
   | stop _=>rfl
   | go _ _ _=>rfl
  | succ i=>
   rw [List.getElem?_cons_succ] at hi
   obtain ⟨h1,h2⟩:=ih i u hi
   refine ⟨.cons (pl_R hP) h1,?_⟩
   rcases h2 with ⟨a,b⟩ | ⟨p',q',a,b,c⟩
   ·exact .inl ⟨a,by rw [List.length_cons]; omega⟩
   ·exact .inr ⟨p',q',a,b,by rw [List.getElem?_cons_succ]; exact c⟩
theorem ci_inj:∀{p q:List Nat},ci p=ci q→p=q
 | [],[],_=>rfl
 | [],_::_,h=>by simp [ci] at h
 | _::_,[],h=>by simp [ci] at h
 | a::p,b::q,h=>by
  simp only [ci,List.map_cons,List.cons.injEq] at h
  rw [ci_inj (p:=p) (q:=q) h.2,show a=b by omega]
theorem StepL.uniq {t:Tm} {L:List Tm} (h:StepL t L):∀{L':List Tm},StepL t L'→L'=L:=by
 induction h with
 | stop h=>
  intro L' g
  cases g with
  | stop _=>rfl
  | go h2 _ _=>rw [h] at h2; cases h2
 | go h _ _ ih=>
  intro L' g
  cases g with
  | stop h2=>rw [h] at h2; cases h2
  | go h2 _ h3=>
   rw [h] at h2
   simp only [List.cons.injEq] at h2
   rw [←ci_inj h2.1] at h3
   rw [ih h3]
theorem StepL.ne {t:Tm} {L:List Tm} (h:StepL t L):∃M,L=t::M:=by
 cases h with
 | stop _=>exact ⟨_,rfl⟩
 | go _ _ _=>exact ⟨_,rfl⟩
def q2e:WS:=
 (wSeq (wIfS (wOr (wNot (wTru (wCB fIsi (q0d (wVar 0) (q0d (wC (.ty "tuple")) wNil))))) (q0y (wBin cNe (wBin bIx (wVar 0) (wC (.int 0))) (wVar 1))))
 (wRaise "NoKind" (q0d (wC (.str (Str.ofString "f's kind is no pair that begins with a's kind"))) wNil))
 q2a)
 (wRet (wBin bIx (wVar 0) (wC (.int 1)))))
def q1t:WS:=
 (wSeq (wIfS (q0y (wBin cNotInD (wVar 1) (wVar 0)))
 (wRaise "NoKind" (q0d (wC (.str (Str.ofString "a name has no pair"))) wNil))
 q2a)
 (wRet (wBin bIx (wVar 0) (wVar 1))))
def q1j (spkind_of_form:Den):WS:=
 (wSeq (wIfS (q0y (wBin cEq (wBin bIx (wVar 0) (wC (.int 0))) (wC (.str (Str.ofString "basic")))))
 (wRet (wBin bIx (wVar 0) (wC (.int 1))))
 q2a)
 (wRet (wTup (q0d (q0s spkind_of_form (q0d (wBin bIx (wVar 0) (wC (.int 2))) wNil)) (q0d (q0s spkind_of_form (q0d (wBin bIx (wVar 0) (wC (.int 1))) wNil)) wNil)))))
def q1p (spowner_of:Den):WS:=
 (wSeq (wSet 3 (q0s spowner_of (q0d (wVar 1) (q0d (wVar 2) wNil))))
 (wSeq (wIfS (q0y (wBin cIs (wVar 3) (wC .non)))
 (wRaise "NoKind" (q0d (wC (.str (Str.ofString "a bound one belongs to no fn"))) wNil))
 q2a)
 (wSeq (wSet 4 (wBin bIx (wBin bIx (wVar 0) (wVar 3)) (wC (.int 0))))
 (wRet (wBin bIx (wVar 4) (wC (.int 1)))))))
def q3f (spparts_and_fns:Den) (spkind_of_of:Den) (spkind_of_name:Den) (spkind_of_form:Den) (spkind_of_bound:Den):WS:=
 (wSeq (wSet 2 (wDComp (wiAny (wVar 0)) [none,none] (q6l 2 (q2d (q1s 0) (q2d (q1s 1) q6m))) (wVar 0) (wVar 1)))
 (wSeq (wSet 3 (q0s spparts_and_fns (q0d (wVar 1) wNil)))
 (wSeq (wSet 4 (wLst wNil))
 (wSeq (wFor (wiRev (wVar 3)) (q6l 2 (q2d (q1s 5) (q2d (q1s 6) q6m))) (wIfS (q0y (wBin cEq (wBin bIx (wVar 5) (wC (.int 0))) (wC (.str (Str.ofString "of")))))
 (wSeq (wSet 7 (wBM0 "list" mPop (wVar 4)))
 (wSeq (wSet 8 (wBM0 "list" mPop (wVar 4)))
 (q4f (wBM "list" q1z (wVar 4) (q0d (q0s spkind_of_of (q0d (wVar 7) (q0d (wVar 8) wNil))) wNil)))))
 (wIfS (q0y (wBin cEq (wBin bIx (wVar 5) (wC (.int 0))) (wC (.str (Str.ofString "fn")))))
 (q4f (wBM "list" q1z (wVar 4) (q0d (wTup (q0d (wBin bIx (wVar 5) (wC (.int 1))) (q0d (wBM0 "list" mPop (wVar 4)) wNil))) wNil)))
 (wIfS (q0y (wBin cEq (wBin bIx (wVar 5) (wC (.int 0))) (wC (.str (Str.ofString "name")))))
 (q4f (wBM "list" q1z (wVar 4) (q0d (q0s spkind_of_name (q0d (wVar 2) (q0d (wBin bIx (wVar 5) (wC (.int 1))) wNil))) wNil)))
 (wIfS (q0y (wBin cEq (wBin bIx (wVar 5) (wC (.int 0))) (wC (.str (Str.ofString "leaf")))))
 (q4f (wBM "list" q1z (wVar 4) (q0d (q0s spkind_of_form (q0d (wBin bIx (wVar 5) (wC (.int 2))) wNil)) wNil)))
 (q4f (wBM "list" q1z (wVar 4) (q0d (q0s spkind_of_bound (q0d (wVar 3) (q0d (wVar 6) (q0d (wBin bIx (wVar 5) (wC (.int 1))) wNil)))) wNil))))))))
 (wRet (wBin bIx (wVar 4) (wC (.int 0))))))))
def q2v (spkind_of:Den):WS:=
 (wSeq (wSet 2 (wC (.bl false)))
 (wSeq (wTry 3 ["NoKind"] (wxDrop (wCallX spkind_of (q0d (wVar 0) (q0d (wVar 1) wNil))))
 (wSeq (wSet 4 (wIsX (wVar 3) [("NoKind",false)]))
 (wSeq (wSet 4 (wOrV (wVar 4) (wIsX (wVar 3) [("NoKind",false)])))
 (wSet 2 (wAndV (wIsX (wVar 3) [("NoKind",true)]) (wAndV (wIsX (wVar 3) [("NoKind",true)]) (wNotV (wVar 4))))))))
 (wRet (wVar 2))))
def q3o (spLkind_of:Den) (spLrefused:Den) (spLsame:Den) (spkind_of:Den):WS:=
 (wSeq (wSet 2 wDNew)
 (wSeq (wFor (wiAny (wVar 0)) (q6l 2 (q2d (q1s 3) (q2d (q1s 4) q6m))) (wAsg (wVar 4) (q8a (wVar 2) (wVar 3) sSet)))
 (wSeq (wSet 5 (q0s spLkind_of (q0d (wVar 2) (q0d (wVar 1) (q0d (wLst wNil) wNil)))))
 (wSeq (wIfS (q0y (wBin cIs (wVar 5) (wC .non)))
 (wRet (q0s spLrefused (q0d (wVar 0) (q0d (wVar 1) wNil))))
 q2a)
 (wRet (q0s spLsame (q0d (wVar 5) (q0d (q0s spkind_of (q0d (wVar 0) (q0d (wVar 1) wNil))) wNil))))))))
def q4u (spLdeck:Den) (spLworld:Den) (spLnext:Den) (spLkind:Den) (spLterm:Den) (spLword:Den) (spLsame:Den) (spkind_of:Den) (spLexchanged:Den) (spLright:Den):WS:=
 (wSeq (wSet 1 (q0s spLdeck (q0d (wVar 0) wNil)))
 (wSeq (wSet 2 (q0s spLworld (q0d (wVar 1) (q0d (wBin bAdd (wC (.int 1)) (wBin bMul (wBin bMod (q0s spLnext (q0d (wVar 1) wNil)) (wC (.int 2))) (wC (.int 2)))) (q0d (wC (.bl true)) wNil)))))
 (wSeq (wSet 3 (q0s spLkind (q0d (wVar 1) (q0d (wBin bIx (wVar 2) (wC (.str (Str.ofString "basics")))) (q0d (wC (.int 2)) wNil)))))
 (wSeq (wSet 4 (q0s spLterm (q0d (wVar 1) (q0d (wVar 2) (q0d (wVar 3) (q0d (wLst wNil) (q0d (wC (.int 5)) wNil)))))))
 (wSeq (wFor (q5y (q0d (wBin bMod (q0s spLnext (q0d (wVar 1) wNil)) (wC (.int 4))) wNil)) (q1s 5) (wSeq (wSet 6 (q0s spLword (q0d (wVar 1) (q0d (wComp (wiAny (wBin bIx (wVar 2) (wC (.str (Str.ofString "names"))))) [none,none] (q6l 2 (q2d (q1s 0) (q2d (q1s 1) q6m))) q6t (wVar 0)) wNil))))
 (q4f (wBM "list" q1z (wBin bIx (wVar 2) (wC (.str (Str.ofString "names")))) (q0d (wTup (q0d (wVar 6) (q0d (q0s spLkind (q0d (wVar 1) (q0d (wBin bIx (wVar 2) (wC (.str (Str.ofString "basics")))) (q0d (wC (.int 2)) wNil)))) wNil))) wNil)))))
 (wSeq (wSet 7 (wCB fList (q0d (wBin bIx (wVar 2) (wC (.str (Str.ofString "names")))) wNil)))
 (wSeq (wSet 8 (wBin bMod (q0s spLnext (q0d (wVar 1) wNil)) (wBin bAdd (wCB fLen (q0d (wVar 7) wNil)) (wC (.int 1)))))
 (wSeq (wSet 7 (wBin bAdd (wSl (wVar 7) (q8m (wVar 8)) q4j) (wSl (wVar 7) q4j (q8m (wVar 8)))))
 (wSeq (wIfS (wOr (wNot (wTru (q0s spLsame (q0d (wVar 3) (q0d (q0s spkind_of (q0d (wVar 7) (q0d (wVar 4) wNil))) wNil))))) (wNot (wTru (q0s spLsame (q0d (wVar 3) (q0d (q0s spkind_of (q0d (wCB fTuple (q0d (wVar 7) wNil)) (q0d (wVar 4) wNil))) wNil))))))
 (wRet (wC (.bl false)))
 q2a)
 (wSeq (wSet 9 (wVar 4))
 (wSeq (wFor (q5y (q0d (wBin bMod (q0s spLnext (q0d (wVar 1) wNil)) (wC (.int 7))) wNil)) (q1s 5) (wSeq (wSet 9 (q0s spLexchanged (q0d (wVar 1) (q0d (wVar 2) (q0d (wVar 9) wNil)))))
 (wIfS (wNot (wTru (q0s spLright (q0d (wCB fList (q0d (wBin bIx (wVar 2) (wC (.str (Str.ofString "names")))) wNil)) (q0d (wVar 9) wNil)))))
 (wRet (wC (.bl false)))
 q2a)))
 (wSeq (wSet 10 (wCB fList (q0d (wVar 7) wNil)))
 (wSeq (wIfS (wAnd (q0y (wBin cGt (wCB fLen (q0d (wVar 7) wNil)) (wC (.int 0)))) (wNot (wTru (q0s spLright (q0d (wSl (wVar 7) (q8m (wC (.int 1))) q4j) (q0d (wVar 4) wNil))))))
 (wRet (wC (.bl false)))
 q2a)
 (wRet (wAndV (q0s spLright (q0d (wVar 7) (q0d (wVar 4) wNil))) (wBin cEq (wVar 7) (wVar 10)))))))))))))))))
def Ks:Tm→Nat→Prop
 | .nm _,_=>True
 | .lf _ f,_=>∃k,FK f k∧k.dp≤20
 | .bd j,n=>j<n
 | .fn k t,n=>(∃kd:Kd,k=kd.pv∧kd.dp≤20)∧Ks t (n+1)
 | .ap f a,n=>Ks f n∧Ks a n
theorem Ks.gd:∀{t:Tm} {n:Nat},Ks t n→t.gd n
 | .nm _,_,_=>trivial
 | .lf _ _,_,⟨k,h,g⟩=>⟨h.plain.1,by have:=h.plain.2; omega⟩
 | .bd j,n,h=>h
 | .fn _ t,n,⟨⟨kd,h1,h2⟩,h3⟩=>by subst h1; exact ⟨⟨q6g _,by rw [q7x]; omega⟩,Ks.gd h3⟩
 | .ap f a,n,h=>⟨Ks.gd h.1,Ks.gd h.2⟩
theorem Ks.mono:∀{t:Tm} {n m:Nat},n≤m→Ks t n→Ks t m
 | .nm _,_,_,_,_=>trivial
 | .lf _ _,_,_,_,h=>h
 | .bd j,n,m,l,h=>Nat.lt_of_lt_of_le (show j<n from h) l
 | .fn _ t,n,m,l,h=>⟨h.1,Ks.mono (Nat.succ_le_succ l) h.2⟩
 | .ap f a,n,m,l,h=>⟨Ks.mono l h.1,Ks.mono l h.2⟩
theorem Ty.ks {ps:List (Str×Kd)} {e:List Kd} {t:Tm} {k:Kd} (h:Ty ps e t k):Ks t e.length:=by
 induction h with
 | nm h=>trivial
 | lf n h g=>exact ⟨_,h,g⟩
 | bd h=>exact (List.getElem?_eq_some_iff.mp h).1
 | fn h _ ih=>exact ⟨⟨_,rfl,h⟩,ih⟩
 | ap _ _ i1 i2=>exact ⟨i1,i2⟩
theorem kpv_inj {k k':Kd} (h:k.pv=k'.pv):k=k':=by
 have:=q9o k k'
 rw [h,q9o,decide_eq_true rfl] at this
 exact of_decide_eq_true this.symm
theorem FK.inv {f:PV} {k:Kd} (h:FK f k):(∃s,f=.tup [.str (Str.ofString "basic"),.str s]∧k=.a s)∨∃(z:Str) (x y:PV) (kx ky:Kd),f=.tup [.str z,x,y]∧FK x kx∧FK y ky∧k=.p ky kx:=by
 cases h with
 | b s=>exact .inl ⟨s,rfl,rfl⟩
 | n l hx hy=>exact .inr ⟨_,_,_,_,_,rfl,hx,hy,rfl⟩
theorem FK.uniq {f:PV} {k:Kd} (h:FK f k):∀{k'},FK f k'→k'=k:=by
 induction h with
 | b s=>
  intro k' g
  rcases g.inv with ⟨s',e,rfl⟩ | ⟨z,x,y,kx,ky,e,_⟩
  ·simp only [PV.tup.injEq,List.cons.injEq,PV.str.injEq,and_true] at e
   rw [e.2]
  ·simp at e
 | n l hx hy ix iy=>
  intro k' g
  rcases g.inv with ⟨s',e,rfl⟩ | ⟨z,x,y,kx,ky,e,gx,gy,rfl⟩
  ·simp at e
  ·simp only [PV.tup.injEq,List.cons.injEq,and_true] at e
   obtain ⟨_,e1,e2⟩:=e
   subst e1 e2
   rw [ix gx,iy gy]
theorem Ty.uniq {ps:List (Str×Kd)} {e:List Kd} {t:Tm} {k:Kd} (h:Ty ps e t k):∀{k'},Ty ps e t k'→k'=k:=by
 induction h with
 | nm h=>intro k' g; cases g with | nm g=>rw [h] at g; cases g; rfl
 | lf n h _=>intro k' g; cases g with | lf _ g _=>exact h.uniq g
 | bd h=>intro k' g; cases g with | bd g=>rw [h] at g; cases g; rfl
 | @fn e k k1 t hk _ ih=>
  intro k' g
  generalize ek:k.pv=kk at g
  cases g with
  | fn _ g=>
   have:=kpv_inj ek
   subst this
   rw [ih g]
 | ap _ _ i1 i2=>
  intro k' g
  cases g with
  | ap g1 g2=>
   have e2:=i2 g2
   have e1:=i1 g1
   simp only [Kd.p.injEq] at e1
   exact e1.2
theorem cNe_kk2 {k k':Kd} {S:q0h} {Q:VC} (h1:k.dp≤190) (h2:k'.dp≤190) (h:Q (.bl (!decide (k=k'))) S):cNe k.pv k'.pv S Q:=by
 have o1:=okEq_pv (k:=k) (by omega)
 have o2:=okEq_pv (k:=k') (by omega)
 rw [←q9o] at h
 cases k with
 | a s=>
  cases k' with
  | a t=>rw [Kd.pv,Kd.pv,cNe_ss]; simpa [Kd.pv,q7h] using h
  | p f t=>rw [Kd.pv,Kd.pv,cNe_st]; exact ⟨by have:=o2.1; rw [Kd.pv,q9a] at this; exact this,by simpa [Kd.pv,eqB_st] using h⟩
 | p f t=>
  cases k' with
  | a t=>rw [Kd.pv,Kd.pv,cNe_ts]; exact ⟨by have:=o1.1; rw [Kd.pv,q9a] at this; exact this,by simpa [Kd.pv,eqB_ts] using h⟩
  | p f' t'=>rw [Kd.pv,Kd.pv,cNe_tt]; rw [Kd.pv] at o1 o2; exact ⟨⟨o1,o2⟩,by simpa [Kd.pv,eqB_tt] using h⟩
theorem lkN_snoc {vs:List (Str×Kd)} {p:Str×Kd} (h:p.1∉vs.map (·.1)) (w:Str):lkN (vs++[p]) w=if p.1=w then some p.2 else lkN vs w:=by
 by_cases e:p.1=w
 ·rw [if_pos e,←e]; exact lkN_new h
 ·rw [if_neg e]
  unfold lkN
  rw [List.find?_append]
  have:([p].find? fun p=>decide (p.1=w))=none:=by simp [e]
  rw [this,Option.or_none]
def Kq (ps:List (Str×Kd)) (kvs:List (Key×PV)):Prop:=∀w,valP kvs (.inr w)=(lkN ps w).map Kd.pv
theorem Kq.put {vs:List (Str×Kd)} {kvs:List (Key×PV)} {p:Str×Kd} (h:Kq vs kvs) (hn:p.1∉vs.map (·.1)):Kq (vs++[p]) (putP kvs (.inr p.1) p.2.pv):=fun w=>by
 rw [lkN_snoc hn]
 by_cases e:p.1=w
 ·subst e; rw [if_pos rfl,vP_same]; rfl
 ·rw [if_neg e,vP_other _ _ _ _ (by simp only [ne_eq,Sum.inr.injEq]; exact fun z=>e z.symm)]
  exact h w
theorem Kq.nil:Kq [] []:=fun w=>rfl
def KofQ (ps:List (Str×Kd)) (e:List Kd) (t:Tm) (S:q0h) (Q:VC):Prop:=(∀k,Ty ps e t k→∀S',Ex [] S S'→Q k.pv S')∧((¬∃k,Ty ps e t k)→∀S',Ex [] S S'→Q .non S')
theorem kof2_ok {T F:Nat→Den} (hT:∀n,T (n+1)=fnP 3 6 (q1e (F n) (T n))) (hF:∀(n:Nat) (f:PV) (k:Kd),FK f k→k.dp<n→∀(S:q0h) (E:EK) (Q:VC),Q k.pv S→F n [f] S E Q) {ps:List (Str×Kd)} (hps:∀p∈ps,p.2.dp≤20) :
  ∀(t:Tm) (e:List Kd),Ks t e.length→∀(n q a:Nat) (kvs:List (Key×PV)) (S:q0h) (E:EK) (Q:VC),t.dp+30<n→t.dp≤160→e.length+t.dp≤1000→(∀x∈e,x.dp≤20)→S[q]?=some (.dK kvs)→Kq ps kvs→S[a]?=some (.lst (e.reverse.map Kd.pv))→KofQ ps e t S Q→T n [.ref q,t.pv,.ref a] S E Q:=by
 intro t
 induction t with
 | nm w=>
  rintro e _ n q a kvs S E Q hn _ _ _ hq hk _ ⟨h1,h2⟩
  obtain ⟨m,rfl⟩:∃m,n=m+1:=⟨n - 1,by omega⟩
  rw [hT]
  refine ⟨rfl,?_⟩
  unfold q1e
  dsimp! [wSeq,Tm.pv,q0p,q4d,hq,hk w]
  cases e:lkN ps w with
  | none=>exact h2 (fun hh1=>by obtain ⟨k,hk⟩:=hh1; cases hk with | nm g=>rw [e] at g; cases g) S (Ex.refl _ _)
  | some k=>exact h1 k (.nm e) S (Ex.refl _ _)
 | lf i f=>
  rintro e ⟨k,hf,hkd⟩ n q a kvs S E Q hn _ _ _ hq hk _ ⟨h1,h2⟩
  obtain ⟨m,rfl⟩:∃m,n=m+1:=⟨n - 1,by omega⟩
  rw [hT]
  refine ⟨rfl,?_⟩
  unfold q1e
  dsimp! [wSeq,Tm.pv,q0p,q6s,tg_nl]
  exact hF m f k hf (by simp only [Tm.dp] at hn; omega) _ _ _ (h1 k (.lf i hf hkd) S (Ex.refl _ _))
 | bd j=>
  rintro e hj n q a kvs S E Q hn _ _ _ _ _ ha ⟨h1,h2⟩
  have hj:j<e.length:=hj
  obtain ⟨m,rfl⟩:∃m,n=m+1:=⟨n - 1,by omega⟩
  rw [hT]
  refine ⟨rfl,?_⟩
  unfold q1e
  have hj':e[j]?=some e[j]:=List.getElem?_eq_getElem hj
  have hat:atI (e.reverse.map Kd.pv) (-1 - (j:Int))=some e[j].pv:=by
   rw [atI_neg _ j (by simpa using hj),List.getElem?_map,List.length_map,List.length_reverse,List.getElem?_reverse (by omega),show e.length - 1 - (e.length - 1 - j)=j by omega,hj']
   rfl
  dsimp! [wSeq,Tm.pv,q0p,q4d,tg_nb,tg_lb,ha,hat]
  exact h1 _ (.bd hj') S (Ex.refl _ _)
 | fn kk t ih=>
  rintro e ⟨⟨k,hkk,hkd⟩,hks⟩ n q a kvs S E Q hn h160 hl he hq hk ha ⟨h1,h2⟩
  subst hkk
  obtain ⟨m,rfl⟩:∃m,n=m+1:=⟨n - 1,by omega⟩
  simp only [Tm.dp] at hn h160 hl
  rw [hT]
  refine ⟨rfl,?_⟩
  unfold q1e
  dsimp! [wSeq,Tm.pv,q0p,q4d,q6s,tg_nf,tg_lf,tga]
  have g1:=q3e ha [SO.lst [k.pv]]
  have g2:=q1v S (SO.lst [k.pv])
  refine ⟨big (by decide),?_⟩
  dsimp! [q2y g1,q2y g2]
  refine ⟨by rw [List.length_map,List.length_reverse]; exact big (by omega),?_⟩
  have eL:e.reverse.map Kd.pv++[k.pv]=(k::e).reverse.map Kd.pv:=by simp
  rw [eL]
  have x2:Ex [] S (S++[SO.lst [k.pv]]++[SO.lst ((k::e).reverse.map Kd.pv)]):=(Ex.new [] _ _).app _
  refine ih (k::e) hks m q _ kvs _ _ _ (by omega) (by omega) (by simp only [List.length_cons]; omega) (fun x hx=>by
   rcases List.mem_cons.mp hx with z | z
   ·subst z; exact hkd
   ·exact he x z) (x2.get hq (by simp)) hk (q1v _ _) ⟨fun k' hk' S' hx'=>?_,fun hno S' hx'=>?_⟩
  ·refine ite2 (fun c=>absurd c (by cases k'<;>exact Bool.false_ne_true)) (fun _=>?_)
   exact ⟨big (by decide),h1 (.p k k') (.fn hkd hk') S' (x2.trans hx')⟩
  ·dsimp! [true_and]
   exact h2 (fun hh2=>by
    obtain ⟨k',hk'⟩:=hh2
    generalize ek:k.pv=kz at hk'
    cases hk' with
    | fn _ g=>have:=kpv_inj ek; subst this; exact hno ⟨_,g⟩) S' (x2.trans hx')
 | ap f a i1 i2=>
  rintro e ⟨ksf,ksa⟩ n q ar kvs S E Q hn h160 hl he hq hk ha ⟨h1,h2⟩
  obtain ⟨m,rfl⟩:∃m,n=m+1:=⟨n - 1,by omega⟩
  simp only [Tm.dp] at hn h160 hl
  rw [hT]
  refine ⟨rfl,?_⟩
  unfold q1e
  dsimp! [wSeq,Tm.pv,q0p,q4d,q6s,tg_no,tg_lo,tgc,tgb]
  refine i1 e ksf m q ar kvs _ _ _ (by omega) (by omega) (by omega) he hq hk ha ⟨fun kf hkf S1 x1=>?_,fun hno S1 x1=>?_⟩
  ·dsimp! [Tm.pv,q6s]
   refine i2 e ksa m q ar kvs _ _ _ (by omega) (by omega) (by omega) he (x1.get hq (by simp)) hk (x1.get ha (by simp)) ⟨fun ka hka S2 x2=>?_,fun hno S2 x2=>?_⟩
   ·have kd1:=hka.dp hps he
    have kd2:=hkf.dp hps he
    cases kf with
    | a s=>
     dsimp! [Kd.pv]
     refine ite2 (fun c=>absurd c (by cases ka<;>exact Bool.false_ne_true)) (fun _=>?_)
     exact h2 (fun hh3=>by obtain ⟨k',hk'⟩:=hh3; cases hk' with | ap g1 g2=>cases hkf.uniq g1) S2 (x1.trans x2)
    | p k0 k1=>
     simp only [Kd.dp] at kd2
     dsimp! [Kd.pv,q0p,q4d]
     refine ite2 (fun c=>absurd c (by cases ka<;>exact Bool.false_ne_true)) (fun _=>?_)
     refine cNe_kk2 (by omega) (by omega) ?_
     dsimp! [true_and]
     refine ite2 (fun c=>?_) (fun c=>?_)
     ·exact h2 (fun hh4=>by obtain ⟨k',hk'⟩:=hh4; cases hk' with | ap g1 g2=>cases hkf.uniq g1; exact c (hka.uniq g2)) S2 (x1.trans x2)
     ·have c:k0=ka:=Classical.not_not.mp c
      subst c
      exact h1 k1 (.ap hkf hka) S2 (x1.trans x2)
   ·dsimp! [true_and]
    exact ite2 (fun c=>h2 (fun hh5=>by obtain ⟨k',hk'⟩:=hh5; cases hk' with | ap g1 g2=>exact hno ⟨_,g2⟩) S2 (x1.trans x2)) (fun _=>h2 (fun hh6=>by obtain ⟨k',hk'⟩:=hh6; cases hk' with | ap g1 g2=>exact hno ⟨_,g2⟩) S2 (x1.trans x2))
  ·dsimp! [Tm.pv,q6s]
   refine i2 e ksa m q ar kvs _ _ _ (by omega) (by omega) (by omega) he (x1.get hq (by simp)) hk (x1.get ha (by simp)) ⟨fun ka hka S2 x2=>?_,fun hno2 S2 x2=>?_⟩
   ·dsimp! [true_and]
    exact h2 (fun hh7=>by obtain ⟨k',hk'⟩:=hh7; cases hk' with | ap g1 g2=>exact hno ⟨_,g1⟩) S2 (x1.trans x2)
   ·dsimp! [true_and]
    exact h2 (fun hh8=>by obtain ⟨k',hk'⟩:=hh8; cases hk' with | ap g1 g2=>exact hno ⟨_,g1⟩) S2 (x1.trans x2)
theorem kff_ok {T:Nat→Den} (hT:∀n,T (n+1)=fnP 1 1 (q1j (T n))) {f:PV} {k:Kd} (hf:FK f k):∀(n:Nat),k.dp<n→∀(S:q0h) (E:EK) (Q:VC),Q k.pv S→T n [f] S E Q:=by
 induction hf with
 | b s=>
  intro n hn S E Q h
  obtain ⟨m,rfl⟩:∃m,n=m+1:=⟨n - 1,by omega⟩
  rw [hT]
  refine ⟨rfl,?_⟩
  unfold q1j
  dsimp! [wSeq,q0p,q4d]
  exact h
 | n l _ _ ix iy=>
  intro n hn S E Q h
  simp only [Kd.dp] at hn
  obtain ⟨m,rfl⟩:∃m,n=m+1:=⟨n - 1,by omega⟩
  rw [hT]
  refine ⟨rfl,?_⟩
  unfold q1j
  have e0:((if l=true then Str.ofString "\\" else Str.ofString "/")=Str.ofString "basic")=False:=by cases l<;>(simp only [eq_iff_iff,iff_false,if_true,Bool.false_eq_true,if_false]; decide +kernel)
  dsimp! [wSeq,q0p,q4d,q6s,e0]
  refine iy m (by omega) _ _ _ ?_
  refine ix m (by omega) _ _ _ ?_
  exact ⟨big (by decide),h⟩
def KooD (sp:Den):Prop:=∀(kf ka:Kd) (S:q0h) (E:EK) (Q:VC),kf.dp≤190→ka.dp≤190→(∀k,kf=.p ka k→Q k.pv S)→((¬∃k,kf=.p ka k)→E (.exc "NoKind") S)→sp [kf.pv,ka.pv] S E Q
theorem koo_ok:KooD (fnP 2 2 q2e):=by
 intro kf ka S E Q h1 h2 hy hn
 refine ⟨rfl,?_⟩
 unfold q2e
 refine seqI fun K hK=>?_
 cases kf with
 | a s=>
  dsimp! [Kd.pv]
  exact ⟨big (by decide),hn (by rintro ⟨k,e⟩; cases e)⟩
 | p k0 k1=>
  simp only [Kd.dp] at h1
  dsimp! [Kd.pv,q0p]
  refine cNe_kk2 (by omega) h2 ?_
  dsimp! [true_and]
  refine ite2 (fun c=>⟨big (by decide),hn ?_⟩) (fun c=>hK _ _ ?_)
  ·rintro ⟨k,e⟩
   cases e
   exact c rfl
  ·have c:k0=ka:=Classical.not_not.mp c
   subst c
   dsimp! [q4d]
   exact hy k1 rfl
def KonD (sp:Den):Prop:=∀(ps:List (Str×Kd)) (q:Nat) (kvs:List (Key×PV)) (w:Str) (S:q0h) (E:EK) (Q:VC),S[q]?=some (.dK kvs)→Kq ps kvs→(∀k,lkN ps w=some k→Q k.pv S)→(lkN ps w=none→E (.exc "NoKind") S)→sp [.ref q,.str w] S E Q
theorem kon_ok:KonD (fnP 2 2 q1t):=by
 intro ps q kvs w S E Q hq hk hy hn
 refine ⟨rfl,?_⟩
 unfold q1t
 have:=hk w
 refine seqI fun K hK=>?_
 cases e:lkN ps w with
 | none=>
  rw [e,Option.map_none] at this
  dsimp! [hq,this,Option.isSome_none]
  exact ⟨big (by decide),hn e⟩
 | some k=>
  rw [e,Option.map_some] at this
  dsimp! [hq,this,Option.isSome_some]
  refine hK _ _ ?_
  dsimp! [hq,this]
  exact hy k e
def KobD (sp:Den):Prop:=∀(rw':Nat) (rows:List PV) (fs:List Nat) (j x:Nat) (k:Kd) (b y:PV) (S:q0h) (E:EK) (Q:VC),S[rw']?=some (.lst rows)→own fs j=some x→rows[x]?=some (.tup [.tup [.str (Str.ofString "fn"),k.pv,b],y])→Q k.pv S→sp [.ref rw',.tup (encI fs),.int (j:Nat)] S E Q
theorem kob_ok {so:Den} (ho:OwnerD so):KobD (fnP 3 5 (q1p so)):=by
 intro rw' rows fs j x k b y S E Q hr hx hrow h
 refine ⟨rfl,?_⟩
 unfold q1p
 obtain ⟨hl,el⟩:=List.getElem?_eq_some_iff.mp hrow
 have hat:atI rows (x:Int)=some (.tup [.tup [.str (Str.ofString "fn"),k.pv,b],y]):=by rw [q7k _ x hl,el]
 refine seqI fun K hK=>?_
 dsimp! [true_and]
 refine ho fs j _ _ _ ?_
 rw [hx]
 dsimp! [encO]
 refine hK _ _ ?_
 clear hK K
 refine seqI fun K hK=>?_
 dsimp! [true_and]
 refine hK _ _ ?_
 clear hK K
 dsimp! [wSeq,hr,hat,q0p,q4d]
 exact h
def kpG:WG:=q6l 2 (q2d (q1s 5) (q2d (q1s 6) q6m))
def kpB (s1 s2 s3 s4:Den):WS:=(wIfS (q0y (wBin cEq (wBin bIx (wVar 5) (wC (.int 0))) (wC (.str (Str.ofString "of")))))
 (wSeq (wSet 7 (wBM0 "list" mPop (wVar 4)))
 (wSeq (wSet 8 (wBM0 "list" mPop (wVar 4)))
 (q4f (wBM "list" q1z (wVar 4) (q0d (q0s s1 (q0d (wVar 7) (q0d (wVar 8) wNil))) wNil)))))
 (wIfS (q0y (wBin cEq (wBin bIx (wVar 5) (wC (.int 0))) (wC (.str (Str.ofString "fn")))))
 (q4f (wBM "list" q1z (wVar 4) (q0d (wTup (q0d (wBin bIx (wVar 5) (wC (.int 1))) (q0d (wBM0 "list" mPop (wVar 4)) wNil))) wNil)))
 (wIfS (q0y (wBin cEq (wBin bIx (wVar 5) (wC (.int 0))) (wC (.str (Str.ofString "name")))))
 (q4f (wBM "list" q1z (wVar 4) (q0d (q0s s2 (q0d (wVar 2) (q0d (wBin bIx (wVar 5) (wC (.int 1))) wNil))) wNil)))
 (wIfS (q0y (wBin cEq (wBin bIx (wVar 5) (wC (.int 0))) (wC (.str (Str.ofString "leaf")))))
 (q4f (wBM "list" q1z (wVar 4) (q0d (q0s s3 (q0d (wBin bIx (wVar 5) (wC (.int 2))) wNil)) wNil)))
 (q4f (wBM "list" q1z (wVar 4) (q0d (q0s s4 (q0d (wVar 3) (q0d (wVar 6) (q0d (wBin bIx (wVar 5) (wC (.int 1))) wNil)))) wNil)))))))
structure Wk (x0 x1:PV) (dq rw' tl:Nat) (kvs:List (Key×PV)) (rows:List PV) (S0:q0h) (st:List Kd) (σ:Ev.Loc) (S:q0h):Prop where
 loc:∃j5 j6 j7 j8:Option PV,σ=[some x0,some x1,some (.ref dq),some (.ref rw'),some (.ref tl),j5,j6,j7,j8]
 gd:S[dq]?=some (.dK kvs)
 gw:S[rw']?=some (.lst rows)
 gt:S[tl]?=some (.lst (st.reverse.map Kd.pv))
 ex:Ex [] S0 S
 n1:tl≠dq
 n2:tl≠rw'
 n3:S0.length≤tl
theorem Wk.push {x0 x1:PV} {dq rw' tl:Nat} {kvs:List (Key×PV)} {rows:List PV} {S0:q0h} {st st':List Kd} {σ σ':Ev.Loc} {S:q0h} (h:Wk x0 x1 dq rw' tl kvs rows S0 st σ S) (hs:∃j5 j6 j7 j8:Option PV,σ'=[some x0,some x1,some (.ref dq),some (.ref rw'),some (.ref tl),j5,j6,j7,j8]) {o:SO} (ho:o=.lst (st'.reverse.map Kd.pv)):Wk x0 x1 dq rw' tl kvs rows S0 st' σ' (S.set tl o):=by
 subst ho
 exact ⟨hs,q4h _ h.gd h.n1,q4h _ h.gw h.n2,q2q _ h.gt,h.ex.set (.inr h.n3),h.n1,h.n2,h.n3⟩
def Rf (rows:List PV) (fs:List Nat) (e:List Kd):Prop:=fs.length=e.length∧∀j k,e[j]?=some k→∃x b y,own fs j=some x∧rows[x]?=some (.tup [.tup [.str (Str.ofString "fn"),k.pv,b],y])
theorem own_snoc (fs:List Nat) (i j:Nat):own (fs++[i]) (j+1)=own fs j:=by
 unfold own
 rw [List.length_append,List.length_singleton]
 by_cases h:j<fs.length
 ·rw [if_pos h,if_pos (by omega),List.getElem?_append_left (by omega),show fs.length+1 - 1 - (j+1)=fs.length - 1 - j by omega]
 ·rw [if_neg h,if_neg (by omega)]
theorem own_last (fs:List Nat) (i:Nat):own (fs++[i]) 0=some i:=by
 unfold own
 rw [if_pos (by simp)]
 simp
theorem Rf.push {rows:List PV} {fs:List Nat} {e:List Kd} (h:Rf rows fs e) {i:Nat} {k:Kd} {b y:PV} (hi:rows[i]?=some (.tup [.tup [.str (Str.ofString "fn"),k.pv,b],y])):Rf rows (fs++[i]) (k::e):=by
 refine ⟨by simp [h.1],fun j k' hj=>?_⟩
 cases j with
 | zero=>cases hj; exact ⟨i,b,y,own_last fs i,hi⟩
 | succ j=>
  obtain ⟨x,b',y',h1,h2⟩:=h.2 j k' hj
  exact ⟨x,b',y',by rw [own_snoc]; exact h1,h2⟩
theorem kp_go {s1 s2 s3 s4:Den} {ps:List (Str×Kd)} (hps:∀p∈ps,p.2.dp≤20) (h1:KooD s1) (h2:KonD s2) (h3:∀(f:PV) (k:Kd),FK f k→k.dp≤20→∀(S:q0h) (E:EK) (Q:VC),Q k.pv S→s3 [f] S E Q) (h4:KobD s4) {x0 x1:PV} {dq rw' tl:Nat} {kvs:List (Key×PV)} {rows:List PV} {S0:q0h} {D:PEnds} {E:EK} (hk:Kq ps kvs) :
  ∀(t:Tm) (fs:List Nat) (i:Nat) (e:List Kd) (REST:List PV) (st:List Kd) (σ:Ev.Loc) (S:q0h),Ks t e.length→t.dp≤160→(∀x∈e,x.dp≤20)→t.sz+st.length≤2000→Rf rows fs e→(∀j,j<t.sz→rows[i+j]?=((q2x t fs i).map enc)[j]?)→Wk x0 x1 dq rw' tl kvs rows S0 st σ S→
  (∀k,Ty ps e t k→∀σ' S',Wk x0 x1 dq rw' tl kvs rows S0 (k::st) σ' S'→forGo (fun S=>q3u S rw'=some rows) kpG (kpB s1 s2 s3 s4) D E REST σ' S')→
  ((¬∃k,Ty ps e t k)→∀S',Ex [] S0 S'→E (.exc "NoKind") S')→
  forGo (fun S=>q3u S rw'=some rows) kpG (kpB s1 s2 s3 s4) D E ((q2x t fs i).reverse.map enc++REST) σ S:=by
 intro t
 induction t with
 | nm w=>
  intro fs i e REST st σ S _ _ _ hz _ _ W hy hn
  obtain ⟨j5,j6,j7,j8,rfl⟩:=W.loc
  refine forC (q1a W.gw) fun N hN=>?_
  unfold kpB kpG
  dsimp! [enc,Tm.pv,q0p,q4d,tg2,tg1,W.gt]
  refine h2 ps dq kvs w _ _ _ W.gd hk (fun k hk'=>?_) (fun hno=>hn (fun hh1=>by obtain ⟨k,g⟩:=hh1; cases g with | nm g=>rw [hno] at g; cases g) _ W.ex)
  dsimp! [q2y W.gt]
  refine ⟨by simp only [List.length_map,List.length_reverse]; exact bigl (by omega),hN _ _ (hy k (.nm hk') _ _ (W.push ⟨_,_,_,_,rfl⟩ (by simp)))⟩
 | lf n f=>
  rintro fs i e REST st σ S ⟨k,hf,hkd⟩ _ _ hz _ _ W hy hn
  obtain ⟨j5,j6,j7,j8,rfl⟩:=W.loc
  refine forC (q1a W.gw) fun N hN=>?_
  unfold kpB kpG
  dsimp! [enc,Tm.pv,q0p,q6s,tg5,tg4,tg_nl,W.gt]
  refine h3 f k hf hkd _ _ _ ?_
  dsimp! [q2y W.gt]
  refine ⟨by simp only [List.length_map,List.length_reverse]; exact bigl (by omega),hN _ _ (hy k (.lf n hf hkd) _ _ (W.push ⟨_,_,_,_,rfl⟩ (by simp)))⟩
 | bd j=>
  intro fs i e REST st σ S hj _ _ hz hR _ W hy hn
  have hj:j<e.length:=hj
  obtain ⟨j5,j6,j7,j8,rfl⟩:=W.loc
  have ej:e[j]?=some e[j]:=List.getElem?_eq_getElem hj
  obtain ⟨x,b,y,r1,r2⟩:=hR.2 j _ ej
  refine forC (q1a W.gw) fun N hN=>?_
  unfold kpB kpG
  dsimp! [enc,Tm.pv,q0p,q4d,tg8,tg7,tg_nb,tg_lb,W.gt]
  refine h4 rw' rows fs j x _ b y _ _ _ W.gw r1 r2 ?_
  dsimp! [q2y W.gt]
  refine ⟨by simp only [List.length_map,List.length_reverse]; exact bigl (by omega),hN _ _ (hy _ (.bd ej) _ _ (W.push ⟨_,_,_,_,rfl⟩ (by simp)))⟩
 | fn kk b ih=>
  rintro fs i e REST st σ S ⟨⟨k,hkk,hkd⟩,hks⟩ hd he hz hR hseg W hy hn
  subst hkk
  simp only [Tm.sz] at hz hseg
  simp only [Tm.dp] at hd
  simp only [q2x,List.reverse_cons,List.map_append,List.append_assoc,List.map_cons,List.map_nil,List.singleton_append]
  have h0:=hseg 0 (by omega)
  simp only [q2x,List.map_cons,Nat.add_zero,List.getElem?_cons_zero] at h0
  refine ih (fs++[i]) (i+1) (k::e) _ st σ S hks (by omega) (fun x hx=>by
   rcases List.mem_cons.mp hx with z | z
   ·subst z; exact hkd
   ·exact he x z) (by omega) (hR.push h0) (fun j hj=>by
   have:=hseg (j+1) (by omega)
   simp only [q2x,List.map_cons,List.getElem?_cons_succ] at this
   rw [show i+1+j=i+(j+1) by omega]
   exact this) W (fun k' hk' σ' S' W'=>?_) (fun hno=>hn (fun hh2=>by
    obtain ⟨k',g⟩:=hh2
    generalize ek:k.pv=kz at g
    cases g with
    | fn _ g=>have:=kpv_inj ek; subst this; exact hno ⟨_,g⟩))
  obtain ⟨j5,j6,j7,j8,rfl⟩:=W'.loc
  have gt:=W'.gt
  simp only [List.reverse_cons,List.map_append,List.map_cons,List.map_nil] at gt
  have gt2:=q2q (.lst (st.reverse.map Kd.pv)) gt
  refine forC (q1a W'.gw) fun N hN=>?_
  unfold kpB kpG
  dsimp! [enc,Tm.pv,q0p,q4d,tg9,gt,q2y gt,List.getLast?_append,List.getLast?_singleton,Option.or,Option.some_or,List.dropLast_concat]
  dsimp! [q2y gt2]
  refine ⟨big (by decide),by simp only [List.length_map,List.length_reverse]; exact bigl (by omega),hN _ _ (hy (.p k k') (.fn hkd hk') _ _ ?_)⟩
  exact (W'.push (st':=st) (σ':=_) ⟨none,none,none,none,rfl⟩ rfl).push ⟨_,_,_,_,rfl⟩ (by simp [Kd.pv])
 | ap f a ihf iha=>
  rintro fs i e REST st σ S ⟨ksf,ksa⟩ hd he hz hR hseg W hy hn
  simp only [Tm.sz] at hz hseg
  simp only [Tm.dp] at hd
  simp only [q2x,List.reverse_cons,List.reverse_append,List.map_append,List.append_assoc,List.map_cons,List.map_nil,List.singleton_append]
  have fl:=q8j f fs (i+1)
  refine iha fs (i+1+f.sz) e _ st σ S ksa (by omega) he (by omega) hR (fun j hj=>by
   have:=hseg (1+f.sz+j) (by omega)
   simp only [q2x,List.map_cons,List.map_append] at this
   rw [show 1+f.sz+j=(f.sz+j)+1 by omega,List.getElem?_cons_succ,List.getElem?_append_right (by rw [List.length_map,fl]; omega),List.length_map,fl,show f.sz+j - f.sz=j by omega] at this
   rw [show i+1+f.sz+j=i+(f.sz+j+1) by omega]
   exact this) W (fun ka hka σ1 S1 W1=>?_) (fun hno=>hn (fun hh3=>by obtain ⟨k',g⟩:=hh3; cases g with | ap _ g2=>exact hno ⟨_,g2⟩))
  refine ihf fs (i+1) e _ (ka::st) σ1 S1 ksf (by omega) he (by simp only [List.length_cons]; omega) hR (fun j hj=>by
   have:=hseg (1+j) (by omega)
   simp only [q2x,List.map_cons,List.map_append] at this
   rw [show 1+j=j+1 by omega,List.getElem?_cons_succ,List.getElem?_append_left (by rw [List.length_map,fl]; omega)] at this
   rw [show i+1+j=i+(j+1) by omega]
   exact this) W1 (fun kf hkf σ2 S2 W2=>?_) (fun hno=>hn (fun hh4=>by obtain ⟨k',g⟩:=hh4; cases g with | ap g1 _=>exact hno ⟨_,g1⟩))
  obtain ⟨j5,j6,j7,j8,rfl⟩:=W2.loc
  have kd1:=hka.dp hps he
  have kd2:=hkf.dp hps he
  have gt:=W2.gt
  simp only [List.reverse_cons,List.map_append,List.map_cons,List.map_nil] at gt
  have gt2:=q2q (.lst (st.reverse.map Kd.pv++[ka.pv])) gt
  have gt3:=q2q (.lst (st.reverse.map Kd.pv)) gt2
  refine forC (q1a W2.gw) fun N hN=>?_
  unfold kpB kpG
  dsimp! [enc,Tm.pv,q0p]
  refine seqI fun K2 hK2=>?_
  dsimp! [gt,q2y gt,List.getLast?_append,List.getLast?_singleton,Option.or,Option.some_or,List.dropLast_concat]
  refine hK2 _ _ ?_
  refine seqI fun K2 hK2=>?_
  dsimp! [gt2,q2y gt2,List.getLast?_append,List.getLast?_singleton,Option.or,Option.some_or,List.dropLast_concat]
  refine hK2 _ _ ?_
  have W3:=(W2.push (st':=ka::st) (σ':=_) ⟨none,none,none,none,rfl⟩ (o:=.lst (st.reverse.map Kd.pv++[ka.pv])) (by simp)).push (st':=st) (σ':=_) ⟨none,none,none,none,rfl⟩ (o:=.lst (st.reverse.map Kd.pv)) rfl
  dsimp! [gt3]
  refine h1 kf ka _ _ _ (by omega) (by omega) (fun k hkk=>?_) (fun hno=>hn (fun hh5=>by
   obtain ⟨k',g⟩:=hh5
   cases g with
   | ap g1 g2=>
    have e1:=hkf.uniq g1
    have e2:=hka.uniq g2
    subst e2
    exact hno ⟨k',e1.symm⟩) _ W3.ex)
  subst hkk
  dsimp! [q2y gt3]
  refine ⟨by simp only [List.length_map,List.length_reverse]; exact bigl (by omega),hN _ _ (hy k (.ap hkf hka) _ _ (W3.push ⟨_,_,_,_,rfl⟩ (by simp)))⟩
theorem dcI2 {chk:q0h→Prop} {g:WG} {wk wv:WE} {d:Nat} {Q:VC} (P:List PV→Ev.Loc→q0h→Prop) (hn:∀σ S,P [] σ S→chk S∧Q (.ref d) S)
  (hc:∀x r σ S,P (x::r) σ S→∀N:Ev.Loc→q0h→Prop,(∀σ S,P r σ S→N σ S)→chk S∧g x σ S NoX fun σ2 S2=>wk σ2 S2 NoX fun k S3=>wv σ2 S3 NoX fun v S4=>∃kvs kk,S4[d]?=some (.dK kvs)∧q9i k=some kk∧kvs.length<sizeLine∧N σ2 (S4.set d (.dK (putP kvs kk v)))):∀(xs:List PV) (σ:Ev.Loc) (S:q0h),P xs σ S→dcGo chk g wk wv d Q xs σ S
 | [],σ,S,h=>hn σ S h
 | x::r,σ,S,h=>⟨(hc x r σ S h (P r) fun _ _ z=>z).1,P r,fun σ' S' q=>dcI2 P hn hc r σ' S' q,(hc x r σ S h (P r) fun _ _ z=>z).2⟩
inductive Nms (ps:List (Str×Kd)):PV→q0h→Prop
 | l {n:Nat} {S:q0h}:S[n]?=some (.lst (ps.map encN))→Nms ps (.ref n) S
 | t (S:q0h):Nms ps (.tup (ps.map encN)) S
structure Pok (ps:List (Str×Kd)):Prop where
 nd:(ps.map (·.1)).Nodup
 dp:∀p∈ps,p.2.dp≤20
 len:ps.length≤1000
def KpD (sp:Den):Prop:=∀(ps:List (Str×Kd)) (x:PV) (t:Tm) (S:q0h) (E:EK) (Q:VC),Pok ps→Nms ps x S→Ks t 0→t.dp≤160→t.sz≤1000→(∀k,Ty ps [] t k→∀S',Ex [] S S'→Q k.pv S')→((¬∃k,Ty ps [] t k)→∀S',Ex [] S S'→E (.exc "NoKind") S')→sp [x,t.pv] S E Q
theorem kp_ok {s0 s1 s2 s3 s4:Den} (h0:PartsD s0) (h1:KooD s1) (h2:KonD s2) (h3:∀(f:PV) (k:Kd),FK f k→k.dp≤20→∀(S:q0h) (E:EK) (Q:VC),Q k.pv S→s3 [f] S E Q) (h4:KobD s4):KpD (fnP 2 9 (q3f s0 s1 s2 s3 s4)):=by
 intro ps x t S E Q pok hx ks hd hz hy hn
 refine ⟨rfl,?_⟩
 unfold q3f
 have rest:∀(kvs:List (Key×PV)) (S1:q0h),Kq ps kvs→S1[S.length]?=some (.dK kvs)→Ex [] S S1→∀j2,wSeq (wSet 3 (q0s s0 (q0d (wVar 1) wNil))) (wSeq (wSet 4 (wLst wNil)) (wSeq (wFor (wiRev (wVar 3)) kpG (kpB s1 s2 s3 s4)) (wRet (wBin bIx (wVar 4) (wC (.int 0)))))) { nx:=fun _ S'=>Q .non S',rt:=Q } E [some x,some t.pv,some (.ref S.length),j2,none,none,none,none,none] S1:=by
  intro kvs S1 hk g1 hx1 j2
  refine seqI fun K hK=>?_
  dsimp! [true_and]
  refine h0 t _ _ _ hz fun r S2 e2 hr hx2=>hK _ _ ?_
  clear hK K
  refine seqI fun K hK=>?_
  dsimp! [true_and]
  refine ⟨big (by decide),hK _ _ ?_⟩
  clear hK K
  have l1:=q1x g1
  have l2:=q1x e2
  have g3:=q3e (hx2.get g1 (by simp)) [SO.lst []]
  have e3:=q3e e2 [SO.lst []]
  have x3:Ex [] S (S2++[SO.lst []]):=(hx1.trans hx2).app _
  have t3:=q1v S2 (SO.lst [])
  have hl2:=hx2.1
  refine seqI fun K hK=>?_
  dsimp! [wiRev,q1a e3]
  have e1:((q2x t [] 0).map enc).reverse=(q2x t [] 0).reverse.map enc++[]:=by rw [List.append_nil,List.map_reverse]
  rw [e1]
  refine kp_go pok.dp h1 h2 h3 h4 (x0:=x) (x1:=t.pv) (dq:=S.length) (rw':=r) (tl:=S2.length) (S0:=S) hk t [] 0 [] [] [] _ _ ks hd (by simp) (by simp; omega) ⟨rfl,by simp⟩ (fun j hj=>by rw [Nat.zero_add]) ⟨⟨_,_,_,_,rfl⟩,g3,e3,t3,x3,by omega,by omega,by omega⟩ (fun k hkt σ' S' W=>?_) hn
  obtain ⟨j5,j6,j7,j8,rfl⟩:=W.loc
  refine ⟨q1a W.gw,hK _ _ ?_⟩
  have gt:=W.gt
  simp only [List.reverse_cons,List.reverse_nil,List.nil_append,List.map_cons,List.map_nil] at gt
  dsimp! [gt,q0p]
  exact hy k hkt _ W.ex
 refine seqI fun K hK=>?_
 have goal:∀(chk:q0h→Prop),(∀S',Ex [] S S'→chk S')→dcGo chk (q6l 2 (q2d (q1s 0) (q2d (q1s 1) q6m))) (wVar 0) (wVar 1) S.length (fun v S1=>K [some x,some t.pv,some v,none,none,none,none,none,none] S1) (ps.map encN) [none,none] (S++[SO.dK []]):=by
  intro chk hc
  refine dcI2 (fun rest σ S2=>∃(us vs:List (Str×Kd)) (kvs:List (Key×PV)) (j1 j2:Option PV),rest=us.map encN∧σ=[j1,j2]∧vs++us=ps∧S2[S.length]?=some (.dK kvs)∧Ex [] S S2∧kvs.length≤vs.length∧Kq vs kvs) ?_ ?_ _ _ _ ⟨ps,[],[],none,none,rfl,rfl,rfl,q1v _ _,Ex.new [] _ _,Nat.le_refl _,Kq.nil⟩
  ·rintro σ S2 ⟨us,vs,kvs,j1,j2,hr,rfl,e,k1,k2,k3,k4⟩
   obtain rfl:us=[]:=by cases us with
    | nil=>rfl
    | cons a b=>simp at hr
   rw [List.append_nil] at e
   subst e
   exact ⟨hc _ k2,hK _ _ (rest kvs S2 k4 k1 k2 _)⟩
  ·rintro z r σ S2 ⟨us,vs,kvs,j1,j2,hr,rfl,e,k1,k2,k3,k4⟩ N hN
   obtain ⟨p,us,rfl⟩:∃p r,us=p::r:=by
    cases us with
    | nil=>simp at hr
    | cons a b=>exact ⟨a,b,rfl⟩
   simp only [List.map_cons,List.cons.injEq] at hr
   obtain ⟨rfl,rfl⟩:=hr
   refine ⟨hc _ k2,?_⟩
   have hle:=congrArg List.length e
   simp only [List.length_append,List.length_cons] at hle
   have pl:=pok.len
   have hni:p.1∉vs.map (·.1):=fun hm=>by
    have nd:=pok.nd
    rw [←e,List.map_append,List.nodup_append] at nd
    exact nd.2.2 p.1 hm p.1 (by simp) rfl
   dsimp! [encN]
   refine ⟨kvs,.inr p.1,k1,rfl,bigl (by omega),hN _ _ ⟨us,vs++[p],putP kvs (.inr p.1) p.2.pv,_,_,rfl,rfl,by rw [←e]; simp,q2q _ k1,k2.set (.inr (Nat.le_refl _)),?_,k4.put hni⟩⟩
   have:=pP_len kvs (.inr p.1) p.2.pv
   simp only [List.length_append,List.length_singleton]; omega
 cases hx with
 | l hn'=>
  dsimp! [q1a hn']
  exact goal _ fun S' h=>q1a (h.get hn' (by simp))
 | t S=>
  dsimp! [true_and]
  exact goal _ fun _ _=>trivial
def ExD2 (sp:Den) (n:Nat):Prop:=∀(t:Tm) (w b m d c u N:Nat) (ps:List (Str×Kd)) (S:q0h) (E:EK) (Q:VC),t.dp≤n→Ks t N→Wt w b m d c u ps S→ps.length+2≤79→
 (∀(t':Tm) (qs:List (Str×Kd)) S',Ks t' N→t'.sz≤t.sz+3→t'.nd≤t.nd+3→qs.length≤2→Wt w b m d c u (ps++qs) S'→Ex [m,d,c] S S'→Q t'.pv S')→sp [.ref d,.ref w,t.pv] S E Q
theorem ex_ok2 {T N K M : Nat → Den} (hT : ∀ n, T (n + 1) = fnP 3 4 (q2f (N n) (T n) (K n) (M n))) (hN : ∀ n, 20 ≤ n → NextD (N n)) (hK1 : ∀ n, 20 ≤ n → Kind1P (K n)) (hK2 : ∀ n, 20 ≤ n → KindP (K n)) (hM : ∀ n, 20 ≤ n → TermQ (M n) 1) : ∀ (k n : Nat), k + 21 ≤ n → ExD2 (T n) k
  | k, 0, h => by omega
  | k, n + 1, hkn => by
    intro t w b m d c u N0 ps S E Q htd hg hW hps h
    rw [hT]
    refine ⟨rfl, ?_⟩
    unfold q2f
    have b3 : 3 ≤ sizeLine := big (by decide)
    refine seqI fun K0 hK => ?_
    dsimp! [true_and]
    refine hN n (by omega) d c _ _ _ hW.dk fun n1 S1 _ _ hd1 hx1 => ?_
    have hW1 := hW.nx hd1 hx1
    dsimp! [true_and]
    refine ⟨by decide, hK _ _ ?_⟩
    clear hK K0
    have w0 : 0 ≤ n1 % 8 := Int.emod_nonneg _ (by decide)
    generalize n1 % 8 = way at *
    have gw := hW1.wd
    obtain ⟨ws, gb, hws⟩ := hW1.bs
    have hwn : ws ≠ [] := by rintro rfl; simp at hws
    have new : ∀ t0 : PV, wRet (q0s (M n) (q0d (wVar 0) (q0d (wVar 1) (q0d (q0s (K n) (q0d (wVar 0) (q0d (wBin bIx (wVar 1) (wC (.str (Str.ofString "basics")))) (q0d (wC (.int 2)) wNil)))) (q0d (wLst wNil) (q0d (wC (.int 1)) wNil)))))) { nx := fun _ S' => Q .non S', rt := Q } E [some (.ref d), some (.ref w), some t0, some (.int way)] S1 := by
      intro t0
      dsimp! [gw, q5x]
      refine hK2 n (by omega) d c b ws _ _ _ hd1 gb hwn hW1.ne.2.1.1 hW1.ne.2.1.2 fun k S2 kd hd2 hx2 => ?_
      have hW2 := hW1.nx hd2 hx2
      refine ⟨big (by decide), ?_⟩
      refine hM n (by omega) w b m d c u S2.length ps [] (fun _ => 0) k _ _ _ (hW2.new _) (fresh_at hW2 _) (by show _ + 2 ≤ 79; exact hps) (by omega) (by show 0 + 1 ≤ 50; decide) fun t' qs g' S3 t1 t2 t3 t4 hW3 _ hx3 => ?_
      have z4 : t'.sz ≤ 4 := by have : 3 * 2 ^ 1 = 6 := by decide
                                omega
      have p1 := nd_sz t
      have p2 := nd_sz t'
      exact h t' qs S3 (Ks.mono (Nat.zero_le _) t3.ty.ks) (by omega) (by omega) t4 hW3 ⟨by have := hx1.1; have := hx2.1; have := hx3.1; simp at this; omega, fun i hi ni => by
        have e1 := hx1.1
        have e2 := hx2.1
        simp only [List.mem_cons, List.not_mem_nil, or_false, not_or] at ni
        rw [hx3.2 i (by simp; omega) (by simp; exact ⟨ni.1, ni.2.1, ni.2.2, by omega⟩), List.getElem?_append_left (by omega), hx2.2 i (by omega) (by simp; exact ni.2), hx1.2 i hi (by simp; exact ni.2)]⟩
    rcases tm3 t with ⟨z, rs, ez, z1, z2, _, _⟩ | ⟨k0, t0, rfl⟩ | ⟨f, a, rfl⟩
    · rw [ez]
      refine seqI fun K hK => ?_
      dsimp! [q0p, z1]
      refine hK _ _ ?_
      refine seqI fun K hK => ?_
      dsimp! [q0p, z2]
      refine hK _ _ ?_
      refine seqI fun K hK => ?_
      dsimp! [q0p, z2]
      refine hK _ _ ?_
      refine seqI fun K hK => ?_
      dsimp! [q0p, z1]
      refine hK _ _ ?_
      refine seqI fun K hK => ?_
      dsimp! [q0p, z2]
      exact hK _ _ (new _)
    · simp only [Tm.dp] at htd
      refine seqI fun K0 hK => ?_
      dsimp! [Tm.pv, q0p, q4d, q6s]
      refine ite2 (fun _ => ?_) (fun _ => hK _ _ ?_)
      · refine ex_ok2 hT hN hK1 hK2 hM (k - 1) n (by omega) t0 w b m d c u (N0 + 1) ps _ _ _ (by omega) hg.2 hW1 hps fun t' qs S2 a2 a4 a5 a6 hW2 hx2 => ⟨b3, h (.fn k0 t') qs S2 ⟨hg.1, a2⟩ (by simp only [Tm.sz]; omega) (by simp only [Tm.nd]; omega) a6 hW2 ((hx1.weak (by simp)).trans hx2)⟩
      clear hK K0
      refine seqI fun K0 hK => ?_
      dsimp! [q0p, tg9]
      refine hK _ _ ?_
      refine seqI fun K0 hK => ?_
      dsimp! [q0p, tg9]
      refine hK _ _ ?_
      refine seqI fun K0 hK => ?_
      dsimp! [q0p, q6s, gw, q5x]
      refine hK1 n (by omega) d c b ws _ _ _ hd1 gb hwn hW1.ne.2.1.1 hW1.ne.2.1.2 fun k1 S2 kd hd2 hx2 => ⟨b3, ?_⟩
      refine h (.fn k1.pv t0) [] S2 ⟨⟨k1, rfl, by omega⟩, hg.2⟩ (by simp only [Tm.sz]; omega) (by simp only [Tm.nd]; omega) (by simp) (by rw [List.append_nil]; exact hW1.nx hd2 hx2) ((hx1.weak (by simp)).trans (hx2.weak (by simp)))
    · simp only [Tm.dp] at htd
      refine seqI fun K0 hK => ?_
      dsimp! [Tm.pv, q0p, tgb]
      refine hK _ _ ?_
      clear hK K0
      refine seqI fun K0 hK => ?_
      dsimp! [q0p, q4d, q6s]
      refine ite2 (fun _ => ?_) (fun _ => hK _ _ ?_)
      · refine ex_ok2 hT hN hK1 hK2 hM (k - 1) n (by omega) f w b m d c u N0 ps _ _ _ (by omega) hg.1 hW1 hps fun t' qs S2 a2 a4 a5 a6 hW2 hx2 => ⟨b3, h (.ap t' a) qs S2 ⟨a2, hg.2⟩ (by simp only [Tm.sz]; omega) (by simp only [Tm.nd]; omega) a6 hW2 ((hx1.weak (by simp)).trans hx2)⟩
      clear hK K0
      refine seqI fun K0 hK => ?_
      dsimp! [q0p, q4d, q6s]
      refine ite2 (fun _ => ?_) (fun _ => hK _ _ ?_)
      · refine ex_ok2 hT hN hK1 hK2 hM (k - 1) n (by omega) a w b m d c u N0 ps _ _ _ (by omega) hg.2 hW1 hps fun t' qs S2 a2 a4 a5 a6 hW2 hx2 => ⟨b3, h (.ap f t') qs S2 ⟨hg.1, a2⟩ (by simp only [Tm.sz]; omega) (by simp only [Tm.nd]; omega) a6 hW2 ((hx1.weak (by simp)).trans hx2)⟩
      clear hK K0
      refine seqI fun K0 hK => ?_
      dsimp! [q0p, tgb]
      refine hK _ _ ?_
      clear hK K0
      refine seqI fun K0 hK => ?_
      dsimp! [q0p, q4d, q6s]
      refine ite2 (fun _ => ⟨b3, ?_⟩) (fun _ => hK _ _ (new _))
      refine h (.ap a f) [] S1 ⟨hg.2, hg.1⟩ (by simp only [Tm.sz]; omega) (by simp only [Tm.nd]; omega) (by simp) (by rw [List.append_nil]; exact hW1) (hx1.weak (by simp))
theorem lkk_t:List.lookup "NoKind" [("NoKind",true)]=some true:=by decide
theorem lkk_f:List.lookup "NoKind" [("NoKind",false)]=some false:=by decide
def KRefD (sp:Den):Prop:=∀(ps:List (Str×Kd)) (x:PV) (t:Tm) (S:q0h) (E:EK) (Q:VC),Pok ps→Nms ps x S→Ks t 0→t.dp≤160→t.sz≤1000→(¬∃k,Ty ps [] t k)→(∀S',Ex [] S S'→Q (.bl true) S')→sp [x,t.pv] S E Q
theorem kref_ok {sp:Den} (hd:KpD sp):KRefD (fnP 2 5 (q2v sp)):=by
 intro ps x t S E Q pok hx ks h1 h2 hno h
 refine ⟨rfl,?_⟩
 unfold q2v
 refine seqI fun K hK=>?_
 dsimp! [true_and]
 refine hK _ _ ?_
 clear hK K
 refine seqI fun K hK=>?_
 dsimp! [true_and]
 refine hd ps x t S _ _ pok hx ks h1 h2 (fun k hk=>absurd ⟨k,hk⟩ hno) fun _ S1 x1=>?_
 dsimp! [true_and]
 refine ⟨by simp,?_⟩
 refine seqI fun K2 hK2=>?_
 dsimp! [lkk_f]
 refine hK2 _ _ ?_
 clear hK2 K2
 refine seqI fun K2 hK2=>?_
 dsimp! [lkk_f]
 refine hK2 _ _ ?_
 clear hK2 K2
 dsimp! [lkk_t]
 refine hK _ _ ?_
 dsimp! [true_and]
 exact h _ x1
def LkofD (sp:Den):Prop:=∀(ps:List (Str×Kd)) (t:Tm) (q a:Nat) (kvs:List (Key×PV)) (S:q0h) (E:EK) (Q:VC),(∀p∈ps,p.2.dp≤20)→Ks t 0→t.dp≤120→S[q]?=some (.dK kvs)→Kq ps kvs→S[a]?=some (.lst [])→KofQ ps [] t S Q→sp [.ref q,t.pv,.ref a] S E Q
def RightD (sp:Den):Prop:=∀(ps:List (Str×Kd)) (n:Nat) (t:Tm) (S:q0h) (E:EK) (Q:VC),Pok ps→S[n]?=some (.lst (ps.map encN))→Ks t 0→t.nd≤120→t.sz≤1000→(∀S',Ex [] S S'→Q (.bl true) S')→sp [.ref n,t.pv] S E Q
theorem right_ok {s1 s2 s3 s4:Den} (h1:LkofD s1) (h2:KRefD s2) (h3:∀(x:PV),q3d x=true→dep x<150→∀(S:q0h) (E:EK) (Q:VC),(∀S',Ex [] S S'→Q (.bl true) S')→s3 [x,x] S E Q) (h4:KpD s4):RightD (fnP 2 6 (q3o s1 s2 s3 s4)):=by
 intro ps n t S E Q pok hn ks hnd hz h
 have hdp:=dp_nd t
 refine ⟨rfl,?_⟩
 unfold q3o
 refine seqI fun K hK=>?_
 dsimp! [true_and]
 refine hK _ _ ?_
 clear hK K
 have n0:=q3e hn [SO.dK []]
 have g0:=q1v S (SO.dK [])
 have pl:=pok.len
 refine seqI fun K hK=>?_
 dsimp! [q1a n0]
 have nl:=q1x hn
 refine forI (fun rest σ S6=>∃(us vs:List (Str×Kd)) (kvs:List (Key×PV)) (j6 j7:Option PV),rest=us.map encN∧vs++us=ps∧σ=[some (.ref n),some t.pv,some (.ref S.length),j6,j7,none]∧S6[S.length]?=some (.dK kvs)∧kvs.length≤vs.length∧Kq vs kvs∧Ex [] S S6) ?_ ?_ _ _ _ ⟨ps,[],[],none,none,rfl,rfl,rfl,g0,Nat.le_refl _,Kq.nil,Ex.new [] _ _⟩
 case refine_2=>
  rintro x rest σ S6 ⟨us,vs,kvs,j6,j7,hr,hvs,rfl,g2,g3,g4,g5⟩ N hN
  obtain ⟨p,us,rfl⟩:∃p r,us=p::r:=by
   cases us with
   | nil=>simp at hr
   | cons a b=>exact ⟨a,b,rfl⟩
  simp only [List.map_cons,List.cons.injEq] at hr
  obtain ⟨rfl,rfl⟩:=hr
  have hvl:=congrArg List.length hvs
  simp only [List.length_append,List.length_cons] at hvl
  have hni:p.1∉vs.map (·.1):=fun hm=>by
   have nd:=pok.nd
   rw [←hvs,List.map_append,List.nodup_append] at nd
   exact nd.2.2 p.1 hm p.1 (by simp) rfl
  refine ⟨q1a (g5.get hn (by simp)),?_⟩
  dsimp! [encN,g2]
  refine ⟨bigl (by omega),?_⟩
  refine hN _ _ ⟨us,vs++[p],putP kvs (.inr p.1) p.2.pv,_,_,rfl,by rw [←hvs]; simp,rfl,q2q _ g2,?_,g4.put hni,g5.set (.inr (Nat.le_refl _))⟩
  have:=pP_len kvs (.inr p.1) p.2.pv
  simp only [List.length_append,List.length_singleton]; omega
 rintro σ S6 ⟨us,vs,kvs,j6,j7,hr,hvs,rfl,g2,g3,g4,g5⟩
 obtain rfl:us=[]:=by cases us with
  | nil=>rfl
  | cons a b=>simp at hr
 rw [List.append_nil] at hvs
 subst hvs
 refine ⟨q1a (g5.get hn (by simp)),hK _ _ ?_⟩
 clear hK K
 refine seqI fun K hK=>?_
 dsimp! [true_and]
 refine ⟨big (by decide),?_⟩
 have x7:Ex [] S (S6++[SO.lst []]):=g5.app _
 refine h1 vs t S.length S6.length kvs _ _ _ pok.dp ks (by omega) (q3e g2 _) g4 (q1v _ _) ⟨fun k hk S8 x8=>hK _ _ ?_,fun hno S8 x8=>hK _ _ ?_⟩
 ·clear hK K
  have x9:=x7.trans x8
  have kd:=hk.dp pok.dp (by simp)
  refine seqI fun K hK=>?_
  dsimp! [true_and]
  refine ite2 (fun c=>absurd c (by cases k<;>exact Bool.false_ne_true)) (fun _=>hK _ _ ?_)
  dsimp! [true_and]
  refine h4 vs (.ref n) t _ _ _ pok (.l (x9.get hn (by simp))) ks (by omega) hz (fun k' hk' S10 x10=>?_) (fun hno=>absurd ⟨k,hk⟩ hno)
  obtain rfl:=hk.uniq hk'
  refine h3 _ (q6g _) (by rw [q7x]; omega) _ _ _ fun S11 x11=>?_
  exact h _ ((x9.trans x10).trans x11)
 ·clear hK K
  have x9:=x7.trans x8
  refine seqI fun K hK=>?_
  dsimp! [true_and]
  exact h2 vs (.ref n) t _ _ _ pok (.l (x9.get hn (by simp))) ks (by omega) hz hno fun S11 x11=>h _ (x9.trans x11)
theorem lkN_mem {ps:List (Str×Kd)} {w:Str} {k:Kd} (h:lkN ps w=some k):(w,k)∈ps:=by
 unfold lkN at h
 cases q:ps.find? fun p=>decide (p.1=w) with
 | none=>rw [q] at h; cases h
 | some p=>
  rw [q] at h
  cases h
  have e:p.1=w:=by simpa using List.find?_some q
  rw [←e]
  exact List.mem_of_find?_eq_some q
theorem Ty.sub {ps qs:List (Str×Kd)} (hq:∀w k,lkN ps w=some k→lkN qs w=some k) {e:List Kd} {t:Tm} {k:Kd} (h:Ty ps e t k):Ty qs e t k:=by
 induction h with
 | nm h=>exact .nm (hq _ _ h)
 | lf n h g=>exact .lf n h g
 | bd h=>exact .bd h
 | fn h _ ih=>exact .fn h ih
 | ap _ _ i1 i2=>exact .ap i1 i2
theorem eqBs_nms:∀(ps:List (Str×Kd)),(∀p∈ps,p.2.dp≤20)→eqBs (ps.map encN) (ps.map encN)=true∧q6r (ps.map encN)
 | [],_=>⟨rfl,by rw [List.map_nil,q8z]; trivial⟩
 | p::r,h=>by
  obtain ⟨i1,i2,i3⟩:=eqBs_nms r fun v hv=>h v (by simp [hv])
  have hp:=h p (by simp)
  have h3:=nrf_pv p.2
  have h4:=q9o p.2 p.2
  rw [decide_eq_true rfl] at h4
  have h5:=q7x p.2
  refine ⟨by simp [List.map_cons,eqBs,encN,eqB_tt,q7h,h4,i1],?_,?_⟩
  ·simp only [List.map_cons,nrfs,encN,nrf,h3,i2,Bool.and_self]
  ·simp only [List.map_cons,deps,encN,dep,h5]; omega
section
open PySem L2 Ev PySem.Spec PyProof.Rows
abbrev SimF (P:Program) (w:World) (K:PySem.W.Frag) (mg:Str→Option Value) (base:Heap) (k:Nat) (x:Str) (N:List Str) (st:Stmt) (W:WS) (f:Addr):Prop:=∀{cdv:Value} {A:Around} {outer:List Env} {s:Shared} {H:Hp} {E:XK} {G:GX},Room k (A.deeper (envOfC x (q0j st) s.heap.objs.size f cdv))→q5h (CXE P w) (cxOf (CXE P w) P w K mg base N x (q0j st) f cdv A outer s H E) (xkOf K G.xh)→q9r (cxOf (CXE P w) P w K mg base N x (q0j st) f cdv A outer s H E) G (q0z st) W
theorem hu_r {k:Nat} {A:Around} (hr:Room k A):A.units+200<cLine:=by have:=hr.un; omega
variable {P:Program} {w:World} {K:PySem.W.Frag} {mg:Str→Option Value} {base:Heap} {f:Addr} {k:Nat}
def top (i:Nat):Stmt:=PySem.Challenge.pw_slashwise_k13_kinds_of_terms.main.body.getD i (.Pass ⟨0,0,0,0⟩)
abbrev q7e:Stmt:=top 24
theorem scLdeck:FnScope ["_law_script", "_law_cells", "_law_mixed"] ["_law_script"] (q0j q7e):=⟨rfl,rfl,rfl,by decide +kernel,rfl,by decide +kernel,by decide +kernel⟩
abbrev q7a:Stmt:=top 25
theorem q8v:FnScope ["_law_deck_here", "_law_cells", "_law_cell", "_law_number"] ["_law_deck_here"] (q0j q7a):=⟨rfl,rfl,rfl,by decide +kernel,rfl,by decide +kernel,by decide +kernel⟩
abbrev q3q:Stmt:=top 26
theorem q5b:FnScope ["_law_number", "_law_size", "_law_word_here", "_law_k"] ["_law_number", "_law_size"] (q0j q3q):=⟨rfl,rfl,rfl,by decide +kernel,rfl,by decide +kernel,by decide +kernel⟩
abbrev q6x:Stmt:=top 27
theorem q4r:FnScope ["_law_deck_here", "_law_words_here", "_law_way", "_law_number", "_law_size", "_law_word_here", "_law_at"] ["_law_deck_here", "_law_words_here"] (q0j q6x):=⟨rfl,rfl,rfl,by decide +kernel,rfl,by decide +kernel,by decide +kernel⟩
abbrev q5o:Stmt:=top 28
theorem scLwords:FnScope ["_law_deck_here", "_law_many", "_law_words_here", "_law_k"] ["_law_deck_here", "_law_many"] (q0j q5o):=⟨rfl,rfl,rfl,by decide +kernel,rfl,by decide +kernel,by decide +kernel⟩
abbrev q5n:Stmt:=top 36
theorem scLworld:FnScope ["_law_deck_here", "_law_uses", "_law_leaves", "_law_basics"] ["_law_deck_here", "_law_uses", "_law_leaves"] (q0j q5n):=⟨rfl,rfl,rfl,by decide +kernel,rfl,by decide +kernel,by decide +kernel⟩
abbrev q7c:Stmt:=top 29
theorem scLkind:FnScope ["_law_deck_here", "_law_basics", "_law_deep", "_law_way"] ["_law_deck_here", "_law_basics", "_law_deep"] (q0j q7c):=⟨rfl,rfl,rfl,by decide +kernel,rfl,by decide +kernel,by decide +kernel⟩
abbrev sLfn:Stmt:=top 33
theorem scLfn:FnScope ["_law_deck_here", "_law_world_here", "_law_kind_here", "_law_around", "_law_deep", "_law_body"] ["_law_deck_here", "_law_world_here", "_law_kind_here", "_law_around", "_law_deep"] (q0j sLfn):=⟨rfl,rfl,rfl,by decide +kernel,rfl,by decide +kernel,by decide +kernel⟩
abbrev sLof:Stmt:=top 34
theorem scLof:FnScope ["_law_deck_here", "_law_world_here", "_law_kind_here", "_law_around", "_law_deep", "_law_other", "_law_way", "_law_f"] ["_law_deck_here", "_law_world_here", "_law_kind_here", "_law_around", "_law_deep"] (q0j sLof):=⟨rfl,rfl,rfl,by decide +kernel,rfl,by decide +kernel,by decide +kernel⟩
abbrev q5p:Stmt:=top 31
theorem scLwidth:FnScope ["_law_kind_here"] ["_law_kind_here"] (q0j q5p):=⟨rfl,rfl,rfl,by decide +kernel,rfl,by decide +kernel,by decide +kernel⟩
abbrev q7d:Stmt:=top 30
theorem scLform:FnScope ["_law_kind_here", "_law_cell"] ["_law_kind_here", "_law_cell"] (q0j q7d):=⟨rfl,rfl,rfl,by decide +kernel,rfl,by decide +kernel,by decide +kernel⟩
abbrev q7b:Stmt:=top 32
theorem scLlone:FnScope ["_law_world_here", "_law_kind_here", "_law_cell", "_law_name", "_law_other", "_law_word_here"] ["_law_world_here", "_law_kind_here", "_law_cell"] (q0j q7b):=⟨rfl,rfl,rfl,by decide +kernel,rfl,by decide +kernel,by decide +kernel⟩
abbrev q6y:Stmt:=top 35
theorem scLterm:FnScope ["_law_deck_here", "_law_world_here", "_law_kind_here", "_law_around", "_law_deep", "_law_way", "_law_some", "_law_at"] ["_law_deck_here", "_law_world_here", "_law_kind_here", "_law_around", "_law_deep"] (q0j q6y):=⟨rfl,rfl,rfl,by decide +kernel,rfl,by decide +kernel,by decide +kernel⟩
abbrev q6z:Stmt:=top 39
theorem scLsame:FnScope ["_law_one", "_law_other"] ["_law_one", "_law_other"] (q0j q6z):=⟨rfl,rfl,rfl,by decide +kernel,rfl,by decide +kernel,by decide +kernel⟩
abbrev q1k:Stmt:=top 17
theorem q2w:FnScope ["term", "rows", "todo", "part", "fns"] ["term"] (q0j q1k):=⟨rfl,rfl,rfl,by decide +kernel,rfl,by decide +kernel,by decide +kernel⟩
abbrev q2k:Stmt:=top 20
theorem sckind_of_of:FnScope ["wanting", "given"] ["wanting", "given"] (q0j q2k):=⟨rfl,rfl,rfl,by decide +kernel,rfl,by decide +kernel,by decide +kernel⟩
abbrev q1q:Stmt:=top 21
theorem sckind_of_name:FnScope ["kinds", "name"] ["kinds", "name"] (q0j q1q):=⟨rfl,rfl,rfl,by decide +kernel,rfl,by decide +kernel,by decide +kernel⟩
abbrev q1r:Stmt:=top 15
theorem sckind_of_form:FnScope ["form"] ["form"] (q0j q1r):=⟨rfl,rfl,rfl,by decide +kernel,rfl,by decide +kernel,by decide +kernel⟩
abbrev q3p:Stmt:=top 18
theorem scowner_of:FnScope ["fns", "k"] ["fns", "k"] (q0j q3p):=⟨rfl,rfl,rfl,by decide +kernel,rfl,by decide +kernel,by decide +kernel⟩
abbrev q1l:Stmt:=top 22
theorem q4k:FnScope ["rows", "fns", "k", "owner", "fn"] ["rows", "fns", "k"] (q0j q1l):=⟨rfl,rfl,rfl,by decide +kernel,rfl,by decide +kernel,by decide +kernel⟩
abbrev q4g:Stmt:=top 19
theorem q4c:FnScope ["names", "term", "kinds", "rows", "told", "part", "fns", "wanting", "given"] ["names", "term"] (q0j q4g):=⟨rfl,rfl,rfl,by decide +kernel,rfl,by decide +kernel,by decide +kernel⟩
abbrev q2n:Stmt:=top 40
theorem q7u:FnScope ["_law_deck_here", "_law_world_here", "_law_term_here", "_law_way"] ["_law_deck_here", "_law_world_here", "_law_term_here"] (q0j q2n):=⟨rfl,rfl,rfl,by decide +kernel,rfl,by decide +kernel,by decide +kernel⟩
abbrev q1m:Stmt:=top 38
theorem q8w:FnScope ["_law_form_here"] ["_law_form_here"] (q0j q1m):=⟨rfl,rfl,rfl,by decide +kernel,rfl,by decide +kernel,by decide +kernel⟩
abbrev q3s:Stmt:=top 37
theorem q6f:FnScope ["_law_known", "_law_term_here", "_law_around", "_law_inner", "_law_f", "_law_a"] ["_law_known", "_law_term_here", "_law_around"] (q0j q3s):=⟨rfl,rfl,rfl,by decide +kernel,rfl,by decide +kernel,by decide +kernel⟩
abbrev q3r:Stmt:=top 41
theorem q4i:FnScope ["_law_names", "_law_term_here", "_law_good", "e", "_law_other"] ["_law_names", "_law_term_here"] (q0j q3r):=⟨rfl,rfl,rfl,by decide +kernel,rfl,by decide +kernel,by decide +kernel⟩
abbrev q5q:Stmt:=top 42
theorem q6w:FnScope ["_law_names", "_law_term_here", "_law_known", "_law_name", "_law_kind_here", "_law_due"] ["_law_names", "_law_term_here"] (q0j q5q):=⟨rfl,rfl,rfl,by decide +kernel,rfl,by decide +kernel,by decide +kernel⟩
abbrev slaw:Stmt:=top 43
theorem q6v:FnScope ["_law_script", "_law_deck_here", "_law_world_here", "_law_kind_here", "_law_term_here", "_law_k", "_law_word_here", "_law_names", "_law_turn", "_law_other", "_law_kept"] ["_law_script"] (q0j slaw):=⟨rfl,rfl,rfl,by decide +kernel,rfl,by decide +kernel,by decide +kernel⟩
theorem simLdeck (z_sum:mg "sum" = none):SimF P w K mg base k "_law_deck" ["_law_script", "_law_cells", "_law_mixed"] q7e (q4a) f:=by
 intro cdv A outer s H E G hr hx
 have hu:=hu_r hr
 unfold q4a
 exact (q0f (q0q 1 scLdeck.nd (q0l q2h (q4x (q0b 0) q4z (q4y q0e)) (q3i (q0a q0e q0c))))
 (q0f (q0q 2 scLdeck.nd (sim_cmp (q1y hu) (q0l q1i (q0k hu (q0b 1) q0e) q0e) q0e (q0u _)))
 (q0f (q5j (q0l q3c (q0k hu (q0b 1) q0e) q0e) (q4p (sets hu) (q0b 1) q0e))
 (q0g (q0r (sim_disp (q3g q0m (q0b 1) (q3g q0m q0e (q3g q0m q0e (q3g q0m (q0l q2h q0e (q0l q1i (q0v (calls_sum rfl) z_sum L2.boot_sum (q0a (q0b 1) q0c)) q0e)) (q3g q0m (q0b 2) simD_nil)))))))))))
theorem simLnext (z_len:mg "len" = none):SimF P w K mg base k "_law_next" ["_law_deck_here", "_law_cells", "_law_cell", "_law_number"] q7a (q3y) f:=by
 intro cdv A outer s H E G hr hx
 have hu:=hu_r hr
 unfold q3y
 exact (q0f (q0q 1 q8v.nd (q0k hu (q0b 0) q0m))
 (q0f (q1d (q2m (q0k hu (q0b 0) q0m)) (q0f (q5j (q0l q2h (q0k hu (q0b 0) q0m) q0e) (q4p (sets hu) (q0b 0) q0m))
 (q0f (q0q 2 q8v.nd (q0k hu (q0b 1) (q0l q1i (q0k hu (q0b 0) q0m) (q0v q2b z_len PySem.boot_len (q0a (q0b 1) q0c)))))
 (q0f (q5j (q0l q1i (q0l q2h (q0l q2h (q0l q8y (q0k hu (q0b 0) q0m) q0e) (q0b 2)) (q0k hu (q0b 0) q0m)) q0e) (q4p (sets hu) (q0b 0) q0m))
 (q0f (q0q 3 q8v.nd (q0l q1i (q0l q2h (q0l q8y (q0k hu (q0b 0) q0m) (q0k hu (q0b 0) q0m)) (q0l q8y q0e (q0k hu (q0b 0) q0m))) q0e))
 (q0g (q0r (q0l q1i (q0l q8y (q0b 3) (q0l q2h (q0b 3) q0e)) q0e))))))) q0t)
 (q0f (q0q 3 q8v.nd (q0l q1i (q0k hu (q0b 1) q0e) (q0l ops_pow q0e q0e)))
 (q0f (q5j (q0l q3c (q0k hu (q0b 1) q0e) (q0l ops_pow q0e q0e)) (q4p (sets hu) (q0b 1) q0e))
 (q0f (q5j (q0l q4e (q0k hu (q0b 0) q0m) q0e) (q4p (sets hu) (q0b 0) q0m))
 (q0f (q1d (SimW.t (q2l (q0n (q1y hu) (q0k hu (q0b 0) q0m) q0e (q0u _)) (q2g (q0n q5u (q0v q2b z_len PySem.boot_len (q0a (q0b 1) q0c)) q0e (q0u _))))) (q0f (q2s (q4n PySem.F.plainAttrs_list PySem.F.slot_list_pop PySem.F.type_list_pop mts_popAt (q0b 1) (q0a q0e q0c)))
 (q0g (q5j q0e (q4p (sets hu) (q0b 0) q0m)))) q0t)
 (q0g (q0r (q0b 3)))))))))
theorem simLspelled (z_range:mg "range" = none):SimF P w K mg base k "_law_spelled" ["_law_number", "_law_size", "_law_word_here", "_law_k"] q3q (q2u) f:=by
 intro cdv A outer s H E G hr hx
 have hu:=hu_r hr
 unfold q2u
 exact (q0f (q0q 2 q5b.nd q0m)
 (q0f (q6o PassesOwn.leaving rfl (q5a z_range (q0a (q0b 1) q0c)) (q1b (i:=3) q5b.nd) (q0f (q0q 2 q5b.nd (q0l q2h (q0b 2) (q0k hu q0m (q0l q1i (q0b 0) q0e))))
 (q0g (q0q 0 q5b.nd (q0l q3c (q0b 0) q0e)))))
 (q0g (q0r (q0b 2)))))
theorem simLword (z_len:mg "len" = none) (C_law_next:Cal P w K mg base k "_law_next" ["_law_deck_here"] (q0o K spLnext) fLnext fdLnext) (C_law_spelled:Cal P w K mg base k "_law_spelled" ["_law_number", "_law_size"] (q0o K spLspelled) fLspelled fdLspelled):SimF P w K mg base k "_law_word" ["_law_deck_here", "_law_words_here", "_law_way", "_law_number", "_law_size", "_law_word_here", "_law_at"] q6x (q5z spLnext spLspelled) f:=by
 intro cdv A outer s H E G hr hx
 have hu:=hu_r hr
 unfold q5z
 exact (q0f (q0q 2 q4r.nd (q0i C_law_next hr hx (q0a (q0b 0) q0c)))
 (q0f (q0q 3 q4r.nd (q0i C_law_next hr hx (q0a (q0b 0) q0c)))
 (q0f (q0q 4 q4r.nd (q0l q2h q0e (q0l q1i (q0b 2) q0e)))
 (q0f (q0q 5 q4r.nd (q0i C_law_spelled hr hx (q0a (q0b 3) (q0a (q0b 4) q0c))))
 (q0f (q1d (SimW.t (q2l (q0n (ops_ne hu) (q0b 1) (q3i q0c) (q0u _)) (q2g (q0n (q1y hu) (q0l q1i (q0l q3c (q0b 2) q0e) q0e) q0e (q0u _))))) (q0f (q0q 6 q4r.nd (q0l q1i (q0l q3c (q0b 2) q0e) (q0v q2b z_len PySem.boot_len (q0a (q0k hu (q0b 1) q0e) q0c))))
 (q0g (q0q 5 q4r.nd (q0l q2h (q0l q2h (q4x (q0k hu (q0b 1) q0e) q4z (q4y (q0b 6))) (q0k hu (q0b 5) q0e)) (q4x (q0k hu (q0b 1) q0e) (q4y (q0l q2h (q0b 6) q0e)) q4z))))) q0t)
 (q0f (sim_while PassesOwn.leaving (SimW.t (q5l (q0n (ops_in hu) (q0b 5) (q0b 1) (by with_unfolding_all rfl)) (q5k (q0n (q1y hu) (q0b 5) q0m (q0u _))))) (q0f (q0q 3 q4r.nd (q0l q2h (q0b 3) q0e))
 (q0f (q0q 4 q4r.nd (q0l q2h (q0l q1i (q0b 4) q0e) q0e))
 (q0g (q0q 5 q4r.nd (q0i C_law_spelled hr hx (q0a (q0b 3) (q0a (q0b 4) q0c))))))))
 (q0g (q0r (q0b 5)))))))))
theorem simLwords (z_range:mg "range" = none) (C_law_word:Cal P w K mg base k "_law_word" ["_law_deck_here", "_law_words_here"] (q0o K spLword) fLword fdLword):SimF P w K mg base k "_law_words" ["_law_deck_here", "_law_many", "_law_words_here", "_law_k"] q5o (q3n spLword) f:=by
 intro cdv A outer s H E G hr hx
 have hu:=hu_r hr
 unfold q3n
 exact (q0f (q0q 2 scLwords.nd (q3i q0c))
 (q0f (q6o PassesOwn.leaving rfl (q5a z_range (q0a (q0b 1) q0c)) (q1b (i:=3) scLwords.nd) (q0g (q2s (q4n PySem.F.plainAttrs_list PySem.F.slot_list_append PySem.F.type_list_append q2i (q0b 2) (q0a (q0i C_law_word hr hx (q0a (q0b 0) (q0a (q0b 2) q0c))) q0c)))))
 (q0g (q0r (q0b 2)))))
theorem simLworld (C_law_words:Cal P w K mg base k "_law_words" ["_law_deck_here", "_law_many"] (q0o K spLwords) fLwords fdLwords):SimF P w K mg base k "_law_world" ["_law_deck_here", "_law_uses", "_law_leaves", "_law_basics"] q5n (q3m spLwords) f:=by
 intro cdv A outer s H E G hr hx
 have hu:=hu_r hr
 unfold q3m
 exact (q0f (q0q 3 scLworld.nd (q0i C_law_words hr hx (q0a (q0b 0) (q0a q0e q0c))))
 (q0g (q0r (sim_disp (q3g q0m (q0b 3) (q3g q0m (q3i q0c) (q3g q0m (q0b 0) (q3g q0m (q0b 1) (q3g q0m (q0b 2) simD_nil)))))))))
theorem simLkind (z_len:mg "len" = none) (C_law_next:Cal P w K mg base k "_law_next" ["_law_deck_here"] (q0o K spLnext) fLnext fdLnext) (C_law_kind:Cal P w K mg base k "_law_kind" ["_law_deck_here", "_law_basics", "_law_deep"] (q0o K spLkind) fLkind fdLkind):SimF P w K mg base k "_law_kind" ["_law_deck_here", "_law_basics", "_law_deep", "_law_way"] q7c (q3j spLnext spLkind) f:=by
 intro cdv A outer s H E G hr hx
 have hu:=hu_r hr
 unfold q3j
 exact (q0f (q0q 3 scLkind.nd (q0i C_law_next hr hx (q0a (q0b 0) q0c)))
 (q0f (q1d (SimW.t (q5l (q0n (q1y hu) (q0b 2) q0e (q0u _)) (q5k (q0n (q1y hu) (q0l q1i (q0b 3) q0e) q0e (q0u _))))) (q0g (q0r (q0k hu (q0b 1) (q0l q1i (q0l q3c (q0b 3) q0e) (q0v q2b z_len PySem.boot_len (q0a (q0b 1) q0c)))))) q0t)
 (q0g (q0r (q1f (q0a (q0i C_law_kind hr hx (q0a (q0b 0) (q0a (q0b 1) (q0a (q0l q4e (q0b 2) q0e) q0c)))) (q0a (q0i C_law_kind hr hx (q0a (q0b 0) (q0a (q0b 1) (q0a (q0l q4e (q0b 2) q0e) q0c)))) q0c)))))))
theorem simLfn (C_law_term:Cal P w K mg base k "_law_term" ["_law_deck_here", "_law_world_here", "_law_kind_here", "_law_around", "_law_deep"] (q0o K spLterm) fLterm fdLterm):SimF P w K mg base k "_law_fn" ["_law_deck_here", "_law_world_here", "_law_kind_here", "_law_around", "_law_deep", "_law_body"] sLfn (q4w spLterm) f:=by
 intro cdv A outer s H E G hr hx
 have hu:=hu_r hr
 unfold q4w
 exact (q0f (q2s (q4n PySem.F.plainAttrs_list PySem.F.slot_list_append PySem.F.type_list_append q2i (q0b 3) (q0a (q3i (q0a (q0k hu (q0b 2) q0e) (q0a (q0k hu (q0b 1) q0m) q0c))) q0c)))
 (q0f (q0q 5 scLfn.nd (q0i C_law_term hr hx (q0a (q0b 0) (q0a (q0b 1) (q0a (q0k hu (q0b 2) q0e) (q0a (q0b 3) (q0a (q0l q4e (q0b 4) q0e) q0c)))))))
 (q0f (q2s (q8u PySem.F.plainAttrs_list PySem.F.slot_list_pop PySem.F.type_list_pop q9b (q0b 3)))
 (q0g (q0r (q1f (q0a q0m (q0a (q0k hu (q0b 2) q0e) (q0a (q0b 5) q0c)))))))))
theorem simLof (C_law_kind:Cal P w K mg base k "_law_kind" ["_law_deck_here", "_law_basics", "_law_deep"] (q0o K spLkind) fLkind fdLkind) (C_law_next:Cal P w K mg base k "_law_next" ["_law_deck_here"] (q0o K spLnext) fLnext fdLnext) (C_law_fn:Cal P w K mg base k "_law_fn" ["_law_deck_here", "_law_world_here", "_law_kind_here", "_law_around", "_law_deep"] (q0o K spLfn) fLfn fdLfn) (C_law_term:Cal P w K mg base k "_law_term" ["_law_deck_here", "_law_world_here", "_law_kind_here", "_law_around", "_law_deep"] (q0o K spLterm) fLterm fdLterm):SimF P w K mg base k "_law_of" ["_law_deck_here", "_law_world_here", "_law_kind_here", "_law_around", "_law_deep", "_law_other", "_law_way", "_law_f"] sLof (q4v spLkind spLnext spLfn spLterm) f:=by
 intro cdv A outer s H E G hr hx
 have hu:=hu_r hr
 unfold q4v
 exact (q0f (q0q 5 scLof.nd (q0i C_law_kind hr hx (q0a (q0b 0) (q0a (q0k hu (q0b 1) q0m) (q0a q0e q0c)))))
 (q0f (q0q 6 scLof.nd (q0i C_law_next hr hx (q0a (q0b 0) q0c)))
 (q0f (q1d (q0n q5u (q0l q1i (q0b 6) q0e) q0e (q0u _)) (q0g (q0q 7 scLof.nd (q0i C_law_fn hr hx (q0a (q0b 0) (q0a (q0b 1) (q0a (q1f (q0a (q0b 5) (q0a (q0b 2) q0c))) (q0a (q0b 3) (q0a (q0b 4) q0c)))))))) (q0g (q0q 7 scLof.nd (q0i C_law_term hr hx (q0a (q0b 0) (q0a (q0b 1) (q0a (q1f (q0a (q0b 5) (q0a (q0b 2) q0c))) (q0a (q0b 3) (q0a (q0l q4e (q0b 4) q0e) q0c)))))))))
 (q0g (q0r (q1f (q0a q0m (q0a (q0b 7) (q0a (q0i C_law_term hr hx (q0a (q0b 0) (q0a (q0b 1) (q0a (q0b 5) (q0a (q0b 3) (q0a (q0l q4e (q0b 4) q0e) q0c)))))) q0c)))))))))
theorem simLwidth (z_isinstance:mg "isinstance" = none) (z_str:mg "str" = none) (C_law_width:Cal P w K mg base k "_law_width" ["_law_kind_here"] (q0o K spLwidth) fLwidth fdLwidth):SimF P w K mg base k "_law_width" ["_law_kind_here"] q5p (q3b spLwidth) f:=by
 intro cdv A outer s H E G hr hx
 have hu:=hu_r hr
 unfold q3b
 exact (q0f (q1d (q2m (q0v q2z z_isinstance L2.q1u (q0a (q0b 0) (q0a (q6a z_str L2.q7j) q0c)))) (q0g (q0r q0e)) q0t)
 (q0g (q0r (q0l q2h (q0i C_law_width hr hx (q0a (q0k hu (q0b 0) q0e) q0c)) (q0i C_law_width hr hx (q0a (q0k hu (q0b 0) q0e) q0c))))))
theorem simLform (z_isinstance:mg "isinstance" = none) (z_str:mg "str" = none) (C_law_form:Cal P w K mg base k "_law_form" ["_law_kind_here", "_law_cell"] (q0o K spLform) fLform fdLform):SimF P w K mg base k "_law_form" ["_law_kind_here", "_law_cell"] q7d (q3k spLform) f:=by
 intro cdv A outer s H E G hr hx
 have hu:=hu_r hr
 unfold q3k
 exact (q0f (q1d (q2m (q0v q2z z_isinstance L2.q1u (q0a (q0b 0) (q0a (q6a z_str L2.q7j) q0c)))) (q0g (q0r (q1f (q0a q0m (q0a (q0b 0) q0c))))) q0t)
 (q0g (q0r (q1f (q0a (q0k hu (q3i (q0a q0m (q0a q0m q0c))) (q0l q1i (q0b 1) q0e)) (q0a (q0i C_law_form hr hx (q0a (q0k hu (q0b 0) q0e) (q0a (q0l q3c (q0b 1) q0e) q0c))) (q0a (q0i C_law_form hr hx (q0a (q0k hu (q0b 0) q0e) (q0a (q0l q3c (q0b 1) q0e) q0c))) q0c)))))))
theorem simLlone (C_law_width:Cal P w K mg base k "_law_width" ["_law_kind_here"] (q0o K spLwidth) fLwidth fdLwidth) (C_law_form:Cal P w K mg base k "_law_form" ["_law_kind_here", "_law_cell"] (q0o K spLform) fLform fdLform) (C_law_word:Cal P w K mg base k "_law_word" ["_law_deck_here", "_law_words_here"] (q0o K spLword) fLword fdLword):SimF P w K mg base k "_law_lone" ["_law_world_here", "_law_kind_here", "_law_cell", "_law_name", "_law_other", "_law_word_here"] q7b (q3z spLwidth spLform spLword) f:=by
 intro cdv A outer s H E G hr hx
 have hu:=hu_r hr
 unfold q3z
 exact (q0f (q1d (SimW.t (q2l (q2m (q0k hu (q0b 0) q0m)) (q2l (q0n (q1y hu) (q0l q1i (q0b 2) q0e) q0e (q0u _)) (q2g (q0n ops_lt (q0i C_law_width hr hx (q0a (q0b 1) q0c)) q0e (q0u _)))))) (q0g (q0r (q1f (q0a q0m (q0a (q0l q1i (q0l q3c (q0b 2) q0e) q0e) (q0a (q0i C_law_form hr hx (q0a (q0b 1) (q0a (q0l q3c (q0b 2) q0e) q0c))) q0c)))))) q0t)
 (q0f (q6o PassesOwn.leaving rfl (q6u (q0k hu (q0b 0) q0m)) (q4o 2 rfl (q1h (q1b (i:=3) scLlone.nd) (q1h (q1b (i:=4) scLlone.nd) q4b))) (q0g (q1d (SimW.t (q2l (q0n (q1y hu) (q0b 4) (q0b 1) (q0u _)) (q2g (q0n q5u (q0l q1i (q0l q3c (q0b 2) q0e) q0e) q0e (q0u _))))) (q0g (q0r (q1f (q0a q0m (q0a (q0b 3) q0c))))) q0t)))
 (q0f (q0q 5 scLlone.nd (q0i C_law_word hr hx (q0a (q0k hu (q0b 0) q0m) (q0a (sim_comp ["_law_name", "_law_other"] [none,none] rfl (compOk rfl (by decide +kernel) (by decide +kernel) rfl trivial) (q6u (q0k hu (q0b 0) q0m)) (fun _ _ _ _ _=>(q4o 2 rfl (q1h (q1b (i:=0) (show (["_law_name", "_law_other"]:List Str).Nodup by decide +kernel)) (q1h (q1b (i:=1) (show (["_law_name", "_law_other"]:List Str).Nodup by decide +kernel)) q4b)))) (fun _ _ _ _ _=>(q0b 0))) q0c))))
 (q0f (q2s (q4n PySem.F.plainAttrs_list PySem.F.slot_list_append PySem.F.type_list_append q2i (q0k hu (q0b 0) q0m) (q0a (q1f (q0a (q0b 5) (q0a (q0b 1) q0c))) q0c)))
 (q0g (q0r (q1f (q0a q0m (q0a (q0b 5) q0c)))))))))
theorem simLterm (z_isinstance:mg "isinstance" = none) (z_len:mg "len" = none) (z_range:mg "range" = none) (z_tuple:mg "tuple" = none) (C_law_next:Cal P w K mg base k "_law_next" ["_law_deck_here"] (q0o K spLnext) fLnext fdLnext) (C_law_fn:Cal P w K mg base k "_law_fn" ["_law_deck_here", "_law_world_here", "_law_kind_here", "_law_around", "_law_deep"] (q0o K spLfn) fLfn fdLfn) (C_law_of:Cal P w K mg base k "_law_of" ["_law_deck_here", "_law_world_here", "_law_kind_here", "_law_around", "_law_deep"] (q0o K spLof) fLof fdLof) (C_law_lone:Cal P w K mg base k "_law_lone" ["_law_world_here", "_law_kind_here", "_law_cell"] (q0o K spLlone) fLlone fdLlone):SimF P w K mg base k "_law_term" ["_law_deck_here", "_law_world_here", "_law_kind_here", "_law_around", "_law_deep", "_law_way", "_law_some", "_law_at"] q6y (q3w spLnext spLfn spLof spLlone) f:=by
 intro cdv A outer s H E G hr hx
 have hu:=hu_r hr
 unfold q3w
 exact (q0f (q0q 5 scLterm.nd (q0i C_law_next hr hx (q0a (q0b 0) q0c)))
 (q0f (sim_setCompIf 6 ["_law_k", "_law_kind_here", "_law_around"] [none,some 2,some 3] scLterm.nd rfl (compOk rfl (by decide +kernel) (by decide +kernel) rfl ⟨⟨rfl,rfl,by first | exact Or.inl rfl | exact Or.inr rfl⟩,⟨⟨rfl,rfl,by first | exact Or.inl rfl | exact Or.inr rfl⟩,trivial⟩⟩) (q5a z_range (q0a (q0v q2b z_len PySem.boot_len (q0a (q0b 3) q0c)) q0c)) (fun _ _ _ _ _=>(q1b (i:=0) (show (["_law_k", "_law_kind_here", "_law_around"]:List Str).Nodup by decide +kernel))) (fun _ _ _ _ _=>(SimW.t (q2l (q0n (q1y hu) (q0k hu (q0k hu (q0b 2) (q0b 0)) q0e) (q0b 1) (q0u _)) (q2g (q0n q5u (q0k hu (q0k hu (q0b 2) (q0b 0)) q0e) q0e (q0u _)))))) (fun _ _ _ _ _=>(q0b 0)))
 (q0f (q1d (SimW.t (q2l (q0n (ops_ne hu) (q0b 6) (q3i q0c) (q0u _)) (q2g (SimW.t (q5l (q0n ops_lt (q0l q1i (q0b 5) q0e) q0e (q0u _)) (q5k (q0n ops_lt (q0b 4) q0e (q0u _)))))))) (q0f (q0q 7 scLterm.nd (q0k hu (q0b 6) (q0l q1i (q0l q3c (q0b 5) q0e) (q0v q2b z_len PySem.boot_len (q0a (q0b 6) q0c)))))
 (q0f (q5j (q0l q4e (q0k hu (q0k hu (q0b 3) (q0b 7)) q0e) q0e) (q4p (sets hu) (q0k hu (q0b 3) (q0b 7)) q0e))
 (q0g (q0r (q1f (q0a q0m (q0a (q0l q4e (q0l q4e (q0v q2b z_len PySem.boot_len (q0a (q0b 3) q0c)) q0e) (q0b 7)) q0c))))))) q0t)
 (q0f (q1d (SimW.t (q2l (q0n q5u (q0b 4) q0e (q0u _)) (q2l (q2m (q0v q2z z_isinstance L2.q1u (q0a (q0b 2) (q0a (q6a z_tuple L2.q5g) q0c)))) (q2g (q0n q5u (q0l q1i (q0b 5) q0e) q0e (q0u _)))))) (q0g (q0r (q0i C_law_fn hr hx (q0a (q0b 0) (q0a (q0b 1) (q0a (q0b 2) (q0a (q0b 3) (q0a (q0b 4) q0c)))))))) q0t)
 (q0f (q1d (SimW.t (q2l (q0n q5u (q0b 4) q0e (q0u _)) (q2g (q0n q5u (q0l q1i (q0b 5) q0e) q0e (q0u _))))) (q0g (q0r (q0i C_law_of hr hx (q0a (q0b 0) (q0a (q0b 1) (q0a (q0b 2) (q0a (q0b 3) (q0a (q0b 4) q0c)))))))) q0t)
 (q0g (q0r (q0i C_law_lone hr hx (q0a (q0b 1) (q0a (q0b 2) (q0a (q0l q3c (q0b 5) q0e) q0c)))))))))))
theorem simLsame (z_all:mg "all" = none) (z_bool:mg "bool" = none) (z_int:mg "int" = none) (z_isinstance:mg "isinstance" = none) (z_len:mg "len" = none) (z_str:mg "str" = none) (z_tuple:mg "tuple" = none) (z_zip:mg "zip" = none) (C_law_same:Cal P w K mg base k "_law_same" ["_law_one", "_law_other"] (q0o K spLsame) fLsame fdLsame):SimF P w K mg base k "_law_same" ["_law_one", "_law_other"] q6z (q3x spLsame) f:=by
 intro cdv A outer s H E G hr hx
 have hu:=hu_r hr
 unfold q3x
 exact (q0f (q1d (q2m (q0v q2z z_isinstance L2.q1u (q0a (q0b 0) (q0a (q6a z_str L2.q7j) q0c)))) (q0g (q0r (q7m (q0v q2z z_isinstance L2.q1u (q0a (q0b 1) (q0a (q6a z_str L2.q7j) q0c))) (q8s (sim_cmp (q1y hu) (q0b 0) (q0b 1) (q0u _)))))) q0t)
 (q0f (q1d (q5m (q2m (q0v q2z z_isinstance L2.q1u (q0a (q0b 0) (q0a (q6a z_tuple L2.q5g) q0c))))) (q0g (q0r (q7m (q0v q2z z_isinstance L2.q1u (q0a (q0b 1) (q0a (q6a z_int L2.boot_int) q0c))) (q7m (sim_not (q0v q2z z_isinstance L2.q1u (q0a (q0b 1) (q0a (q6a z_bool L2.boot_bool) q0c)))) (q8s (sim_cmp (q1y hu) (q0b 0) (q0b 1) (q0u _))))))) q0t)
 (q0f (q1d (SimW.t (q5l (q5m (q2m (q0v q2z z_isinstance L2.q1u (q0a (q0b 1) (q0a (q6a z_tuple L2.q5g) q0c))))) (q5k (q0n (ops_ne hu) (q0v q2b z_len PySem.boot_len (q0a (q0b 0) q0c)) (q0v q2b z_len PySem.boot_len (q0a (q0b 1) q0c)) (q0u _))))) (q0g (q0r sim_bl)) q0t)
 (q0g (q0r (q0v (calls_all rfl) z_all L2.boot_all (q0a (sim_comp ["_law_here", "_law_there"] [none,none] rfl (compOk rfl (by decide +kernel) (by decide +kernel) rfl trivial) (simI_zip z_zip (q0a (q0b 0) (q0a (q0b 1) q0c))) (fun _ _ _ _ _=>(q4o 2 rfl (q1h (q1b (i:=0) (show (["_law_here", "_law_there"]:List Str).Nodup by decide +kernel)) (q1h (q1b (i:=1) (show (["_law_here", "_law_there"]:List Str).Nodup by decide +kernel)) q4b)))) (fun _ _ _ _ _=>(q0i C_law_same hr passNo (q0a (q0b 0) (q0a (q0b 1) q0c))))) q0c)))))))
theorem q8c (z_len:mg "len" = none):SimF P w K mg base k "parts_and_fns" ["term", "rows", "todo", "part", "fns"] q1k (q1o) f:=by
 intro cdv A outer s H E G hr hx
 have hu:=hu_r hr
 unfold q1o
 exact (q0f (q0q 1 q2w.nd (q3i q0c))
 (q0f (q0q 2 q2w.nd (q3i (q0a (q1f (q0a (q0b 0) (q0a (q1f q0c) q0c))) q0c)))
 (q0f (sim_while PassesOwn.leaving (q2m (q0b 2)) (q0f (q5j (q8u PySem.F.plainAttrs_list PySem.F.slot_list_pop PySem.F.type_list_pop q9b (q0b 2)) (q4o 2 rfl (q1h (q1b (i:=3) q2w.nd) (q1h (q1b (i:=4) q2w.nd) q4b))))
 (q0f (q1d (q0n (q1y hu) (q0k hu (q0b 3) q0e) q0m (q0u _)) (q0g (q2s (q4n PySem.F.plainAttrs_list PySem.F.slot_list_append PySem.F.type_list_append q2i (q0b 2) (q0a (q1f (q0a (q0k hu (q0b 3) q0e) (q0a (q0l q2h (q0b 4) (q1f (q0a (q0v q2b z_len PySem.boot_len (q0a (q0b 1) q0c)) q0c))) q0c))) q0c)))) (q0g (q1d (q0n (q1y hu) (q0k hu (q0b 3) q0e) q0m (q0u _)) (q0g (q2s (q4n PySem.F.plainAttrs_list PySem.F.slot_list_extend PySem.F.type_list_extend mts_extend (q0b 2) (q0a (q3i (q0a (q1f (q0a (q0k hu (q0b 3) q0e) (q0a (q0b 4) q0c))) (q0a (q1f (q0a (q0k hu (q0b 3) q0e) (q0a (q0b 4) q0c))) q0c))) q0c)))) q0t)))
 (q0g (q2s (q4n PySem.F.plainAttrs_list PySem.F.slot_list_append PySem.F.type_list_append q2i (q0b 1) (q0a (q1f (q0a (q0b 3) (q0a (q0b 4) q0c))) q0c)))))))
 (q0g (q0r (q0b 1))))))
theorem simkind_of_of (z_isinstance:mg "isinstance" = none) (z_tuple:mg "tuple" = none) (x_NoKind:ExcC K mg "NoKind"):SimF P w K mg base k "kind_of_of" ["wanting", "given"] q2k (q2e) f:=by
 intro cdv A outer s H E G hr hx
 have hu:=hu_r hr
 unfold q2e
 exact (q0f (q1d (SimW.t (q5l (q5m (q2m (q0v q2z z_isinstance L2.q1u (q0a (q0b 0) (q0a (q6a z_tuple L2.q5g) q0c))))) (q5k (q0n (ops_ne hu) (q0k hu (q0b 0) q0e) (q0b 1) (q0u _))))) (q0g (q8r x_NoKind hx rfl (q0a q0m q0c))) q0t)
 (q0g (q0r (q0k hu (q0b 0) q0e))))
theorem q8p (x_NoKind:ExcC K mg "NoKind"):SimF P w K mg base k "kind_of_name" ["kinds", "name"] q1q (q1t) f:=by
 intro cdv A outer s H E G hr hx
 have hu:=hu_r hr
 unfold q1t
 exact (q0f (q1d (q0n (ops_notInD hu) (q0b 1) (q0b 0) (by with_unfolding_all rfl)) (q0g (q8r x_NoKind hx rfl (q0a q0m q0c))) q0t)
 (q0g (q0r (q0k hu (q0b 0) (q0b 1)))))
theorem q8q (Ckind_of_form:Cal P w K mg base k "kind_of_form" ["form"] (q0o K spkind_of_form) fkind_of_form fdkind_of_form):SimF P w K mg base k "kind_of_form" ["form"] q1r (q1j spkind_of_form) f:=by
 intro cdv A outer s H E G hr hx
 have hu:=hu_r hr
 unfold q1j
 exact (q0f (q1d (q0n (q1y hu) (q0k hu (q0b 0) q0e) q0m (q0u _)) (q0g (q0r (q0k hu (q0b 0) q0e))) q0t)
 (q0g (q0r (q1f (q0a (q0i Ckind_of_form hr hx (q0a (q0k hu (q0b 0) q0e) q0c)) (q0a (q0i Ckind_of_form hr hx (q0a (q0k hu (q0b 0) q0e) q0c)) q0c))))))
theorem simowner_of (z_len:mg "len" = none):SimF P w K mg base k "owner_of" ["fns", "k"] q3p (q2t) f:=by
 intro cdv A outer s H E G hr hx
 have hu:=hu_r hr
 unfold q2t
 exact (q0f (q1d (q0n ops_ge (q0b 1) (q0v q2b z_len PySem.boot_len (q0a (q0b 0) q0c)) (q0u _)) (q0g (q0r q6b)) q0t)
 (q0g (q0r (q0k hu (q0b 0) (q0l q4e (q0l q4e (q0v q2b z_len PySem.boot_len (q0a (q0b 0) q0c)) q0e) (q0b 1))))))
theorem q8d (x_NoKind:ExcC K mg "NoKind") (Cowner_of:Cal P w K mg base k "owner_of" ["fns", "k"] (q0o K spowner_of) fowner_of fdowner_of):SimF P w K mg base k "kind_of_bound" ["rows", "fns", "k", "owner", "fn"] q1l (q1p spowner_of) f:=by
 intro cdv A outer s H E G hr hx
 have hu:=hu_r hr
 unfold q1p
 exact (q0f (q0q 3 q4k.nd (q0i Cowner_of hr hx (q0a (q0b 1) (q0a (q0b 2) q0c))))
 (q0f (q1d (q0n ops_is (q0b 3) q6b (q0u _)) (q0g (q8r x_NoKind hx rfl (q0a q0m q0c))) q0t)
 (q0f (q0q 4 q4k.nd (q0k hu (q0k hu (q0b 0) (q0b 3)) q0e))
 (q0g (q0r (q0k hu (q0b 4) q0e))))))
theorem simkind_of (z_reversed:mg "reversed" = none) (Cparts_and_fns:Cal P w K mg base k "parts_and_fns" ["term"] (q0o K spparts_and_fns) fparts_and_fns fdparts_and_fns) (Ckind_of_of:Cal P w K mg base k "kind_of_of" ["wanting", "given"] (q0o K spkind_of_of) fkind_of_of fdkind_of_of) (Ckind_of_name:Cal P w K mg base k "kind_of_name" ["kinds", "name"] (q0o K spkind_of_name) fkind_of_name fdkind_of_name) (Ckind_of_form:Cal P w K mg base k "kind_of_form" ["form"] (q0o K spkind_of_form) fkind_of_form fdkind_of_form) (Ckind_of_bound:Cal P w K mg base k "kind_of_bound" ["rows", "fns", "k"] (q0o K spkind_of_bound) fkind_of_bound fdkind_of_bound):SimF P w K mg base k "kind_of" ["names", "term", "kinds", "rows", "told", "part", "fns", "wanting", "given"] q4g (q3f spparts_and_fns spkind_of_of spkind_of_name spkind_of_form spkind_of_bound) f:=by
 intro cdv A outer s H E G hr hx
 have hu:=hu_r hr
 unfold q3f
 exact (q0f (sim_setDC 2 ["name", "kind"] [none,none] q4c.nd rfl (compOk rfl (by decide +kernel) (by decide +kernel) rfl trivial) (q6u (q0b 0)) (fun _ _ _ _ _=>(q4o 2 rfl (q1h (q1b (i:=0) (show (["name", "kind"]:List Str).Nodup by decide +kernel)) (q1h (q1b (i:=1) (show (["name", "kind"]:List Str).Nodup by decide +kernel)) q4b)))) (fun _ _ _ _ _=>(q0b 0)) (fun _ _ _ _ _=>(q0b 1)))
 (q0f (q0q 3 q4c.nd (q0i Cparts_and_fns hr hx (q0a (q0b 1) q0c)))
 (q0f (q0q 4 q4c.nd (q3i q0c))
 (q0f (q6o PassesOwn.leaving rfl (simI_rev z_reversed (q0b 3)) (q4o 2 rfl (q1h (q1b (i:=5) q4c.nd) (q1h (q1b (i:=6) q4c.nd) q4b))) (q0g (q1d (q0n (q1y hu) (q0k hu (q0b 5) q0e) q0m (q0u _)) (q0f (q0q 7 q4c.nd (q8u PySem.F.plainAttrs_list PySem.F.slot_list_pop PySem.F.type_list_pop q9b (q0b 4)))
 (q0f (q0q 8 q4c.nd (q8u PySem.F.plainAttrs_list PySem.F.slot_list_pop PySem.F.type_list_pop q9b (q0b 4)))
 (q0g (q2s (q4n PySem.F.plainAttrs_list PySem.F.slot_list_append PySem.F.type_list_append q2i (q0b 4) (q0a (q0i Ckind_of_of hr hx (q0a (q0b 7) (q0a (q0b 8) q0c))) q0c)))))) (q0g (q1d (q0n (q1y hu) (q0k hu (q0b 5) q0e) q0m (q0u _)) (q0g (q2s (q4n PySem.F.plainAttrs_list PySem.F.slot_list_append PySem.F.type_list_append q2i (q0b 4) (q0a (q1f (q0a (q0k hu (q0b 5) q0e) (q0a (q8u PySem.F.plainAttrs_list PySem.F.slot_list_pop PySem.F.type_list_pop q9b (q0b 4)) q0c))) q0c)))) (q0g (q1d (q0n (q1y hu) (q0k hu (q0b 5) q0e) q0m (q0u _)) (q0g (q2s (q4n PySem.F.plainAttrs_list PySem.F.slot_list_append PySem.F.type_list_append q2i (q0b 4) (q0a (q0i Ckind_of_name hr hx (q0a (q0b 2) (q0a (q0k hu (q0b 5) q0e) q0c))) q0c)))) (q0g (q1d (q0n (q1y hu) (q0k hu (q0b 5) q0e) q0m (q0u _)) (q0g (q2s (q4n PySem.F.plainAttrs_list PySem.F.slot_list_append PySem.F.type_list_append q2i (q0b 4) (q0a (q0i Ckind_of_form hr hx (q0a (q0k hu (q0b 5) q0e) q0c)) q0c)))) (q0g (q2s (q4n PySem.F.plainAttrs_list PySem.F.slot_list_append PySem.F.type_list_append q2i (q0b 4) (q0a (q0i Ckind_of_bound hr hx (q0a (q0b 3) (q0a (q0b 6) (q0a (q0k hu (q0b 5) q0e) q0c)))) q0c)))))))))))))
 (q0g (q0r (q0k hu (q0b 4) q0e)))))))
theorem simLexchanged (C_law_next:Cal P w K mg base k "_law_next" ["_law_deck_here"] (q0o K spLnext) fLnext fdLnext) (C_law_exchanged:Cal P w K mg base k "_law_exchanged" ["_law_deck_here", "_law_world_here", "_law_term_here"] (q0o K spLexchanged) fLexchanged fdLexchanged) (C_law_kind:Cal P w K mg base k "_law_kind" ["_law_deck_here", "_law_basics", "_law_deep"] (q0o K spLkind) fLkind fdLkind) (C_law_term:Cal P w K mg base k "_law_term" ["_law_deck_here", "_law_world_here", "_law_kind_here", "_law_around", "_law_deep"] (q0o K spLterm) fLterm fdLterm):SimF P w K mg base k "_law_exchanged" ["_law_deck_here", "_law_world_here", "_law_term_here", "_law_way"] q2n (q2f spLnext spLexchanged spLkind spLterm) f:=by
 intro cdv A outer s H E G hr hx
 have hu:=hu_r hr
 unfold q2f
 exact (q0f (q0q 3 q7u.nd (q0l q1i (q0i C_law_next hr hx (q0a (q0b 0) q0c)) q0e))
 (q0f (q1d (SimW.t (q2l (q0n (q1y hu) (q0k hu (q0b 2) q0e) q0m (q0u _)) (q2g (q0n q5u (q0b 3) q0e (q0u _))))) (q0g (q0r (q1f (q0a q0m (q0a (q0k hu (q0b 2) q0e) (q0a (q0i C_law_exchanged hr hx (q0a (q0b 0) (q0a (q0b 1) (q0a (q0k hu (q0b 2) q0e) q0c)))) q0c)))))) q0t)
 (q0f (q1d (SimW.t (q2l (q0n (q1y hu) (q0k hu (q0b 2) q0e) q0m (q0u _)) (q2g (q0n q5u (q0b 3) q0e (q0u _))))) (q0g (q0r (q1f (q0a q0m (q0a (q0i C_law_exchanged hr hx (q0a (q0b 0) (q0a (q0b 1) (q0a (q0k hu (q0b 2) q0e) q0c)))) (q0a (q0k hu (q0b 2) q0e) q0c)))))) q0t)
 (q0f (q1d (SimW.t (q2l (q0n (q1y hu) (q0k hu (q0b 2) q0e) q0m (q0u _)) (q2g (q0n q5u (q0b 3) q0e (q0u _))))) (q0g (q0r (q1f (q0a q0m (q0a (q0k hu (q0b 2) q0e) (q0a (q0i C_law_exchanged hr hx (q0a (q0b 0) (q0a (q0b 1) (q0a (q0k hu (q0b 2) q0e) q0c)))) q0c)))))) q0t)
 (q0f (q1d (q0n (q1y hu) (q0k hu (q0b 2) q0e) q0m (q0u _)) (q0g (q0r (q1f (q0a q0m (q0a (q0i C_law_kind hr hx (q0a (q0b 0) (q0a (q0k hu (q0b 1) q0m) (q0a q0e q0c)))) (q0a (q0k hu (q0b 2) q0e) q0c)))))) q0t)
 (q0f (q1d (SimW.t (q2l (q0n (q1y hu) (q0k hu (q0b 2) q0e) q0m (q0u _)) (q2g (q0n (q1y hu) (q0b 3) q0e (q0u _))))) (q0g (q0r (q1f (q0a q0m (q0a (q0k hu (q0b 2) q0e) (q0a (q0k hu (q0b 2) q0e) q0c)))))) q0t)
 (q0g (q0r (q0i C_law_term hr hx (q0a (q0b 0) (q0a (q0b 1) (q0a (q0i C_law_kind hr hx (q0a (q0b 0) (q0a (q0k hu (q0b 1) q0m) (q0a q0e q0c)))) (q0a (q3i q0c) (q0a q0e q0c))))))))))))))
theorem q8e (C_law_kind_of_form:Cal P w K mg base k "_law_kind_of_form" ["_law_form_here"] (q0o K spLkind_of_form) fLkind_of_form fdLkind_of_form):SimF P w K mg base k "_law_kind_of_form" ["_law_form_here"] q1m (q1g spLkind_of_form) f:=by
 intro cdv A outer s H E G hr hx
 have hu:=hu_r hr
 unfold q1g
 exact (q0f (q1d (q0n (q1y hu) (q0k hu (q0b 0) q0e) q0m (q0u _)) (q0g (q0r (q0k hu (q0b 0) q0e))) q0t)
 (q0g (q0r (q1f (q0a (q0i C_law_kind_of_form hr hx (q0a (q0k hu (q0b 0) q0e) q0c)) (q0a (q0i C_law_kind_of_form hr hx (q0a (q0k hu (q0b 0) q0e) q0c)) q0c))))))
theorem simLkind_of (z_isinstance:mg "isinstance" = none) (z_str:mg "str" = none) (C_law_kind_of_form:Cal P w K mg base k "_law_kind_of_form" ["_law_form_here"] (q0o K spLkind_of_form) fLkind_of_form fdLkind_of_form) (C_law_kind_of:Cal P w K mg base k "_law_kind_of" ["_law_known", "_law_term_here", "_law_around"] (q0o K spLkind_of) fLkind_of fdLkind_of):SimF P w K mg base k "_law_kind_of" ["_law_known", "_law_term_here", "_law_around", "_law_inner", "_law_f", "_law_a"] q3s (q1e spLkind_of_form spLkind_of) f:=by
 intro cdv A outer s H E G hr hx
 have hu:=hu_r hr
 unfold q1e
 exact (q0f (q1d (q0n (q1y hu) (q0k hu (q0b 1) q0e) q0m (q0u _)) (q0g (q0r (q4n PySem.F.plainAttrs_dict PySem.F.slot_dict_get PySem.F.type_dict_get (mts_get hu) (q0b 0) (q0a (q0k hu (q0b 1) q0e) q0c)))) q0t)
 (q0f (q1d (q0n (q1y hu) (q0k hu (q0b 1) q0e) q0m (q0u _)) (q0g (q0r (q0i C_law_kind_of_form hr hx (q0a (q0k hu (q0b 1) q0e) q0c)))) q0t)
 (q0f (q1d (q0n (q1y hu) (q0k hu (q0b 1) q0e) q0m (q0u _)) (q0g (q0r (q0k hu (q0b 2) (q0l q4e (sim_neg q0e) (q0k hu (q0b 1) q0e))))) q0t)
 (q0f (q1d (q0n (q1y hu) (q0k hu (q0b 1) q0e) q0m (q0u _)) (q0f (q0q 3 q6f.nd (q0i C_law_kind_of hr hx (q0a (q0b 0) (q0a (q0k hu (q0b 1) q0e) (q0a (q0l q2h (q0b 2) (q3i (q0a (q0k hu (q0b 1) q0e) q0c))) q0c)))))
 (q0f (q1d (q0n ops_is (q0b 3) q6b (q0u _)) (q0g (q0r q6b)) q0t)
 (q0g (q0r (q1f (q0a (q0k hu (q0b 1) q0e) (q0a (q0b 3) q0c))))))) q0t)
 (q0f (q0q 4 q6f.nd (q0i C_law_kind_of hr hx (q0a (q0b 0) (q0a (q0k hu (q0b 1) q0e) (q0a (q0b 2) q0c)))))
 (q0f (q0q 5 q6f.nd (q0i C_law_kind_of hr hx (q0a (q0b 0) (q0a (q0k hu (q0b 1) q0e) (q0a (q0b 2) q0c)))))
 (q0f (q1d (SimW.t (q5l (q0n ops_is (q0b 4) q6b (q0u _)) (q5l (q0n ops_is (q0b 5) q6b (q0u _)) (q5l (q2m (q0v q2z z_isinstance L2.q1u (q0a (q0b 4) (q0a (q6a z_str L2.q7j) q0c)))) (q5k (q0n (ops_ne hu) (q0k hu (q0b 4) q0e) (q0b 5) (q0u _))))))) (q0g (q0r q6b)) q0t)
 (q0g (q0r (q0k hu (q0b 4) q0e))))))))))
theorem simLrefused (z_isinstance:mg "isinstance" = none) (y_SlashError:Cau K mg "SlashError" ["NoKind"]) (i_Misfit_NoBasic_NoForm_NoNumber_NoPlace_NoReading_:HIsT K mg ["Misfit", "NoBasic", "NoForm", "NoNumber", "NoPlace", "NoReading"] [("NoKind",false)]) (i_NoKind:HIs1 K mg "NoKind" [("NoKind",true)]) (i_NoRow_NoTerm_NoWord_TooMany_Twice_:HIsT K mg ["NoRow", "NoTerm", "NoWord", "TooMany", "Twice"] [("NoKind",false)]) (i_ValueError:HIs1 K mg "ValueError" [("NoKind",true)]) (Ckind_of:Cal P w K mg base k "kind_of" ["names", "term"] (q0o K spkind_of) fkind_of fdkind_of):SimF P w K mg base k "_law_refused" ["_law_names", "_law_term_here", "_law_good", "e", "_law_other"] q3r (q2v spkind_of) f:=by
 intro cdv A outer s H E G hr hx
 have hu:=hu_r hr
 unfold q2v
 exact (q0f (q0q 2 q4i.nd sim_bl)
 (q0f (sim_try 3 y_SlashError (simx_one (simx_expr (simx_call Ckind_of hr (q0a (q0b 0) (q0a (q0b 1) q0c))))) q4i.nd (fun _=>(q0f (q0q 4 q4i.nd (sim_isT ["Misfit", "NoBasic", "NoForm", "NoNumber", "NoPlace", "NoReading"] z_isinstance (q0b 3) i_Misfit_NoBasic_NoForm_NoNumber_NoPlace_NoReading_ ⟨rfl,rfl,by decide,⟨rfl,rfl,by decide,⟨rfl,rfl,by decide,⟨rfl,rfl,by decide,⟨rfl,rfl,by decide,⟨rfl,rfl,by decide,trivial⟩⟩⟩⟩⟩⟩) (hs:=by kernel_rfl))
 (q0f (q0q 4 q4i.nd (sim_or (q0b 4) (q8s (sim_isT ["NoRow", "NoTerm", "NoWord", "TooMany", "Twice"] z_isinstance (q0b 3) i_NoRow_NoTerm_NoWord_TooMany_Twice_ ⟨rfl,rfl,by decide,⟨rfl,rfl,by decide,⟨rfl,rfl,by decide,⟨rfl,rfl,by decide,⟨rfl,rfl,by decide,trivial⟩⟩⟩⟩⟩))))
 (q0g (q0q 2 q4i.nd (q7m (sim_is1 z_isinstance (q0b 3) i_NoKind) (q7m (sim_is1 z_isinstance (q0b 3) i_ValueError) (q8s (sim_not (q0b 4)))))))))))
 (q0g (q0r (q0b 2)))))
theorem simLright (C_law_kind_of:Cal P w K mg base k "_law_kind_of" ["_law_known", "_law_term_here", "_law_around"] (q0o K spLkind_of) fLkind_of fdLkind_of) (C_law_refused:Cal P w K mg base k "_law_refused" ["_law_names", "_law_term_here"] (q0o K spLrefused) fLrefused fdLrefused) (C_law_same:Cal P w K mg base k "_law_same" ["_law_one", "_law_other"] (q0o K spLsame) fLsame fdLsame) (Ckind_of:Cal P w K mg base k "kind_of" ["names", "term"] (q0o K spkind_of) fkind_of fdkind_of):SimF P w K mg base k "_law_right" ["_law_names", "_law_term_here", "_law_known", "_law_name", "_law_kind_here", "_law_due"] q5q (q3o spLkind_of spLrefused spLsame spkind_of) f:=by
 intro cdv A outer s H E G hr hx
 have hu:=hu_r hr
 unfold q3o
 exact (q0f (q0q 2 q6w.nd sim_dnew)
 (q0f (q6o PassesOwn.leaving rfl (q6u (q0b 0)) (q4o 2 rfl (q1h (q1b (i:=3) q6w.nd) (q1h (q1b (i:=4) q6w.nd) q4b))) (q0g (q5j (q0b 4) (q4p (sets hu) (q0b 2) (q0b 3)))))
 (q0f (q0q 5 q6w.nd (q0i C_law_kind_of hr hx (q0a (q0b 2) (q0a (q0b 1) (q0a (q3i q0c) q0c)))))
 (q0f (q1d (q0n ops_is (q0b 5) q6b (q0u _)) (q0g (q0r (q0i C_law_refused hr hx (q0a (q0b 0) (q0a (q0b 1) q0c))))) q0t)
 (q0g (q0r (q0i C_law_same hr hx (q0a (q0b 5) (q0a (q0i Ckind_of hr hx (q0a (q0b 0) (q0a (q0b 1) q0c))) q0c)))))))))
theorem simlaw (z_len:mg "len" = none) (z_list:mg "list" = none) (z_range:mg "range" = none) (z_tuple:mg "tuple" = none) (C_law_deck:Cal P w K mg base k "_law_deck" ["_law_script"] (q0o K spLdeck) fLdeck fdLdeck) (C_law_world:Cal P w K mg base k "_law_world" ["_law_deck_here", "_law_uses", "_law_leaves"] (q0o K spLworld) fLworld fdLworld) (C_law_next:Cal P w K mg base k "_law_next" ["_law_deck_here"] (q0o K spLnext) fLnext fdLnext) (C_law_kind:Cal P w K mg base k "_law_kind" ["_law_deck_here", "_law_basics", "_law_deep"] (q0o K spLkind) fLkind fdLkind) (C_law_term:Cal P w K mg base k "_law_term" ["_law_deck_here", "_law_world_here", "_law_kind_here", "_law_around", "_law_deep"] (q0o K spLterm) fLterm fdLterm) (C_law_word:Cal P w K mg base k "_law_word" ["_law_deck_here", "_law_words_here"] (q0o K spLword) fLword fdLword) (C_law_same:Cal P w K mg base k "_law_same" ["_law_one", "_law_other"] (q0o K spLsame) fLsame fdLsame) (Ckind_of:Cal P w K mg base k "kind_of" ["names", "term"] (q0o K spkind_of) fkind_of fdkind_of) (C_law_exchanged:Cal P w K mg base k "_law_exchanged" ["_law_deck_here", "_law_world_here", "_law_term_here"] (q0o K spLexchanged) fLexchanged fdLexchanged) (C_law_right:Cal P w K mg base k "_law_right" ["_law_names", "_law_term_here"] (q0o K spLright) fLright fdLright):SimF P w K mg base k "law" ["_law_script", "_law_deck_here", "_law_world_here", "_law_kind_here", "_law_term_here", "_law_k", "_law_word_here", "_law_names", "_law_turn", "_law_other", "_law_kept"] slaw (q4u spLdeck spLworld spLnext spLkind spLterm spLword spLsame spkind_of spLexchanged spLright) f:=by
 intro cdv A outer s H E G hr hx
 have hu:=hu_r hr
 unfold q4u
 exact (q0f (q0q 1 q6v.nd (q0i C_law_deck hr hx (q0a (q0b 0) q0c)))
 (q0f (q0q 2 q6v.nd (q0i C_law_world hr hx (q0a (q0b 1) (q0a (q0l q2h q0e (q0l q8y (q0l q1i (q0i C_law_next hr hx (q0a (q0b 1) q0c)) q0e) q0e)) (q0a sim_bl q0c)))))
 (q0f (q0q 3 q6v.nd (q0i C_law_kind hr hx (q0a (q0b 1) (q0a (q0k hu (q0b 2) q0m) (q0a q0e q0c)))))
 (q0f (q0q 4 q6v.nd (q0i C_law_term hr hx (q0a (q0b 1) (q0a (q0b 2) (q0a (q0b 3) (q0a (q3i q0c) (q0a q0e q0c)))))))
 (q0f (q6o PassesOwn.leaving rfl (q5a z_range (q0a (q0l q1i (q0i C_law_next hr hx (q0a (q0b 1) q0c)) q0e) q0c)) (q1b (i:=5) q6v.nd) (q0f (q0q 6 q6v.nd (q0i C_law_word hr hx (q0a (q0b 1) (q0a (sim_comp ["_law_name", "_law_other"] [none,none] rfl (compOk rfl (by decide +kernel) (by decide +kernel) rfl trivial) (q6u (q0k hu (q0b 2) q0m)) (fun _ _ _ _ _=>(q4o 2 rfl (q1h (q1b (i:=0) (show (["_law_name", "_law_other"]:List Str).Nodup by decide +kernel)) (q1h (q1b (i:=1) (show (["_law_name", "_law_other"]:List Str).Nodup by decide +kernel)) q4b)))) (fun _ _ _ _ _=>(q0b 0))) q0c))))
 (q0g (q2s (q4n PySem.F.plainAttrs_list PySem.F.slot_list_append PySem.F.type_list_append q2i (q0k hu (q0b 2) q0m) (q0a (q1f (q0a (q0b 6) (q0a (q0i C_law_kind hr hx (q0a (q0b 1) (q0a (q0k hu (q0b 2) q0m) (q0a q0e q0c)))) q0c))) q0c))))))
 (q0f (q0q 7 q6v.nd (q6e q7r z_list L2.q9q (q0a (q0k hu (q0b 2) q0m) q0c)))
 (q0f (q0q 8 q6v.nd (q0l q1i (q0i C_law_next hr hx (q0a (q0b 1) q0c)) (q0l q2h (q0v q2b z_len PySem.boot_len (q0a (q0b 7) q0c)) q0e)))
 (q0f (q0q 7 q6v.nd (q0l q2h (q4x (q0b 7) (q4y (q0b 8)) q4z) (q4x (q0b 7) q4z (q4y (q0b 8)))))
 (q0f (q1d (SimW.t (q5l (q5m (q2m (q0i C_law_same hr hx (q0a (q0b 3) (q0a (q0i Ckind_of hr hx (q0a (q0b 7) (q0a (q0b 4) q0c))) q0c))))) (q5k (q5m (q2m (q0i C_law_same hr hx (q0a (q0b 3) (q0a (q0i Ckind_of hr hx (q0a (q6e calls_tuple z_tuple L2.q5g (q0a (q0b 7) q0c)) (q0a (q0b 4) q0c))) q0c)))))))) (q0g (q0r sim_bl)) q0t)
 (q0f (q0q 9 q6v.nd (q0b 4))
 (q0f (q6o PassesOwn.leaving rfl (q5a z_range (q0a (q0l q1i (q0i C_law_next hr hx (q0a (q0b 1) q0c)) q0e) q0c)) (q1b (i:=5) q6v.nd) (q0f (q0q 9 q6v.nd (q0i C_law_exchanged hr hx (q0a (q0b 1) (q0a (q0b 2) (q0a (q0b 9) q0c)))))
 (q0g (q1d (q5m (q2m (q0i C_law_right hr hx (q0a (q6e q7r z_list L2.q9q (q0a (q0k hu (q0b 2) q0m) q0c)) (q0a (q0b 9) q0c))))) (q0g (q0r sim_bl)) q0t))))
 (q0f (q0q 10 q6v.nd (q6e q7r z_list L2.q9q (q0a (q0b 7) q0c)))
 (q0f (q1d (SimW.t (q2l (q0n q5u (q0v q2b z_len PySem.boot_len (q0a (q0b 7) q0c)) q0e (q0u _)) (q2g (q5m (q2m (q0i C_law_right hr hx (q0a (q4x (q0b 7) (q4y q0e) q4z) (q0a (q0b 4) q0c)))))))) (q0g (q0r sim_bl)) q0t)
 (q0g (q0r (q7m (q0i C_law_right hr hx (q0a (q0b 7) (q0a (q0b 4) q0c))) (q8s (sim_cmp (q1y hu) (q0b 7) (q0b 10) (q0u _)))))))))))))))))))
structure Tab where
 dLdeck:Den
 dLnext:Den
 dLspelled:Den
 dLword:Den
 dLwords:Den
 dLworld:Den
 dLkind:Den
 dLfn:Den
 dLof:Den
 dLwidth:Den
 dLform:Den
 dLlone:Den
 dLterm:Den
 dLsame:Den
 dparts_and_fns:Den
 dkind_of_of:Den
 dkind_of_name:Den
 dkind_of_form:Den
 downer_of:Den
 dkind_of_bound:Den
 dkind_of:Den
 dLexchanged:Den
 dLkind_of_form:Den
 dLkind_of:Den
 dLrefused:Den
 dLright:Den
 dlaw:Den
def tabS (t:Tab):Tab where
 dLdeck:=fnP 1 3 (q4a)
 dLnext:=fnP 1 4 (q3y)
 dLspelled:=fnP 2 4 (q2u)
 dLword:=fnP 2 7 (q5z t.dLnext t.dLspelled)
 dLwords:=fnP 2 4 (q3n t.dLword)
 dLworld:=fnP 3 4 (q3m t.dLwords)
 dLkind:=fnP 3 4 (q3j t.dLnext t.dLkind)
 dLfn:=fnP 5 6 (q4w t.dLterm)
 dLof:=fnP 5 8 (q4v t.dLkind t.dLnext t.dLfn t.dLterm)
 dLwidth:=fnP 1 1 (q3b t.dLwidth)
 dLform:=fnP 2 2 (q3k t.dLform)
 dLlone:=fnP 3 6 (q3z t.dLwidth t.dLform t.dLword)
 dLterm:=fnP 5 8 (q3w t.dLnext t.dLfn t.dLof t.dLlone)
 dLsame:=fnP 2 2 (q3x t.dLsame)
 dparts_and_fns:=fnP 1 5 (q1o)
 dkind_of_of:=fnP 2 2 (q2e)
 dkind_of_name:=fnP 2 2 (q1t)
 dkind_of_form:=fnP 1 1 (q1j t.dkind_of_form)
 downer_of:=fnP 2 2 (q2t)
 dkind_of_bound:=fnP 3 5 (q1p t.downer_of)
 dkind_of:=fnP 2 9 (q3f t.dparts_and_fns t.dkind_of_of t.dkind_of_name t.dkind_of_form t.dkind_of_bound)
 dLexchanged:=fnP 3 4 (q2f t.dLnext t.dLexchanged t.dLkind t.dLterm)
 dLkind_of_form:=fnP 1 1 (q1g t.dLkind_of_form)
 dLkind_of:=fnP 3 6 (q1e t.dLkind_of_form t.dLkind_of)
 dLrefused:=fnP 2 5 (q2v t.dkind_of)
 dLright:=fnP 2 6 (q3o t.dLkind_of t.dLrefused t.dLsame t.dkind_of)
 dlaw:=fnP 1 11 (q4u t.dLdeck t.dLworld t.dLnext t.dLkind t.dLterm t.dLword t.dLsame t.dkind_of t.dLexchanged t.dLright)
def tab:Nat→Tab
 | 0=>⟨fun _ _ _ _=>False,fun _ _ _ _=>False,fun _ _ _ _=>False,fun _ _ _ _=>False,fun _ _ _ _=>False,fun _ _ _ _=>False,fun _ _ _ _=>False,fun _ _ _ _=>False,fun _ _ _ _=>False,fun _ _ _ _=>False,fun _ _ _ _=>False,fun _ _ _ _=>False,fun _ _ _ _=>False,fun _ _ _ _=>False,fun _ _ _ _=>False,fun _ _ _ _=>False,fun _ _ _ _=>False,fun _ _ _ _=>False,fun _ _ _ _=>False,fun _ _ _ _=>False,fun _ _ _ _=>False,fun _ _ _ _=>False,fun _ _ _ _=>False,fun _ _ _ _=>False,fun _ _ _ _=>False,fun _ _ _ _=>False,fun _ _ _ _=>False⟩
 | k+1=>tabS (tab k)
theorem good {P:Program} {w:World} {K:PySem.W.Frag} {mg:Str→Option Value} {base:Heap} {fLdeck:Addr} {fdLdeck:FuncData} {fLnext:Addr} {fdLnext:FuncData} {fLspelled:Addr} {fdLspelled:FuncData} {fLword:Addr} {fdLword:FuncData} {fLwords:Addr} {fdLwords:FuncData} {fLworld:Addr} {fdLworld:FuncData} {fLkind:Addr} {fdLkind:FuncData} {fLfn:Addr} {fdLfn:FuncData} {fLof:Addr} {fdLof:FuncData} {fLwidth:Addr} {fdLwidth:FuncData} {fLform:Addr} {fdLform:FuncData} {fLlone:Addr} {fdLlone:FuncData} {fLterm:Addr} {fdLterm:FuncData} {fLsame:Addr} {fdLsame:FuncData} {fparts_and_fns:Addr} {fdparts_and_fns:FuncData} {fkind_of_of:Addr} {fdkind_of_of:FuncData} {fkind_of_name:Addr} {fdkind_of_name:FuncData} {fkind_of_form:Addr} {fdkind_of_form:FuncData} {fowner_of:Addr} {fdowner_of:FuncData} {fkind_of_bound:Addr} {fdkind_of_bound:FuncData} {fkind_of:Addr} {fdkind_of:FuncData} {fLexchanged:Addr} {fdLexchanged:FuncData} {fLkind_of_form:Addr} {fdLkind_of_form:FuncData} {fLkind_of:Addr} {fdLkind_of:FuncData} {fLrefused:Addr} {fdLrefused:FuncData} {fLright:Addr} {fdLright:FuncData} {flaw:Addr} {fdlaw:FuncData} (L_law_deck:Loc2 K mg "_law_deck" q7e ["_law_script"] fLdeck fdLdeck) (L_law_next:Loc2 K mg "_law_next" q7a ["_law_deck_here"] fLnext fdLnext) (L_law_spelled:Loc2 K mg "_law_spelled" q3q ["_law_number", "_law_size"] fLspelled fdLspelled) (L_law_word:Loc2 K mg "_law_word" q6x ["_law_deck_here", "_law_words_here"] fLword fdLword) (L_law_words:Loc2 K mg "_law_words" q5o ["_law_deck_here", "_law_many"] fLwords fdLwords) (L_law_world:Loc2 K mg "_law_world" q5n ["_law_deck_here", "_law_uses", "_law_leaves"] fLworld fdLworld) (L_law_kind:Loc2 K mg "_law_kind" q7c ["_law_deck_here", "_law_basics", "_law_deep"] fLkind fdLkind) (L_law_fn:Loc2 K mg "_law_fn" sLfn ["_law_deck_here", "_law_world_here", "_law_kind_here", "_law_around", "_law_deep"] fLfn fdLfn) (L_law_of:Loc2 K mg "_law_of" sLof ["_law_deck_here", "_law_world_here", "_law_kind_here", "_law_around", "_law_deep"] fLof fdLof) (L_law_width:Loc2 K mg "_law_width" q5p ["_law_kind_here"] fLwidth fdLwidth) (L_law_form:Loc2 K mg "_law_form" q7d ["_law_kind_here", "_law_cell"] fLform fdLform) (L_law_lone:Loc2 K mg "_law_lone" q7b ["_law_world_here", "_law_kind_here", "_law_cell"] fLlone fdLlone) (L_law_term:Loc2 K mg "_law_term" q6y ["_law_deck_here", "_law_world_here", "_law_kind_here", "_law_around", "_law_deep"] fLterm fdLterm) (L_law_same:Loc2 K mg "_law_same" q6z ["_law_one", "_law_other"] fLsame fdLsame) (Lparts_and_fns:Loc2 K mg "parts_and_fns" q1k ["term"] fparts_and_fns fdparts_and_fns) (Lkind_of_of:Loc2 K mg "kind_of_of" q2k ["wanting", "given"] fkind_of_of fdkind_of_of) (Lkind_of_name:Loc2 K mg "kind_of_name" q1q ["kinds", "name"] fkind_of_name fdkind_of_name) (Lkind_of_form:Loc2 K mg "kind_of_form" q1r ["form"] fkind_of_form fdkind_of_form) (Lowner_of:Loc2 K mg "owner_of" q3p ["fns", "k"] fowner_of fdowner_of) (Lkind_of_bound:Loc2 K mg "kind_of_bound" q1l ["rows", "fns", "k"] fkind_of_bound fdkind_of_bound) (Lkind_of:Loc2 K mg "kind_of" q4g ["names", "term"] fkind_of fdkind_of) (L_law_exchanged:Loc2 K mg "_law_exchanged" q2n ["_law_deck_here", "_law_world_here", "_law_term_here"] fLexchanged fdLexchanged) (L_law_kind_of_form:Loc2 K mg "_law_kind_of_form" q1m ["_law_form_here"] fLkind_of_form fdLkind_of_form) (L_law_kind_of:Loc2 K mg "_law_kind_of" q3s ["_law_known", "_law_term_here", "_law_around"] fLkind_of fdLkind_of) (L_law_refused:Loc2 K mg "_law_refused" q3r ["_law_names", "_law_term_here"] fLrefused fdLrefused) (L_law_right:Loc2 K mg "_law_right" q5q ["_law_names", "_law_term_here"] fLright fdLright) (Llaw:Loc2 K mg "law" slaw ["_law_script"] flaw fdlaw) (z_all:mg "all" = none) (z_bool:mg "bool" = none) (z_int:mg "int" = none) (z_isinstance:mg "isinstance" = none) (z_len:mg "len" = none) (z_list:mg "list" = none) (z_range:mg "range" = none) (z_reversed:mg "reversed" = none) (z_str:mg "str" = none) (z_sum:mg "sum" = none) (z_tuple:mg "tuple" = none) (z_zip:mg "zip" = none) (x_NoKind:ExcC K mg "NoKind") (y_SlashError:Cau K mg "SlashError" ["NoKind"]) (i_Misfit_NoBasic_NoForm_NoNumber_NoPlace_NoReading_:HIsT K mg ["Misfit", "NoBasic", "NoForm", "NoNumber", "NoPlace", "NoReading"] [("NoKind",false)]) (i_NoKind:HIs1 K mg "NoKind" [("NoKind",true)]) (i_NoRow_NoTerm_NoWord_TooMany_Twice_:HIsT K mg ["NoRow", "NoTerm", "NoWord", "TooMany", "Twice"] [("NoKind",false)]) (i_ValueError:HIs1 K mg "ValueError" [("NoKind",true)]):∀k:Nat,
  Cal P w K mg base k "_law_deck" ["_law_script"] (q0o K (tab k).dLdeck) fLdeck fdLdeck∧
  Cal P w K mg base k "_law_next" ["_law_deck_here"] (q0o K (tab k).dLnext) fLnext fdLnext∧
  Cal P w K mg base k "_law_spelled" ["_law_number", "_law_size"] (q0o K (tab k).dLspelled) fLspelled fdLspelled∧
  Cal P w K mg base k "_law_word" ["_law_deck_here", "_law_words_here"] (q0o K (tab k).dLword) fLword fdLword∧
  Cal P w K mg base k "_law_words" ["_law_deck_here", "_law_many"] (q0o K (tab k).dLwords) fLwords fdLwords∧
  Cal P w K mg base k "_law_world" ["_law_deck_here", "_law_uses", "_law_leaves"] (q0o K (tab k).dLworld) fLworld fdLworld∧
  Cal P w K mg base k "_law_kind" ["_law_deck_here", "_law_basics", "_law_deep"] (q0o K (tab k).dLkind) fLkind fdLkind∧
  Cal P w K mg base k "_law_fn" ["_law_deck_here", "_law_world_here", "_law_kind_here", "_law_around", "_law_deep"] (q0o K (tab k).dLfn) fLfn fdLfn∧
  Cal P w K mg base k "_law_of" ["_law_deck_here", "_law_world_here", "_law_kind_here", "_law_around", "_law_deep"] (q0o K (tab k).dLof) fLof fdLof∧
  Cal P w K mg base k "_law_width" ["_law_kind_here"] (q0o K (tab k).dLwidth) fLwidth fdLwidth∧
  Cal P w K mg base k "_law_form" ["_law_kind_here", "_law_cell"] (q0o K (tab k).dLform) fLform fdLform∧
  Cal P w K mg base k "_law_lone" ["_law_world_here", "_law_kind_here", "_law_cell"] (q0o K (tab k).dLlone) fLlone fdLlone∧
  Cal P w K mg base k "_law_term" ["_law_deck_here", "_law_world_here", "_law_kind_here", "_law_around", "_law_deep"] (q0o K (tab k).dLterm) fLterm fdLterm∧
  Cal P w K mg base k "_law_same" ["_law_one", "_law_other"] (q0o K (tab k).dLsame) fLsame fdLsame∧
  Cal P w K mg base k "parts_and_fns" ["term"] (q0o K (tab k).dparts_and_fns) fparts_and_fns fdparts_and_fns∧
  Cal P w K mg base k "kind_of_of" ["wanting", "given"] (q0o K (tab k).dkind_of_of) fkind_of_of fdkind_of_of∧
  Cal P w K mg base k "kind_of_name" ["kinds", "name"] (q0o K (tab k).dkind_of_name) fkind_of_name fdkind_of_name∧
  Cal P w K mg base k "kind_of_form" ["form"] (q0o K (tab k).dkind_of_form) fkind_of_form fdkind_of_form∧
  Cal P w K mg base k "owner_of" ["fns", "k"] (q0o K (tab k).downer_of) fowner_of fdowner_of∧
  Cal P w K mg base k "kind_of_bound" ["rows", "fns", "k"] (q0o K (tab k).dkind_of_bound) fkind_of_bound fdkind_of_bound∧
  Cal P w K mg base k "kind_of" ["names", "term"] (q0o K (tab k).dkind_of) fkind_of fdkind_of∧
  Cal P w K mg base k "_law_exchanged" ["_law_deck_here", "_law_world_here", "_law_term_here"] (q0o K (tab k).dLexchanged) fLexchanged fdLexchanged∧
  Cal P w K mg base k "_law_kind_of_form" ["_law_form_here"] (q0o K (tab k).dLkind_of_form) fLkind_of_form fdLkind_of_form∧
  Cal P w K mg base k "_law_kind_of" ["_law_known", "_law_term_here", "_law_around"] (q0o K (tab k).dLkind_of) fLkind_of fdLkind_of∧
  Cal P w K mg base k "_law_refused" ["_law_names", "_law_term_here"] (q0o K (tab k).dLrefused) fLrefused fdLrefused∧
  Cal P w K mg base k "_law_right" ["_law_names", "_law_term_here"] (q0o K (tab k).dLright) fLright fdLright∧
  Cal P w K mg base k "law" ["_law_script"] (q0o K (tab k).dlaw) flaw fdlaw
 | 0=>⟨L_law_deck.cal q3v,L_law_next.cal q3v,L_law_spelled.cal q3v,L_law_word.cal q3v,L_law_words.cal q3v,L_law_world.cal q3v,L_law_kind.cal q3v,L_law_fn.cal q3v,L_law_of.cal q3v,L_law_width.cal q3v,L_law_form.cal q3v,L_law_lone.cal q3v,L_law_term.cal q3v,L_law_same.cal q3v,Lparts_and_fns.cal q3v,Lkind_of_of.cal q3v,Lkind_of_name.cal q3v,Lkind_of_form.cal q3v,Lowner_of.cal q3v,Lkind_of_bound.cal q3v,Lkind_of.cal q3v,L_law_exchanged.cal q3v,L_law_kind_of_form.cal q3v,L_law_kind_of.cal q3v,L_law_refused.cal q3v,L_law_right.cal q3v,Llaw.cal q3v⟩
 | k+1=>by
  have IH:=good (P:=P) (w:=w) (base:=base) L_law_deck L_law_next L_law_spelled L_law_word L_law_words L_law_world L_law_kind L_law_fn L_law_of L_law_width L_law_form L_law_lone L_law_term L_law_same Lparts_and_fns Lkind_of_of Lkind_of_name Lkind_of_form Lowner_of Lkind_of_bound Lkind_of L_law_exchanged L_law_kind_of_form L_law_kind_of L_law_refused L_law_right Llaw z_all z_bool z_int z_isinstance z_len z_list z_range z_reversed z_str z_sum z_tuple z_zip x_NoKind y_SlashError i_Misfit_NoBasic_NoForm_NoNumber_NoPlace_NoReading_ i_NoKind i_NoRow_NoTerm_NoWord_TooMany_Twice_ i_ValueError k
  exact ⟨L_law_deck.cal (q2j L_law_deck.F scLdeck fun _ _ _ _ _ _ _ hr hx=>simLdeck z_sum hr hx),
   L_law_next.cal (q2j L_law_next.F q8v fun _ _ _ _ _ _ _ hr hx=>simLnext z_len hr hx),
   L_law_spelled.cal (q2j L_law_spelled.F q5b fun _ _ _ _ _ _ _ hr hx=>simLspelled z_range hr hx),
   L_law_word.cal (q2j L_law_word.F q4r fun _ _ _ _ _ _ _ hr hx=>simLword z_len IH.2.1 IH.2.2.1 hr hx),
   L_law_words.cal (q2j L_law_words.F scLwords fun _ _ _ _ _ _ _ hr hx=>simLwords z_range IH.2.2.2.1 hr hx),
   L_law_world.cal (q2j L_law_world.F scLworld fun _ _ _ _ _ _ _ hr hx=>simLworld IH.2.2.2.2.1 hr hx),
   L_law_kind.cal (q2j L_law_kind.F scLkind fun _ _ _ _ _ _ _ hr hx=>simLkind z_len IH.2.1 IH.2.2.2.2.2.2.1 hr hx),
   L_law_fn.cal (q2j L_law_fn.F scLfn fun _ _ _ _ _ _ _ hr hx=>simLfn IH.2.2.2.2.2.2.2.2.2.2.2.2.1 hr hx),
   L_law_of.cal (q2j L_law_of.F scLof fun _ _ _ _ _ _ _ hr hx=>simLof IH.2.2.2.2.2.2.1 IH.2.1 IH.2.2.2.2.2.2.2.1 IH.2.2.2.2.2.2.2.2.2.2.2.2.1 hr hx),
   L_law_width.cal (q2j L_law_width.F scLwidth fun _ _ _ _ _ _ _ hr hx=>simLwidth z_isinstance z_str IH.2.2.2.2.2.2.2.2.2.1 hr hx),
   L_law_form.cal (q2j L_law_form.F scLform fun _ _ _ _ _ _ _ hr hx=>simLform z_isinstance z_str IH.2.2.2.2.2.2.2.2.2.2.1 hr hx),
   L_law_lone.cal (q2j L_law_lone.F scLlone fun _ _ _ _ _ _ _ hr hx=>simLlone IH.2.2.2.2.2.2.2.2.2.1 IH.2.2.2.2.2.2.2.2.2.2.1 IH.2.2.2.1 hr hx),
   L_law_term.cal (q2j L_law_term.F scLterm fun _ _ _ _ _ _ _ hr hx=>simLterm z_isinstance z_len z_range z_tuple IH.2.1 IH.2.2.2.2.2.2.2.1 IH.2.2.2.2.2.2.2.2.1 IH.2.2.2.2.2.2.2.2.2.2.2.1 hr hx),
   L_law_same.cal (q2j L_law_same.F scLsame fun _ _ _ _ _ _ _ hr hx=>simLsame z_all z_bool z_int z_isinstance z_len z_str z_tuple z_zip IH.2.2.2.2.2.2.2.2.2.2.2.2.2.1 hr hx),
   Lparts_and_fns.cal (q2j Lparts_and_fns.F q2w fun _ _ _ _ _ _ _ hr hx=>q8c z_len hr hx),
   Lkind_of_of.cal (q2j Lkind_of_of.F sckind_of_of fun _ _ _ _ _ _ _ hr hx=>simkind_of_of z_isinstance z_tuple x_NoKind hr hx),
   Lkind_of_name.cal (q2j Lkind_of_name.F sckind_of_name fun _ _ _ _ _ _ _ hr hx=>q8p x_NoKind hr hx),
   Lkind_of_form.cal (q2j Lkind_of_form.F sckind_of_form fun _ _ _ _ _ _ _ hr hx=>q8q IH.2.2.2.2.2.2.2.2.2.2.2.2.2.2.2.2.2.1 hr hx),
   Lowner_of.cal (q2j Lowner_of.F scowner_of fun _ _ _ _ _ _ _ hr hx=>simowner_of z_len hr hx),
   Lkind_of_bound.cal (q2j Lkind_of_bound.F q4k fun _ _ _ _ _ _ _ hr hx=>q8d x_NoKind IH.2.2.2.2.2.2.2.2.2.2.2.2.2.2.2.2.2.2.1 hr hx),
   Lkind_of.cal (q2j Lkind_of.F q4c fun _ _ _ _ _ _ _ hr hx=>simkind_of z_reversed IH.2.2.2.2.2.2.2.2.2.2.2.2.2.2.1 IH.2.2.2.2.2.2.2.2.2.2.2.2.2.2.2.1 IH.2.2.2.2.2.2.2.2.2.2.2.2.2.2.2.2.1 IH.2.2.2.2.2.2.2.2.2.2.2.2.2.2.2.2.2.1 IH.2.2.2.2.2.2.2.2.2.2.2.2.2.2.2.2.2.2.2.1 hr hx),
   L_law_exchanged.cal (q2j L_law_exchanged.F q7u fun _ _ _ _ _ _ _ hr hx=>simLexchanged IH.2.1 IH.2.2.2.2.2.2.2.2.2.2.2.2.2.2.2.2.2.2.2.2.2.1 IH.2.2.2.2.2.2.1 IH.2.2.2.2.2.2.2.2.2.2.2.2.1 hr hx),
   L_law_kind_of_form.cal (q2j L_law_kind_of_form.F q8w fun _ _ _ _ _ _ _ hr hx=>q8e IH.2.2.2.2.2.2.2.2.2.2.2.2.2.2.2.2.2.2.2.2.2.2.1 hr hx),
   L_law_kind_of.cal (q2j L_law_kind_of.F q6f fun _ _ _ _ _ _ _ hr hx=>simLkind_of z_isinstance z_str IH.2.2.2.2.2.2.2.2.2.2.2.2.2.2.2.2.2.2.2.2.2.2.1 IH.2.2.2.2.2.2.2.2.2.2.2.2.2.2.2.2.2.2.2.2.2.2.2.1 hr hx),
   L_law_refused.cal (q2j L_law_refused.F q4i fun _ _ _ _ _ _ _ hr hx=>simLrefused z_isinstance y_SlashError i_Misfit_NoBasic_NoForm_NoNumber_NoPlace_NoReading_ i_NoKind i_NoRow_NoTerm_NoWord_TooMany_Twice_ i_ValueError IH.2.2.2.2.2.2.2.2.2.2.2.2.2.2.2.2.2.2.2.2.1 hr hx),
   L_law_right.cal (q2j L_law_right.F q6w fun _ _ _ _ _ _ _ hr hx=>simLright IH.2.2.2.2.2.2.2.2.2.2.2.2.2.2.2.2.2.2.2.2.2.2.2.1 IH.2.2.2.2.2.2.2.2.2.2.2.2.2.2.2.2.2.2.2.2.2.2.2.2.1 IH.2.2.2.2.2.2.2.2.2.2.2.2.2.1 IH.2.2.2.2.2.2.2.2.2.2.2.2.2.2.2.2.2.2.2.2.1 hr hx),
   Llaw.cal (q2j Llaw.F q6v fun _ _ _ _ _ _ _ hr hx=>simlaw z_len z_list z_range z_tuple IH.1 IH.2.2.2.2.2.1 IH.2.1 IH.2.2.2.2.2.2.1 IH.2.2.2.2.2.2.2.2.2.2.2.2.1 IH.2.2.2.1 IH.2.2.2.2.2.2.2.2.2.2.2.2.2.1 IH.2.2.2.2.2.2.2.2.2.2.2.2.2.2.2.2.2.2.2.2.1 IH.2.2.2.2.2.2.2.2.2.2.2.2.2.2.2.2.2.2.2.2.2.1 IH.2.2.2.2.2.2.2.2.2.2.2.2.2.2.2.2.2.2.2.2.2.2.2.2.2.1 hr hx)⟩
theorem len_1 {P:List Value→Prop} {ps:List Str} (hp:ps.length=1) (h:∀a0,P [a0]) (us:List Value) (hl:us.length=ps.length):P us:=by
 rw [hp] at hl
 cases us with | nil=>exact absurd hl (by simp) | cons a r=>cases r with | nil=>exact h _ | cons b r=>exact absurd hl (by simp)
theorem q9g {P:List Value→Prop} {ps:List Str} (hp:ps.length=2) (h:∀a0 a1,P [a0,a1]) (us:List Value) (hl:us.length=ps.length):P us:=by
 rw [hp] at hl
 cases us with | nil=>exact absurd hl (by simp) | cons a r=>cases r with | nil=>exact absurd hl (by simp) | cons b r=>cases r with | nil=>exact h _ _ | cons b r=>exact absurd hl (by simp)
theorem len_3 {P:List Value→Prop} {ps:List Str} (hp:ps.length=3) (h:∀a0 a1 a2,P [a0,a1,a2]) (us:List Value) (hl:us.length=ps.length):P us:=by
 rw [hp] at hl
 cases us with | nil=>exact absurd hl (by simp) | cons a r=>cases r with | nil=>exact absurd hl (by simp) | cons b r=>cases r with | nil=>exact absurd hl (by simp) | cons b r=>cases r with | nil=>exact h _ _ _ | cons b r=>exact absurd hl (by simp)
theorem len_5 {P:List Value→Prop} {ps:List Str} (hp:ps.length=5) (h:∀a0 a1 a2 a3 a4,P [a0,a1,a2,a3,a4]) (us:List Value) (hl:us.length=ps.length):P us:=by
 rw [hp] at hl
 cases us with | nil=>exact absurd hl (by simp) | cons a r=>cases r with | nil=>exact absurd hl (by simp) | cons b r=>cases r with | nil=>exact absurd hl (by simp) | cons b r=>cases r with | nil=>exact absurd hl (by simp) | cons b r=>cases r with | nil=>exact absurd hl (by simp) | cons b r=>cases r with | nil=>exact h _ _ _ _ _ | cons b r=>exact absurd hl (by simp)
theorem all_mk {l:PySem.W.OpenLaw} {w:World} {K:PySem.W.Frag} {h:Heap} {mg:Str→Option Value} {fa f0 f1 f2 f3 f4 f5 f6 f7 f8 f9 f10 f11 f12 f13 f14 f15 f16 f17 f18 f19 f20 f21 f22 f23 f24 f25 f26:Addr} (X:K.In h) (G:h.Ns mainGlobals mg) (hfa:mg "law" = some (.ref fa))
    {od0 an0 od1 an1 od2 an2 od3 an3 od4 an4 od5 an5 od6 an6 od7 an7 od8 an8 od9 an9 od10 an10 od11 an11 od12 an12 od13 an13 od14 an14 od15 an15 od16 an16 od17 an17 od18 an18 od19 an19 od20 an20 od21 an21 od22 an22 od23 an23 od24 an24 od25 an25 od26 an26:Option Addr} {sl0 sl1 sl2 sl3 sl4 sl5 sl6 sl7 sl8 sl9 sl10 sl11 sl12 sl13 sl14 sl15 sl16 sl17 sl18 sl19 sl20 sl21 sl22 sl23 sl24 sl25 sl26:Array (Option Value)} {oc0 kV0 dc0 pm0 cd0 ct0 oc1 kV1 dc1 pm1 cd1 ct1 oc2 kV2 dc2 pm2 cd2 ct2 oc3 kV3 dc3 pm3 cd3 ct3 oc4 kV4 dc4 pm4 cd4 ct4 oc5 kV5 dc5 pm5 cd5 ct5 oc6 kV6 dc6 pm6 cd6 ct6 oc7 kV7 dc7 pm7 cd7 ct7 oc8 kV8 dc8 pm8 cd8 ct8 oc9 kV9 dc9 pm9 cd9 ct9 oc10 kV10 dc10 pm10 cd10 ct10 oc11 kV11 dc11 pm11 cd11 ct11 oc12 kV12 dc12 pm12 cd12 ct12 oc13 kV13 dc13 pm13 cd13 ct13 oc14 kV14 dc14 pm14 cd14 ct14 oc15 kV15 dc15 pm15 cd15 ct15 oc16 kV16 dc16 pm16 cd16 ct16 oc17 kV17 dc17 pm17 cd17 ct17 oc18 kV18 dc18 pm18 cd18 ct18 oc19 kV19 dc19 pm19 cd19 ct19 oc20 kV20 dc20 pm20 cd20 ct20 oc21 kV21 dc21 pm21 cd21 ct21 oc22 kV22 dc22 pm22 cd22 ct22 oc23 kV23 dc23 pm23 cd23 ct23 oc24 kV24 dc24 pm24 cd24 ct24 oc25 kV25 dc25 pm25 cd25 ct25 oc26 kV26 dc26 pm26 cd26 ct26:Value}
    (a0:PySem.W.nsIn K mainGlobals "_law_deck" = some (some (.ref f0))) (l0:K.lookup f0=some ⟨oc0,od0,.func (PySem.W.fnOf "_law_deck" "_law_deck" (q1c q7e) (q0z q7e) (q0j q7e) .none kV0 dc0 pm0 an0 cd0 ct0),sl0⟩) (c0:PySem.W.codeIn K cd0 "_law_deck" = true) (k0:PySem.W.keepIn K (.ref f0)=true)
    (a1:PySem.W.nsIn K mainGlobals "_law_next" = some (some (.ref f1))) (l1:K.lookup f1=some ⟨oc1,od1,.func (PySem.W.fnOf "_law_next" "_law_next" (q1c q7a) (q0z q7a) (q0j q7a) .none kV1 dc1 pm1 an1 cd1 ct1),sl1⟩) (c1:PySem.W.codeIn K cd1 "_law_next" = true) (k1:PySem.W.keepIn K (.ref f1)=true)
    (a2:PySem.W.nsIn K mainGlobals "_law_spelled" = some (some (.ref f2))) (l2:K.lookup f2=some ⟨oc2,od2,.func (PySem.W.fnOf "_law_spelled" "_law_spelled" (q1c q3q) (q0z q3q) (q0j q3q) .none kV2 dc2 pm2 an2 cd2 ct2),sl2⟩) (c2:PySem.W.codeIn K cd2 "_law_spelled" = true) (k2:PySem.W.keepIn K (.ref f2)=true)
    (a3:PySem.W.nsIn K mainGlobals "_law_word" = some (some (.ref f3))) (l3:K.lookup f3=some ⟨oc3,od3,.func (PySem.W.fnOf "_law_word" "_law_word" (q1c q6x) (q0z q6x) (q0j q6x) .none kV3 dc3 pm3 an3 cd3 ct3),sl3⟩) (c3:PySem.W.codeIn K cd3 "_law_word" = true) (k3:PySem.W.keepIn K (.ref f3)=true)
    (a4:PySem.W.nsIn K mainGlobals "_law_words" = some (some (.ref f4))) (l4:K.lookup f4=some ⟨oc4,od4,.func (PySem.W.fnOf "_law_words" "_law_words" (q1c q5o) (q0z q5o) (q0j q5o) .none kV4 dc4 pm4 an4 cd4 ct4),sl4⟩) (c4:PySem.W.codeIn K cd4 "_law_words" = true) (k4:PySem.W.keepIn K (.ref f4)=true)
    (a5:PySem.W.nsIn K mainGlobals "_law_world" = some (some (.ref f5))) (l5:K.lookup f5=some ⟨oc5,od5,.func (PySem.W.fnOf "_law_world" "_law_world" (q1c q5n) (q0z q5n) (q0j q5n) .none kV5 dc5 pm5 an5 cd5 ct5),sl5⟩) (c5:PySem.W.codeIn K cd5 "_law_world" = true) (k5:PySem.W.keepIn K (.ref f5)=true)
    (a6:PySem.W.nsIn K mainGlobals "_law_kind" = some (some (.ref f6))) (l6:K.lookup f6=some ⟨oc6,od6,.func (PySem.W.fnOf "_law_kind" "_law_kind" (q1c q7c) (q0z q7c) (q0j q7c) .none kV6 dc6 pm6 an6 cd6 ct6),sl6⟩) (c6:PySem.W.codeIn K cd6 "_law_kind" = true) (k6:PySem.W.keepIn K (.ref f6)=true)
    (a7:PySem.W.nsIn K mainGlobals "_law_fn" = some (some (.ref f7))) (l7:K.lookup f7=some ⟨oc7,od7,.func (PySem.W.fnOf "_law_fn" "_law_fn" (q1c sLfn) (q0z sLfn) (q0j sLfn) .none kV7 dc7 pm7 an7 cd7 ct7),sl7⟩) (c7:PySem.W.codeIn K cd7 "_law_fn" = true) (k7:PySem.W.keepIn K (.ref f7)=true)
    (a8:PySem.W.nsIn K mainGlobals "_law_of" = some (some (.ref f8))) (l8:K.lookup f8=some ⟨oc8,od8,.func (PySem.W.fnOf "_law_of" "_law_of" (q1c sLof) (q0z sLof) (q0j sLof) .none kV8 dc8 pm8 an8 cd8 ct8),sl8⟩) (c8:PySem.W.codeIn K cd8 "_law_of" = true) (k8:PySem.W.keepIn K (.ref f8)=true)
    (a9:PySem.W.nsIn K mainGlobals "_law_width" = some (some (.ref f9))) (l9:K.lookup f9=some ⟨oc9,od9,.func (PySem.W.fnOf "_law_width" "_law_width" (q1c q5p) (q0z q5p) (q0j q5p) .none kV9 dc9 pm9 an9 cd9 ct9),sl9⟩) (c9:PySem.W.codeIn K cd9 "_law_width" = true) (k9:PySem.W.keepIn K (.ref f9)=true)
    (a10:PySem.W.nsIn K mainGlobals "_law_form" = some (some (.ref f10))) (l10:K.lookup f10=some ⟨oc10,od10,.func (PySem.W.fnOf "_law_form" "_law_form" (q1c q7d) (q0z q7d) (q0j q7d) .none kV10 dc10 pm10 an10 cd10 ct10),sl10⟩) (c10:PySem.W.codeIn K cd10 "_law_form" = true) (k10:PySem.W.keepIn K (.ref f10)=true)
    (a11:PySem.W.nsIn K mainGlobals "_law_lone" = some (some (.ref f11))) (l11:K.lookup f11=some ⟨oc11,od11,.func (PySem.W.fnOf "_law_lone" "_law_lone" (q1c q7b) (q0z q7b) (q0j q7b) .none kV11 dc11 pm11 an11 cd11 ct11),sl11⟩) (c11:PySem.W.codeIn K cd11 "_law_lone" = true) (k11:PySem.W.keepIn K (.ref f11)=true)
    (a12:PySem.W.nsIn K mainGlobals "_law_term" = some (some (.ref f12))) (l12:K.lookup f12=some ⟨oc12,od12,.func (PySem.W.fnOf "_law_term" "_law_term" (q1c q6y) (q0z q6y) (q0j q6y) .none kV12 dc12 pm12 an12 cd12 ct12),sl12⟩) (c12:PySem.W.codeIn K cd12 "_law_term" = true) (k12:PySem.W.keepIn K (.ref f12)=true)
    (a13:PySem.W.nsIn K mainGlobals "_law_same" = some (some (.ref f13))) (l13:K.lookup f13=some ⟨oc13,od13,.func (PySem.W.fnOf "_law_same" "_law_same" (q1c q6z) (q0z q6z) (q0j q6z) .none kV13 dc13 pm13 an13 cd13 ct13),sl13⟩) (c13:PySem.W.codeIn K cd13 "_law_same" = true) (k13:PySem.W.keepIn K (.ref f13)=true)
    (a14:PySem.W.nsIn K mainGlobals "parts_and_fns" = some (some (.ref f14))) (l14:K.lookup f14=some ⟨oc14,od14,.func (PySem.W.fnOf "parts_and_fns" "parts_and_fns" (q1c q1k) (q0z q1k) (q0j q1k) .none kV14 dc14 pm14 an14 cd14 ct14),sl14⟩) (c14:PySem.W.codeIn K cd14 "parts_and_fns" = true) (k14:PySem.W.keepIn K (.ref f14)=true)
    (a15:PySem.W.nsIn K mainGlobals "kind_of_of" = some (some (.ref f15))) (l15:K.lookup f15=some ⟨oc15,od15,.func (PySem.W.fnOf "kind_of_of" "kind_of_of" (q1c q2k) (q0z q2k) (q0j q2k) .none kV15 dc15 pm15 an15 cd15 ct15),sl15⟩) (c15:PySem.W.codeIn K cd15 "kind_of_of" = true) (k15:PySem.W.keepIn K (.ref f15)=true)
    (a16:PySem.W.nsIn K mainGlobals "kind_of_name" = some (some (.ref f16))) (l16:K.lookup f16=some ⟨oc16,od16,.func (PySem.W.fnOf "kind_of_name" "kind_of_name" (q1c q1q) (q0z q1q) (q0j q1q) .none kV16 dc16 pm16 an16 cd16 ct16),sl16⟩) (c16:PySem.W.codeIn K cd16 "kind_of_name" = true) (k16:PySem.W.keepIn K (.ref f16)=true)
    (a17:PySem.W.nsIn K mainGlobals "kind_of_form" = some (some (.ref f17))) (l17:K.lookup f17=some ⟨oc17,od17,.func (PySem.W.fnOf "kind_of_form" "kind_of_form" (q1c q1r) (q0z q1r) (q0j q1r) .none kV17 dc17 pm17 an17 cd17 ct17),sl17⟩) (c17:PySem.W.codeIn K cd17 "kind_of_form" = true) (k17:PySem.W.keepIn K (.ref f17)=true)
    (a18:PySem.W.nsIn K mainGlobals "owner_of" = some (some (.ref f18))) (l18:K.lookup f18=some ⟨oc18,od18,.func (PySem.W.fnOf "owner_of" "owner_of" (q1c q3p) (q0z q3p) (q0j q3p) .none kV18 dc18 pm18 an18 cd18 ct18),sl18⟩) (c18:PySem.W.codeIn K cd18 "owner_of" = true) (k18:PySem.W.keepIn K (.ref f18)=true)
    (a19:PySem.W.nsIn K mainGlobals "kind_of_bound" = some (some (.ref f19))) (l19:K.lookup f19=some ⟨oc19,od19,.func (PySem.W.fnOf "kind_of_bound" "kind_of_bound" (q1c q1l) (q0z q1l) (q0j q1l) .none kV19 dc19 pm19 an19 cd19 ct19),sl19⟩) (c19:PySem.W.codeIn K cd19 "kind_of_bound" = true) (k19:PySem.W.keepIn K (.ref f19)=true)
    (a20:PySem.W.nsIn K mainGlobals "kind_of" = some (some (.ref f20))) (l20:K.lookup f20=some ⟨oc20,od20,.func (PySem.W.fnOf "kind_of" "kind_of" (q1c q4g) (q0z q4g) (q0j q4g) .none kV20 dc20 pm20 an20 cd20 ct20),sl20⟩) (c20:PySem.W.codeIn K cd20 "kind_of" = true) (k20:PySem.W.keepIn K (.ref f20)=true)
    (a21:PySem.W.nsIn K mainGlobals "_law_exchanged" = some (some (.ref f21))) (l21:K.lookup f21=some ⟨oc21,od21,.func (PySem.W.fnOf "_law_exchanged" "_law_exchanged" (q1c q2n) (q0z q2n) (q0j q2n) .none kV21 dc21 pm21 an21 cd21 ct21),sl21⟩) (c21:PySem.W.codeIn K cd21 "_law_exchanged" = true) (k21:PySem.W.keepIn K (.ref f21)=true)
    (a22:PySem.W.nsIn K mainGlobals "_law_kind_of_form" = some (some (.ref f22))) (l22:K.lookup f22=some ⟨oc22,od22,.func (PySem.W.fnOf "_law_kind_of_form" "_law_kind_of_form" (q1c q1m) (q0z q1m) (q0j q1m) .none kV22 dc22 pm22 an22 cd22 ct22),sl22⟩) (c22:PySem.W.codeIn K cd22 "_law_kind_of_form" = true) (k22:PySem.W.keepIn K (.ref f22)=true)
    (a23:PySem.W.nsIn K mainGlobals "_law_kind_of" = some (some (.ref f23))) (l23:K.lookup f23=some ⟨oc23,od23,.func (PySem.W.fnOf "_law_kind_of" "_law_kind_of" (q1c q3s) (q0z q3s) (q0j q3s) .none kV23 dc23 pm23 an23 cd23 ct23),sl23⟩) (c23:PySem.W.codeIn K cd23 "_law_kind_of" = true) (k23:PySem.W.keepIn K (.ref f23)=true)
    (a24:PySem.W.nsIn K mainGlobals "_law_refused" = some (some (.ref f24))) (l24:K.lookup f24=some ⟨oc24,od24,.func (PySem.W.fnOf "_law_refused" "_law_refused" (q1c q3r) (q0z q3r) (q0j q3r) .none kV24 dc24 pm24 an24 cd24 ct24),sl24⟩) (c24:PySem.W.codeIn K cd24 "_law_refused" = true) (k24:PySem.W.keepIn K (.ref f24)=true)
    (a25:PySem.W.nsIn K mainGlobals "_law_right" = some (some (.ref f25))) (l25:K.lookup f25=some ⟨oc25,od25,.func (PySem.W.fnOf "_law_right" "_law_right" (q1c q5q) (q0z q5q) (q0j q5q) .none kV25 dc25 pm25 an25 cd25 ct25),sl25⟩) (c25:PySem.W.codeIn K cd25 "_law_right" = true) (k25:PySem.W.keepIn K (.ref f25)=true)
    (a26:PySem.W.nsIn K mainGlobals "law" = some (some (.ref f26))) (l26:K.lookup f26=some ⟨oc26,od26,.func (PySem.W.fnOf "law" "law" (q1c slaw) (q0z slaw) (q0j slaw) .none kV26 dc26 pm26 an26 cd26 ct26),sl26⟩) (c26:PySem.W.codeIn K cd26 "law" = true) (k26:PySem.W.keepIn K (.ref f26)=true)
     {C_Misfit:Addr} {C_NoBasic:Addr} {C_NoForm:Addr} {C_NoKind:Addr} {C_NoNumber:Addr} {C_NoPlace:Addr} {C_NoReading:Addr} {C_NoRow:Addr} {C_NoTerm:Addr} {C_NoWord:Addr} {C_SlashError:Addr} {C_TooMany:Addr} {C_Twice:Addr}
    (xa_Misfit:PySem.W.nsIn K mainGlobals "Misfit" = some (some (.ref C_Misfit)))
    (xa_NoBasic:PySem.W.nsIn K mainGlobals "NoBasic" = some (some (.ref C_NoBasic)))
    (xa_NoForm:PySem.W.nsIn K mainGlobals "NoForm" = some (some (.ref C_NoForm)))
    (xa_NoKind:PySem.W.nsIn K mainGlobals "NoKind" = some (some (.ref C_NoKind)))
    (xa_NoNumber:PySem.W.nsIn K mainGlobals "NoNumber" = some (some (.ref C_NoNumber)))
    (xa_NoPlace:PySem.W.nsIn K mainGlobals "NoPlace" = some (some (.ref C_NoPlace)))
    (xa_NoReading:PySem.W.nsIn K mainGlobals "NoReading" = some (some (.ref C_NoReading)))
    (xa_NoRow:PySem.W.nsIn K mainGlobals "NoRow" = some (some (.ref C_NoRow)))
    (xa_NoTerm:PySem.W.nsIn K mainGlobals "NoTerm" = some (some (.ref C_NoTerm)))
    (xa_NoWord:PySem.W.nsIn K mainGlobals "NoWord" = some (some (.ref C_NoWord)))
    (xa_SlashError:PySem.W.nsIn K mainGlobals "SlashError" = some (some (.ref C_SlashError)))
    (xa_TooMany:PySem.W.nsIn K mainGlobals "TooMany" = some (some (.ref C_TooMany)))
    (xa_Twice:PySem.W.nsIn K mainGlobals "Twice" = some (some (.ref C_Twice)))
    (xe_NoKind:PySem.W.excIn K C_NoKind vErr "ValueError.__new__" = true)
    (xg:PySem.W.specialIn K (.builtin "object.__class__") "__get__" = some (some (.builtin "getset_descriptor.__get__")))
    (xt:PySem.W.takesIn K (.builtin "object.__class__")=some true)
    (x1_NoKind:PySem.W.hasDictIn K C_NoKind=true)
    (x2_NoKind:PySem.W.findIn K (.ref C_NoKind) "__getattribute__" = some (some (.builtin "BaseException.__getattribute__")))
    (x3_NoKind:PySem.W.findIn K (.ref C_NoKind) "__getattr__" = some none)
    (x4_NoKind:PySem.W.findIn K (.ref C_NoKind) "__class__" = some (some (.builtin "object.__class__")))
    (x5_NoKind:PySem.W.mroIn K C_NoKind (.type "object")=some true)
    (x6_NoKind:PySem.W.mroIn K C_NoKind (.type "BaseException")=some true)
    (xc_SlashError_NoKind:PySem.W.exmOne K (.ref C_NoKind) (.ref C_SlashError)=some true)
    (xi_Misfit_NoBasic_NoForm_NoNumber_NoPlace_NoReading_NoKind:PySem.W.kitAny K (.ref C_NoKind) [.ref C_Misfit,.ref C_NoBasic,.ref C_NoForm,.ref C_NoNumber,.ref C_NoPlace,.ref C_NoReading]=some false)
    (xi_NoKind_NoKind:PySem.W.kitOne K (.ref C_NoKind) (.ref C_NoKind)=some true)
    (xi_NoRow_NoTerm_NoWord_TooMany_Twice_NoKind:PySem.W.kitAny K (.ref C_NoKind) [.ref C_NoRow,.ref C_NoTerm,.ref C_NoWord,.ref C_TooMany,.ref C_Twice]=some false)
    (xi_ValueError_NoKind:PySem.W.kitOne K (.ref C_NoKind) (.type "ValueError")=some true)
    (z_all:PySem.W.nsIn K mainGlobals "all" = some none)
    (z_bool:PySem.W.nsIn K mainGlobals "bool" = some none)
    (z_int:PySem.W.nsIn K mainGlobals "int" = some none)
    (z_isinstance:PySem.W.nsIn K mainGlobals "isinstance" = some none)
    (z_len:PySem.W.nsIn K mainGlobals "len" = some none)
    (z_list:PySem.W.nsIn K mainGlobals "list" = some none)
    (z_range:PySem.W.nsIn K mainGlobals "range" = some none)
    (z_reversed:PySem.W.nsIn K mainGlobals "reversed" = some none)
    (z_str:PySem.W.nsIn K mainGlobals "str" = some none)
    (z_sum:PySem.W.nsIn K mainGlobals "sum" = some none)
    (z_tuple:PySem.W.nsIn K mainGlobals "tuple" = some none)
    (z_zip:PySem.W.nsIn K mainGlobals "zip" = some none)
    (z_ValueError:PySem.W.nsIn K mainGlobals "ValueError" = some none)
    : ∃fd:FuncData,(∀(s:Shared) (v:Value),BindsTo s fd ⟨[v],[]⟩ [("_law_script",v)])∧∀base:Heap,K.In base→base.Ns mainGlobals mg→FnOk l.prog w K mg base (CXE l.prog w) 180 fa fd ["_law_script"] (q0o K (tab 180).dlaw):=by
  have e:=hfa.symm.trans (PySem.W.mg_of X G a26)
  cases e
  have x_NoKind:ExcC K mg "NoKind" :=⟨⟨C_NoKind,xa_NoKind,PySem.W.mg_of X G xa_NoKind,xe_NoKind⟩⟩
  have k_NoKind:ExcK K C_NoKind:=⟨Ev.isSome_of x1_NoKind,x2_NoKind,x3_NoKind,x4_NoKind,xg,xt,x5_NoKind,x6_NoKind⟩
  have y_SlashError:Cau K mg "SlashError" ["NoKind"]:=⟨⟨.ref C_SlashError,PySem.W.mg_of X G xa_SlashError,((.cons xa_NoKind xc_SlashError_NoKind .nil):CauL K (.ref C_SlashError) _)⟩⟩
  have i_Misfit_NoBasic_NoForm_NoNumber_NoPlace_NoReading_:HIsT K mg ["Misfit", "NoBasic", "NoForm", "NoNumber", "NoPlace", "NoReading"] [("NoKind",false)]:=⟨⟨[.ref C_Misfit,.ref C_NoBasic,.ref C_NoForm,.ref C_NoNumber,.ref C_NoPlace,.ref C_NoReading],⟨.own (PySem.W.mg_of X G xa_Misfit),⟨.own (PySem.W.mg_of X G xa_NoBasic),⟨.own (PySem.W.mg_of X G xa_NoForm),⟨.own (PySem.W.mg_of X G xa_NoNumber),⟨.own (PySem.W.mg_of X G xa_NoPlace),⟨.own (PySem.W.mg_of X G xa_NoReading),trivial⟩⟩⟩⟩⟩⟩,(.cons xa_NoKind k_NoKind xi_Misfit_NoBasic_NoForm_NoNumber_NoPlace_NoReading_NoKind .nil)⟩⟩
  have i_NoKind:HIs1 K mg "NoKind" [("NoKind",true)]:=⟨⟨_,.own (PySem.W.mg_of X G xa_NoKind),(.cons xa_NoKind k_NoKind xi_NoKind_NoKind .nil)⟩⟩
  have i_NoRow_NoTerm_NoWord_TooMany_Twice_:HIsT K mg ["NoRow", "NoTerm", "NoWord", "TooMany", "Twice"] [("NoKind",false)]:=⟨⟨[.ref C_NoRow,.ref C_NoTerm,.ref C_NoWord,.ref C_TooMany,.ref C_Twice],⟨.own (PySem.W.mg_of X G xa_NoRow),⟨.own (PySem.W.mg_of X G xa_NoTerm),⟨.own (PySem.W.mg_of X G xa_NoWord),⟨.own (PySem.W.mg_of X G xa_TooMany),⟨.own (PySem.W.mg_of X G xa_Twice),trivial⟩⟩⟩⟩⟩,(.cons xa_NoKind k_NoKind xi_NoRow_NoTerm_NoWord_TooMany_Twice_NoKind .nil)⟩⟩
  have i_ValueError:HIs1 K mg "ValueError" [("NoKind",true)]:=⟨⟨_,.ty (PySem.W.mg_none_of X G z_ValueError) rfl,(.cons xa_NoKind k_NoKind xi_ValueError_NoKind .nil)⟩⟩
  refine ⟨PySem.W.fnOf "law" "law" (q1c slaw) (q0z slaw) (q0j slaw) .none kV26 dc26 pm26 an26 cd26 ct26,fun s v=>.of_eq rfl,fun base _ _=>?_⟩
  have T:=good (P:=l.prog) (w:=w) (base:=base) (⟨q0x (st:=q7e) l0 c0 k0,PySem.W.mg_of X G a0,(q0x (st:=q7e) l0 c0 k0).binds (ps:=["_law_script"]) fun _ _ _ _ _ _=>len_1 rfl fun _=>rfl⟩:Loc2 K mg "_law_deck" q7e ["_law_script"] _ _) (⟨q0x (st:=q7a) l1 c1 k1,PySem.W.mg_of X G a1,(q0x (st:=q7a) l1 c1 k1).binds (ps:=["_law_deck_here"]) fun _ _ _ _ _ _=>len_1 rfl fun _=>rfl⟩:Loc2 K mg "_law_next" q7a ["_law_deck_here"] _ _) (⟨q0x (st:=q3q) l2 c2 k2,PySem.W.mg_of X G a2,(q0x (st:=q3q) l2 c2 k2).binds (ps:=["_law_number", "_law_size"]) fun _ _ _ _ _ _=>q9g rfl fun _ _=>rfl⟩:Loc2 K mg "_law_spelled" q3q ["_law_number", "_law_size"] _ _) (⟨q0x (st:=q6x) l3 c3 k3,PySem.W.mg_of X G a3,(q0x (st:=q6x) l3 c3 k3).binds (ps:=["_law_deck_here", "_law_words_here"]) fun _ _ _ _ _ _=>q9g rfl fun _ _=>rfl⟩:Loc2 K mg "_law_word" q6x ["_law_deck_here", "_law_words_here"] _ _) (⟨q0x (st:=q5o) l4 c4 k4,PySem.W.mg_of X G a4,(q0x (st:=q5o) l4 c4 k4).binds (ps:=["_law_deck_here", "_law_many"]) fun _ _ _ _ _ _=>q9g rfl fun _ _=>rfl⟩:Loc2 K mg "_law_words" q5o ["_law_deck_here", "_law_many"] _ _) (⟨q0x (st:=q5n) l5 c5 k5,PySem.W.mg_of X G a5,(q0x (st:=q5n) l5 c5 k5).binds (ps:=["_law_deck_here", "_law_uses", "_law_leaves"]) fun _ _ _ _ _ _=>len_3 rfl fun _ _ _=>rfl⟩:Loc2 K mg "_law_world" q5n ["_law_deck_here", "_law_uses", "_law_leaves"] _ _) (⟨q0x (st:=q7c) l6 c6 k6,PySem.W.mg_of X G a6,(q0x (st:=q7c) l6 c6 k6).binds (ps:=["_law_deck_here", "_law_basics", "_law_deep"]) fun _ _ _ _ _ _=>len_3 rfl fun _ _ _=>rfl⟩:Loc2 K mg "_law_kind" q7c ["_law_deck_here", "_law_basics", "_law_deep"] _ _) (⟨q0x (st:=sLfn) l7 c7 k7,PySem.W.mg_of X G a7,(q0x (st:=sLfn) l7 c7 k7).binds (ps:=["_law_deck_here", "_law_world_here", "_law_kind_here", "_law_around", "_law_deep"]) fun _ _ _ _ _ _=>len_5 rfl fun _ _ _ _ _=>rfl⟩:Loc2 K mg "_law_fn" sLfn ["_law_deck_here", "_law_world_here", "_law_kind_here", "_law_around", "_law_deep"] _ _) (⟨q0x (st:=sLof) l8 c8 k8,PySem.W.mg_of X G a8,(q0x (st:=sLof) l8 c8 k8).binds (ps:=["_law_deck_here", "_law_world_here", "_law_kind_here", "_law_around", "_law_deep"]) fun _ _ _ _ _ _=>len_5 rfl fun _ _ _ _ _=>rfl⟩:Loc2 K mg "_law_of" sLof ["_law_deck_here", "_law_world_here", "_law_kind_here", "_law_around", "_law_deep"] _ _) (⟨q0x (st:=q5p) l9 c9 k9,PySem.W.mg_of X G a9,(q0x (st:=q5p) l9 c9 k9).binds (ps:=["_law_kind_here"]) fun _ _ _ _ _ _=>len_1 rfl fun _=>rfl⟩:Loc2 K mg "_law_width" q5p ["_law_kind_here"] _ _) (⟨q0x (st:=q7d) l10 c10 k10,PySem.W.mg_of X G a10,(q0x (st:=q7d) l10 c10 k10).binds (ps:=["_law_kind_here", "_law_cell"]) fun _ _ _ _ _ _=>q9g rfl fun _ _=>rfl⟩:Loc2 K mg "_law_form" q7d ["_law_kind_here", "_law_cell"] _ _) (⟨q0x (st:=q7b) l11 c11 k11,PySem.W.mg_of X G a11,(q0x (st:=q7b) l11 c11 k11).binds (ps:=["_law_world_here", "_law_kind_here", "_law_cell"]) fun _ _ _ _ _ _=>len_3 rfl fun _ _ _=>rfl⟩:Loc2 K mg "_law_lone" q7b ["_law_world_here", "_law_kind_here", "_law_cell"] _ _) (⟨q0x (st:=q6y) l12 c12 k12,PySem.W.mg_of X G a12,(q0x (st:=q6y) l12 c12 k12).binds (ps:=["_law_deck_here", "_law_world_here", "_law_kind_here", "_law_around", "_law_deep"]) fun _ _ _ _ _ _=>len_5 rfl fun _ _ _ _ _=>rfl⟩:Loc2 K mg "_law_term" q6y ["_law_deck_here", "_law_world_here", "_law_kind_here", "_law_around", "_law_deep"] _ _) (⟨q0x (st:=q6z) l13 c13 k13,PySem.W.mg_of X G a13,(q0x (st:=q6z) l13 c13 k13).binds (ps:=["_law_one", "_law_other"]) fun _ _ _ _ _ _=>q9g rfl fun _ _=>rfl⟩:Loc2 K mg "_law_same" q6z ["_law_one", "_law_other"] _ _) (⟨q0x (st:=q1k) l14 c14 k14,PySem.W.mg_of X G a14,(q0x (st:=q1k) l14 c14 k14).binds (ps:=["term"]) fun _ _ _ _ _ _=>len_1 rfl fun _=>rfl⟩:Loc2 K mg "parts_and_fns" q1k ["term"] _ _) (⟨q0x (st:=q2k) l15 c15 k15,PySem.W.mg_of X G a15,(q0x (st:=q2k) l15 c15 k15).binds (ps:=["wanting", "given"]) fun _ _ _ _ _ _=>q9g rfl fun _ _=>rfl⟩:Loc2 K mg "kind_of_of" q2k ["wanting", "given"] _ _) (⟨q0x (st:=q1q) l16 c16 k16,PySem.W.mg_of X G a16,(q0x (st:=q1q) l16 c16 k16).binds (ps:=["kinds", "name"]) fun _ _ _ _ _ _=>q9g rfl fun _ _=>rfl⟩:Loc2 K mg "kind_of_name" q1q ["kinds", "name"] _ _) (⟨q0x (st:=q1r) l17 c17 k17,PySem.W.mg_of X G a17,(q0x (st:=q1r) l17 c17 k17).binds (ps:=["form"]) fun _ _ _ _ _ _=>len_1 rfl fun _=>rfl⟩:Loc2 K mg "kind_of_form" q1r ["form"] _ _) (⟨q0x (st:=q3p) l18 c18 k18,PySem.W.mg_of X G a18,(q0x (st:=q3p) l18 c18 k18).binds (ps:=["fns", "k"]) fun _ _ _ _ _ _=>q9g rfl fun _ _=>rfl⟩:Loc2 K mg "owner_of" q3p ["fns", "k"] _ _) (⟨q0x (st:=q1l) l19 c19 k19,PySem.W.mg_of X G a19,(q0x (st:=q1l) l19 c19 k19).binds (ps:=["rows", "fns", "k"]) fun _ _ _ _ _ _=>len_3 rfl fun _ _ _=>rfl⟩:Loc2 K mg "kind_of_bound" q1l ["rows", "fns", "k"] _ _) (⟨q0x (st:=q4g) l20 c20 k20,PySem.W.mg_of X G a20,(q0x (st:=q4g) l20 c20 k20).binds (ps:=["names", "term"]) fun _ _ _ _ _ _=>q9g rfl fun _ _=>rfl⟩:Loc2 K mg "kind_of" q4g ["names", "term"] _ _) (⟨q0x (st:=q2n) l21 c21 k21,PySem.W.mg_of X G a21,(q0x (st:=q2n) l21 c21 k21).binds (ps:=["_law_deck_here", "_law_world_here", "_law_term_here"]) fun _ _ _ _ _ _=>len_3 rfl fun _ _ _=>rfl⟩:Loc2 K mg "_law_exchanged" q2n ["_law_deck_here", "_law_world_here", "_law_term_here"] _ _) (⟨q0x (st:=q1m) l22 c22 k22,PySem.W.mg_of X G a22,(q0x (st:=q1m) l22 c22 k22).binds (ps:=["_law_form_here"]) fun _ _ _ _ _ _=>len_1 rfl fun _=>rfl⟩:Loc2 K mg "_law_kind_of_form" q1m ["_law_form_here"] _ _) (⟨q0x (st:=q3s) l23 c23 k23,PySem.W.mg_of X G a23,(q0x (st:=q3s) l23 c23 k23).binds (ps:=["_law_known", "_law_term_here", "_law_around"]) fun _ _ _ _ _ _=>len_3 rfl fun _ _ _=>rfl⟩:Loc2 K mg "_law_kind_of" q3s ["_law_known", "_law_term_here", "_law_around"] _ _) (⟨q0x (st:=q3r) l24 c24 k24,PySem.W.mg_of X G a24,(q0x (st:=q3r) l24 c24 k24).binds (ps:=["_law_names", "_law_term_here"]) fun _ _ _ _ _ _=>q9g rfl fun _ _=>rfl⟩:Loc2 K mg "_law_refused" q3r ["_law_names", "_law_term_here"] _ _) (⟨q0x (st:=q5q) l25 c25 k25,PySem.W.mg_of X G a25,(q0x (st:=q5q) l25 c25 k25).binds (ps:=["_law_names", "_law_term_here"]) fun _ _ _ _ _ _=>q9g rfl fun _ _=>rfl⟩:Loc2 K mg "_law_right" q5q ["_law_names", "_law_term_here"] _ _) (⟨q0x (st:=slaw) l26 c26 k26,PySem.W.mg_of X G a26,(q0x (st:=slaw) l26 c26 k26).binds (ps:=["_law_script"]) fun _ _ _ _ _ _=>len_1 rfl fun _=>rfl⟩:Loc2 K mg "law" slaw ["_law_script"] _ _) (PySem.W.mg_none_of X G z_all) (PySem.W.mg_none_of X G z_bool) (PySem.W.mg_none_of X G z_int) (PySem.W.mg_none_of X G z_isinstance) (PySem.W.mg_none_of X G z_len) (PySem.W.mg_none_of X G z_list) (PySem.W.mg_none_of X G z_range) (PySem.W.mg_none_of X G z_reversed) (PySem.W.mg_none_of X G z_str) (PySem.W.mg_none_of X G z_sum) (PySem.W.mg_none_of X G z_tuple) (PySem.W.mg_none_of X G z_zip) x_NoKind y_SlashError i_Misfit_NoBasic_NoForm_NoNumber_NoPlace_NoReading_ i_NoKind i_NoRow_NoTerm_NoWord_TooMany_Twice_ i_ValueError 180
  exact (T.2.2.2.2.2.2.2.2.2.2.2.2.2.2.2.2.2.2.2.2.2.2.2.2.2.2).G
theorem walk {l:PySem.W.OpenLaw} {q:Program} {loose:List Str} {XP:(Str→Option Value)→Heap→Prop} {YP:World→Heap→Prop} {d:DefRec} {K:Params→PySem.W.Frag} (hlaw:LawP (tab 180).dlaw) (hn:l.most=some 63) (hdf:d.params.defaults=[])
  (hY:∀(w:World) (h:Heap),YP w h→(K w.params).In h)
  (F:∀(w:World) (mg:Str→Option Value) (fa:Addr) (h:Heap),(K w.params).In h→h.Ns mainGlobals mg→mg d.name=some (.ref fa)→
   ∃fd:FuncData,(∀(s:Shared) (u:Value),BindsTo s fd ⟨[u],[]⟩ [("_law_script",u)])∧∀base:Heap,(K w.params).In base→base.Ns mainGlobals mg→FnOk l.prog w (K w.params) mg base (CXE l.prog w) 180 fa fd ["_law_script"] (q0o (K w.params) (tab 180).dlaw)) :
  PySem.W.WalkO q loose XP YP l.row.toRowW d [] (fun f vs=>PySem.call f vs):=
 L2.walk_of (n:=63) (k:=180) (x:= "_law_script") (CX:=fun w=>CXE l.prog w) (sp:=fun w=>q0o (K w.params) (tab 180).dlaw) hn (by decide) hdf ⟨rfl,by decide,by decide⟩ hY F (fun _ H a ns hl hO hS=>law_sp hlaw H a ns hl hO hS) fun _ _ _ _ _ hh1=>by obtain ⟨_,_,_,_,_,_,_,_,_,_,_,z⟩:=hh1; exact (z)
end
theorem q7w (n:Nat):NextD (tab (n+1)).dLnext:=next_ok
theorem k_spelled (n:Nat):SpelledD (tab (n+1)).dLspelled:=spelled_ok
theorem k_word (n:Nat):WordD2 (tab (n+2)).dLword:=word_ok2 (q7w n) (k_spelled n)
theorem k_words (n:Nat):WordsD (tab (n+3)).dLwords:=words_ok (word_of2 (k_word n))
theorem k_deck (n:Nat):DeckD (tab (n+1)).dLdeck:=deck_ok
theorem k_world (n:Nat):WorldQ (tab (n+4)).dLworld:=world_ok2 (k_words n)
theorem k_kind (n:Nat):KindP (tab (n+4)).dLkind:=fun d c b ws S E Q h1 h2 h3 h4 h5 h6=>kind_ok (T:=fun n=>(tab n).dLkind) (N:=fun n=>(tab n).dLnext) (fun _=>rfl) (fun n=>q7w n) 2 (n+4) (by omega) d c b ws S E Q h1 h2 h3 h4 h5 h6
theorem k_kind1 (n:Nat):Kind1P (tab (n+4)).dLkind:=fun d c b ws S E Q h1 h2 h3 h4 h5 h6=>kind_ok (T:=fun n=>(tab n).dLkind) (N:=fun n=>(tab n).dLnext) (fun _=>rfl) (fun n=>q7w n) 1 (n+4) (by omega) d c b ws S E Q h1 h2 h3 h4 h5 h6
theorem k_lone (n:Nat):LoneQ (tab (n+9)).dLlone:=lone_ok2 (fun k S E Q h1 h2=>width_ok (T:=fun n=>(tab n).dLwidth) (fun _=>rfl) k (n+8) (by omega) S E Q h2) (fun k x S E Q h1 h2=>form_ok2 (T:=fun n=>(tab n).dLform) (fun _=>rfl) k (n+8) (by omega) x S E Q h2) (k_word (n+6))
theorem k_term:∀(dd n:Nat),dd≤5→TermQ (tab (n+10+3*dd)).dLterm dd
 | 0,n,_=>term_ok2 (q7w (n+8)) (k_lone n) (fun e h=>by omega) (fun e h=>by omega) (by omega)
 | dd+1,n,h5=>by
  have ih:=fun n=>k_term dd n (by omega)
  rw [show n+10+3*(dd+1)=n+10+3*dd+2+1 by omega]
  have hf:∀j,FnQ (tab (j+10+3*dd+1)).dLfn dd:=fun j=>fn_ok2 (ih j)
  refine term_ok2 (q7w (n+10+3*dd+1)) (by have:=k_lone (n+3+3*dd); rw [show n+3+3*dd+9=n+10+3*dd+2 by omega] at this; exact this) (fun e h=>?_) (fun e h=>?_) h5
  ·obtain rfl:e=dd:=by omega
   have:=hf (n+1)
   rw [show n+1+10+3*e+1=n+10+3*e+2 by omega] at this
   exact this
  ·obtain rfl:e=dd:=by omega
   refine of_ok2 (by have:=k_kind (n+7+3*e); rw [show n+7+3*e+4=n+10+3*e+1 by omega] at this; exact this) (q7w (n+10+3*e)) (hf n) ?_
   have:=ih (n+1)
   rw [show n+1+10+3*e=n+10+3*e+1 by omega] at this
   exact this
theorem up {n k:Nat} (h:k≤n):∃m,n=m+k:=⟨n - k,by omega⟩
theorem k_ex:∀k n,k+21≤n→ExD2 (tab n).dLexchanged k:=ex_ok2 (T:=fun n=>(tab n).dLexchanged) (N:=fun n=>(tab n).dLnext) (K:=fun n=>(tab n).dLkind) (M:=fun n=>(tab n).dLterm) (fun _=>rfl) (fun n h=>by obtain ⟨m,rfl⟩:=up h; exact q7w (m+19)) (fun n h=>by obtain ⟨m,rfl⟩:=up h; exact k_kind1 (m+16)) (fun n h=>by obtain ⟨m,rfl⟩:=up h; exact k_kind (m+16)) (fun n h=>by obtain ⟨m,rfl⟩:=up h; exact k_term 1 (m+7) (by decide))
theorem k_parts (n:Nat):PartsD (tab (n+1)).dparts_and_fns:=parts_ok
theorem k_owner (n:Nat):OwnerD (tab (n+1)).downer_of:=fun fs k S E Q h=>owner_ok h
theorem k_kp (n:Nat) (h:30≤n):KpD (tab (n+1)).dkind_of:=by
 obtain ⟨m,rfl⟩:=up h
 exact kp_ok (k_parts (m+29)) koo_ok kon_ok (fun f k hf hk S E Q hq=>kff_ok (T:=fun n=>(tab n).dkind_of_form) (fun _=>rfl) hf (m+30) (by omega) S E Q hq) (kob_ok (k_owner (m+28)))
theorem k_same (n:Nat) (h:150≤n) (x:PV) (h1:q3d x=true) (h2:dep x<150):∀(S:q0h) (E:EK) (Q:VC),(∀S',Ex [] S S'→Q (.bl true) S')→(tab n).dLsame [x,x] S E Q:=same_pv (T:=fun n=>(tab n).dLsame) (fun _=>rfl) n x h1 (by omega)
theorem k_lkof:LkofD (tab 178).dLkind_of:=fun ps t q a kvs S E Q h1 h2 h3 h4 h5 h6 h7=>kof2_ok (T:=fun n=>(tab n).dLkind_of) (F:=fun n=>(tab n).dLkind_of_form) (fun _=>rfl) (fun n f k hf hk S E Q h=>kfk_ok (T:=fun n=>(tab n).dLkind_of_form) (fun _=>rfl) hf n hk S E Q h) h1 t [] h2 178 q a kvs S E Q (by omega) (by omega) (by simp; omega) (by simp) h4 h5 h6 h7
theorem k_right:RightD (tab 179).dLright:=right_ok k_lkof (kref_ok (k_kp 176 (by decide))) (k_same 178 (by decide)) (k_kp 177 (by decide))
theorem law_ok : LawP (tab 180).dlaw := by
  intro ns hns
  have hdeck := k_deck 178
  have hworld := k_world 175
  have hnext := q7w 178
  have hkind := k_kind 175
  have hterm : TermQ (tab 179).dLterm 5 := k_term 5 154 (by omega)
  have hword := k_word 177
  have hex := k_ex 150 179 (by omega)
  have hsame := k_same 179 (by decide)
  have hkp := k_kp 178 (by decide)
  have hright := k_right
  show fnP 1 11 (q4u (tab 179).dLdeck (tab 179).dLworld (tab 179).dLnext (tab 179).dLkind (tab 179).dLterm (tab 179).dLword (tab 179).dLsame (tab 179).dkind_of (tab 179).dLexchanged (tab 179).dLright) _ _ _ _
  generalize (tab 179).dLdeck = s1, (tab 179).dLworld = s2, (tab 179).dLnext = s3, (tab 179).dLkind = s4, (tab 179).dLterm = s5, (tab 179).dLword = s6, (tab 179).dLsame = s7, (tab 179).dkind_of = s8, (tab 179).dLexchanged = s9, (tab 179).dLright = s10 at *
  refine ⟨rfl, ?_⟩
  unfold q4u
  refine seqI fun K hK => ?_
  dsimp! [true_and]
  refine hdeck ns _ _ _ hns fun d c S1 hd1 _ _ _ => hK _ _ ?_
  clear hK K
  refine seqI fun K hK => ?_
  dsimp! [true_and]
  refine hnext d c _ _ _ hd1 fun n0 S2 n00 n01 hd2 _ => ?_
  dsimp! [true_and]
  refine ⟨by decide, cmul_r (by decide) (by decide), ?_⟩
  obtain ⟨u, hu⟩ : ∃ u : Nat, 1 + n0 % 2 * 2 = (u : Int) := ⟨(1 + n0 % 2 * 2).toNat, by have := Int.emod_nonneg n0 (show (2 : Int) ≠ 0 by decide); omega⟩
  rw [hu]
  refine hworld d c u _ _ _ hd2 fun w b m S3 hW3 => hK _ _ ?_
  clear hK K
  have gw := hW3.wd
  obtain ⟨ws, gb, hws⟩ := hW3.bs
  refine seqI fun K hK => ?_
  dsimp! [gw, q5x]
  refine hkind d c b ws _ _ _ hW3.dk gb (by rintro rfl; simp at hws) hW3.ne.2.1.1 hW3.ne.2.1.2 fun k S4 k2 hd4 hx4 => hK _ _ ?_
  clear hK K
  have hW4 := hW3.nx hd4 hx4
  refine seqI fun K hK => ?_
  dsimp! [true_and]
  refine ⟨big (by decide), ?_⟩
  refine hterm w b m d c u S4.length [] [] (fun _ => 0) k _ _ _ (hW4.new _) (fresh_at hW4 _) (by decide) (by omega) (by decide) fun t qs g' S5 t1 t2 t3 t4 hW5 _ _ => hK _ _ ?_
  clear hK K
  have tz : t.sz ≤ 94 := by have : 3 * 2 ^ 5 = 96 := by decide
                            omega
  have tn := nd_sz t
  rw [List.nil_append] at hW5 t3
  have hty := t3.ty
  have q32 : qs.length ≤ 32 := by have : 2 ^ 5 = 32 := by decide
                                  omega
  clear t1 t2 t3 t4 hW3 hW4 gw gb hd4 hx4 hd1 hd2
  refine seqI fun K hK => ?_
  dsimp! [true_and]
  refine hnext d c _ _ _ hW5.dk fun n1 S6 n10 n11 hd6 hx6 => ?_
  have hW6 := hW5.nx hd6 hx6
  dsimp! [true_and]
  have m0 : 0 ≤ n1 % 4 := Int.emod_nonneg _ (by decide)
  have m1 : n1 % 4 < 4 := Int.emod_lt_of_pos _ (by decide)
  refine ⟨by decide, ⟨by omega, by omega⟩, ?_⟩
  have hrl : (rngP 0 (n1 % 4).toNat).length ≤ 3 := by rw [q7n]; omega
  refine forI (fun rest σ S7 => ∃ (ps : List (Str × Kd)) (j5 j6 : Option PV), σ = [some (.frl (ns.map .int)), some (.ref d), some (.ref w), some k.pv, some t.pv, j5, j6, none, none, none, none] ∧ Wt w b m d c u ps S7 ∧ ps.length + rest.length ≤ 35 ∧ Ty ps [] t k) ?_ ?_ _ _ _ ⟨qs, none, none, rfl, hW6, by omega, hty⟩
  case refine_2 =>
    rintro x rest σ S7 ⟨ps, j5, j6, rfl, hW7, hpl, hty⟩ N hN
    rw [List.length_cons] at hpl
    refine ⟨trivial, ?_⟩
    have gw := hW7.wd
    have gm := hW7.nm
    have hlt := hW7.lt
    have hne := hW7.ne
    dsimp! [true_and]
    refine seqI fun K2 hK2 => ?_
    dsimp! [gw, q5i, q1a gm]
    refine ⟨by rw [List.length_map]; exact big (by omega), ?_⟩
    refine compI (fun rest ys σ S3 => ∃ (qs rs : List (Str × Kd)) (j1 j2 : Option PV), rest = qs.map encN ∧ ys = rs.map (fun p => PV.str p.1) ∧ rs ++ qs = ps ∧ σ = [j1, j2] ∧ S3 = S7) ?_ ?_ _ _ _ _ ⟨ps, [], none, none, rfl, rfl, rfl, rfl, rfl⟩
    · rintro ys σ S3 ⟨qs, rs, i1, i2, hr, rfl, hq2, rfl, rfl⟩
      obtain rfl : qs = [] := by cases qs with
        | nil => rfl
        | cons a b => simp at hr
      rw [List.append_nil] at hq2
      subst hq2
      refine ⟨q1a gm, ?_⟩
      have e1 : rs.map (fun p => PV.str p.1) = (rs.map (·.1)).map PV.str := by simp
      rw [e1]
      have hW8 := hW7.new [.lst ((rs.map (·.1)).map PV.str)]
      refine hword d c S3.length (rs.map (·.1)) _ _ _ hW8.dk (q1v _ _) (by rw [List.length_map]; omega) (fun v hv => by
        obtain ⟨p, hp, rfl⟩ := List.mem_map.mp hv
        exact (hW7.ok p hp).1) (by omega) (by omega) fun ww S9 nw nin _ hd9 hx9 => hK2 _ _ ?_
      clear hK2 K2
      have hW9 := hW8.nx hd9 hx9
      have gw9 := hW9.wd
      obtain ⟨ws9, gb9, hws9⟩ := hW9.bs
      dsimp! [gw9, q5i, q5x, hW9.nm]
      refine hkind d c b ws9 _ _ _ hd9 gb9 (by rintro rfl; simp at hws9) hW9.ne.2.1.1 hW9.ne.2.1.2 fun k' S10 k2' hd10 hx10 => ?_
      have hW10 := hW9.nx hd10 hx10
      have gm10 := hW10.nm
      dsimp! [q2y gm10]
      refine ⟨big (by decide), by rw [List.length_map]; exact bigl (by omega), hN _ _ ⟨rs ++ [(ww, k')], _, _, rfl, ?_, by rw [List.length_append, List.length_singleton]; omega, hty.mono⟩⟩
      obtain ⟨dk, wd, ⟨ws, b1, b2⟩, _, ok, nd, ne⟩ := hW10
      refine ⟨dk.ex (D := [m]) ((Ex.refl _ _).set (.inl (by simp))) (by simp; exact fun z => hne.2.2.1.1 z.symm) (by simp; exact fun z => hne.2.2.1.2 z.symm), q4h _ wd (Ne.symm hne.2.2.2.1), ⟨ws, q4h _ b1 (Ne.symm hne.2.2.2.2), b2⟩, ?_, ?_, ?_, ne⟩
      · rw [q2q _ gm10]; simp [encN]
      · intro p hp
        rcases List.mem_append.mp hp with z | z
        · exact ok p z
        · simp at z; subst z; exact ⟨nw, by simp only; omega⟩
      · rw [List.map_append, List.map_cons, List.map_nil, List.nodup_append]
        exact ⟨nd, by simp, fun x hx y hy e => by simp at hy; subst hy; subst e; exact nin hx⟩
    · rintro x rest ys σ S3 ⟨qs, rs, i1, i2, hr, rfl, hq2, rfl, rfl⟩ N2 hN2
      obtain ⟨u1, qs, rfl⟩ : ∃ p r, qs = p :: r := by
        cases qs with
        | nil => simp at hr
        | cons a b => exact ⟨a, b, rfl⟩
      simp only [List.map_cons, List.cons.injEq] at hr
      obtain ⟨rfl, rfl⟩ := hr
      refine ⟨q1a gm, ?_⟩
      dsimp! [encN]
      exact hN2 _ _ _ ⟨qs, rs ++ [u1], _, _, rfl, by simp, by simp [← hq2], rfl, rfl⟩
  rintro σ S7 ⟨ps, j5, j6, rfl, hW7, hpl, hty⟩
  refine ⟨trivial, hK _ _ ?_⟩
  clear hK K q32 hW6 hW5
  rename Ty ps [] t k => hty
  have gw := hW7.wd
  have gm := hW7.nm
  have hok : ∀ p ∈ ps, p.2.dp ≤ 20 := fun p hp => (hW7.ok p hp).2
  have hnd := hW7.nd
  simp only [List.length_nil, Nat.add_zero] at hpl
  have tks := hty.ks
  have tdn := dp_nd t
  refine seqI fun K hK => ?_
  dsimp! [gw, q5i, q1a gm]
  refine hK _ _ ?_
  clear hK K
  have hW8 := hW7.new [SO.lst (ps.map encN)]
  have g8 := q1v S7 (SO.lst (ps.map encN))
  have l7 := hW7.lt
  refine seqI fun K hK => ?_
  dsimp! [true_and]
  refine hnext d c _ _ _ hW8.dk fun n2 S9 n20 n21 hd9 hx9 => ?_
  have hW9 := hW8.nx hd9 hx9
  have g9 := hx9.get g8 (by simp; omega)
  dsimp! [q1a g9, List.length_map]
  refine ⟨by omega, hK _ _ ?_⟩
  clear hK K
  obtain ⟨r, hr, hrl⟩ : ∃ r : Nat, n2 % ((ps.length : Int) + 1) = (r : Int) ∧ r ≤ ps.length := ⟨(n2 % ((ps.length : Int) + 1)).toNat, by have := Int.emod_nonneg n2 (show (ps.length : Int) + 1 ≠ 0 by omega); omega, by have := Int.emod_lt_of_pos n2 (show (0 : Int) < (ps.length : Int) + 1 by omega); have := Int.emod_nonneg n2 (show (ps.length : Int) + 1 ≠ 0 by omega); omega⟩
  rw [hr]
  have ll : (ps.map encN).length = ps.length := by rw [List.length_map]
  refine seqI fun K hK => ?_
  have a1 := q3e g9 [SO.lst ((ps.map encN).drop r)]
  have a2 : (S9 ++ [SO.lst ((ps.map encN).drop r)] ++ [SO.lst ((ps.map encN).take r)])[S9.length]? = some (.lst ((ps.map encN).drop r)) := q3e (q1v _ _) _
  dsimp! [q1a g9, cut_suf (ps.map encN) r (by omega), q1a a1, cut_pre (ps.map encN) r (by omega), q2y a2]
  refine ⟨by rw [List.length_drop, List.length_take]; exact big (by omega), hK _ _ ?_⟩
  clear hK K
  have eL : (ps.map encN).drop r ++ (ps.map encN).take r = (ps.drop r ++ ps.take r).map encN := by rw [List.map_append, List.map_drop, List.map_take]
  have x11 : Ex [] S9 (S9 ++ [SO.lst ((ps.map encN).drop r)] ++ [SO.lst ((ps.map encN).take r)] ++ [SO.lst ((ps.map encN).drop r ++ (ps.map encN).take r)]) := ((Ex.new [] _ _).app _).app _
  have g11 := q1v (S9 ++ [SO.lst ((ps.map encN).drop r)] ++ [SO.lst ((ps.map encN).take r)]) (.lst ((ps.map encN).drop r ++ (ps.map encN).take r))
  have l11 : S9.length ≤ (S9 ++ [SO.lst ((ps.map encN).drop r)] ++ [SO.lst ((ps.map encN).take r)]).length := by simp
  generalize (S9 ++ [SO.lst ((ps.map encN).drop r)] ++ [SO.lst ((ps.map encN).take r)]).length = q11 at g11 l11 ⊢
  generalize S9 ++ [SO.lst ((ps.map encN).drop r)] ++ [SO.lst ((ps.map encN).take r)] ++ [SO.lst ((ps.map encN).drop r ++ (ps.map encN).take r)] = S11 at x11 g11 ⊢
  rw [eL] at g11
  have hmem : ∀ u, u ∈ ps.drop r ++ ps.take r ↔ u ∈ ps := fun u => by
    rw [List.mem_append, or_comm, ← List.mem_append, List.take_append_drop]
  have hrl' : (ps.drop r ++ ps.take r).length = ps.length := by simp only [List.length_append, List.length_drop, List.length_take]; omega
  have hndr : ((ps.drop r ++ ps.take r).map (·.1)).Nodup := by
    have pe : (ps.drop r ++ ps.take r).Perm ps := List.perm_append_comm.trans (by rw [List.take_append_drop])
    exact ((pe.map (·.1)).nodup_iff).mpr hnd
  generalize ps.drop r ++ ps.take r = rs at g11 hmem hrl' hndr
  have pokr : Pok rs := ⟨hndr, fun p hp => hok p ((hmem p).mp hp), by omega⟩
  have tyr : Ty rs [] t k := hty.sub fun w' k' h => lkN_of hndr ((hmem _).mpr (lkN_mem h))
  have hW11 := hW9.ex x11 (by simp) (by simp) (by simp) (by simp) (by simp)
  have hl9 := hW9.lt
  clear hW8 hW9 g8 g9 a1 a2 hx9 hd9
  have kdp : k.dp ≤ 20 := by omega
  have hsk : ∀ (S : q0h) (Q : VC), (∀ S', Ex [] S S' → Q (.bl true) S') → s7 [k.pv, k.pv] S NoX Q := fun S Q h => hsame k.pv (q6g k) (by rw [q7x]; omega) S NoX Q h
  refine seqI fun K hK => ?_
  dsimp! [true_and]
  refine hkp rs (.ref q11) t _ _ _ pokr (.l g11) tks (by omega) (by omega) (fun k' hk' S12 x12 => ?_) (fun hno => absurd ⟨k, tyr⟩ hno)
  obtain rfl := tyr.uniq hk'
  refine hsk _ _ fun S13 x13 => ?_
  have x13' := x12.trans x13
  have g13 := x13'.get g11 (by simp)
  dsimp! [q1a g13]
  refine hkp rs (.tup (rs.map encN)) t _ _ _ pokr (.t _) tks (by omega) (by omega) (fun k' hk' S14 x14 => ?_) (fun hno => absurd ⟨_, tyr⟩ hno)
  obtain rfl := tyr.uniq hk'
  refine hsk _ _ fun S15 x15 => ?_
  dsimp! [true_and]
  refine hK _ _ ?_
  clear hK K
  have x15' := (x13'.trans x14).trans x15
  have g15 := x15'.get g11 (by simp)
  have hW15 := hW11.ex x15' (by simp) (by simp) (by simp) (by simp) (by simp)
  refine seqI fun K hK => ?_
  dsimp! [true_and]
  refine hK _ _ ?_
  clear hK K
  refine seqI fun K hK => ?_
  dsimp! [true_and]
  refine hnext d c _ _ _ hW15.dk fun n3 S16 n30 n31 hd16 hx16 => ?_
  have hW16 := hW15.nx hd16 hx16
  have g16 := hx16.get g15 (by simp; omega)
  dsimp! [true_and]
  have o0 : 0 ≤ n3 % 7 := Int.emod_nonneg _ (by decide)
  have o1 : n3 % 7 < 7 := Int.emod_lt_of_pos _ (by decide)
  refine ⟨by decide, ⟨by omega, by omega⟩, ?_⟩
  have hrl7 : (rngP 0 (n3 % 7).toNat).length ≤ 6 := by rw [q7n]; omega
  refine forI (fun rest σ S17 => ∃ (o : Tm) (ps : List (Str × Kd)) (j5 : Option PV), σ = [some (.frl (ns.map .int)), some (.ref d), some (.ref w), some k'.pv, some t.pv, j5, j6, some (.ref q11), some (.int (r : Nat)), some o.pv, none] ∧ Ks o 0 ∧ o.sz + 3 * rest.length ≤ 112 ∧ o.nd + 3 * rest.length ≤ 111 ∧ ps.length + 2 * rest.length ≤ 47 ∧ Wt w b m d c u ps S17 ∧ S17[q11]? = some (.lst (rs.map encN))) ?_ ?_ _ _ _ ⟨t, ps, _, rfl, tks, by omega, by omega, by omega, hW16, g16⟩
  case refine_2 =>
    rintro x rest σ S17 ⟨o, ps, j5, rfl, ko, oz, on, pl, hW17, g17⟩ N hN
    rw [List.length_cons] at oz on pl
    have odn := dp_nd o
    refine ⟨trivial, ?_⟩
    dsimp! [true_and]
    refine seqI fun K2 hK2 => ?_
    dsimp! [true_and]
    refine hex o w b m d c u 0 ps _ _ _ (by omega) ko hW17 (by omega) fun o' qs S18 ko' oz' on' ql hW18 hx18 => hK2 _ _ ?_
    clear hK2 K2
    have l17 := hW17.lt
    have g18 := hx18.get g17 (by simp; omega)
    have gw18 := hW18.wd
    have gm18 := hW18.nm
    dsimp! [gw18, q5i, q1a gm18]
    have pok18 : Pok (ps ++ qs) := ⟨hW18.nd, fun p hp => (hW18.ok p hp).2, by rw [List.length_append]; omega⟩
    refine hright (ps ++ qs) _ o' _ _ _ pok18 (q1v _ _) ko' (by omega) (by omega) fun S19 x19 => ?_
    have x19' : Ex [] S18 S19 := (Ex.new [] _ _).trans x19
    dsimp! [true_and]
    exact hN _ _ ⟨o', ps ++ qs, _, rfl, ko', by omega, by omega, by rw [List.length_append]; omega, hW18.ex x19' (by simp) (by simp) (by simp) (by simp) (by simp), x19'.get g18 (by simp)⟩
  rintro σ S17 ⟨o, ps', j5', rfl, -, -, -, -, hW17, g17⟩
  refine ⟨trivial, hK _ _ ?_⟩
  clear hK K
  refine seqI fun K hK => ?_
  dsimp! [q1a g17]
  refine hK _ _ ?_
  clear hK K
  have g18 := q3e g17 [SO.lst (rs.map encN)]
  have f18 := q1v S17 (SO.lst (rs.map encN))
  have fin : ∀ S19, Ex [] (S17 ++ [SO.lst (rs.map encN)]) S19 → wRet (wAndV (q0s s10 (q0d (wVar 7) (q0d (wVar 4) wNil))) (wBin cEq (wVar 7) (wVar 10))) { nx := fun _ _ => PV.non = PV.bl true, rt := fun v _ => v = PV.bl true } NoX [some (.frl (ns.map .int)), some (.ref d), some (.ref w), some k'.pv, some t.pv, j5', j6, some (.ref q11), some (.int (r : Nat)), some o.pv, some (.ref S17.length)] S19 := by
    intro S19 x19
    obtain ⟨eq1, eq2⟩ := eqBs_nms rs pokr.dp
    dsimp! [true_and]
    refine hright rs q11 t _ _ _ pokr (x19.get g18 (by simp)) tks (by omega) (by omega) fun S20 x20 => ?_
    have x20' := x19.trans x20
    dsimp! [q1a (x20'.get g18 (by simp)), q1a (x20'.get f18 (by simp)), eq1]
    exact eq2
  refine seqI fun K hK => ?_
  dsimp! [q1a g18, List.length_map]
  refine ite2 (fun hpos => ?_) (fun _ => hK _ _ (fin _ (Ex.refl _ _)))
  have c1 : cutP (rs.map encN) (some 1) none = (rs.drop 1).map encN := by
    have hpos' : 1 ≤ rs.length := by omega
    have := cut_suf (rs.map encN) 1 (by rw [List.length_map]; exact hpos')
    rw [← List.map_drop] at this
    exact this
  rw [c1]
  have pok1 : Pok (rs.drop 1) := ⟨by rw [List.map_drop]; exact List.Nodup.sublist (List.drop_sublist _ _) pokr.nd, fun p hp => pokr.dp p (List.mem_of_mem_drop hp), by rw [List.length_drop]; have := pokr.len; omega⟩
  refine hright (rs.drop 1) _ t _ _ _ pok1 (q1v _ _) tks (by omega) (by omega) fun S20 x20 => ?_
  dsimp! [true_and]
  exact hK _ _ (fin _ ((Ex.new [] _ _).trans x20))
end My
open PySem PySem.W PyProof.Rows
def PySem.W.Fast.tw2476585143508009898:Unit:=()
def PySem.W.Fast.tw3198229599021167048:Unit:=()
def PySem.W.Fast.tw431824106433635385:Unit:=()
def PySem.W.Fast.tw13618129960232119535:Unit:=()
def PySem.W.Fast.tw15202103544507064613:Unit:=()
def PySem.W.Fast.tw2295764633221952781:Unit:=()
def PySem.W.Fast.tw13417505467829846545:Unit:=()
def PySem.W.Fast.tw10430619893799547425:Unit:=()
def PySem.W.Fast.tw4630775982235447273:Unit:=()
def PySem.W.Fast.tw17601189792474330910:Unit:=()
def PySem.W.Fast.tw12161974640151433545:Unit:=()
def PySem.W.Fast.tw9056852616211261487:Unit:=()
def PySem.W.Fast.tw15065893893235457745:Unit:=()
def PySem.W.Fast.tw12457866025516159283:Unit:=()
def PySem.W.Fast.tw13125163882751409322:Unit:=()
def PySem.W.Fast.tw4889664829738968207:Unit:=()
def PySem.W.Fast.tw15173809523901559453:Unit:=()
def PySem.W.Fast.tw11870685438002570012:Unit:=()
def PySem.W.Fast.tw11988678504254946596:Unit:=()
def PySem.W.Fast.tw11109254273379787280:Unit:=()
def PySem.W.Fast.tw8450628267820854948:Unit:=()
def PySem.W.Fast.tw5047088977276035805:Unit:=()
def PySem.W.Fast.tw11818789245990994724:Unit:=()
def PySem.W.Fast.tw7482692953718941606:Unit:=()
def PySem.W.Fast.tw10793160362019789779:Unit:=()
def PySem.W.Fast.tw7801323382021369328:Unit:=()
def PySem.W.Fast.tw13956593301450807317:Unit:=()
def PySem.W.Fast.tw12572451436365194093:Unit:=()
def PySem.W.Fast.tw6010592751387943747:Unit:=()
def PySem.W.Fast.tw1944091586060533003:Unit:=()
def PySem.W.Fast.tw7318712668661541162:Unit:=()
def PySem.W.Fast.tw16618126587587062952:Unit:=()
def PySem.W.Fast.tw3398212621999165704:Unit:=()
def PySem.W.Fast.tw12577746041030500648:Unit:=()
def PySem.W.Fast.tw12280203495500903835:Unit:=()
def PySem.W.Fast.tw16480521012496039016:Unit:=()
def PySem.W.Fast.tw14937538330012673894:Unit:=()
def PySem.W.Fast.tw299477911959417708:Unit:=()
def PySem.W.Fast.tw10757750110530464513:Unit:=()
def PySem.W.Fast.tw10577420493773658909:Unit:=()
def PySem.W.Fast.tw16851805885255410219:Unit:=()
def PySem.W.Fast.tw12383732534006694511:Unit:=()
def PySem.W.Fast.tw5892497443748600757:Unit:=()
def PySem.W.Fast.tw14363543543128086114:Unit:=()
def PySem.W.Fast.tw3169661722694525936:Unit:=()
def PySem.W.Fast.tw1771971027231441591:Unit:=()
def PySem.W.Fast.tw6489579465404205861:Unit:=()
def PySem.W.Fast.tw3418983063441572926:Unit:=()
def PySem.W.Fast.tw17434166714416082302:Unit:=()
def PySem.W.Fast.tw14674582731352934765:Unit:=()
set_option maxRecDepth 100000 in
set_option maxHeartbeats 0 in
theorem PySem.Challenge.cw_slashwise_k13_kinds_of_terms_holds : PySem.Challenge.rw_slashwise_k13_kinds_of_terms.Holds := by
 w_on; o_law; k_head; (case hw => w_witness2)
 k_fill
 refine My.walk (l := PySem.Challenge.rw_slashwise_k13_kinds_of_terms) My.law_ok rfl rfl (fun w h Y => PySem.W.kIn_of Y) ?F
 case F =>
  intro w mg fa h KX G hmg
  refine' My.all_mk KX G hmg ?a0 ?l0 ?c0 ?k0 ?a1 ?l1 ?c1 ?k1 ?a2 ?l2 ?c2 ?k2 ?a3 ?l3 ?c3 ?k3 ?a4 ?l4 ?c4 ?k4 ?a5 ?l5 ?c5 ?k5 ?a6 ?l6 ?c6 ?k6 ?a7 ?l7 ?c7 ?k7 ?a8 ?l8 ?c8 ?k8 ?a9 ?l9 ?c9 ?k9 ?a10 ?l10 ?c10 ?k10 ?a11 ?l11 ?c11 ?k11 ?a12 ?l12 ?c12 ?k12 ?a13 ?l13 ?c13 ?k13 ?a14 ?l14 ?c14 ?k14 ?a15 ?l15 ?c15 ?k15 ?a16 ?l16 ?c16 ?k16 ?a17 ?l17 ?c17 ?k17 ?a18 ?l18 ?c18 ?k18 ?a19 ?l19 ?c19 ?k19 ?a20 ?l20 ?c20 ?k20 ?a21 ?l21 ?c21 ?k21 ?a22 ?l22 ?c22 ?k22 ?a23 ?l23 ?c23 ?k23 ?a24 ?l24 ?c24 ?k24 ?a25 ?l25 ?c25 ?k25 ?a26 ?l26 ?c26 ?k26 ?xa_Misfit ?xa_NoBasic ?xa_NoForm ?xa_NoKind ?xa_NoNumber ?xa_NoPlace ?xa_NoReading ?xa_NoRow ?xa_NoTerm ?xa_NoWord ?xa_SlashError ?xa_TooMany ?xa_Twice ?xe_NoKind ?xg ?xt ?x1_NoKind ?x2_NoKind ?x3_NoKind ?x4_NoKind ?x5_NoKind ?x6_NoKind ?xc_SlashError_NoKind ?xi_Misfit_NoBasic_NoForm_NoNumber_NoPlace_NoReading_NoKind ?xi_NoKind_NoKind ?xi_NoRow_NoTerm_NoWord_TooMany_Twice_NoKind ?xi_ValueError_NoKind ?z_all ?z_bool ?z_int ?z_isinstance ?z_len ?z_list ?z_range ?z_reversed ?z_str ?z_sum ?z_tuple ?z_zip ?z_ValueError
  (case a0 => k_is)
  (case l0 => k_is)
  (case c0 => k_is)
  (case k0 => k_is)
  (case a1 => k_is)
  (case l1 => k_is)
  (case c1 => k_is)
  (case k1 => k_is)
  (case a2 => k_is)
  (case l2 => k_is)
  (case c2 => k_is)
  (case k2 => k_is)
  (case a3 => k_is)
  (case l3 => k_is)
  (case c3 => k_is)
  (case k3 => k_is)
  (case a4 => k_is)
  (case l4 => k_is)
  (case c4 => k_is)
  (case k4 => k_is)
  (case a5 => k_is)
  (case l5 => k_is)
  (case c5 => k_is)
  (case k5 => k_is)
  (case a6 => k_is)
  (case l6 => k_is)
  (case c6 => k_is)
  (case k6 => k_is)
  (case a7 => k_is)
  (case l7 => k_is)
  (case c7 => k_is)
  (case k7 => k_is)
  (case a8 => k_is)
  (case l8 => k_is)
  (case c8 => k_is)
  (case k8 => k_is)
  (case a9 => k_is)
  (case l9 => k_is)
  (case c9 => k_is)
  (case k9 => k_is)
  (case a10 => k_is)
  (case l10 => k_is)
  (case c10 => k_is)
  (case k10 => k_is)
  (case a11 => k_is)
  (case l11 => k_is)
  (case c11 => k_is)
  (case k11 => k_is)
  (case a12 => k_is)
  (case l12 => k_is)
  (case c12 => k_is)
  (case k12 => k_is)
  (case a13 => k_is)
  (case l13 => k_is)
  (case c13 => k_is)
  (case k13 => k_is)
  (case a14 => k_is)
  (case l14 => k_is)
  (case c14 => k_is)
  (case k14 => k_is)
  (case a15 => k_is)
  (case l15 => k_is)
  (case c15 => k_is)
  (case k15 => k_is)
  (case a16 => k_is)
  (case l16 => k_is)
  (case c16 => k_is)
  (case k16 => k_is)
  (case a17 => k_is)
  (case l17 => k_is)
  (case c17 => k_is)
  (case k17 => k_is)
  (case a18 => k_is)
  (case l18 => k_is)
  (case c18 => k_is)
  (case k18 => k_is)
  (case a19 => k_is)
  (case l19 => k_is)
  (case c19 => k_is)
  (case k19 => k_is)
  (case a20 => k_is)
  (case l20 => k_is)
  (case c20 => k_is)
  (case k20 => k_is)
  (case a21 => k_is)
  (case l21 => k_is)
  (case c21 => k_is)
  (case k21 => k_is)
  (case a22 => k_is)
  (case l22 => k_is)
  (case c22 => k_is)
  (case k22 => k_is)
  (case a23 => k_is)
  (case l23 => k_is)
  (case c23 => k_is)
  (case k23 => k_is)
  (case a24 => k_is)
  (case l24 => k_is)
  (case c24 => k_is)
  (case k24 => k_is)
  (case a25 => k_is)
  (case l25 => k_is)
  (case c25 => k_is)
  (case k25 => k_is)
  (case a26 => k_is)
  (case l26 => k_is)
  (case c26 => k_is)
  (case k26 => k_is)
  (case xa_Misfit => k_is)
  (case xa_NoBasic => k_is)
  (case xa_NoForm => k_is)
  (case xa_NoKind => k_is)
  (case xa_NoNumber => k_is)
  (case xa_NoPlace => k_is)
  (case xa_NoReading => k_is)
  (case xa_NoRow => k_is)
  (case xa_NoTerm => k_is)
  (case xa_NoWord => k_is)
  (case xa_SlashError => k_is)
  (case xa_TooMany => k_is)
  (case xa_Twice => k_is)
  (case xe_NoKind => k_exc)
  (case xg => k_is)
  (case xt => k_is)
  (case x1_NoKind => k_is)
  (case x2_NoKind => k_is)
  (case x3_NoKind => k_is)
  (case x4_NoKind => k_is)
  (case x5_NoKind => k_is)
  (case x6_NoKind => k_is)
  (case xc_SlashError_NoKind => kts_exm)
  (case xi_Misfit_NoBasic_NoForm_NoNumber_NoPlace_NoReading_NoKind => kit_is)
  (case xi_NoKind_NoKind => kit_is)
  (case xi_NoRow_NoTerm_NoWord_TooMany_Twice_NoKind => kit_is)
  (case xi_ValueError_NoKind => kit_is)
  (case z_all => k_is)
  (case z_bool => k_is)
  (case z_int => k_is)
  (case z_isinstance => k_is)
  (case z_len => k_is)
  (case z_list => k_is)
  (case z_range => k_is)
  (case z_reversed => k_is)
  (case z_str => k_is)
  (case z_sum => k_is)
  (case z_tuple => k_is)
  (case z_zip => k_is)
  (case z_ValueError => k_is)
#print axioms PySem.Challenge.cw_slashwise_k13_kinds_of_terms_holds
