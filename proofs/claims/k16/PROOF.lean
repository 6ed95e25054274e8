import PyProof.Rows.All
import PyProof.DictRoadsH
import Wide.All
import OpenK.AllK
import Wide.FinOn
import Lean
import PyProof.EqAt
import PyProof.EqKinds
import PyProof.TupleCall
import KE.KTryMore
import PyProof.StationsW
import PyProof.ExcBaseAll.ValueError
import PyProof.Rows.CatchOwn
import PyProof.ZipIter
import PyProof.Rows.TupAdd
import PyProof.NeKinds
import KE.KUnpack
import KE.KRevSl
import PyProof.FitsBits
import PyProof.RulesAs
import PyProof.NsDelKeeps
import PyProof.ExcArgsOwn
import OpenK.KDescr
import KE.KIsNot
import PyProof.ExcAttrAll.ValueError
import PyProof.StrOps2
import PyProof.EnumFor
import PyProof.EnumMake
import PyProof.DictCompW
import PyProof.ListRange
import PySem.Challenge.RW_slashwise_k16_whole_steps
set_option Elab.async false
set_option linter.all false
set_option maxRecDepth 100000
set_option maxHeartbeats 4000000
noncomputable section
namespace L2
open PySem PySem.Spec PyProof.Rows
abbrev Key:=Sum Int Str
def keyIs:Key→Value→Bool
 | .inl k,v=>Value.isInt k v
 | .inr x,v=>Value.isStrOf x v
def keyH (w:World):Key→Int
 | .inl k=>hashInt k
 | .inr x=>hashStr w x
theorem q3g:∀{k:Key} {v:Value},keyIs k v=true→(∃i t,k=Sum.inl i∧v=Value.int i t)∨(∃x t,k=Sum.inr x∧v=Value.str x t)
 | .inl i,v,h=>by
  obtain ⟨t,e⟩:=Value.isInt_shape (k:=i) (v:=v) h
  exact .inl ⟨i,t,rfl,e⟩
 | .inr x,v,h=>by
  obtain ⟨t,e⟩:=Value.isStrOf_shape (x:=x) (v:=v) h
  exact .inr ⟨x,t,rfl,e⟩
theorem keyIs_int (i:Int) (t:Tok):keyIs (.inl i) (.int i t)=true:=by simp [keyIs,Value.isInt]
theorem keyIs_str (x:Str) (t:Tok):keyIs (.inr x) (.str x t)=true:=by simp [keyIs,Value.isStrOf]
theorem key_ll (a b:Int):decide ((Sum.inl a:Key)=Sum.inl b)=(a == b):=by
 by_cases e:a=b
 ·subst e; simp
 ·have h:¬(Sum.inl a:Key)=Sum.inl b:=fun q=>e (Sum.inl.inj q)
  rw [decide_eq_false h]
  exact (beq_eq_false_iff_ne.mpr e).symm
theorem key_rr (a b:Str):decide ((Sum.inr a:Key)=Sum.inr b)=decide (a=b):=by
 by_cases e:a=b
 ·subst e; simp
 ·have h:¬(Sum.inr a:Key)=Sum.inr b:=fun q=>e (Sum.inr.inj q)
  rw [decide_eq_false h,decide_eq_false e]
theorem key_lr (a:Int) (b:Str):decide ((Sum.inl a:Key)=Sum.inr b)=false:=decide_eq_false (fun q=>nomatch q)
theorem key_rl (a:Str) (b:Int):decide ((Sum.inr a:Key)=Sum.inl b)=false:=decide_eq_false (fun q=>nomatch q)
def q2p (prog:Program) (w:World):PySem.KeyKind prog w Key where
 is:=keyIs
 hash:=keyH w
 inj:=fun v a b ha hb=>by
  rcases q3g ha with ⟨i,t,rfl,rfl⟩ | ⟨x,t,rfl,rfl⟩
  ·rcases q3g hb with ⟨j,u,rfl,e⟩ | ⟨y,u,rfl,e⟩
   ·injection e with e1 _; rw [e1]
   ·exact nomatch e
  ·rcases q3g hb with ⟨j,u,rfl,e⟩ | ⟨y,u,rfl,e⟩
   ·exact nomatch e
   ·injection e with e1 _; rw [e1]
 byValue:=fun k v h=>by
  rcases q3g h with ⟨i,t,rfl,rfl⟩ | ⟨x,t,rfl,rfl⟩<;>rfl
 pyHash:=fun hv h=>by
  rcases q3g hv with ⟨i,t,rfl,rfl⟩ | ⟨x,t,rfl,rfl⟩
  ·exact wpAny_pyHash_int h
  ·exact wpAny_pyHash_str h
 eqBool:=fun hu hv h=>by
  rcases q3g hu with ⟨i,t,rfl,rfl⟩ | ⟨x,t,rfl,rfl⟩
  ·rcases q3g hv with ⟨j,u,rfl,rfl⟩ | ⟨y,u,rfl,rfl⟩
   ·rw [key_ll] at h; exact wpAny_eqBool_int h
   ·rw [key_lr] at h; exact SeqAt.EqAt.int_str i t y u _ _ _ _ h
  ·rcases q3g hv with ⟨j,u,rfl,rfl⟩ | ⟨y,u,rfl,rfl⟩
   ·rw [key_rl] at h; exact SeqAt.EqAt.str_int x t j u _ _ _ _ h
   ·rw [key_rr] at h; exact wpAny_eqBool_str h
 «strs»:=fun k x t v h=>by
  rcases q3g h with ⟨i,u,rfl,e⟩ | ⟨y,u,rfl,e⟩
  ·exact nomatch e
  ·injection e with e1 _
   subst e1
   cases v<;>rfl
theorem z1p (prog:Program) (w:World) (i:Int) (t:Tok):(q2p prog w).is (.inl i) (.int i t)=true:=keyIs_int i t
theorem z1o (prog:Program) (w:World) (x:Str) (t:Tok):(q2p prog w).is (.inr x) (.str x t)=true:=keyIs_str x t
end L2
namespace L2
open PySem PySem.Spec PyProof.Rows
inductive V where
 | non | bl (b:Bool) | int (i:Int) | str (x:Str) | byt (b:Array UInt8) | flt (b:UInt64) | ref (a:Addr) | ty (n:String)
 deriving DecidableEq
def RelV:V→Value→Prop
 | .non,u=>u=Value.none
 | .bl b,u=>u=Value.bool b
 | .int i,u=>∃t,u=Value.int i t
 | .str x,u=>∃t,u=Value.str x t
 | .byt b,u=>∃t,u=Value.bytes b t
 | .flt b,u=>∃t,u=Value.float b t
 | .ref a,u=>u=Value.ref a
 | .ty n,u=>u=Value.type n
abbrev Vals:List V→List Value→Prop:=Paired RelV
theorem Vals.length {xs:List V} {us:List Value} (r:Vals xs us):xs.length=us.length:=Paired.length r
theorem Vals.get:∀{xs:List V} {us:List Value} {i:Nat} {x:V},Vals xs us→xs[i]?=some x→∃u,us[i]?=some u∧RelV x u
 | _,_,_,_,.nil,e=>by simp at e
 | _,_,0,_,.cons r _,e=>by simp at e; subst e; exact ⟨_,rfl,r⟩
 | _,_,i+1,x,.cons _ t,e=>by
  obtain ⟨u,h1,h2⟩:=Vals.get (i:=i) (x:=x) t (by simpa using e)
  exact ⟨u,by simpa using h1,h2⟩
theorem Vals.set {x:V} {u:Value} (r:RelV x u):∀{xs:List V} {us:List Value} (i:Nat),Vals xs us→Vals (xs.set i x) (us.set i u)
 | _,_,_,.nil=>.nil
 | _,_,0,.cons _ t=>.cons r t
 | _,_,i+1,.cons q t=>.cons q (Vals.set r i t)
theorem Vals.append:∀{xs ys:List V} {us ws:List Value},Vals xs us→Vals ys ws→Vals (xs++ys) (us++ws)
 | _,_,_,_,.nil,s=>s
 | _,_,_,_,.cons r t,s=>.cons r (Vals.append t s)
theorem Vals.take:∀{xs:List V} {us:List Value} (n:Nat),Vals xs us→Vals (xs.take n) (us.take n)
 | _,_,0,_=>.nil
 | _,_,_+1,.nil=>.nil
 | _,_,n+1,.cons r t=>.cons r (Vals.take n t)
theorem Vals.drop:∀{xs:List V} {us:List Value} (n:Nat),Vals xs us→Vals (xs.drop n) (us.drop n)
 | _,_,0,r=>r
 | _,_,_+1,.nil=>.nil
 | _,_,n+1,.cons _ t=>Vals.drop n t
def RelO:Option V→Option Value→Prop
 | some v,some u=>RelV v u
 | none,none=>True
 | _,_=>False
def KV {κ:Type}:List (κ×V)→List (κ×Value)→Prop:=Paired fun (p:κ×V) (q:κ×Value)=>p.1=q.1∧RelV p.2 q.2
def kV:Key→V
 | .inl i=>.int i
 | .inr x=>.str x
inductive KTr where
 | int (i:Int) | str (x:Str) | tup (xs:List KTr)
instance ktDec:DecidableEq KTr:=fun _ _=>Classical.propDecidable _
mutual
def kdep:KTr→Nat
 | .tup xs=>1+kdeps xs
 | _=>0
def kdeps:List KTr→Nat
 | []=>0
 | x::xs=>max (kdep x) (kdeps xs)
end
theorem q9r:∀{xs:List KTr} {j:Nat} {x:KTr},xs[j]?=some x→kdep x≤kdeps xs
 | [],_,_,e=>by simp at e
 | x::xs,0,y,e=>by simp at e; subst e; simp only [kdeps]; omega
 | x::xs,j+1,y,e=>by simp at e; have:=q9r e; simp only [kdeps]; omega
theorem kin1_units (A:Around):A.in1.units=A.units+1:=rfl
theorem kgetD_some {xs:List KTr} {j:Nat} {x:KTr} (e:xs[j]?=some x):xs.getD j (.int 0)=x:=by rw [List.getD_eq_getElem?_getD,e]; rfl
mutual
def TrA (h:Heap):KTr→Value→Prop
 | .int i,v=>∃t,v=.int i t
 | .str x,v=>∃t,v=.str x t
 | .tup xs,v=>∃(a:Addr) (its:List Value),v=.ref a∧IsTup h a its.toArray∧TrAs h xs its
def TrAs (h:Heap):List KTr→List Value→Prop
 | [],vs=>vs=[]
 | x::xs,vs=>∃y ys,vs=y::ys∧TrA h x y∧TrAs h xs ys
end
theorem IsTup.same {h:Heap} {a:Addr} {xs ys:List Value} (p:IsTup h a xs.toArray) (q:IsTup h a ys.toArray):xs=ys:=by
 obtain ⟨o,e,_,n,d⟩:=p
 obtain ⟨o',e',_,n',d'⟩:=q
 obtain rfl:o=o':=Option.some.inj (e.symm.trans e')
 rw [d] at d'
 injection d' with h1 _
 simpa using h1
mutual
theorem TrA.inj {h:Heap}:∀{x y:KTr} {v:Value},TrA h x v→TrA h y v→x=y
 | .int i,y,v,⟨t,e⟩,q=>by
  subst e
  cases y with
  | int j=>obtain ⟨t',e⟩:=q; cases e; rfl
  | str z=>obtain ⟨t',e⟩:=q; cases e
  | tup ys=>obtain ⟨a,its,e,_⟩:=q; cases e
 | .str x,y,v,⟨t,e⟩,q=>by
  subst e
  cases y with
  | int j=>obtain ⟨t',e⟩:=q; cases e
  | str z=>obtain ⟨t',e⟩:=q; cases e; rfl
  | tup ys=>obtain ⟨a,its,e,_⟩:=q; cases e
 | .tup xs,y,v,⟨a,its,e,p,r⟩,q=>by
  subst e
  cases y with
  | int j=>obtain ⟨t',e⟩:=q; cases e
  | str z=>obtain ⟨t',e⟩:=q; cases e
  | tup ys=>
   obtain ⟨b,its2,e,p2,r2⟩:=q
   cases e
   have:=IsTup.same p p2
   subst this
   rw [TrAs.inj r r2]
theorem TrAs.inj {h:Heap}:∀{xs ys:List KTr} {vs:List Value},TrAs h xs vs→TrAs h ys vs→xs=ys
 | [],[],_,_,_=>rfl
 | [],_::_,_,h,⟨_,_,e,_⟩=>by rw [show _=[] from h] at e; cases e
 | _::_,[],_,⟨_,_,e,_⟩,h=>by rw [show _=[] from h] at e; cases e
 | x::xs,y::ys,_,⟨a,b,e,r,t⟩,⟨a',b',e',r',t'⟩=>by
  subst e
  cases e'
  rw [TrA.inj r r',TrAs.inj t t']
end
mutual
theorem TrA.at {h h':Heap} (k:∀a its,IsTup h a its→IsTup h' a its):∀{x:KTr} {v:Value},TrA h x v→TrA h' x v
 | .int i,_,h=>h
 | .str x,_,h=>h
 | .tup xs,_,⟨a,its,e,p,r⟩=>⟨a,its,e,k _ _ p,TrAs.at k r⟩
theorem TrAs.at {h h':Heap} (k:∀a its,IsTup h a its→IsTup h' a its):∀{xs:List KTr} {vs:List Value},TrAs h xs vs→TrAs h' xs vs
 | [],_,h=>h
 | x::xs,_,⟨y,ys,e,r,t⟩=>⟨y,ys,e,TrA.at k r,TrAs.at k t⟩
end
theorem TrAs.length {h:Heap}:∀{xs:List KTr} {vs:List Value},TrAs h xs vs→xs.length=vs.length
 | [],_,h=>by rw [show _=[] from h]; rfl
 | _::xs,_,⟨y,ys,e,_,t⟩=>by rw [e,List.length_cons,List.length_cons,TrAs.length t]
theorem TrAs.get {h:Heap}:∀{xs:List KTr} {vs:List Value} {i:Nat} {x:KTr},TrAs h xs vs→xs[i]?=some x→∃y,vs[i]?=some y∧TrA h x y
 | [],_,_,_,_,e=>by simp at e
 | x::xs,_,0,x',⟨y,ys,e,r,t⟩,q=>by
  simp at q; subst q; subst e
  exact ⟨y,by simp,r⟩
 | x::xs,_,i+1,x',⟨y,ys,e,r,t⟩,q=>by
  subst e
  obtain ⟨z,h1,h2⟩:=TrAs.get (i:=i) t (by simpa using q)
  exact ⟨z,by simpa using h1,h2⟩
theorem all_dec (xs ys:List KTr):((List.range (min xs.length ys.length)).all (fun j=>decide (xs.getD j (.int 0)=ys.getD j (.int 0))) && xs.length == ys.length)=decide (KTr.tup xs=KTr.tup ys):=by
 rw [Bool.eq_iff_iff]
 simp only [Bool.and_eq_true,List.all_eq_true,List.mem_range,decide_eq_true_eq,beq_iff_eq,KTr.tup.injEq]
 constructor
 ·rintro ⟨h,hl⟩
  apply List.ext_getElem hl
  intro n h1 h2
  have:=h n (by omega)
  rw [List.getD_eq_getElem?_getD,List.getD_eq_getElem?_getD,List.getElem?_eq_getElem h1,List.getElem?_eq_getElem h2] at this
  exact this
 ·rintro rfl
  exact ⟨fun _ _=>rfl,rfl⟩
theorem tr_eq {s:Shared}:∀(d:Nat) (A:Around) (x y:KTr) (v u:Value),kdep x≤d→A.units+d<cLine→TrA s.heap x v→TrA s.heap y u→SeqAt.EqAt A s v u (decide (x=y)):=by
 intro d
 induction d with
 | zero=>
  intro A x y v u hd hu rx ry
  cases x with
  | tup xs=>simp [kdep] at hd
  | int a=>
   obtain ⟨t,rfl⟩:=rx
   cases y with
   | int b=>obtain ⟨t',rfl⟩:=ry; rw [show decide (KTr.int a=KTr.int b)=(a == b) by rw [Bool.eq_iff_iff]; simp]; exact .int_int a t b t'
   | str b=>obtain ⟨t',rfl⟩:=ry; simpa using SeqAt.EqAt.int_str (A:=A) (s:=s) a t b t'
   | tup ys=>obtain ⟨b,its,rfl,p,_⟩:=ry; simpa using SeqAt.EqAt.int_tuple (A:=A) (s:=s) a t p (by omega)
  | str a=>
   obtain ⟨t,rfl⟩:=rx
   cases y with
   | int b=>obtain ⟨t',rfl⟩:=ry; simpa using SeqAt.EqAt.str_int (A:=A) (s:=s) a t b t'
   | str b=>obtain ⟨t',rfl⟩:=ry; rw [show decide (KTr.str a=KTr.str b)=(a == b) by rw [Bool.eq_iff_iff]; simp]; exact .str_str a t b t'
   | tup ys=>obtain ⟨b,its,rfl,p,_⟩:=ry; simpa using SeqAt.EqAt.str_tuple (A:=A) (s:=s) a t p (by omega)
 | succ d ih=>
  intro A x y v u hd hu rx ry
  cases x with
  | tup xs=>
   obtain ⟨a,its,rfl,p1,r1⟩:=id rx
   cases y with
   | int b=>obtain ⟨t',rfl⟩:=ry; simpa using SeqAt.EqAt.tuple_int (A:=A) (s:=s) b t' p1 (by omega)
   | str b=>obtain ⟨t',rfl⟩:=ry; simpa using SeqAt.EqAt.tuple_str (A:=A) (s:=s) b t' p1 (by omega)
   | tup ys=>
    obtain ⟨b,its2,rfl,p2,r2⟩:=id ry
    by_cases hab:a=b
    ·subst hab
     rw [decide_eq_true (TrA.inj rx ry)]
     exact .same _
    ·refine .of_refs hab ?_
     have e:decide (KTr.tup xs=KTr.tup ys)=((List.range (min its.toArray.size its2.toArray.size)).all (fun j=>decide (xs.getD j (.int 0)=ys.getD j (.int 0))) && its.toArray.size == its2.toArray.size):=by
      rw [List.size_toArray,List.size_toArray,←r1.length,←r2.length,all_dec]
     rw [e]
     refine .tuples p1 p2 (by omega) fun j h1 h2=>?_
     have hj1:j<xs.length:=by rw [r1.length]; simpa using h1
     have hj2:j<ys.length:=by rw [r2.length]; simpa using h2
     have e1:xs[j]?=some xs[j]:=List.getElem?_eq_getElem hj1
     have e2:ys[j]?=some ys[j]:=List.getElem?_eq_getElem hj2
     obtain ⟨v1,g1,q1⟩:=r1.get e1
     obtain ⟨v2,g2,q2⟩:=r2.get e2
     have l1:j<its.length:=by simpa using h1
     have l2:j<its2.length:=by simpa using h2
     rw [kgetD_some e1,kgetD_some e2]
     rw [List.getElem?_eq_getElem l1] at g1
     rw [List.getElem?_eq_getElem l2] at g2
     cases g1
     cases g2
     have hdd:=q9r e1
     simp only [kdep] at hd
     exact ih A.in1 _ _ _ _ (by omega) (by rw [kin1_units]; omega) (by simpa using q1) (by simpa using q2)
  | int a=>exact ih A _ _ v u (Nat.zero_le _) (by omega) rx ry
  | str a=>exact ih A _ _ v u (Nat.zero_le _) (by omega) rx ry
mutual
def trH (P:Program) (w:World):KTr→Int
 | .int i=>(q2p P w).hash (.inl i)
 | .str x=>(q2p P w).hash (.inr x)
 | .tup xs=>reduceHash (Builtin.Tuple.tupleHashOf (trHs P w xs))
def trHs (P:Program) (w:World):List KTr→List Int
 | []=>[]
 | x::xs=>trH P w x::trHs P w xs
end
mutual
def trD:KTr→Nat
 | .tup xs=>trDs xs+1
 | _=>1
def trDs:List KTr→Nat
 | []=>0
 | x::xs=>trD x+trDs xs
end
def HsAt (P:Program) (w:World) (A:Around) (h:Heap) (v:Value) (x:Int) (d:Nat):Prop:=∀(E:Value→Shared→Prop) (s:Shared) (Q:Int→Shared→Prop),s.heap=h→Q x { s with toks:=s.toks+d }→wpAny (model P w) A (pyHash v) Q E s
theorem hs_tup {P:Program} {w:World} {A:Around} {h:Heap} {a:Addr} {its:List Value} {xs:List KTr} (hu:A.units<cLine) (p:IsTup h a its.toArray) (hl:xs.length=its.length) (hi:∀(j:Nat) (x:KTr) (v:Value),xs[j]?=some x→its[j]?=some v→HsAt P w A.in1 h v (trH P w x) (trD x)) :
  HsAt P w A h (.ref a) (trH P w (.tup xs)) (trD (.tup xs)):=by
 intro E s Q eh hQ
 subst eh
 obtain ⟨o,ho,hc,n,hd⟩:=p
 have hT:s.TypeIs (.ref a) "tuple" :=⟨o,ho,hc⟩
 unfold pyHash
 first | unfold pyHashByItsType | skip
 first | refine wpAny_bind (wpAny_cRoomFor_or (.inr hu) ?_) | skip
 refine wpAny_bind (wpAny_specialOf hT F.slot_tuple_hash.lookup ?_)
 show wpAny _ _ (if (some (Value.builtin "tuple.__hash__") == some Value.none)=true then _ else _) Q E s
 rw [if_neg (by rw [beq_builtin_none]; exact Bool.false_ne_true)]
 refine wpAny_bind (wpAny_specialOf hT F.slot_tuple_hash.lookup ?_)
 show wpAny _ _ (callSpecialIfBoundUnlessNone? (.ref a) "__hash__" _ >>= _) Q E s
 refine wpAny_bind (wpAny_callSpecialIfBoundUnlessNone?_slot hT F.slot_tuple_hash (wpAny_call_entry F.slot_tuple_hash hT F.entry_tuple_hash ?_ (F.args_tuple_hash_1 _)))
 show wpAny _ _ (Builtin.Tuple.tupleItemsOf (.ref a) >>= _) _ _ s
 refine wpAny_bind (wpAny_tupleItemsOf ho hd ?_)
 refine wpAny_bind ?_
 rw [←Array.forIn_toList]
 refine wpAny_forIn_list _
  (fun rest (b:Array Int) s'=>∃(done left:List KTr),xs=done++left∧its.drop done.length=rest∧b.toList=trHs P w done∧s'={ s with toks:=s.toks+trDs done })
  _ ?_ ?_ _ _ ⟨[],xs,rfl,rfl,rfl,rfl⟩
 ·rintro v rest b s' ⟨done,left,e1,e2,hb,rfl⟩
  have hlt:done.length<its.length:=by
   rcases Nat.lt_or_ge done.length its.length with z | z
   ·exact z
   ·rw [List.drop_eq_nil_of_le z] at e2; cases e2
  rw [List.drop_eq_getElem_cons hlt] at e2
  obtain ⟨ev,er⟩:=List.cons.inj e2
  obtain ⟨x,left',rfl⟩:∃x l,left=x::l:=by
   cases left with
   | nil=>rw [List.append_nil] at e1; subst e1; omega
   | cons x l=>exact ⟨x,l,rfl⟩
  have hx:xs[done.length]?=some x:=by rw [e1,List.getElem?_append_right (Nat.le_refl _),Nat.sub_self]; rfl
  have hv:its[done.length]?=some v:=by rw [List.getElem?_eq_getElem hlt,ev]
  have sn:∀(l:List KTr),trHs P w (l++[x])=trHs P w l++[trH P w x]:=fun l=>by
   induction l with
   | nil=>rfl
   | cons a r ih=>simp only [List.cons_append,trHs,ih]
  have sd:∀(l:List KTr),trDs (l++[x])=trDs l+trD x:=fun l=>by
   induction l with
   | nil=>simp [trDs]
   | cons a r ih=>simp only [List.cons_append,trDs,ih]; omega
  refine wpAny_bind (hi done.length x v hx hv _ _ _ rfl ?_)
  have fin:∃(done' left'':List KTr),xs=done'++left''∧its.drop done'.length=rest∧(b.push (trH P w x)).toList=trHs P w done'∧({ s with toks:=s.toks+trDs done+trD x }:Shared)={ s with toks:=s.toks+trDs done' }:=
   ⟨done++[x],left',by rw [e1]; simp,by rw [List.length_append,List.length_singleton]; exact er,by rw [sn,Array.toList_push,hb],by rw [sd,Nat.add_assoc]⟩
  first
   | exact wpAny_pure fin
   | exact wpAny_bind (wpAny_pure (wpAny_pure fin))
 ·rintro b s' ⟨done,left,e1,e2,hb,rfl⟩
  have hz:left=[]:=by
   have h1:its.length≤done.length:=List.drop_eq_nil_iff.mp e2
   have h2:=congrArg List.length e1
   rw [List.length_append] at h2
   cases left with
   | nil=>rfl
   | cons _ _=>simp at h2; omega
  subst hz
  rw [List.append_nil] at e1
  subst e1
  show wpAny _ _ (retInt (Builtin.Tuple.tupleHashOf b.toList)) _ _ _
  rw [hb]
  refine wpAny_ret_mkInt ?_
  show wpAny _ _ (if (decide (-(2:Int) ^ 63≤Builtin.Tuple.tupleHashOf (trHs P w xs)) && decide (Builtin.Tuple.tupleHashOf (trHs P w xs)<2 ^ 63))=true then _ else _) Q E _
  simp only [trH,trD] at hQ
  unfold reduceHash at hQ
  by_cases hr:(decide (-(2:Int) ^ 63≤Builtin.Tuple.tupleHashOf (trHs P w xs)) && decide (Builtin.Tuple.tupleHashOf (trHs P w xs)<2 ^ 63))=true
  ·rw [if_pos hr]
   rw [if_pos hr] at hQ
   exact wpAny_pure (by simpa [Nat.add_assoc] using hQ)
  ·rw [if_neg hr]
   rw [if_neg hr] at hQ
   exact wpAny_bind (wpAny_rule (wpAny_pure (by simpa [Nat.add_assoc] using hQ)))
theorem tr_hash {P:Program} {w:World} {h:Heap}:∀(d:Nat) (A:Around) (x:KTr) (v:Value),kdep x≤d→A.units+d<cLine→TrA h x v→HsAt P w A h v (trH P w x) (trD x):=by
 intro d
 have atom:∀(A:Around) (k:Key) (v:Value),(q2p P w).is k v=true→HsAt P w A h v ((q2p P w).hash k) 1:=fun A k v hk E s Q eh hQ=>(q2p P w).pyHash hk hQ
 induction d with
 | zero=>
  intro A x v hd hu r
  cases x with
  | tup xs=>simp [kdep] at hd
  | int a=>obtain ⟨t,rfl⟩:=r; exact atom A (.inl a) _ (z1p P w a t)
  | str a=>obtain ⟨t,rfl⟩:=r; exact atom A (.inr a) _ (z1o P w a t)
 | succ d ih=>
  intro A x v hd hu r
  cases x with
  | tup xs=>
   obtain ⟨a,its,rfl,p,q⟩:=r
   refine hs_tup (by omega) p q.length fun j x v e1 e2=>?_
   obtain ⟨v',g,q'⟩:=q.get e1
   rw [e2] at g
   cases g
   have:=q9r e1
   simp only [kdep] at hd
   exact ih A.in1 x v (by omega) (by rw [kin1_units]; omega) q'
  | int a=>exact ih A _ v (Nat.zero_le _) (by omega) r
  | str a=>exact ih A _ v (Nat.zero_le _) (by omega) r
theorem tr_quiet {P:Program} {w:World} {A:Around} {E:Value→Shared→Prop} {s:Shared}:∀(n:Nat) (x:KTr) (v:Value) (Q:Bool→Shared→Prop),kdep x≤n→TrA s.heap x v→Q true s→wpAny (model P w) A (eqIsQuiet n v) Q E s:=by
 intro n
 induction n with
 | zero=>
  intro x v Q hd r hQ
  cases x with
  | tup xs=>simp [kdep] at hd
  | int a=>obtain ⟨t,rfl⟩:=r; rw [eqIsQuiet_byValue 0 rfl]; exact wpAny_pure hQ
  | str a=>obtain ⟨t,rfl⟩:=r; rw [eqIsQuiet_byValue 0 rfl]; exact wpAny_pure hQ
 | succ n ih=>
  intro x v Q hd r hQ
  cases x with
  | int a=>obtain ⟨t,rfl⟩:=r; rw [eqIsQuiet_byValue _ rfl]; exact wpAny_pure hQ
  | str a=>obtain ⟨t,rfl⟩:=r; rw [eqIsQuiet_byValue _ rfl]; exact wpAny_pure hQ
  | tup xs=>
   obtain ⟨a,its,rfl,⟨o,ho,hc,n',hd'⟩,q⟩:=r
   have hT:s.TypeIs (.ref a) "tuple" :=⟨o,ho,hc⟩
   simp only [kdep] at hd
   unfold eqIsQuiet
   refine wpAny_bind (wpAny_specialOf hT F.slot_tuple_eq.lookup ?_)
   show wpAny _ _ (isInstance (.ref a) (.type "tuple") >>= _) _ _ s
   refine wpAny_bind (wpAny_isInstance hT isSubtype_tuple_tuple ?_)
   simp only [Bool.not_true,Bool.false_eq_true,if_false]
   refine wpAny_bind (wpAny_seqItems ho hd' ?_)
   refine wpAny_bind ?_
   show wpAny _ _ (forIn its.toArray _ _) _ _ s
   rw [←Array.forIn_toList]
   refine wpAny_forIn_list _ (fun rest r s'=>r.1=none∧s'=s∧∀v∈rest,∃y,kdep y≤n∧TrA s.heap y v) _ ?_ ?_ _ _ ⟨rfl,rfl,fun v hv=>?_⟩
   ·rintro v rest r s' ⟨hr,rfl,hall⟩
    obtain ⟨y,h1,h2⟩:=hall v List.mem_cons_self
    refine wpAny_bind (ih y v _ h1 h2 ?_)
    simp only [Bool.not_true,Bool.false_eq_true,if_false]
    exact wpAny_pure ⟨rfl,rfl,fun u hu'=>hall u (List.mem_cons_of_mem _ hu')⟩
   ·rintro ⟨r1,r2⟩ s' ⟨hr,rfl,_⟩
    simp only at hr
    subst hr
    exact wpAny_pure hQ
   ·obtain ⟨j,hj⟩:=List.mem_iff_getElem?.mp hv
    have hjl:j<its.length:=by
     have:=(List.getElem?_eq_some_iff.mp hj).1
     simpa using this
    have hjx:j<xs.length:=by rw [q.length]; exact hjl
    obtain ⟨v',g,q'⟩:=q.get (List.getElem?_eq_getElem hjx)
    have:v'=v:=by
     have hj':its[j]?=some v:=by simpa using hj
     rw [hj'] at g
     exact (Option.some.inj g).symm
    subst this
    have:=q9r (List.getElem?_eq_getElem hjx)
    exact ⟨_,by omega,q'⟩
def treeKind (P:Program) (w:World):HeapKind P w KTr where
 is:=fun h x a=>(∃xs,x=.tup xs)∧kdep x≤8∧TrA h x (.ref a)
 hash:=trH P w
 draws:=trD
 room:=fun A=>A.units+8<cLine
 inj:=fun hx hy=>TrA.inj hx.2.2 hy.2.2
 keeps:=fun {h h' k a d o es ep} hk ho hd hs=>⟨hk.1,hk.2.1,TrA.at (fun b its ⟨o',e,c,n,q⟩=>⟨o',(hs.2 b (by
  rintro rfl
  obtain rfl:o'=o:=Option.some.inj (e.symm.trans ho)
  rw [hd] at q; exact nomatch q)).trans e,c,n,q⟩) hk.2.2⟩
 pyHash:=fun hu hk h=>tr_hash 8 _ _ _ hk.2.1 hu hk.2.2 _ _ _ rfl h
 eqBool:=fun {A E s x y a b Q} hu hx hy h=>tr_eq 8 A x y _ _ hx.2.1 hu hx.2.2 hy.2.2 _ _ _ _ h
 quiet:=fun hk h=>tr_quiet 8 _ _ _ hk.2.1 hk.2.2 h
inductive HO where
 | lst (xs:List V)
 | tup (xs:List V)
 | dK (kvs:List (Key×V)) | dT (kvs:List (List Key×V)) | dH (kvs:List (KTr×Addr×V))
 | set (S:Int→Bool) (n:Nat)
 | ins (C dx:Addr) (fs:List (Str×V))
 | own (x:Addr)
 | xd (fs:List (Str×V))
 | met (f x:Addr)
 | rng (lo hi:Int)
 | frz (o:Obj) (u:HO)
 | tbl (ps:Array Value)
 | ext (φ:Heap→Prop)
abbrev Hp:=Addr→Option HO
def upd (H:Hp) (a:Addr) (o:HO):Hp:=fun b=>if b=a then some o else H b
theorem q3p {H:Hp} {a:Addr} {o:HO}:upd H a o a=some o:=by unfold upd; rw [if_pos rfl]
theorem q1h {H:Hp} {a b:Addr} {o:HO} (h:b≠a):upd H a o b=H b:=by unfold upd; rw [if_neg h]
theorem ne_of {H:Hp} {a b:Addr} {o u:HO} (h:H a=some o) (h':H b=some u) (d:o≠u):a≠b:=by
 intro e; subst e; rw [h] at h'; exact d (Option.some.inj h')
theorem q3i {H:Hp} {a b:Addr} {o:HO} (h:H a=some o) (h':H b=none):a≠b:=by
 intro e; subst e; rw [h] at h'; cases h'
section
variable (P:Program) (w:World)
def q3s (H:Hp) (h:Heap) (a:Addr):HO→Prop
 | .lst xs=>xs.length≤sizeLine∧∃(its:List Value) (n:Nat),Vals xs its∧h.get? a=some { cls:=.type "list",data:=.seq its.toArray n }
 | .tup xs=>xs.length≤sizeLine∧∃its:List Value,Vals xs its∧IsTup h a its.toArray
 | .dK kvs=>kvs.length≤sizeLine∧(a == sysModules)=false∧∃vs,KV kvs vs∧h.DictOf (q2p P w) a vs
 | .dT kvs=>kvs.length≤sizeLine∧(a == sysModules)=false∧∃xs:List (List Key×Addr×Value),
   Paired (fun (p:List Key×V) (q:List Key×Addr×Value)=>p.1=q.1∧H q.2.1=some (.tup (p.1.map kV))∧RelV p.2 q.2.2) kvs xs∧
   ∃o es ep,h.get? a=some o∧o.ExactDict∧o.data=.dict es ep∧es.toList=xs.map (entryOfKey (tupleKind (q2p P w)))∧(xs.map (·.1)).Nodup
 | .dH kvs=>kvs.length≤sizeLine∧(a == sysModules)=false∧∃xs:List (KTr×Addr×Value),
   Paired (fun (p:KTr×Addr×V) (q:KTr×Addr×Value)=>p.1=q.1∧p.2.1=q.2.1∧RelV p.2.2 q.2.2) kvs xs∧
   ∃o es ep,h.get? a=some o∧o.ExactDict∧o.data=.dict es ep∧es.toList=xs.map (entryOfKey (treeKind P w))∧(xs.map (·.1)).Nodup
 | .set S n=>h.SetOf (intKind P w) a S n
 | .ins C dx fs=>H dx=some (.own a)∧fs.length≤1000∧dx≠a∧h.get? a=some (PySem.W.instObj C dx)∧
   ∃mA,h.Ns1 dx mA∧(∀f,RelO (fs.lookup f) (mA f))∧PySem.Within mA (fs.map (·.1))
 | .own _=>∃o,h.get? a=some o
 | .xd fs=>∃mA,h.Ns1 a mA∧∀f,RelO (fs.lookup f) (mA f)
 | .rng lo hi=>∃t u v,h.get? a=some { cls:=.type "range",data:=.fields #[.int lo t,.int hi u,.int 1 v] }
 | .frz o u=>h.get? a=some o∧q3s H h a u
 | .tbl ps=>h.get? a=some { cls:=.none,data:=.fields ps }
 | .met f x=>h.get? a=some (PySem.W.methodObj (.ref f) (.ref x))
 | .ext φ=>φ h∧(∃o,h.get? a=some o)∧∀h1 h2:Heap,φ h1→(∀o,h1.get? a=some o→h2.get? a=some o)→φ h2
def HOk (H:Hp) (h:Heap):Prop:=∀a o,H a=some o→q3s P w H h a o
end
section
variable {P:Program} {w:World} {H H':Hp} {h h':Heap} {a:Addr} {o:HO}
theorem q3s.lt (x:q3s P w H h a o):a<h.objs.size:=by
 cases o with
 | lst xs=>obtain ⟨_,_,_,_,e⟩:=x; exact Heap.lt_size e
 | tup xs=>obtain ⟨_,_,_,p⟩:=x; exact p.lt
 | dK kvs=>obtain ⟨_,_,_,_,o,_,_,e,_⟩:=x; exact Heap.lt_size e
 | dT kvs=>obtain ⟨_,_,_,_,o,_,_,e,_⟩:=x; exact Heap.lt_size e
 | dH kvs=>obtain ⟨_,_,_,_,o,_,_,e,_⟩:=x; exact Heap.lt_size e
 | set S n=>obtain ⟨o,_,_,_,e,_⟩:=x; exact Heap.lt_size e
 | ins C dx fs=>obtain ⟨_,_,_,e,_⟩:=x; exact Heap.lt_size e
 | own y=>obtain ⟨_,e⟩:=x; exact Heap.lt_size e
 | xd fs=>obtain ⟨_,⟨_,_,_,e,_⟩,_⟩:=x; exact Heap.lt_size e
 | rng lo hi=>obtain ⟨_,_,_,e⟩:=x; exact Heap.lt_size e
 | frz ob u=>obtain ⟨e,_⟩:=x; exact Heap.lt_size e
 | tbl ps=>exact Heap.lt_size (show h.get? a=some _ from x)
 | met f y=>exact Heap.lt_size (show h.get? a=some _ from x)
 | ext φ=>obtain ⟨_,⟨_,e⟩,_⟩:=x; exact Heap.lt_size e
theorem Paired.mapP {α β:Type} {F G:α→β→Prop}:∀{l₁:List α} {l₂:List β},Paired F l₁ l₂→(∀a b,F a b→G a b)→Paired G l₁ l₂
 | _,_,.nil,_=>.nil
 | _,_,.cons r t,f=>.cons (f _ _ r) (Paired.mapP t f)
theorem q3s.stay (x:q3s P w H h a o) (k:∀b u,(b=a∨H b=some (.own a))→h.get? b=some u→h'.get? b=some u)
  (ho:∀b,H b=some (.own a)→H' b=some (.own a)) (ht:∀b xs,H b=some (.tup xs)→H' b=some (.tup xs)):q3s P w H' h' a o:=by
 induction o with
 | lst xs=>obtain ⟨z,its,n,r,e⟩:=x; exact ⟨z,its,n,r,k _ _ (.inl rfl) e⟩
 | tup xs=>obtain ⟨z,its,r,ob,e,c⟩:=x; exact ⟨z,its,r,ob,k _ _ (.inl rfl) e,c⟩
 | dK kvs=>obtain ⟨z,y,vs,r,ob,es,ep,e,c⟩:=x; exact ⟨z,y,vs,r,ob,es,ep,k _ _ (.inl rfl) e,c⟩
 | dT kvs=>
  obtain ⟨z,y,xs,r,ob,es,ep,e,c⟩:=x
  exact ⟨z,y,xs,Paired.mapP r fun p q z=>⟨z.1,ht _ _ z.2.1,z.2.2⟩,ob,es,ep,k _ _ (.inl rfl) e,c⟩
 | dH kvs=>obtain ⟨z,y,xs,r,ob,es,ep,e,c⟩:=x; exact ⟨z,y,xs,r,ob,es,ep,k _ _ (.inl rfl) e,c⟩
 | set S n=>obtain ⟨ob,es,ep,t,e,c⟩:=x; exact ⟨ob,es,ep,t,k _ _ (.inl rfl) e,c⟩
 | ins C dx fs=>
  obtain ⟨d,z,ne,e,mA,⟨od,es,ep,e2,c⟩,r⟩:=x
  exact ⟨ho _ d,z,ne,k _ _ (.inl rfl) e,mA,⟨od,es,ep,k _ _ (.inr d) e2,c⟩,r⟩
 | own y=>obtain ⟨ob,e⟩:=x; exact ⟨ob,k _ _ (.inl rfl) e⟩
 | xd fs=>obtain ⟨mA,⟨od,es,ep,e,c⟩,r⟩:=x; exact ⟨mA,⟨od,es,ep,k _ _ (.inl rfl) e,c⟩,r⟩
 | rng lo hi=>obtain ⟨t,u,v,e⟩:=x; exact ⟨t,u,v,k _ _ (.inl rfl) e⟩
 | frz ob u ih=>obtain ⟨e,q⟩:=x; exact ⟨k _ _ (.inl rfl) e,ih q⟩
 | tbl ps=>
  have e:h.get? a=some { cls:=.none,data:=.fields ps }:=x
  show h'.get? a=some { cls:=.none,data:=.fields ps }
  exact k a _ (.inl rfl) e
 | met f y=>
  have e:h.get? a=some (PySem.W.methodObj (.ref f) (.ref y)):=x
  show h'.get? a=some (PySem.W.methodObj (.ref f) (.ref y))
  exact k a _ (.inl rfl) e
 | ext φ=>obtain ⟨p,⟨o,e⟩,st⟩:=x; exact ⟨st _ _ p fun o q=>k _ _ (.inl rfl) q,⟨o,k _ _ (.inl rfl) e⟩,st⟩
theorem HOk.lt (x:HOk P w H h) (e:H a=some o):a<h.objs.size:=(x a o e).lt
theorem HOk.fresh (x:HOk P w H h) (e:h.objs.size≤a):H a=none:=by
 cases q:H a with
 | none=>rfl
 | some u=>exact absurd (Nat.lt_of_lt_of_le (x.lt q) e) (Nat.lt_irrefl _)
theorem HOk.kept (x:HOk P w H h) (k:∀b u,h.get? b=some u→h'.get? b=some u):HOk P w H h':=fun a o e=>
 (x a o e).stay (fun b u _ q=>k b u q) (fun _ q=>q) fun _ _ q=>q
theorem HOk.laid (x:HOk P w H h) (k:∀b u,h.get? b=some u→h'.get? b=some u) (hp:h.objs.size≤a) (new:q3s P w (upd H a o) h' a o):HOk P w (upd H a o) h':=fun b u e=>by
 have hn:=x.fresh hp
 by_cases hb:b=a
 ·subst hb; rw [q3p] at e; cases e; exact new
 ·rw [q1h hb] at e
  exact (x b u e).stay (fun c v _ q=>k c v q) (fun c q=>by rw [q1h (q3i q hn)]; exact q) fun c xs q=>by rw [q1h (q3i q hn)]; exact q
end
def Rd (H:Hp) (a:Addr) (u:HO):Prop:=H a=some u∨∃o,H a=some (.frz o u)
theorem Rd.ok {P:Program} {w:World} {H:Hp} {h:Heap} {a:Addr} {u:HO} (r:Rd H a u) (x:HOk P w H h):q3s P w H h a u:=by
 rcases r with r | ⟨o,r⟩
 ·exact x a u r
 ·obtain ⟨_,q⟩:=x a _ r
  exact q
def Mut:Option HO→Prop
 | some (.lst _)=>True
 | some (.dK _)=>True
 | some (.dT _)=>True
 | some (.dH _)=>True
 | some (.set _ _)=>True
 | some (.ins _ _ _)=>True
 | some (.ext _)=>True
 | _=>False
section
variable {P:Program} {w:World} {H:Hp} {h h':Heap} {x e:Addr} {o':HO}
theorem HOk.write (ok:HOk P w H h) (mu:Mut (H x)) (he:e=x∨H e=some (.own x)) (k:∀b u,b≠e→h.get? b=some u→h'.get? b=some u) (heo:∃u,h'.get? e=some u)
  (new:q3s P w (upd H x o') h' x o'):HOk P w (upd H x o') h':=fun b u q=>by
 have nown:∀c y,H c=some (.own y)→c≠x:=fun c y r z=>by subst z; rw [r] at mu; exact mu
 have ntup:∀c xs,H c=some (.tup xs)→c≠x:=fun c xs r z=>by subst z; rw [r] at mu; exact mu
 by_cases hb:b=x
 ·subst hb; rw [q3p] at q; cases q; exact new
 ·rw [q1h hb] at q
  by_cases hbe:b=e
  ·have q':H b=some (.own x):=by
    rcases he with z | z
    ·exact absurd (hbe.trans z) hb
    ·rw [hbe]; exact z
   rw [q] at q'; cases q'
   obtain ⟨v,hv⟩:=heo
   exact ⟨v,by rw [hbe]; exact hv⟩
  ·refine (ok b u q).stay (fun c v hc r=>k c v ?_ r) (fun c r=>by rw [q1h (nown c b r)]; exact r) fun c xs r=>by rw [q1h (ntup c xs r)]; exact r
   rcases hc with rfl | hc
   ·exact hbe
   ·rintro rfl
    rcases he with z | z
    ·exact nown c b hc z
    ·rw [hc] at z; cases z; exact hb rfl
end
structure Un (fs ex:List Addr) (H H':Hp) (h h':Heap):Prop where
 keep:∀b o,h.get? b=some o→H b=none→b∉fs→b∉ex→h'.get? b=some o
 slot:∀b o,h.get? b=some o→H b=none→b∈fs→b∉ex→∃sl,h'.get? b=some { o with slots:=sl }
 free:∀b o,h.get? b=some o→H b=none→b∉ex→H' b=none
 there:∀b o,h.get? b=some o→b∉ex→∃o',h'.get? b=some o'
 tups:∀b xs,H b=some (.tup xs)→H' b=some (.tup xs)
 frzs:∀b o u,H b=some (.frz o u)→H' b=some (.frz o u)
 tbls:∀b ps,H b=some (.tbl ps)→∃more,H' b=some (.tbl (ps++more))
section
variable {fs fs' ex ex':List Addr} {H H1 H2:Hp} {h h1 h2 h':Heap} {a x e:Addr} {o:HO}
theorem Un.any (u:Un fs ex H H1 h h1) {b:Addr} {ob:Obj} (q:h.get? b=some ob) (n:H b=none) (hx:b∉ex):∃sl,h1.get? b=some { ob with slots:=sl }:=by
 by_cases hb:b∈fs
 ·exact u.slot b ob q n hb hx
 ·exact ⟨ob.slots,u.keep b ob q n hb hx⟩
theorem Un.kept (k:∀b u,h.get? b=some u→h'.get? b=some u):Un fs ex H H h h':=
 ⟨fun b ob q _ _ _=>k b ob q,fun b ob q _ _ _=>⟨ob.slots,k b ob q⟩,fun _ _ _ n _=>n,fun b ob q _=>⟨ob,k b ob q⟩,fun _ _ q=>q,fun _ _ _ q=>q,fun _ ps q=>⟨#[],by rw [q]; simp⟩⟩
theorem Un.refl:Un fs ex H H h h:=Un.kept fun _ _ q=>q
theorem Un.laid (k:∀b u,h.get? b=some u→h'.get? b=some u) (hp:h.objs.size≤a) (hn:H a=none):Un fs ex H (upd H a o) h h' where
 keep:=fun b u q _ _ _=>k b u q
 slot:=fun b u q _ _ _=>⟨u.slots,k b u q⟩
 free:=fun b u q n _=>by rw [q1h (Nat.ne_of_lt (Nat.lt_of_lt_of_le (Heap.lt_size q) hp))]; exact n
 there:=fun b u q _=>⟨u,k b u q⟩
 tups:=fun b xs q=>by rw [q1h (q3i q hn)]; exact q
 frzs:=fun b u xs q=>by rw [q1h (q3i q hn)]; exact q
 tbls:=fun b ps q=>⟨#[],by rw [q1h (q3i q hn),q]; simp⟩
theorem Un.write (mu:Mut (H x)) (he:e=x∨H e=some (.own x)) (k:∀b u,b≠e→h.get? b=some u→h'.get? b=some u) (heo:∃u,h'.get? e=some u):Un fs ex H (upd H x o) h h':=by
 have hx:∀b,H b=none→b≠x:=fun b n z=>by subst z; rw [n] at mu; exact mu
 have hb:∀b,H b=none→b≠e:=fun b n z=>by
  subst z
  rcases he with r | r
  ·exact hx b n r
  ·rw [n] at r; cases r
 have hm:∀b u,H b=some u→¬Mut (some u)→b≠x:=fun b u q nm z=>by subst z; rw [q] at mu; exact nm mu
 refine ⟨fun b u q n _ _=>k b u (hb b n) q,fun b u q n _ _=>⟨u.slots,k b u (hb b n) q⟩,fun b u q n _=>by rw [q1h (hx b n)]; exact n,fun b u q _=>?_,
  fun b xs q=>by rw [q1h (hm b _ q fun z=>z)]; exact q,fun b u xs q=>by rw [q1h (hm b _ q fun z=>z)]; exact q,fun b ps q=>⟨#[],by rw [q1h (hm b _ q fun z=>z),q]; simp⟩⟩
 by_cases hbe:b=e
 ·subst hbe; exact heo
 ·exact ⟨u,k b u hbe q⟩
end
def trk (h:Heap) (H:Hp):List Addr:=(List.range h.objs.size).filter fun a=>(H a).isSome
def hidT (h:Heap) (H:Hp):Heap:=PySem.W.hideAll h (trk h H)
theorem hidT_size (h:Heap) (H:Hp):(hidT h H).objs.size=h.objs.size:=PySem.W.hideAll_size _ _
theorem hidT_get {h:Heap} {H:Hp} {b:Addr} {o:Obj} (e:h.get? b=some o) (n:H b=none):(hidT h H).get? b=some o:=
 PySem.W.hideAll_get _ e fun hm=>by
  have q:(H b).isSome=true:=(List.mem_filter.mp hm).2
  rw [n] at q; simp at q
theorem of_hidT {h:Heap} {H:Hp} {b:Addr} {o:Obj} (e:(hidT h H).get? b=some o):h.get? b=some o∧H b=none:=by
 have e':h.get? b=some o:=PySem.W.of_hideAll (trk h H) e
 refine ⟨e',?_⟩
 cases q:H b with
 | none=>rfl
 | some x=>
  have hm:b∈trk h H:=List.mem_filter.mpr ⟨List.mem_range.mpr (Heap.lt_size e'),by simp [q]⟩
  have z:(hidT h H).get? b=none:=PySem.W.hideAll_none (trk h H) hm
  rw [z] at e; cases e
end L2
namespace L2
open PySem PySem.Spec PyProof.Rows
structure Mod (K:PySem.W.Frag) (mg:Str→Option Value) (base:Heap):Prop where
 kin:K.In base
 glob:base.Ns mainGlobals mg
 blt:∃mb,base.Ns builtinsNs mb∧∀x:Str,x≠ "__name__" →mb x=bootBuiltins x
 nolimit:base.NoLimit
/-- the context: a def's body (or a comprehension's block) running. base: fixed through the whole law; s₀,H₀: the entry; outer: the frames whose slots others may change (a def's callers); stack: all frames that run;
   ex: iterators that were made ahead of the entry and are walked here (a comprehension's); fn: the names whose cells were made at the entry (a def: all; a comprehension's block: its own); calm: not within an except suite; pn: pins that every state bears; xe: what is wanted of an exception that leaves the code -/
structure Cx where
 prog:Program
 w:World
 K:PySem.W.Frag
 mg:Str→Option Value
 base:Heap
 A:Around
 N:List Str
 s₀:Shared
 H₀:Hp
 env:Env
 outer:List Env
 stack:List Env
 ex:List Addr
 fn:Str→Bool
 calm:Bool
 pn:List (Addr×Obj)
 xe:Value→Shared→Prop
def frs (l:List Env):List Addr:=l.filterMap (·.frame)
abbrev Cx.fs (X:Cx):List Addr:=frs X.outer
def Vis (sc:Scope) (x:Str):Prop:=sc.names.lookup x=some .local∨sc.names.lookup x=some .cell∨sc.names.lookup x=some .free
def Loc (sc:Scope) (x:Str):Prop:=sc.names.lookup x=some .local∨sc.names.lookup x=some .cell
def Look (env:Env) (h:Heap) (m:Str→Option Value) (x:Str) (u:Value):Prop:=
 (env.kindOf x=some .local∧m x=some u)∨((env.kindOf x=some .cell∨env.kindOf x=some .free)∧∃c,env.cells.lookup x=some c∧h.IsCell c (some u))
structure Cx.Ok (X:Cx):Prop where
 mod:Mod X.K X.mg X.base
 kind:X.env.scope.kind=.function
 glob:X.env.globals=mainGlobals
 blt:X.env.builtins=builtinsNs
 above:X.s₀.heap.objs.size≤X.env.locals
 inj:∀x y c,X.env.cells.lookup x=some c→X.env.cells.lookup y=some c→x=y
 has:∀x,(X.env.kindOf x=some .cell∨X.env.kindOf x=some .free)→∃c,X.env.cells.lookup x=some c
 cab:∀x c,X.fn x=true→X.env.cells.lookup x=some c→X.s₀.heap.objs.size≤c
 hd:X.calm=true→X.A.handled=none
 frames:X.A.frames=some X.stack
 stk:X.stack=X.outer∨(X.stack=X.env::X.outer∧X.env.frame=some X.env.locals)
 exf:∀b∈X.ex,b≠X.env.locals∧∀x c,X.env.cells.lookup x=some c→c≠b
 bs:∀b o,X.base.get? b=some o→X.s₀.heap.get? b=some o∧X.H₀ b=none
 bsz:X.base.objs.size≤X.s₀.heap.objs.size
 noex:∀b o,X.base.get? b=some o→b∉X.ex
 exfs:∀b∈X.ex,b∉X.fs
 funs:X.s₀.heap.FunFrames X.base X.outer
 frf:∀b∈X.fs,X.H₀ b=none
structure Inv (X:Cx) (pins:List (Addr×Obj)) (σ:List (Option V)) (H:Hp) (s:Shared):Prop where
 ok:X.Ok
 os:s.os=X.s₀.os
 bare:AllBare s.gens
 base:Un X.fs X.ex X.H₀ H X.s₀.heap s.heap
 loc:∃m,s.heap.Ns X.env.locals m∧∀(i:Nat) (x:Str) (v:V),X.N[i]?=some x→σ[i]?=some (some v)→Vis X.env.scope x→∃u,RelV v u∧Look X.env s.heap m x u
 cell:∀x c,X.env.cells.lookup x=some c→∃v,s.heap.IsCell c v
 free:H X.env.locals=none
 freeC:∀x c,X.env.cells.lookup x=some c→H c=none
 pin:∀p∈X.pn++pins,s.heap.get? p.1=some p.2∧H p.1=none∧p.1≠X.env.locals∧p.1∉X.fs∧∀v,p.2.data≠.cell v
 hok:HOk X.prog X.w H s.heap
 len:σ.length=X.N.length
section
variable {X:Cx} {pins:List (Addr×Obj)} {σ:List (Option V)} {H H':Hp} {s:Shared} {h':Heap}
theorem Cx.Ok.nofr (ok:X.Ok) {b:Addr} {o:Obj} (e:X.base.get? b=some o):b∉X.fs:=fun hb=>by
 have:=(ok.funs.mem hb).1
 rw [e] at this; cases this
theorem Inv.bs (I:Inv X pins σ H s):∀b o,X.base.get? b=some o→s.heap.get? b=some o∧H b=none:=fun b o e=>
 ⟨I.base.keep b o (I.ok.bs b o e).1 (I.ok.bs b o e).2 (I.ok.nofr e) (I.ok.noex b o e),I.base.free b o (I.ok.bs b o e).1 (I.ok.bs b o e).2 (I.ok.noex b o e)⟩
theorem Inv.bk (I:Inv X pins σ H s):∀b o,X.base.get? b=some o→s.heap.get? b=some o:=fun b o e=>(I.bs b o e).1
theorem Inv.mod (I:Inv X pins σ H s):Mod X.K X.mg X.base:=I.ok.mod
theorem Inv.kIn (I:Inv X pins σ H s):X.K.In s.heap:=I.ok.mod.kin.keeps I.bk
theorem Inv.lt (I:Inv X pins σ H s):X.env.locals<s.heap.objs.size:=let ⟨_,hn,_⟩:=I.loc; hn.lt
theorem Inv.sz (I:Inv X pins σ H s):X.s₀.heap.objs.size≤s.heap.objs.size:=Nat.le_trans I.ok.above (Nat.le_of_lt I.lt)
theorem Inv.nofs (I:Inv X pins σ H s) {a:Addr} (h:s.heap.objs.size≤a):a∉X.fs:=fun hb=>by
 obtain ⟨_,o,ho,_⟩:=I.ok.funs.mem hb
 exact absurd (Nat.lt_of_lt_of_le (Heap.lt_size ho) (Nat.le_trans I.sz h)) (Nat.lt_irrefl _)
theorem Inv.cne (I:Inv X pins σ H s):∀x c,X.env.cells.lookup x=some c→c≠X.env.locals:=fun x c e z=>by
 obtain ⟨v,o,ho,hd⟩:=I.cell x c e
 obtain ⟨m,⟨o',es,ep,ho',hd',_⟩,_⟩:=I.loc
 rw [z,ho'] at ho; cases ho; rw [hd'] at hd; cases hd
theorem Inv.funs (I:Inv X pins σ H s):s.heap.FunFrames X.base X.outer:=by
 have all:∀(l:List Env),(∀b∈frs l,b∈X.fs)→X.s₀.heap.FunFrames X.base l→s.heap.FunFrames X.base l:=by
  intro l
  induction l with
  | nil=>intro _ _; trivial
  | cons env r ih=>
   intro hs hl
   obtain ⟨hk,⟨L,o,hf,hn,ho,hd⟩,hr⟩:=hl
   have hL:L∈X.fs:=hs L (by unfold frs; rw [List.filterMap_cons,hf]; exact List.mem_cons_self)
   obtain ⟨sl,e⟩:=I.base.slot L o ho (I.ok.frf L hL) hL fun z=>I.ok.exfs L z hL
   exact ⟨hk,⟨L,_,hf,hn,e,hd⟩,ih (fun b hb=>hs b (by unfold frs; rw [List.filterMap_cons,hf]; exact List.mem_cons_of_mem _ hb)) hr⟩
 exact all X.outer (fun _ hb=>hb) I.ok.funs
theorem Inv.stack (I:Inv X pins σ H s):s.heap.FunFrames X.base X.stack:=by
 rcases I.ok.stk with e | ⟨e,hf⟩
 ·rw [e]; exact I.funs
 ·rw [e]
  obtain ⟨m,hn,_⟩:=I.loc
  refine .cons (by rw [I.ok.kind]; decide) hf hn ?_ I.funs
  exact Heap.get?_none_of_le (Nat.le_trans I.ok.bsz I.ok.above)
theorem Inv.stkSub (I:Inv X pins σ H s):∀b∈frs X.stack,b∈X.env.locals::X.fs:=fun b hb=>by
 rcases I.ok.stk with e | ⟨e,hf⟩
 ·rw [e] at hb; exact List.mem_cons_of_mem _ hb
 ·rw [e] at hb
  unfold frs at hb
  rw [List.filterMap_cons,hf] at hb
  exact hb
theorem Inv.stkFree (I:Inv X pins σ H s):∀b∈frs X.stack,H b=none:=fun b hb=>by
 rcases List.mem_cons.mp (I.stkSub b hb) with e | hb
 ·rw [e]; exact I.free
 ·obtain ⟨_,o,ho,_⟩:=I.ok.funs.mem hb
  exact I.base.free b o ho (I.ok.frf b hb) fun z=>I.ok.exfs b z hb
theorem Inv.step {g':Array GenState} {t':Nat} {d':Drawn} {ch:List Addr} (I:Inv X pins σ H s)
  (hch:∀b∈ch,(b∈X.ex∨X.s₀.heap.objs.size≤b)∧b≠X.env.locals∧(∀x c,X.env.cells.lookup x=some c→c≠b)∧∀p∈X.pn++pins,p.1≠b)
  (keep:∀b o,b≠X.env.locals→b∉X.fs→b∉ch→s.heap.get? b=some o→H b=none→h'.get? b=some o)
  (slot:∀b o,b≠X.env.locals→b∈X.fs→b∉ch→s.heap.get? b=some o→H b=none→∃sl,h'.get? b=some { o with slots:=sl }) (free:∀b o,b∉ch→s.heap.get? b=some o→H b=none→H' b=none)
  (there:∀b o,b∉ch→s.heap.get? b=some o→∃o',h'.get? b=some o')
  (tups:∀b xs,H b=some (.tup xs)→H' b=some (.tup xs)) (frzs:∀b o u,H b=some (.frz o u)→H' b=some (.frz o u)) (tbls:∀b ps,H b=some (.tbl ps)→∃more,H' b=some (.tbl (ps++more)))
  (ns:∀m,s.heap.Ns X.env.locals m→h'.Ns X.env.locals m) (hok:HOk X.prog X.w H' h') (hg:AllBare g') :
  Inv X pins σ H' { s with heap:=h',gens:=g',drawn:=d',toks:=t' }:=by
 have neL:∀b o,X.s₀.heap.get? b=some o→b≠X.env.locals:=fun b o e=>Nat.ne_of_lt (Nat.lt_of_lt_of_le (Heap.lt_size e) I.ok.above)
 have neC:∀b o,X.s₀.heap.get? b=some o→b∉X.ex→b∉ch:=fun b o e hx hb=>by
  rcases (hch b hb).1 with z | z
  ·exact hx z
  ·exact absurd (Nat.lt_of_lt_of_le (Heap.lt_size e) z) (Nat.lt_irrefl _)
 have cellK:∀x c,X.env.cells.lookup x=some c→∀v,s.heap.IsCell c v→h'.IsCell c v:=fun x c e v hh1=>by
  obtain ⟨o,ho,hd⟩:=hh1
  have nch:c∉ch:=fun z=>(hch c z).2.2.1 x c e rfl
  by_cases hc:c∈X.fs
  ·obtain ⟨sl,q⟩:=slot c o (I.cne x c e) hc nch ho (I.freeC x c e)
   exact ⟨_,q,hd⟩
  ·exact ⟨o,keep c o (I.cne x c e) hc nch ho (I.freeC x c e),hd⟩
 refine ⟨I.ok,I.os,hg,⟨fun b o e n hb hx=>?_,fun b o e n hb hx=>?_,fun b o e n hx=>?_,fun b o e hx=>?_,fun b xs e=>tups b xs (I.base.tups b xs e),fun b o xs e=>frzs b o xs (I.base.frzs b o xs e),fun b ps e=>?_⟩,?_,fun x c e=>?_,?_,fun x c e=>?_,fun p hp=>?_,hok,I.len⟩
 ·exact keep b o (neL b o e) hb (neC b o e hx) (I.base.keep b o e n hb hx) (I.base.free b o e n hx)
 ·obtain ⟨sl,e1⟩:=I.base.slot b o e n hb hx
  obtain ⟨sl',e2⟩:=slot b _ (neL b o e) hb (neC b o e hx) e1 (I.base.free b o e n hx)
  exact ⟨sl',e2⟩
 ·obtain ⟨o',e1⟩:=I.base.there b o e hx
  exact free b o' (neC b o e hx) e1 (I.base.free b o e n hx)
 ·obtain ⟨o',e1⟩:=I.base.there b o e hx
  exact there b o' (neC b o e hx) e1
 ·obtain ⟨m1,e1⟩:=I.base.tbls b ps e
  obtain ⟨m2,e2⟩:=tbls b _ e1
  exact ⟨m1++m2,by rw [e2,Array.append_assoc]⟩
 ·obtain ⟨m,hn,hl⟩:=I.loc
  refine ⟨m,ns m hn,fun i x v e1 e2 e3=>?_⟩
  obtain ⟨u,r,l⟩:=hl i x v e1 e2 e3
  refine ⟨u,r,?_⟩
  rcases l with l | ⟨k,c,e,z⟩
  ·exact .inl l
  ·exact .inr ⟨k,c,e,cellK x c e _ z⟩
 ·obtain ⟨v,z⟩:=I.cell x c e
  exact ⟨v,cellK x c e v z⟩
 ·obtain ⟨m,⟨o,_,_,ho,_⟩,_⟩:=I.loc
  exact free _ o (fun z=>(hch _ z).2.1 rfl) ho I.free
 ·obtain ⟨v,o,ho,hd⟩:=I.cell x c e
  exact free c o (fun z=>(hch c z).2.2.1 x c e rfl) ho (I.freeC x c e)
 ·obtain ⟨e,n,ne,nf,d⟩:=I.pin p hp
  have nch:p.1∉ch:=fun z=>(hch p.1 z).2.2.2 p hp rfl
  exact ⟨keep p.1 p.2 ne nf nch e n,free p.1 p.2 nch e n,ne,nf,d⟩
theorem Inv.un {t':Nat} (I:Inv X pins σ H s) (u:Un X.fs [] H H' s.heap h') (hok:HOk X.prog X.w H' h'):Inv X pins σ H' { s with heap:=h',toks:=t' }:=by
 obtain ⟨m,⟨o,es,ep,ho,r⟩,_⟩:=id I.loc
 obtain ⟨sl,hL⟩:=u.any ho I.free (by simp)
 exact I.step (g':=s.gens) (d':=s.drawn) (ch:=[]) (fun _ z=>nomatch z) (fun b o _ hb _ e n=>u.keep b o e n hb (by simp)) (fun b o _ hb _ e n=>u.slot b o e n hb (by simp)) (fun b o _ e n=>u.free b o e n (by simp)) (fun b o _ e=>u.there b o e (by simp)) u.tups u.frzs u.tbls (fun m' hm=>by
  obtain ⟨o',es',ep',ho',r'⟩:=hm
  rw [ho] at ho'; cases ho'
  exact ⟨_,es',ep',hL,r'⟩) hok I.bare
theorem Inv.call {g':Array GenState} {t':Nat} {d':Drawn} {ch:List Addr} (I:Inv X pins σ H s) (u:Un (frs X.stack) ch H H' s.heap h') (hok:HOk X.prog X.w H' h') (hg:AllBare g')
  (hch:∀b∈ch,(b∈X.ex∨X.s₀.heap.objs.size≤b)∧b≠X.env.locals∧(∀x c,X.env.cells.lookup x=some c→c≠b)∧∀p∈X.pn++pins,p.1≠b) :
  Inv X pins σ H' { s with heap:=h',gens:=g',drawn:=d',toks:=t' }:=by
 obtain ⟨m,⟨o,es,ep,ho,r⟩,_⟩:=id I.loc
 obtain ⟨sl,hL⟩:=u.any ho I.free fun z=>(hch _ z).2.1 rfl
 exact I.step (ch:=ch) hch (fun b o hL hb hc e n=>u.keep b o e n (fun z=>(List.mem_cons.mp (I.stkSub b z)).elim hL hb) hc) (fun b o _ _ hc e n=>u.any e n hc) (fun b o hc e n=>u.free b o e n hc) (fun b o hc e=>u.there b o e hc) u.tups u.frzs u.tbls (fun m' hm=>by
  obtain ⟨o',es',ep',ho',r'⟩:=hm
  rw [ho] at ho'; cases ho'
  exact ⟨_,es',ep',hL,r'⟩) hok hg
theorem Inv.turned {t':Nat} {it:Addr} (I:Inv X pins σ H s) (k:∀b o,b≠it→s.heap.get? b=some o→h'.get? b=some o) (hn:H it=none) (hL:it≠X.env.locals)
  (h1:it∈X.ex∨X.s₀.heap.objs.size≤it) (h2:∀x c,X.env.cells.lookup x=some c→c≠it) (h3:∀p∈X.pn++pins,p.1≠it):Inv X pins σ H { s with heap:=h',toks:=t' }:=by
 have nit:∀b u,H b=some u→b≠it:=fun b u e z=>by rw [z,hn] at e; cases e
 refine I.step (g':=s.gens) (d':=s.drawn) (ch:=[it]) (fun b hb=>?_) (fun b o _ _ hc e _=>k b o (fun z=>hc (by simp [z])) e) (fun b o _ _ hc e _=>⟨o.slots,k b o (fun z=>hc (by simp [z])) e⟩) (fun _ _ _ _ n=>n)
  (fun b o hc e=>⟨o,k b o (fun z=>hc (by simp [z])) e⟩) (fun _ _ e=>e) (fun _ _ _ e=>e) (fun b ps e=>⟨#[],by rw [e]; simp⟩) (fun m hm=>?_) (fun b u e=>?_) I.bare
 ·have e:b=it:=by simpa using hb
  subst e
  exact ⟨h1,hL,h2,h3⟩
 ·obtain ⟨o,es,ep,ho,r⟩:=hm
  exact ⟨o,es,ep,k _ o (Ne.symm hL) ho,r⟩
 ·refine (I.hok b u e).stay (fun c v hc q=>k c v ?_ q) (fun _ q=>q) fun _ _ q=>q
  rcases hc with z | z
  ·rw [z]; exact nit b u e
  ·exact nit c _ z
theorem Inv.tok (I:Inv X pins σ H s) (t:Nat):Inv X pins σ H { s with toks:=t }:=I.un (h':=s.heap) (t':=t) Un.refl I.hok
theorem Inv.kept {t':Nat} (I:Inv X pins σ H s) (k:∀b u,s.heap.get? b=some u→h'.get? b=some u):Inv X pins σ H { s with heap:=h',toks:=t' }:=I.un (Un.kept k) (I.hok.kept k)
theorem Inv.laid {a:Addr} {o:HO} {t':Nat} (I:Inv X pins σ H s) (k:∀b u,s.heap.get? b=some u→h'.get? b=some u) (hp:s.heap.objs.size≤a) (new:q3s X.prog X.w (upd H a o) h' a o) :
  Inv X pins σ (upd H a o) { s with heap:=h',toks:=t' }:=I.un (Un.laid k hp (I.hok.fresh hp)) (I.hok.laid k hp new)
theorem Inv.write {x e:Addr} {o:HO} {t':Nat} (I:Inv X pins σ H s) (mu:Mut (H x)) (he:e=x∨H e=some (.own x)) (k:∀b u,b≠e→s.heap.get? b=some u→h'.get? b=some u) (heo:∃u,h'.get? e=some u)
  (new:q3s X.prog X.w (upd H x o) h' x o):Inv X pins σ (upd H x o) { s with heap:=h',toks:=t' }:=I.un (Un.write mu he k heo) (I.hok.write mu he k heo new)
theorem Inv.pins_of {pins':List (Addr×Obj)} (I:Inv X pins σ H s) (h:∀p∈pins',s.heap.get? p.1=some p.2∧H p.1=none∧p.1≠X.env.locals∧p.1∉X.fs∧∀v,p.2.data≠.cell v):Inv X pins' σ H s:=
 ⟨I.ok,I.os,I.bare,I.base,I.loc,I.cell,I.free,I.freeC,fun p hp=>(List.mem_append.mp hp).elim (fun z=>I.pin p (List.mem_append_left _ z)) (h p),I.hok,I.len⟩
theorem nodup_ix {N:List Str} (hN:N.Nodup) {i j:Nat} {x:Str} (a:N[i]?=some x) (b:N[j]?=some x):i=j:=by
 obtain ⟨h1,e1⟩:=List.getElem?_eq_some_iff.mp a
 obtain ⟨h2,e2⟩:=List.getElem?_eq_some_iff.mp b
 exact (List.getElem_inj hN).mp (e1.trans e2.symm)
theorem store_ok2 {M:Model} {A:Around} {E:Value→Shared→Prop} {i:Nat} {x:Str} {v:V} {u:Value} {Q:Unit→Shared→Prop} (I:Inv X pins σ H s) (hN:X.N.Nodup) (hi:X.N[i]?=some x) (hx:Loc X.env.scope x) (r:RelV v u)
  (h:∀s',Inv X pins (σ.set i (some v)) H s'→(∃a,Heap.SameBut a s.heap s'.heap∧(a=X.env.locals∨X.env.cells.lookup x=some a))→Q () s') (hf:X.fn x=true∨X.env.scope.names.lookup x=some .local:=by first | exact .inl rfl | exact .inr rfl | assumption):wpAny M A (storeName X.env x u) Q E s:=by
 obtain ⟨m,hn,hl⟩:=id I.loc
 have hcls:(X.env.scope.kind == .class || (X.env.scope.kind == .module && X.env.locals != X.env.globals))=false:=by rw [I.ok.kind]; rfl
 have hiσ:i<σ.length:=by rw [I.len]; exact (List.getElem?_eq_some_iff.mp hi).1
 have cne:=I.cne
 have tracked:∀{a:Addr} {h':Heap},(∃o,s.heap.get? a=some o∧H a=none)→Heap.SameBut a s.heap h'→HOk X.prog X.w H h':=fun {a h'} ha hs b ob e=>by
  obtain ⟨_,_,hfree⟩:=ha
  refine (I.hok b ob e).stay (fun c w' hc q=>(hs.2 c ?_).trans q) (fun _ q=>q) fun _ _ q=>q
  rintro rfl
  rcases hc with rfl | hc
  ·rw [hfree] at e; cases e
  ·rw [hfree] at hc; cases hc
 rcases hx with hk | hk
 ·refine wpAny_storeName_local hk hn (fun h' hn' hs=>?_) hcls
  obtain ⟨oL,_,_,hoL,_⟩:=id hn
  refine h _ ⟨I.ok,I.os,I.bare,⟨fun b o e n hb hx=>?_,fun b o e n hb hx=>?_,I.base.free,fun b o e hx=>?_,I.base.tups,I.base.frzs,I.base.tbls⟩,⟨_,hn',fun j y v' e1 e2 e3=>?_⟩,fun y c e=>?_,I.free,I.freeC,fun p hp=>?_,tracked ⟨oL,hoL,I.free⟩ hs,by simpa using I.len⟩ ⟨_,hs,.inl rfl⟩
  ·exact (hs.2 b (Nat.ne_of_lt (Nat.lt_of_lt_of_le (Heap.lt_size e) I.ok.above))).trans (I.base.keep b o e n hb hx)
  ·obtain ⟨sl,e1⟩:=I.base.slot b o e n hb hx
   exact ⟨sl,(hs.2 b (Nat.ne_of_lt (Nat.lt_of_lt_of_le (Heap.lt_size e) I.ok.above))).trans e1⟩
  ·obtain ⟨o',e1⟩:=I.base.there b o e hx
   exact ⟨o',(hs.2 b (Nat.ne_of_lt (Nat.lt_of_lt_of_le (Heap.lt_size e) I.ok.above))).trans e1⟩
  ·by_cases hj:j=i
   ·subst hj
    rw [hi] at e1; cases e1
    rw [List.getElem?_set_self hiσ] at e2
    cases e2
    exact ⟨u,r,.inl ⟨hk,by simp⟩⟩
   ·rw [List.getElem?_set_ne (Ne.symm hj)] at e2
    obtain ⟨u',r',q⟩:=hl j y v' e1 e2 e3
    refine ⟨u',r',?_⟩
    rcases q with ⟨k,e⟩ | ⟨k,c,e,z⟩
    ·refine .inl ⟨k,?_⟩
     have:y≠x:=fun e=>hj (nodup_ix hN e1 (e▸hi))
     simp [this,e]
    ·exact .inr ⟨k,c,e,z.sameBut hs (cne y c e)⟩
  ·obtain ⟨w',z⟩:=I.cell y c e
   exact ⟨w',z.sameBut hs (cne y c e)⟩
  ·obtain ⟨e,n,ne,nf,d⟩:=I.pin p hp
   exact ⟨(hs.2 p.1 ne).trans e,n,ne,nf,d⟩
 ·have hfn:X.fn x=true:=by
   rcases hf with z | z
   ·exact z
   ·rw [z] at hk; cases hk
  obtain ⟨c,hc⟩:=I.ok.has x (.inl hk)
  obtain ⟨w',z⟩:=I.cell x c hc
  refine wpAny_storeName_cell I.ok.kind hk hc z (fun h' hc' hs=>?_)
  obtain ⟨oc,hoc,hocd⟩:=id z
  refine h { s with heap:=h' } ⟨I.ok,I.os,I.bare,⟨fun b o e n hb hx=>?_,fun b o e n hb hx=>?_,I.base.free,fun b o e hx=>?_,I.base.tups,I.base.frzs,I.base.tbls⟩,⟨m,hn.sameBut hs (Ne.symm (cne x c hc)),fun j y v' e1 e2 e3=>?_⟩,fun y c' e=>?_,I.free,I.freeC,fun p hp=>?_,tracked ⟨oc,hoc,I.freeC x c hc⟩ hs,by simpa using I.len⟩ ⟨c,hs,.inr hc⟩
  ·exact (hs.2 b (Nat.ne_of_lt (Nat.lt_of_lt_of_le (Heap.lt_size e) (I.ok.cab x c hfn hc)))).trans (I.base.keep b o e n hb hx)
  ·obtain ⟨sl,e1⟩:=I.base.slot b o e n hb hx
   exact ⟨sl,(hs.2 b (Nat.ne_of_lt (Nat.lt_of_lt_of_le (Heap.lt_size e) (I.ok.cab x c hfn hc)))).trans e1⟩
  ·obtain ⟨o',e1⟩:=I.base.there b o e hx
   exact ⟨o',(hs.2 b (Nat.ne_of_lt (Nat.lt_of_lt_of_le (Heap.lt_size e) (I.ok.cab x c hfn hc)))).trans e1⟩
  ·by_cases hj:j=i
   ·subst hj
    rw [hi] at e1; cases e1
    rw [List.getElem?_set_self hiσ] at e2
    cases e2
    exact ⟨u,r,.inr ⟨.inl hk,c,hc,hc'⟩⟩
   ·rw [List.getElem?_set_ne (Ne.symm hj)] at e2
    obtain ⟨u',r',q⟩:=hl j y v' e1 e2 e3
    refine ⟨u',r',?_⟩
    rcases q with q | ⟨k,c',e,z'⟩
    ·exact .inl q
    ·refine .inr ⟨k,c',e,z'.sameBut hs ?_⟩
     rintro rfl
     exact hj (nodup_ix hN e1 (I.ok.inj _ _ _ e hc▸hi))
  ·by_cases hcc:c'=c
   ·subst hcc; exact ⟨_,hc'⟩
   ·obtain ⟨w2,z2⟩:=I.cell y c' e
    exact ⟨w2,z2.sameBut hs hcc⟩
  ·obtain ⟨e,n,ne,nf,d⟩:=I.pin p hp
   refine ⟨(hs.2 p.1 ?_).trans e,n,ne,nf,d⟩
   intro q
   rw [q,hoc] at e
   have q':oc=p.2:=Option.some.inj e
   exact d w' (by rw [←q']; exact hocd)
theorem store_ok {M:Model} {A:Around} {E:Value→Shared→Prop} {i:Nat} {x:Str} {v:V} {u:Value} {Q:Unit→Shared→Prop} (I:Inv X pins σ H s) (hN:X.N.Nodup) (hi:X.N[i]?=some x) (hx:Loc X.env.scope x) (r:RelV v u)
  (h:∀s',Inv X pins (σ.set i (some v)) H s'→Q () s') (hf:X.fn x=true∨X.env.scope.names.lookup x=some .local:=by first | exact .inl rfl | exact .inr rfl | assumption):wpAny M A (storeName X.env x u) Q E s:=
 store_ok2 I hN hi hx r (fun s' I' _=>h s' I') hf
theorem Inv.call' {s':Shared} {ch:List Addr} (I:Inv X pins σ H s) (ho:s'.os=s.os) (u:Un (frs X.stack) ch H H' s.heap s'.heap) (hok:HOk X.prog X.w H' s'.heap) (hg:AllBare s'.gens)
  (hch:∀b∈ch,(b∈X.ex∨X.s₀.heap.objs.size≤b)∧b≠X.env.locals∧(∀x c,X.env.cells.lookup x=some c→c≠b)∧∀p∈X.pn++pins,p.1≠b):Inv X pins σ H' s':=by
 obtain ⟨h',g',d',t',o'⟩:=s'
 have e:o'=s.os:=ho
 subst e
 exact I.call (g':=g') (t':=t') (d':=d') u hok hg hch
end
abbrev XK:=Value→Option Addr→Hp→Prop
abbrev St:=List (Option V)
abbrev VK:=V→Hp→Prop
abbrev TE:=St→Hp→VK→Prop
abbrev TT:=St→Hp→(Bool→Hp→Prop)→Prop
abbrev TA:=St→Hp→(List V→Hp→Prop)→Prop
structure Ends where
 nx:St→Hp→Prop
 rt:VK
 bk:St→Hp→Prop:=fun _ _=>False
 ct:St→Hp→Prop:=fun _ _=>False
abbrev TS:=Ends→St→Hp→Prop
def EP (X:Cx) (pins:List (Addr×Obj)) (σ:St) (Q:VK) (u:Value) (s':Shared):Prop:=∃v H',Inv X pins σ H' s'∧RelV v u∧Q v H'
def TP (X:Cx) (pins:List (Addr×Obj)) (σ:St) (Q:Bool→Hp→Prop) (b:Bool) (s':Shared):Prop:=∃H',Inv X pins σ H' s'∧Q b H'
def AP (X:Cx) (pins:List (Addr×Obj)) (σ:St) (Q:List V→Hp→Prop) (us:List Value) (s':Shared):Prop:=∃vs H',Inv X pins σ H' s'∧Vals vs us∧Q vs H'
def SP (X:Cx) (pins:List (Addr×Obj)) (D:Ends) (f:Flow) (s':Shared):Prop:=
 match f with
 | .next=>∃σ' H',Inv X pins σ' H' s'∧D.nx σ' H'
 | .brk=>∃σ' H',Inv X pins σ' H' s'∧D.bk σ' H'
 | .cont=>∃σ' H',Inv X pins σ' H' s'∧D.ct σ' H'
 | .ret u=>∃v σ' H',Inv X pins σ' H' s'∧RelV v u∧D.rt v H'
def PE (X:Cx) (e:Expr) (t:TE):Prop:=
 ∀(pins:List (Addr×Obj)) (s:Shared) (σ:St) (H:Hp) (Q:VK),Inv X pins σ H s→t σ H Q→wpAny (model X.prog X.w) X.A (eval e X.env) (EP X pins σ Q) X.xe s
def PT (X:Cx) (e:Expr) (t:TT):Prop:=
 ∀(pins:List (Addr×Obj)) (s:Shared) (σ:St) (H:Hp) (Q:Bool→Hp→Prop),Inv X pins σ H s→t σ H Q→wpAny (model X.prog X.w) X.A (isTrue e X.env (eval e X.env)) (TP X pins σ Q) X.xe s
def PW (X:Cx) (e:Expr) (t:TT):Prop:=
 ∀(whole:Sem Value) (pins:List (Addr×Obj)) (s:Shared) (σ:St) (H:Hp) (Q:Bool→Hp→Prop),Inv X pins σ H s→t σ H Q→wpAny (model X.prog X.w) X.A (isTrue e X.env whole) (TP X pins σ Q) X.xe s
def PA (X:Cx) (es:List Expr) (t:TA):Prop:=
 ∀(pos:Pos) (pins:List (Addr×Obj)) (s:Shared) (σ:St) (H:Hp) (Q:List V→Hp→Prop),Inv X pins σ H s→t σ H Q→wpAny (model X.prog X.w) X.A (spliced (backTo pos (starEach es X.env))) (AP X pins σ Q) X.xe s
def PS (X:Cx) (st:Stmt) (t:TS):Prop:=
 ∀(pins:List (Addr×Obj)) (s:Shared) (σ:St) (H:Hp) (D:Ends),Inv X pins σ H s→t D σ H→wpAny (model X.prog X.w) X.A (exec st X.env) (SP X pins D) X.xe s
def PSs (X:Cx) (st:List Stmt) (t:TS):Prop:=
 ∀(pins:List (Addr×Obj)) (s:Shared) (σ:St) (H:Hp) (D:Ends),Inv X pins σ H s→t D σ H→wpAny (model X.prog X.w) X.A (execs st X.env) (SP X pins D) X.xe s
theorem thn {α:Type} {t:Sem α} {Q Q':α→Shared→Prop} {M:Model} {A:Around} {E:Value→Shared→Prop} {s:Shared} (h:wpAny M A t Q E s) (hQ:∀a s,Q a s→Q' a s):wpAny M A t Q' E s:=wpAny_mono h hQ fun _ _ x=>x
end L2
namespace L2
open PySem PySem.Spec PyProof.Rows
section
variable {X:Cx}
def tVar (i:Nat):TE:=fun σ H Q=>∃v,σ[i]?=some (some v)∧Q v H
def tC (v:V):TE:=fun _ H Q=>Q v H
theorem pe_var {i:Nat} {x:Str} {pos:Pos} (hN:X.N[i]?=some x) (hv:Vis X.env.scope x) (hd:(x == ("__debug__" : Str))=false:=by decide) (hcd:(x == ("__classdict__" : Str))=false:=by decide):PE X (.Name x pos) (tVar i):=by
 intro pins s σ H Q I h
 obtain ⟨v,e,h⟩:=h
 obtain ⟨m,hn,hl⟩:=I.loc
 obtain ⟨u,r,l⟩:=hl i x v hN e hv
 have fin:EP X pins σ Q u s:=⟨v,H,I,r,h⟩
 rcases l with ⟨hk,hm⟩ | ⟨hk,c,hc,hcell⟩
 ·exact wpAny_Name (wpAny_loadName_local I.ok.kind hk hn hm fin) hd
 ·rcases hk with hk | hk
  ·exact wpAny_Name (wpAny_loadName_cell I.ok.kind hk hc hcell fin) hd
  ·exact wpAny_Name (wpAny_loadName_free I.ok.kind hk hc hcell fin hcd) hd
theorem pe_int {i j pos}:PE X (.Constant (.int i) j pos) (tC (.int i)):=fun _ _ _ H _ I h=>wpAny_Constant_int ⟨.int i,H,I.tok _,⟨_,rfl⟩,h⟩
theorem pe_bl {b j pos}:PE X (.Constant (.bool b) j pos) (tC (.bl b)):=fun _ _ _ H _ I h=>Constant_bool ⟨.bl b,H,I,rfl,h⟩
theorem pe_non {j pos}:PE X (.Constant .none j pos) (tC .non):=fun _ _ _ H _ I h=>Constant_none ⟨.non,H,I,rfl,h⟩
theorem pe_str {x j pos}:PE X (.Constant (.str x) j pos) (tC (.str x)):=fun _ _ _ H _ I h=>Calls.Constant_str ⟨.str x,H,I.tok _,⟨_,rfl⟩,h⟩
def Gl (X:Cx) (x:Str):Prop:=X.env.kindOf x=some .globalImplicit
theorem ld_glob {E:Value→Shared→Prop} {pins:List (Addr×Obj)} {s:Shared} {σ:St} {H:Hp} {x:Str} {u:Value} {pos:Pos} {Q:Value→Shared→Prop} (I:Inv X pins σ H s) (hg:Gl X x) (hm:X.mg x=some u) (h:Q u s)
  (hd:(x == ("__debug__" : Str))=false:=by decide):wpAny (model X.prog X.w) X.A (eval (.Name x pos) X.env) Q E s:=
 Calls.Name_function_global I.ok.kind hg (Calls.loadGlobal_global (by rw [I.ok.glob]; exact I.mod.glob.keeps I.bk) hm h) hd
theorem z0f {E:Value→Shared→Prop} {pins:List (Addr×Obj)} {s:Shared} {σ:St} {H:Hp} {x:Str} {u:Value} {pos:Pos} {Q:Value→Shared→Prop} (I:Inv X pins σ H s) (hg:Gl X x) (hm:X.mg x=none) (hv:bootBuiltins x=some u) (h:Q u s)
  (hn:x≠ "__name__" :=by decide) (hd:(x == ("__debug__" : Str))=false:=by decide):wpAny (model X.prog X.w) X.A (eval (.Name x pos) X.env) Q E s:=by
 obtain ⟨mb,h1,h2⟩:=I.mod.blt
 exact Calls.Name_function_global I.ok.kind hg (Calls.loadGlobal_builtin (by rw [I.ok.glob]; exact I.mod.glob.keeps I.bk) hm (by rw [I.ok.blt]; exact h1.keeps I.bk) ((h2 x hn).trans hv) h) hd
theorem pe_glob {x:Str} {v:V} {u:Value} {pos:Pos} (hg:Gl X x) (hm:X.mg x=some u) (r:RelV v u) (hd:(x == ("__debug__" : Str))=false:=by decide):PE X (.Name x pos) (tC v):=
 fun _ _ _ H _ I h=>ld_glob I hg hm ⟨v,H,I,r,h⟩ hd
theorem pe_bltn {x:Str} {v:V} {u:Value} {pos:Pos} (hg:Gl X x) (hm:X.mg x=none) (hv:bootBuiltins x=some u) (r:RelV v u) (hn:x≠ "__name__" :=by decide) (hd:(x == ("__debug__" : Str))=false:=by decide):PE X (.Name x pos) (tC v):=
 fun _ _ _ H _ I h=>z0f I hg hm hv ⟨v,H,I,r,h⟩ hn hd
variable {a b:Expr} {ta tb:TE} {pos:Pos}
variable {tA tB':TT} {rest:List Expr}
def tAnd (t u:TT):TT:=fun σ H Q=>t σ H fun c H1=>if c=true then u σ H1 Q else Q false H1
def tOr (t u:TT):TT:=fun σ H Q=>t σ H fun c H1=>if c=true then Q true H1 else u σ H1 Q
def tNot (t:TT):TT:=fun σ H Q=>t σ H fun c H1=>Q (!c) H1
theorem pw_and1 (ha:PT X a tA):PW X (.BoolOp .And [a] pos) tA:=by
 intro wh pins s σ H Q I h
 refine isTrue_and (thn (ha pins s σ H Q I h) fun c s1 e=>?_)
 cases c with
 | true=>exact isTrue_and_nil e
 | false=>exact e
theorem pw_or1 (ha:PT X a tA):PW X (.BoolOp .Or [a] pos) tA:=by
 intro wh pins s σ H Q I h
 refine isTrue_or (thn (ha pins s σ H Q I h) fun c s1 e=>?_)
 cases c with
 | false=>exact isTrue_or_nil e
 | true=>exact e
theorem pw_and (ha:PT X a tA) (hb:PW X (.BoolOp .And (b::rest) pos) tB'):PW X (.BoolOp .And (a::b::rest) pos) (tAnd tA tB'):=by
 intro wh pins s σ H Q I h
 refine isTrue_and (thn (ha pins s σ H _ I h) fun c s1 hh1=>?_)
 obtain ⟨H1,I1,q1⟩:=hh1
 cases c with
 | true=>exact hb wh pins s1 σ H1 Q I1 q1
 | false=>exact ⟨H1,I1,q1⟩
theorem pw_or (ha:PT X a tA) (hb:PW X (.BoolOp .Or (b::rest) pos) tB'):PW X (.BoolOp .Or (a::b::rest) pos) (tOr tA tB'):=by
 intro wh pins s σ H Q I h
 refine isTrue_or (thn (ha pins s σ H _ I h) fun c s1 hh1=>?_)
 obtain ⟨H1,I1,q1⟩:=hh1
 cases c with
 | true=>exact ⟨H1,I1,q1⟩
 | false=>exact hb wh pins s1 σ H1 Q I1 q1
theorem pt_not (ha:PT X a tA):PT X (.UnaryOp .Not a pos) (tNot tA):=by
 intro pins s σ H Q I h
 exact isTrue_not (ha pins s σ H (fun c H1=>Q (!c) H1) I h)
def tAndV (ta tb:TE):TE:=fun σ H Q=>ta σ H fun x H1=>∃c,x=.bl c∧if c=true then tb σ H1 Q else Q (.bl false) H1
def tNotV (ta:TE):TE:=fun σ H Q=>ta σ H fun x H1=>∃c,x=.bl c∧Q (.bl (!c)) H1
theorem pe_one {op} {t:TE} (h:PE X a t):PE X (.BoolOp op [a] pos) t:=fun pins s σ H Q I hw=>BoolOp_one (h pins s σ H Q I hw)
theorem pe_and (ha:PE X a ta) (hb:PE X (.BoolOp .And (b::rest) pos) tb):PE X (.BoolOp .And (a::b::rest) pos) (tAndV ta tb):=by
 intro pins s σ H Q I h
 refine BoolOp_and (thn (ha pins s σ H _ I h) fun v s1 hh1=>?_)
 obtain ⟨x,H1,I1,r1,q1⟩:=hh1
 obtain ⟨c,rfl,q1⟩:=q1
 cases r1
 refine wpAny_truthy_bool ?_
 cases c with
 | true=>exact hb pins s1 σ H1 Q I1 q1
 | false=>exact ⟨.bl false,H1,I1,rfl,q1⟩
theorem pe_not (ha:PE X a ta):PE X (.UnaryOp .Not a pos) (tNotV ta):=by
 intro pins s σ H Q I h
 refine UnaryOp_ (thn (ha pins s σ H _ I h) fun v s1 hh1=>?_)
 obtain ⟨x,H1,I1,r1,q1⟩:=hh1
 obtain ⟨c,rfl,q1⟩:=q1
 cases r1
 exact not_of (wpAny_truthy_bool ⟨.bl (!c),H1,I1,rfl,q1⟩)
def tIf (t:TT) (ta tb:TE):TE:=fun σ H Q=>t σ H fun c H1=>if c=true then ta σ H1 Q else tb σ H1 Q
theorem pe_ifExp {c:Expr} (hc:PT X c tA) (ha:PE X a ta) (hb:PE X b tb):PE X (.IfExp c a b pos) (tIf tA ta tb):=by
 intro pins s σ H Q I h
 refine wpAny_IfExp (thn (hc pins s σ H _ I h) fun d s1 hh1=>?_)
 obtain ⟨H1,I1,q1⟩:=hh1
 cases d with
 | true=>exact ha pins s1 σ H1 Q I1 q1
 | false=>exact hb pins s1 σ H1 Q I1 q1
end
end L2
namespace L2
open PySem PySem.Spec PyProof.Rows
def SqL (K:PySem.W.Frag) (H:Hp) (a:Addr) (xs:List V):Prop:=
 Rd H a (.lst xs)∨
  ∃(o:Obj) (its:Array Value) (n:Nat),K.lookup a=some o∧o.cls=.type "list" ∧o.dict=none∧o.data=.seq its n∧its.size≤sizeLine∧Vals xs its.toList
def SqT (K:PySem.W.Frag) (H:Hp) (a:Addr) (xs:List V):Prop:=
 Rd H a (.tup xs)∨
  ∃(o:Obj) (its:Array Value) (n:Nat),K.lookup a=some o∧o.cls=.type "tuple" ∧o.data=.seq its n∧its.size≤sizeLine∧Vals xs its.toList
def absV:Value→Option V
 | .none=>some .non
 | .bool b=>some (.bl b)
 | .int i _=>some (.int i)
 | .str x _=>some (.str x)
 | .bytes b _=>some (.byt b)
 | .float b _=>some (.flt b)
 | .ref a=>some (.ref a)
 | .type n=>some (.ty n)
 | _=>none
theorem RelV.abs {x:V} {u:Value} (r:RelV x u):absV u=some x:=by
 cases x with
 | non=>cases r; rfl
 | bl _=>cases r; rfl
 | int _=>obtain ⟨t,rfl⟩:=r; rfl
 | str _=>obtain ⟨t,rfl⟩:=r; rfl
 | byt _=>obtain ⟨t,rfl⟩:=r; rfl
 | flt _=>obtain ⟨t,rfl⟩:=r; rfl
 | ref _=>cases r; rfl
 | ty _=>cases r; rfl
theorem RelV.inj {x y:V} {u:Value} (r:RelV x u) (q:RelV y u):x=y:=Option.some.inj (r.abs.symm.trans q.abs)
theorem Vals.inj:∀{xs ys:List V} {us:List Value},Vals xs us→Vals ys us→xs=ys
 | _,_,_,.nil,.nil=>rfl
 | _,_,_,.cons r t,.cons r' t'=>by rw [r.inj r',Vals.inj t t']
section
variable {X:Cx} {pins:List (Addr×Obj)} {σ:St} {H:Hp} {s:Shared} {a:Addr} {xs ys:List V}
theorem SqL.of {K:PySem.W.Frag} (h:H a=some (.lst xs)):SqL K H a xs:=.inl (.inl h)
theorem SqT.of {K:PySem.W.Frag} (h:H a=some (.tup xs)):SqT K H a xs:=.inl (.inl h)
theorem Inv.list (I:Inv X pins σ H s) (h:SqL X.K H a xs):∃its:List Value,Vals xs its∧PlainL s.heap a its.toArray∧xs.length≤sizeLine:=by
 rcases h with h | ⟨o,its,n,hk,hc,hd,hs,hz,r⟩
 ·obtain ⟨z,its,n,r,e⟩:=h.ok I.hok
  exact ⟨its,r,⟨_,n,e,rfl,rfl,rfl⟩,z⟩
 ·refine ⟨its.toList,r,⟨o,n,I.kIn a o hk,hc,hd,by simpa using hs⟩,?_⟩
  have e:=r.length
  simp only [Array.length_toList] at e
  omega
theorem Inv.tuple (I:Inv X pins σ H s) (h:SqT X.K H a xs):∃its:List Value,Vals xs its∧IsTup s.heap a its.toArray∧xs.length≤sizeLine:=by
 rcases h with h | ⟨o,its,n,hk,hc,hs,hz,r⟩
 ·obtain ⟨z,its,r,p⟩:=h.ok I.hok
  exact ⟨its,r,p,z⟩
 ·refine ⟨its.toList,r,⟨o,I.kIn a o hk,hc,n,by simpa using hs⟩,?_⟩
  have e:=r.length
  simp only [Array.length_toList] at e
  omega
theorem Inv.list_inj (I:Inv X pins σ H s) (h:SqL X.K H a xs) (h':SqL X.K H a ys):xs=ys:=by
 obtain ⟨its,r,⟨o,n,e,_,_,d⟩,_⟩:=I.list h
 obtain ⟨its',r',⟨o',n',e',_,_,d'⟩,_⟩:=I.list h'
 rw [e] at e'; cases e'
 rw [d] at d'
 injection d' with d1 _
 have:its=its':=by simpa using congrArg Array.toList d1
 subst this
 exact r.inj r'
theorem Inv.tuple_inj (I:Inv X pins σ H s) (h:SqT X.K H a xs) (h':SqT X.K H a ys):xs=ys:=by
 obtain ⟨its,r,⟨o,e,_,n,d⟩,_⟩:=I.tuple h
 obtain ⟨its',r',⟨o',e',_,n',d'⟩,_⟩:=I.tuple h'
 rw [e] at e'; cases e'
 rw [d] at d'
 injection d' with d1 _
 have:its=its':=by simpa using congrArg Array.toList d1
 subst this
 exact r.inj r'
end
section
variable {X:Cx} {pins:List (Addr×Obj)} {σ:St} {H:Hp} {s:Shared} {E:Value→Shared→Prop}
end
section
variable {X:Cx} {st:Stmt} {rest:List Stmt} {t u:TS} {e:Expr} {te:TE} {pos:Pos}
def tNext:TS:=fun D σ H=>D.nx σ H
def tSeq (t u:TS):TS:=fun D σ H=>t { D with nx:=u D } σ H
theorem pss_nil:PSs X [] tNext:=fun _ _ σ H _ I h=>wpAny_execs_nil ⟨σ,H,I,h⟩
theorem pss_cons (h1:PS X st t) (h2:PSs X rest u):PSs X (st::rest) (tSeq t u):=by
 intro pins s σ H D I h
 refine wpAny_execs_cons (thn (h1 pins s σ H { D with nx:=u D } I h) fun f s1 q=>?_)
 cases f with
 | next=>
  obtain ⟨σ',H',I',q⟩:=q
  exact h2 pins s1 σ' H' D I' q
 | ret v=>exact q
 | brk=>exact q
 | cont=>exact q
theorem pss_one (h1:PS X st t):PSs X [st] t:=by
 intro pins s σ H D I h
 refine wpAny_execs_cons (thn (h1 pins s σ H D I h) fun f s1 q=>?_)
 cases f with
 | next=>exact wpAny_execs_nil q
 | ret v=>exact q
 | brk=>exact q
 | cont=>exact q
theorem Inv.quiet {pins:List (Addr×Obj)} {σ:St} {H:Hp} {s:Shared} (I:Inv X pins σ H s):interactive X.env=false:=by simp [interactive,I.ok.kind]
def tDrop (te:TE):TS:=fun D σ H=>te σ H fun _ H1=>D.nx σ H1
theorem ps_expr (he:PE X e te) (hs:swapsWith e none pos.line X.env=pure false:=by rfl):PS X (.Expr e pos) (tDrop te):=by
 intro pins s σ H D I h
 exact wpAny_Expr_any (thn (he pins s σ H _ I h) fun v s1 hh1=>by obtain ⟨x,H1,I1,r1,q1⟩:=hh1; exact (⟨σ,H1,I1,q1⟩)) I.quiet hs
def tRet (te:TE):TS:=fun D σ H=>te σ H D.rt
theorem ps_ret (he:PE X e te):PS X (.Return (some e) pos) (tRet te):=by
 intro pins s σ H D I h
 exact wpAny_Return_some (thn (he pins s σ H _ I h) fun v s1 hh1=>by obtain ⟨x,H1,I1,r1,q1⟩:=hh1; exact (⟨x,σ,H1,I1,r1,q1⟩))
def tIfS (c:TT) (t u:TS):TS:=fun D σ H=>c σ H fun b H1=>if b=true then t D σ H1 else u D σ H1
theorem ps_if {c:Expr} {a b:List Stmt} {tc:TT} (hc:PT X c tc) (ha:PSs X a t) (hb:PSs X b u):PS X (.If c a b pos) (tIfS tc t u):=by
 intro pins s σ H D I h
 refine wpAny_If (thn (hc pins s σ H _ I h) fun d s1 hh1=>?_)
 obtain ⟨H1,I1,q1⟩:=hh1
 cases d with
 | true=>exact ha pins s1 σ H1 D I1 q1
 | false=>exact hb pins s1 σ H1 D I1 q1
end
abbrev TG:=V→St→Hp→(St→Hp→Prop)→Prop
abbrev TGs:=List V→St→Hp→(St→Hp→Prop)→Prop
def PG (X:Cx) (target:Expr) (t:TG):Prop:=
 ∀(pins:List (Addr×Obj)) (s:Shared) (σ:St) (H:Hp) (v:V) (u:Value) (Q:St→Hp→Prop),Inv X pins σ H s→RelV v u→t v σ H Q→
  wpAny (model X.prog X.w) X.A (assign target X.env u) (fun _ s'=>∃σ' H',Inv X pins σ' H' s'∧Q σ' H') X.xe s
def PGs (X:Cx) (ts:List Expr) (t:TGs):Prop:=
 ∀(pins:List (Addr×Obj)) (s:Shared) (σ:St) (H:Hp) (vs:List V) (us:List Value) (Q:St→Hp→Prop),Inv X pins σ H s→Vals vs us→t vs σ H Q→
  wpAny (model X.prog X.w) X.A (assignInOrder ((assignEach ts X.env).map (·.2)) us) (fun _ s'=>∃σ' H',Inv X pins σ' H' s'∧Q σ' H') X.xe s
abbrev TSet:=V→V→V→Hp→(Hp→Prop)→Prop
def PSet (X:Cx) (t:TSet):Prop:=
 ∀(pins:List (Addr×Obj)) (s:Shared) (σ:St) (H:Hp) (o i v:V) (ov iv u:Value) (Q:Hp→Prop),Inv X pins σ H s→RelV o ov→RelV i iv→RelV v u→t o i v H Q→
  wpAny (model X.prog X.w) X.A (setItem ov iv u) (fun _ s'=>∃H',Inv X pins σ H' s'∧Q H') X.xe s
section
variable {X:Cx} {pos:Pos}
def gName (i:Nat):TG:=fun v σ H Q=>Q (σ.set i (some v)) H
theorem pg_name {i:Nat} {x:Str} (hN:X.N.Nodup) (hi:X.N[i]?=some x) (hx:Loc X.env.scope x) (hf:X.fn x=true∨X.env.scope.names.lookup x=some .local:=by first | exact .inl rfl | exact .inr rfl | assumption):PG X (.Name x pos) (gName i):=by
 intro pins s σ H v u Q I r h
 exact wpAny_assign_Name (store_ok I hN hi hx r (fun s' I'=>⟨_,H,I',h⟩) hf)
def gNil:TGs:=fun vs σ H Q=>vs=[]∧Q σ H
def gCons (t:TG) (u:TGs):TGs:=fun vs σ H Q=>∃v r,vs=v::r∧t v σ H fun σ' H'=>u r σ' H' Q
theorem pgs_nil:PGs X [] gNil:=by
 intro pins s σ H vs us Q I r h
 obtain ⟨e,h⟩:=h
 subst e
 cases r
 exact assignInOrder_nil ⟨σ,H,I,h⟩
theorem pgs_cons {e:Expr} {es:List Expr} {t:TG} {u:TGs} (h1:PG X e t) (h2:PGs X es u)
  (hs:(assignEach (e::es) X.env).map (·.2)=assign e X.env::(assignEach es X.env).map (·.2):=by rfl):PGs X (e::es) (gCons t u):=by
 intro pins s σ H vs us Q I r h
 obtain ⟨v,vr,e1,h⟩:=h
 subst e1
 cases r with
 | cons r rr=>
  rw [hs]
  refine assignInOrder_cons (thn (h1 pins s σ H _ _ _ I r h) fun _ s1 hh1=>?_)
  obtain ⟨σ1,H1,I1,q1⟩:=hh1
  exact h2 pins s1 σ1 H1 _ _ Q I1 rr q1
def gTup (K:PySem.W.Frag) (n:Nat) (t:TGs):TG:=fun v σ H Q=>∃a xs,v=.ref a∧SqT K H a xs∧xs.length=n∧t xs σ H Q
theorem pg_tup {es:List Expr} {k:Nat} {t:TGs} {n:Nat} (hc:X.calm=true) (h:PGs X es t)
  (hn:(assignEach es X.env).length=n:=by rfl) (hst:(assignEach es X.env).findIdx? (·.1)=none:=by rfl):PG X (.Tuple es k pos) (gTup X.K n t):=by
 intro pins s σ H v u Q I r hw
 obtain ⟨a,xs,e1,hq,hl,hw⟩:=hw
 subst e1
 cases r
 obtain ⟨its,rv,ht,hz⟩:=I.tuple hq
 refine assign_Tuple_tuple (I.ok.hd hc) ht (by simp [hn,←hl,rv.length]) hst fun h' hx=>?_
 have I1:Inv X pins σ H { s with heap:=h' }:=I.kept (t':=s.toks) fun b o e=>hx b o (Nat.ne_of_lt (Heap.lt_size e)) e
 exact h pins _ σ H xs _ Q I1 (by simpa using rv) hw
def gSub (to ti:TE) (t:TSet):TG:=fun v σ H Q=>to σ H fun o H1=>ti σ H1 fun i H2=>t o i v H2 fun H3=>Q σ H3
theorem pg_sub {o i:Expr} {to ti:TE} {t:TSet} (ho:PE X o to) (hi:PE X i ti) (hs:PSet X t)
  (ha:∀v,assign (.Subscript o i pos) X.env v=(do
   let ov ←holding [v] (eval o X.env)
   let iv ←holding [v,ov] (eval i X.env)
   standAt pos
   holding [v,ov,iv] (setItem ov iv v)
   release [v,ov,iv] []):=by intro _; rfl):PG X (.Subscript o i pos) (gSub to ti t):=by
 intro pins s σ H v u Q I r h
 rw [ha]
 refine wpAny_bind (wpAny_holding (thn (ho pins s σ H _ I h) fun ov s1 hh1=>?_))
 obtain ⟨x,H1,I1,r1,q1⟩:=hh1
 refine wpAny_bind (wpAny_holding (thn (hi pins s1 σ H1 _ I1 q1) fun iv s2 hh2=>?_))
 obtain ⟨y,H2,I2,r2,q2⟩:=hh2
 refine wpAny_bind (wpAny_standAt (wpAny_bind (wpAny_holding (thn (hs pins s2 σ H2 x y v ov iv u _ I2 r1 r2 r q2) fun _ s3 hh3=>?_))))
 obtain ⟨H3,I3,q3⟩:=hh3
 exact wpAny_release ⟨σ,H3,I3,q3⟩
def tAsg (te:TE) (g:TG):TS:=fun D σ H=>te σ H fun x H1=>g x σ H1 D.nx
theorem ps_asg {tg e:Expr} {te:TE} {g:TG} (he:PE X e te) (hg:PG X tg g) (hs:swapsWithSole [tg] e pos.line X.env=pure false:=by rfl) (hw:swappedStores [tg] e X.env=pure none:=by rfl)
  (h1:(assignEach [tg] X.env).map (·.2)=[assign tg X.env]:=by rfl):PS X (.Assign [tg] e pos) (tAsg te g):=by
 intro pins s σ H D I h
 refine wpAny_Assign_stores (thn (he pins s σ H _ I h) fun v s1 ⟨x,H1,I1,r1,q1⟩=>?_) hs hw
 rw [h1]
 exact thn (hg pins s1 σ H1 x v _ I1 r1 q1) fun _ s2 q=>q
theorem ps_set {i:Nat} {x:Str} {e:Expr} {te:TE} {pos':Pos} (hN:X.N.Nodup) (hi:X.N[i]?=some x) (hx:Loc X.env.scope x) (he:PE X e te) (hs:swapsWith e (some (.Name x pos')) pos.line X.env=pure false:=by rfl) (hf:X.fn x=true∨X.env.scope.names.lookup x=some .local:=by first | exact .inl rfl | exact .inr rfl | assumption) :
  PS X (.Assign [.Name x pos'] e pos) (tAsg te (gName i)):=by
 intro pins s σ H D I h
 refine wpAny_Assign_Name (thn (he pins s σ H _ I h) fun v s1 ⟨y,H1,I1,r1,q1⟩=>?_) hs
 exact store_ok I1 hN hi hx r1 (fun s2 I2=>⟨_,H1,I2,q1⟩) hf
end
section
variable {X:Cx} {pos:Pos}
def tWhile (c:TT) (tb:TS):TS:=fun D σ H=>∃W:Nat→St→Hp→Prop,(∃m,W m σ H)∧∀m σ H,W m σ H→
 c σ H fun b H1=>if b=true then ∃N:St→Hp→Prop,(∀σ' H',N σ' H'→∃m',m'<m∧W m' σ' H')∧tb { D with nx:=N,ct:=N,bk:=D.nx } σ H1 else D.nx σ H1
theorem ps_while {c:Expr} {body:List Stmt} {tc:TT} {tb:TS} (hp:PassesOwn (model X.prog X.w) X.A X.env X.xe) (hc:PT X c tc) (hb:PSs X body tb):PS X (.While c body [] pos) (tWhile tc tb):=by
 intro pins s σ H D I h
 obtain ⟨W,⟨m0,w0⟩,turn⟩:=h
 refine wpAny_While (codeAny_whileLoop (fun n s'=>∃σ' H',Inv X pins σ' H' s'∧W n σ' H') ?_ m0 ⟨σ,H,I,w0⟩)
 rintro n s1 ⟨σ1,H1,I1,w1⟩
 refine wpAny_passesOwn hp (thn (hc pins s1 σ1 H1 _ I1 (turn n σ1 H1 w1)) fun b s2 hh1=>?_)
 obtain ⟨H2,I2,q2⟩:=hh1
 cases b with
 | true=>
  obtain ⟨N,hN,q2⟩:=q2
  rw [if_pos rfl]
  refine wpAny_passesOwn hp (thn (hb pins s2 σ1 H2 _ I2 q2) fun f s3 q3=>?_)
  cases f with
  | next=>
   obtain ⟨σ3,H3,I3,n3⟩:=q3
   obtain ⟨m',hm,w3⟩:=hN σ3 H3 n3
   exact ⟨m',hm,σ3,H3,I3,w3⟩
  | cont=>
   obtain ⟨σ3,H3,I3,n3⟩:=q3
   obtain ⟨m',hm,w3⟩:=hN σ3 H3 n3
   exact ⟨m',hm,σ3,H3,I3,w3⟩
  | brk=>exact q3
  | ret v=>exact q3
 | false=>
  rw [if_neg Bool.false_ne_true]
  exact wpAny_execs_nil ⟨σ1,H2,I2,q2⟩
end
structure It where
 go:Nat→Hp→Prop
 yld:Nat→Hp→V→Hp→Prop
 stop:Nat→Hp→Prop
def FpOk (X:Cx) (pins:List (Addr×Obj)) (H:Hp) (b:Addr):Prop:=
 H b=none∧b≠X.env.locals∧b∉X.fs∧(b∈X.ex∨X.s₀.heap.objs.size≤b)∧(∀x c,X.env.cells.lookup x=some c→c≠b)∧∀p∈X.pn++pins,p.1≠b
theorem Inv.fpOk {X:Cx} {pins:List (Addr×Obj)} {σ:St} {H H':Hp} {s:Shared} {b:Addr} (I:Inv X pins σ H s) (hb:s.heap.objs.size≤b) (hn:H' b=none):FpOk X pins H' b:=by
 refine ⟨hn,Nat.ne_of_gt (Nat.lt_of_lt_of_le I.lt hb),I.nofs hb,.inr (Nat.le_trans I.sz hb),fun x c e z=>?_,fun p hp z=>?_⟩
 ·obtain ⟨v,q⟩:=I.cell x c e
  exact absurd (Nat.lt_of_lt_of_le q.lt (by rw [z]; exact hb)) (Nat.lt_irrefl _)
 ·exact absurd (Nat.lt_of_lt_of_le (Heap.lt_size (I.pin p hp).1) (by rw [z]; exact hb)) (Nat.lt_irrefl _)
structure Turn (P:Program) (w:World) (K:PySem.W.Frag) (tg:Expr) (J:It) (fp:List Addr) (it:Addr) (tn:Nat→Heap→Prop):Prop where
 mem:it∈fp
 obj:∀i h,tn i h→∀b∈fp,∃o,h.get? b=some o∧∀v,o.data≠.cell v
 keep:∀i h h',tn i h→(∀b∈fp,∀o,h.get? b=some o→h'.get? b=some o)→tn i h'
 item:∀(X:Cx),X.prog=P→X.w=w→X.K=K→X.calm=true→∀(i:Nat) (pins:List (Addr×Obj)) (s:Shared) (σ:St) (H:Hp) (E:Value→Shared→Prop),Inv X pins σ H s→(∀b∈fp,FpOk X pins H b)→tn i s.heap→J.go i H→
  wpAny (model P w) X.A (pyNext (.ref it)) (fun r s1=>∃u,r=some u∧
   wpAny (model P w) X.A (letOwnedTupleGo tg (.ref it) u) (fun _ s2=>∃x H',Inv X pins σ H' s2∧RelV x u∧J.yld i H x H'∧tn (i+1) s2.heap∧∀b∈fp,H' b=none) E s1) E s
 done:∀(X:Cx),X.prog=P→X.w=w→X.K=K→X.calm=true→∀(i:Nat) (pins:List (Addr×Obj)) (s:Shared) (σ:St) (H:Hp) (E:Value→Shared→Prop),Inv X pins σ H s→(∀b∈fp,FpOk X pins H b)→tn i s.heap→J.stop i H→
  wpAny (model P w) X.A (pyNext (.ref it)) (fun r s1=>r=none∧Inv X pins σ H s1) E s
 self:∀(A:Around) (i:Nat) (s:Shared) (Q:Value→Shared→Prop) (E:Value→Shared→Prop),tn i s.heap→Q (.ref it) s→wpAny (model P w) A (pyIter (.ref it)) Q E s
abbrev TI:=St→Hp→(It→Hp→Prop)→Prop
def PIE (X:Cx) (pins:List (Addr×Obj)) (σ:St) (tg:Expr) (R:It→Hp→Prop) (itv:Value) (s2:Shared):Prop:=
 ∃(it:Addr) (fp:List Addr) (tn:Nat→Heap→Prop) (J:It) (H':Hp),itv=.ref it∧Inv X pins σ H' s2∧Turn X.prog X.w X.K tg J fp it tn∧tn 0 s2.heap∧(∀b∈fp,FpOk X pins H' b)∧R J H'
def PI (X:Cx) (tg iter:Expr) (wi:TI):Prop:=
 ∀(pins:List (Addr×Obj)) (s:Shared) (σ:St) (H:Hp) (R:It→Hp→Prop),Inv X pins σ H s→wi σ H R→
  wpAny (model X.prog X.w) X.A (eval iter X.env) (fun v s1=>wpAny (model X.prog X.w) X.A (pyIter v) (PIE X pins σ tg R) X.xe s1) X.xe s
theorem go_of {M : Model} {A : Around} {E : Value → Shared → Prop} {s : Shared} {tg : Expr} {it : Addr} {u : Value} {o : Obj} {n : String} {vs : Array Value} {Q : Unit → Shared → Prop} (ho : s.heap.get? it = some o) (hc : o.cls = .type n) (hd : o.data = .fields vs)
    (hn : ["enumerate", "zip", "dict_itemiterator", "dict_reverseitemiterator", "odict_iterator", "itertools.zip_longest", "itertools.pairwise"].contains n = false) (hQ : Q () s) : wpAny M A (letOwnedTupleGo tg (.ref it) u) Q E s := by
  unfold letOwnedTupleGo
  cases tg <;> first
    | exact wpAny_pure hQ
    | (cases u <;> first
        | exact wpAny_pure hQ
        | (refine wpAny_bind (wpAny_load ho ?_)
           rw [hc, hd]
           show wpAny M A (if (["enumerate", "zip", "dict_itemiterator", "dict_reverseitemiterator", "odict_iterator", "itertools.zip_longest", "itertools.pairwise"].contains n && vs[0]? == some (rawInt _)) = true then _ else _) Q E s
           rw [if_neg (by intro h; rw [hn, Bool.false_and] at h; cases h)]
           exact wpAny_pure hQ))
def Itl (K:PySem.W.Frag) (a:Addr):It:=
 ⟨fun i H=>∃xs x,SqL K H a xs∧xs[i]?=some x,fun i H x H'=>H'=H∧∀xs,SqL K H a xs→xs[i]?=some x,fun i H=>∃xs,SqL K H a xs∧xs.length≤i⟩
def Itt (K:PySem.W.Frag) (a:Addr):It:=
 ⟨fun i H=>∃xs x,SqT K H a xs∧xs[i]?=some x,fun i H x H'=>H'=H∧∀xs,SqT K H a xs→xs[i]?=some x,fun i H=>∃xs,SqT K H a xs∧xs.length≤i⟩
def Itr (lo:Int) (n:Nat):It:=⟨fun i _=>i<n,fun i H x H'=>H'=H∧x=.int (lo+i),fun i _=>n≤i⟩
theorem turn_list {P:Program} {w:World} {K:PySem.W.Frag} {tg:Expr} (a it:Addr):Turn P w K tg (Itl K a) [it] it (fun i h=>h.IsListIter it a i) where
 mem:=by simp
 obj:=fun i h st b hb=>by
  have e:b=it:=by simpa using hb
  subst e
  obtain ⟨o,e,c,d⟩:=st
  exact ⟨o,e,fun v z=>by rw [d] at z; cases z⟩
 keep:=fun i h h' st k=>st.at fun o e=>k it (by simp) o e
 item:=by
  intro X hP hw hK hc i pins s σ H E I hf st hg
  subst hP hw hK
  obtain ⟨xs,x,hq,hx⟩:=hg
  obtain ⟨its,rv,p,hz⟩:=I.list hq
  obtain ⟨u,hu,ru⟩:=rv.get hx
  obtain ⟨f0,f1,f2,f3,f4,f5⟩:=hf it (by simp)
  refine wpAny_pyNext_list_item st p.isList (x:=u) (by simpa using hu) fun h' st' sb=>?_
  have I1:Inv X pins σ H { s with heap:=h' }:=I.turned (t':=s.toks) (fun b o hb e=>(sb.2 b hb).trans e) f0 f1 f3 f4 f5
  obtain ⟨o,e,c,d⟩:=id st'
  exact ⟨u,rfl,go_of (s:={ s with heap:=h' }) e c d (by decide) ⟨x,H,I1,ru,⟨rfl,fun ys hy=>by rw [I.list_inj hy hq]; exact hx⟩,st',fun b hb=>(hf b hb).1⟩⟩
 done:=by
  intro X hP hw hK hc i pins s σ H E I hf st hg
  subst hP hw hK
  obtain ⟨xs,hq,hx⟩:=hg
  obtain ⟨its,rv,p,hz⟩:=I.list hq
  obtain ⟨f0,f1,f2,f3,f4,f5⟩:=hf it (by simp)
  have hl:=rv.length
  exact wpAny_pyNext_list_end (I.ok.hd hc) st p.isList (by simp; omega) fun h' eb=>⟨rfl,I.turned (t':=s.toks) (fun b o hb e=>eb b o hb e) f0 f1 f3 f4 f5⟩
 self:=fun _ _ _ _ _ st h=>wpAny_pyIter_listiter st h
theorem turn_tuple {P:Program} {w:World} {K:PySem.W.Frag} {tg:Expr} (a it:Addr):Turn P w K tg (Itt K a) [it] it (fun i h=>h.IsTupleIter it a i) where
 mem:=by simp
 obj:=fun i h st b hb=>by
  have e:b=it:=by simpa using hb
  subst e
  obtain ⟨o,e,c,d⟩:=st
  exact ⟨o,e,fun v z=>by rw [d] at z; cases z⟩
 keep:=fun i h h' st k=>st.at fun o e=>k it (by simp) o e
 item:=by
  intro X hP hw hK hc i pins s σ H E I hf st hg
  subst hP hw hK
  obtain ⟨xs,x,hq,hx⟩:=hg
  obtain ⟨its,rv,p,hz⟩:=I.tuple hq
  obtain ⟨u,hu,ru⟩:=rv.get hx
  obtain ⟨f0,f1,f2,f3,f4,f5⟩:=hf it (by simp)
  refine wpAny_pyNext_tuple_item st (show s.heap.IsTuple a its.toArray from p) (x:=u) (by simpa using hu) fun h' st' sb=>?_
  have I1:Inv X pins σ H { s with heap:=h' }:=I.turned (t':=s.toks) (fun b o hb e=>(sb.2 b hb).trans e) f0 f1 f3 f4 f5
  obtain ⟨o,e,c,d⟩:=id st'
  exact ⟨u,rfl,go_of (s:={ s with heap:=h' }) e c d (by decide) ⟨x,H,I1,ru,⟨rfl,fun ys hy=>by rw [I.tuple_inj hy hq]; exact hx⟩,st',fun b hb=>(hf b hb).1⟩⟩
 done:=by
  intro X hP hw hK hc i pins s σ H E I hf st hg
  subst hP hw hK
  obtain ⟨xs,hq,hx⟩:=hg
  obtain ⟨its,rv,p,hz⟩:=I.tuple hq
  obtain ⟨f0,f1,f2,f3,f4,f5⟩:=hf it (by simp)
  have hl:=rv.length
  exact wpAny_pyNext_tuple_end (I.ok.hd hc) st (show s.heap.IsTuple a its.toArray from p) (by simp; omega) fun h' eb=>⟨rfl,I.turned (t':=s.toks) (fun b o hb e=>eb b o hb e) f0 f1 f3 f4 f5⟩
 self:=fun _ _ _ _ _ st h=>wpAny_pyIter_tupleiter st h
theorem turn_range {P:Program} {w:World} {K:PySem.W.Frag} {tg:Expr} (it:Addr) (lo:Int) (n:Nat):Turn P w K tg (Itr lo n) [it] it (fun i h=>IsRangeIter h it (lo+(i:Nat)*1) ((n:Int) - (i:Nat)) 1) where
 mem:=by simp
 obj:=fun i h st b hb=>by
  have e:b=it:=by simpa using hb
  subst e
  exact ⟨_,st,fun v z=>by
   have z':Data.fields _=Data.cell v:=z
   cases z'⟩
 keep:=fun i h h' st k=>k it (by simp) _ st
 item:=by
  intro X hP hw hK hc i pins s σ H E I hf st hg
  subst hP hw hK
  obtain ⟨f0,f1,f2,f3,f4,f5⟩:=hf it (by simp)
  have W:=Walks.range (prog:=X.prog) (w:=X.w) (I.ok.hd hc) it lo 1 n
  refine W.item i s _ _ hg st fun v h' tk hv st' kk=>?_
  obtain ⟨t,rfl⟩:=hv
  have I1:Inv X pins σ H { s with heap:=h',toks:=tk }:=I.turned (fun b o hb e=>kk b o (by simpa using hb) e) f0 f1 f3 f4 f5
  refine ⟨_,rfl,go_of (s:={ s with heap:=h',toks:=tk }) (n:= "range_iterator") st' rfl rfl (by decide) ⟨.int (lo+i),H,I1,⟨t,?_⟩,⟨rfl,rfl⟩,st',fun b hb=>(hf b hb).1⟩⟩
  rw [Int.mul_one]
 done:=by
  intro X hP hw hK hc i pins s σ H E I hf st hg
  subst hP hw hK
  obtain ⟨f0,f1,f2,f3,f4,f5⟩:=hf it (by simp)
  exact wpAny_pyNext_range_end (I.ok.hd hc) st (by have:n≤i:=hg; omega) fun h' eb=>⟨rfl,I.turned (t':=s.toks) (fun b o hb e=>eb b o hb e) f0 f1 f3 f4 f5⟩
 self:=fun _ _ _ _ _ st h=>wpAny_pyIter_rangeiter st h
end L2
namespace L2
open PySem PySem.Spec PyProof.Rows
section
variable {X:Cx} {tg:Expr}
theorem range_it {pins:List (Addr×Obj)} {σ:St} {H:Hp} {s:Shared} {R:It→Hp→Prop} {E:Value→Shared→Prop} {lo hi:Int} {t u v:Tok} {tk:Nat} (I:Inv X pins σ H s) (h1:-(2 ^ 62)≤lo) (h2:lo<2 ^ 62) (h3:-(2 ^ 62)≤hi) (h4:hi<2 ^ 62)
  (q:R (Itr lo (hi - lo).toNat) H):wpAny (model X.prog X.w) X.A (pyIter (.ref s.heap.objs.size)) (PIE X pins σ tg R) E { s with heap:=s.heap.push { cls:=.type "range",data:=.fields #[.int lo t,.int hi u,.int 1 v] },toks:=tk }:=by
 refine wpAny_pyIter_range (IsRange.new ..) (small_one h1 h2 h3 h4) ?_
 have I1:Inv X pins σ H { s with heap:=s.heap.push { cls:=.type "range",data:=.fields #[.int lo t,.int hi u,.int 1 v] },toks:=tk }:=I.kept fun b o e=>Heap.get?_push_of_some _ e
 refine ⟨(s.heap.push { cls:=.type "range",data:=.fields #[.int lo t,.int hi u,.int 1 v] }).objs.size,[(s.heap.push { cls:=.type "range",data:=.fields #[.int lo t,.int hi u,.int 1 v] }).objs.size],_,_,H,rfl,
  I1.kept (t':=tk) fun b o e=>Heap.get?_push_of_some _ e,turn_range _ lo (hi - lo).toNat,?_,fun b hb=>?_,q⟩
 ·have e1:lo+((0:Nat):Int)*1=lo:=by simp
  have e2:(((hi - lo).toNat:Nat):Int) - ((0:Nat):Int)=Builtin.Range.rangeSize lo hi 1:=by rw [rangeSize_one]; split<;>omega
  show IsRangeIter _ _ (lo+((0:Nat):Int)*1) ((((hi - lo).toNat:Nat):Int) - ((0:Nat):Int)) 1
  rw [e1,e2]
  exact Heap.get?_push_size _ rfl
 ·have e:b=(s.heap.push { cls:=.type "range",data:=.fields #[.int lo t,.int hi u,.int 1 v] }).objs.size:=by simpa using hb
  subst e
  exact I1.fpOk (Nat.le_refl _) (I1.hok.fresh (Nat.le_refl _))
def iRng1 (ta:TA):TI:=fun σ H R=>ta σ H fun vs H1=>∃j:Int,vs=[.int j]∧-(2 ^ 62)≤j∧j<2 ^ 62∧R (Itr 0 j.toNat) H1
theorem pi_range1 {a:Expr} {ta:TA} {p pos:Pos} (hg:Gl X "range") (hm:X.mg "range" = none) (ha:PA X [a] ta) (hs:starEach [a] X.env=[(false,eval a X.env)]:=by rfl):PI X tg (.Call (.Name "range" p) [a] [] pos) (iRng1 ta):=by
 intro pins s σ H R I h
 refine Call_ (z0f I hg hm boot_range (PyProof.Rows.callWith_type1 (thn (ha pos pins s σ H _ I h) fun us s1 ⟨vs,H1,I1,r1,q1⟩=>?_) hs rfl))
 obtain ⟨j,e,q1,q2,q⟩:=q1
 subst e
 cases r1 with
 | cons r rr=>
  cases rr
  obtain ⟨t,rfl⟩:=r
  exact call_range_1 (range_it I1 (by omega) (by omega) q1 q2 (by simpa using q))
def tFor (wi:TI) (g:TG) (tb:TS):TS:=fun D σ H=>wi σ H fun J H1=>∃W:Nat→Nat→St→Hp→Prop,(∃m,W 0 m σ H1)∧∀i m σ H,W i m σ H→
 (J.stop i H∧D.nx σ H)∨(J.go i H∧∃N:St→Hp→Prop,(∀σ' H',N σ' H'→∃m',m'<m∧W (i+1) m' σ' H')∧∀x H',J.yld i H x H'→g x σ H' fun σ2 H2=>tb { D with nx:=N,ct:=N,bk:=D.nx } σ2 H2)
def pinsAt (fp:List Addr) (h:Heap):List (Addr×Obj):=fp.filterMap fun b=>(h.get? b).map fun o=>(b,o)
theorem q5m {fp:List Addr} {h:Heap} {b:Addr} {o:Obj} (hb:b∈fp) (e:h.get? b=some o):(b,o)∈pinsAt fp h:=List.mem_filterMap.mpr ⟨b,hb,by rw [e]; rfl⟩
theorem of_pinsAt {fp:List Addr} {h:Heap} {p:Addr×Obj} (hp:p∈pinsAt fp h):p.1∈fp∧h.get? p.1=some p.2:=by
 obtain ⟨b,hb,e⟩:=List.mem_filterMap.mp hp
 cases q:h.get? b with
 | none=>rw [q] at e; cases e
 | some o=>
  rw [q] at e
  have e':(b,o)=p:=Option.some.inj e
  subst e'
  exact ⟨hb,q⟩
theorem Inv.pinned {pins:List (Addr×Obj)} {σ:St} {H:Hp} {s:Shared} {fp:List Addr} (I:Inv X pins σ H s) (hf:∀b∈fp,FpOk X pins H b) (ho:∀b∈fp,∃o,s.heap.get? b=some o∧∀v,o.data≠.cell v):Inv X (pins++pinsAt fp s.heap) σ H s:=
 I.pins_of fun p hp=>(List.mem_append.mp hp).elim (fun z=>I.pin p (List.mem_append_right _ z)) fun z=>by
  obtain ⟨hb,e⟩:=of_pinsAt z
  obtain ⟨f0,f1,f2,_⟩:=hf p.1 hb
  obtain ⟨o,e',d⟩:=ho p.1 hb
  rw [e] at e'; cases e'
  exact ⟨e,f0,f1,f2,d⟩
theorem Inv.unpinned {pins pl:List (Addr×Obj)} {σ:St} {H:Hp} {s:Shared} (I:Inv X (pins++pl) σ H s):Inv X pins σ H s:=I.pins_of fun p hp=>I.pin p (List.mem_append_right _ (List.mem_append_left _ hp))
theorem ps_for {iter:Expr} {body:List Stmt} {wi:TI} {g:TG} {tb:TS} {pos:Pos} (hp:PassesOwn (model X.prog X.w) X.A X.env X.xe) (hc:X.calm=true) (hi:PI X tg iter wi) (hg:PG X tg g) (hb:PSs X body tb)
  (hs:∀x,foldedSetIterable iter X.env x=pure x:=by intro _; rfl):PS X (.For tg iter body [] pos) (tFor wi g tb):=by
 intro pins s σ H D I h
 refine wpAny_For (thn (hi pins s σ H _ I h) fun v s1 h1=>thn h1 fun itv s2 h2=>?_) hs
 obtain ⟨it,fp,tn,J,H2,e,I2,T,st2,f2,W,⟨m0,w0⟩,turn⟩:=h2
 subst e
 have stat:∀{H':Hp},(∀b∈fp,H' b=none)→∀b∈fp,FpOk X pins H' b:=fun hn b hb=>⟨hn b hb,(f2 b hb).2⟩
 refine codeAny_forLoop_any (fun n s'=>∃i σ' H',Inv X pins σ' H' s'∧tn i s'.heap∧(∀b∈fp,H' b=none)∧W i n σ' H') ?_ m0 ⟨0,σ,H2,I2,st2,fun b hb=>(f2 b hb).1,w0⟩
 rintro n s3 ⟨i,σ3,H3,I3,st3,fr3,w3⟩
 rcases turn i n σ3 H3 w3 with ⟨stop,qn⟩ | ⟨go,N,hN,step⟩
 ·refine wpAny_passesOwn hp (thn (T.done X rfl rfl rfl hc i pins s3 σ3 H3 X.xe I3 (stat fr3) st3 stop) fun r s4 hh1=>?_)
  obtain ⟨hr,I4⟩:=hh1
  subst hr
  exact wpAny_execs_nil ⟨σ3,H3,I4,qn⟩
 ·refine wpAny_passesOwn hp (thn (T.item X rfl rfl rfl hc i pins s3 σ3 H3 X.xe I3 (stat fr3) st3 go) fun r s4 hh2=>?_)
  obtain ⟨u,hr,h4⟩:=hh2
  subst hr
  refine wpAny_passesOwn hp (thn h4 fun _ s5 hh3=>?_)
  obtain ⟨x,H5,I5,r5,y5,st5,fr5⟩:=hh3
  have I5':=I5.pinned (stat fr5) (T.obj _ _ st5)
  refine wpAny_passesOwn hp (thn (hg _ s5 σ3 H5 x u _ I5' r5 (step x H5 y5)) fun _ s6 hh4=>?_)
  obtain ⟨σ6,H6,I6,q6⟩:=hh4
  refine wpAny_passesOwn hp (thn (hb _ s6 σ6 H6 _ I6 q6) fun f s7 q7=>?_)
  have again:∀{σ7:St} {H7:Hp},Inv X (pins++pinsAt fp s5.heap) σ7 H7 s7→N σ7 H7→∃m,m<n∧∃i σ' H',Inv X pins σ' H' s7∧tn i s7.heap∧(∀b∈fp,H' b=none)∧W i m σ' H':=fun {σ7 H7} I7 n7=>by
   obtain ⟨m',hm,w7⟩:=hN σ7 H7 n7
   refine ⟨m',hm,i+1,σ7,H7,I7.unpinned,T.keep _ _ _ st5 fun b hb o e=>(I7.pin (b,o) (List.mem_append_right _ (List.mem_append_right _ (q5m hb e)))).1,fun b hb=>?_,w7⟩
   obtain ⟨o,e,d⟩:=T.obj _ _ st5 b hb
   exact (I7.pin (b,o) (List.mem_append_right _ (List.mem_append_right _ (q5m hb e)))).2.1
  cases f with
  | next=>obtain ⟨σ7,H7,I7,n7⟩:=q7; exact again I7 n7
  | cont=>obtain ⟨σ7,H7,I7,n7⟩:=q7; exact again I7 n7
  | brk=>obtain ⟨σ7,H7,I7,q7⟩:=q7; exact ⟨σ7,H7,I7.unpinned,q7⟩
  | ret v=>obtain ⟨x7,σ7,H7,I7,r7,q7⟩:=q7; exact ⟨x7,σ7,H7,I7.unpinned,r7,q7⟩
end
end L2
namespace L2
open PySem PySem.Spec PyProof.Rows
abbrev R2:=V→V→Hp→VK→Prop
def OpR (X:Cx) (f:Value→Value→Sem Value) (r:R2):Prop:=
 ∀(pins:List (Addr×Obj)) (s:Shared) (σ:St) (H:Hp) (x y:V) (v u:Value) (Q:VK),Inv X pins σ H s→RelV x v→RelV y u→r x y H Q→
  wpAny (model X.prog X.w) X.A (f v u) (EP X pins σ Q) X.xe s
def UnR (X:Cx) (f:Value→Sem Value) (r:V→Hp→VK→Prop):Prop:=
 ∀(pins:List (Addr×Obj)) (s:Shared) (σ:St) (H:Hp) (x:V) (v:Value) (Q:VK),Inv X pins σ H s→RelV x v→r x H Q→
  wpAny (model X.prog X.w) X.A (f v) (EP X pins σ Q) X.xe s
def q8k (X:Cx) (f:Value) (r:List V→Hp→VK→Prop):Prop:=
 ∀(pins:List (Addr×Obj)) (s:Shared) (σ:St) (H:Hp) (xs:List V) (us:List Value) (Q:VK),Inv X pins σ H s→Vals xs us→r xs H Q→
  wpAny (model X.prog X.w) X.A (call f us) (EP X pins σ Q) X.xe s
def TruR (X:Cx) (r:V→Hp→(Bool→Hp→Prop)→Prop):Prop:=
 ∀(pins:List (Addr×Obj)) (s:Shared) (σ:St) (H:Hp) (x:V) (v:Value) (Q:Bool→Hp→Prop),Inv X pins σ H s→RelV x v→r x H Q→
  wpAny (model X.prog X.w) X.A (truthy v) (TP X pins σ Q) X.xe s
def tOp (r:R2) (ta tb:TE):TE:=fun σ H Q=>ta σ H fun x H1=>tb σ H1 fun y H2=>r x y H2 Q
def tUn (r:V→Hp→VK→Prop) (ta:TE):TE:=fun σ H Q=>ta σ H fun x H1=>r x H1 Q
def rI (C:Int→Int→Prop) (g:Int→Int→V):R2:=fun x y H Q=>∃i j,x=.int i∧y=.int j∧C i j∧Q (g i j) H
def rI0 (g:Int→Int→V):R2:=fun x y H Q=>∃i j,x=.int i∧y=.int j∧Q (g i j) H
def rU (g:Int→V):V→Hp→VK→Prop:=fun x H Q=>∃i,x=.int i∧Q (g i) H
section
variable {X:Cx} {a b c:Expr} {ta tb tc:TE} {pos:Pos}
theorem binT (ha:PE X a ta) (hb:PE X b tb) {pins:List (Addr×Obj)} {s:Shared} {σ:St} {H:Hp} {R:V→V→Hp→Prop} (I:Inv X pins σ H s)
  (h:ta σ H fun x H1=>tb σ H1 fun y H2=>R x y H2) {Q:Value→Shared→Prop} {f:Value→Value→Sem Value}
  (hf:∀v u s2 x y H2,Inv X pins σ H2 s2→RelV x v→RelV y u→R x y H2→wpAny (model X.prog X.w) X.A (f v u) Q X.xe s2) :
  wpAny (model X.prog X.w) X.A (eval a X.env) (fun v s₁=>wpAny (model X.prog X.w) X.A (eval b X.env) (fun u s₂=>wpAny (model X.prog X.w) X.A (f v u) Q X.xe s₂) X.xe s₁) X.xe s:=by
 refine thn (ha pins s σ H _ I h) fun v s1 hh1=>?_
 obtain ⟨x,H1,I1,r1,q1⟩:=hh1
 refine thn (hb pins s1 σ H1 _ I1 q1) fun u s2 hh2=>?_
 obtain ⟨y,H2,I2,r2,q2⟩:=hh2
 exact hf v u s2 x y H2 I2 r1 r2 q2
theorem pe_op {op:Operator} {r:R2} (ho:OpR X (binaryOp op) r) (ha:PE X a ta) (hb:PE X b tb):PE X (.BinOp a op b pos) (tOp r ta tb):=by
 intro pins s σ H Q I h
 exact wpAny_BinOp (binT ha hb I h fun v u s2 x y H2 I2 rx ry q=>ho pins s2 σ H2 x y v u Q I2 rx ry q)
theorem pe_un {op:UnaryOp} {r:V→Hp→VK→Prop} (ho:UnR X (unaryOp op) r) (ha:PE X a ta):PE X (.UnaryOp op a pos) (tUn r ta):=by
 intro pins s σ H Q I h
 exact UnaryOp_ (thn (ha pins s σ H _ I h) fun v s1 hh1=>by obtain ⟨x,H1,I1,r1,q1⟩:=hh1; exact (ho pins s1 σ H1 x v Q I1 r1 q1))
theorem opI {f:Value→Value→Sem Value} {C:Int→Int→Prop} {g:Int→Int→Int}
  (rule:∀(i j:Int) (t u:Tok) (s:Shared) (Q:Value→Shared→Prop) (E:Value→Shared→Prop),C i j→Q (.int (g i j) s.toks) { s with toks:=s.toks+1 }→wpAny (model X.prog X.w) X.A (f (.int i t) (.int j u)) Q E s) :
  OpR X f (rI C fun i j=>.int (g i j)):=by
 intro pins s σ H x y v u Q I rx ry h
 obtain ⟨i,j,rfl,rfl,hc,q⟩:=h
 obtain ⟨t,rfl⟩:=rx
 obtain ⟨t',rfl⟩:=ry
 exact rule i j t t' s _ _ hc ⟨.int (g i j),H,I.tok _,⟨_,rfl⟩,q⟩
theorem opI0 {f:Value→Value→Sem Value} {g:Int→Int→Int}
  (rule:∀(i j:Int) (t u:Tok) (s:Shared) (Q:Value→Shared→Prop) (E:Value→Shared→Prop),Q (.int (g i j) s.toks) { s with toks:=s.toks+1 }→wpAny (model X.prog X.w) X.A (f (.int i t) (.int j u)) Q E s) :
  OpR X f (rI0 fun i j=>.int (g i j)):=by
 intro pins s σ H x y v u Q I rx ry h
 obtain ⟨i,j,rfl,rfl,q⟩:=h
 obtain ⟨t,rfl⟩:=rx
 obtain ⟨t',rfl⟩:=ry
 exact rule i j t t' s _ _ ⟨.int (g i j),H,I.tok _,⟨_,rfl⟩,q⟩
theorem opB0 {f:Value→Value→Sem Value} {g:Int→Int→Bool}
  (rule:∀(i j:Int) (t u:Tok) (s:Shared) (Q:Value→Shared→Prop) (E:Value→Shared→Prop),Q (.bool (g i j)) s→wpAny (model X.prog X.w) X.A (f (.int i t) (.int j u)) Q E s) :
  OpR X f (rI0 fun i j=>.bl (g i j)):=by
 intro pins s σ H x y v u Q I rx ry h
 obtain ⟨i,j,rfl,rfl,q⟩:=h
 obtain ⟨t,rfl⟩:=rx
 obtain ⟨t',rfl⟩:=ry
 exact rule i j t t' s _ _ ⟨.bl (g i j),H,I,rfl,q⟩
def CPow (i j:Int):Prop:=0≤j∧j≤1000000∧i.natAbs<2 ^ 64
def CMul (i j:Int):Prop:=(-(2 ^ 64)<i∧i<2 ^ 64)∨(-(2 ^ 64)<j∧j<2 ^ 64)
theorem CMul.ok {i j:Int} (h:CMul i j):IntMulOk i j:=by
 rcases h with ⟨h1,h2⟩ | ⟨h1,h2⟩
 ·exact .of_left (intBits_le_64 h1 h2)
 ·exact .of_right (intBits_le_64 h1 h2)
theorem op_add:OpR X (binaryOp .Add) (rI0 fun i j=>.int (i+j)):=opI0 fun _ _ _ _ _ _ _ q=>add_int q
theorem op_sub:OpR X (binaryOp .Sub) (rI0 fun i j=>.int (i - j)):=opI0 fun _ _ _ _ _ _ _ q=>sub_int q
theorem op_mul:OpR X (binaryOp .Mult) (rI CMul fun i j=>.int (i*j)):=opI fun _ _ _ _ _ _ _ hc q=>mul_int q hc.ok
theorem op_mod:OpR X (binaryOp .Mod) (rI (fun _ j=>0<j) fun i j=>.int (i % j)):=opI fun i j _ _ _ _ _ hc q=>by
 have h1:(0:Int)<j:=hc
 exact mod_int' (by omega) (by rw [Int.fmod_eq_emod_of_nonneg i (by omega)]; exact q)
theorem op_pow:OpR X (binaryOp .Pow) (rI CPow fun i j=>.int (i ^ j.toNat)):=opI fun _ _ _ _ _ _ _ hc q=>pow_int_small hc.1 hc.2.1 hc.2.2 q
theorem unI {f:Value→Sem Value} {g:Int→Int}
  (rule:∀(i:Int) (t:Tok) (s:Shared) (Q:Value→Shared→Prop) (E:Value→Shared→Prop),Q (.int (g i) s.toks) { s with toks:=s.toks+1 }→wpAny (model X.prog X.w) X.A (f (.int i t)) Q E s) :
  UnR X f (rU fun i=>.int (g i)):=by
 intro pins s σ H x v Q I rx h
 obtain ⟨i,rfl,q⟩:=h
 obtain ⟨t,rfl⟩:=rx
 exact rule i t s _ _ ⟨.int (g i),H,I.tok _,⟨_,rfl⟩,q⟩
theorem un_neg:UnR X (unaryOp .USub) (rU fun i=>.int (-i)):=unI fun _ _ _ _ _ q=>neg_int q
end
section
variable {X:Cx} {a b c:Expr} {ta tb tc:TE} {pos:Pos}
theorem fin_bl {pins:List (Addr×Obj)} {σ:St} {H:Hp} {s:Shared} {Q:VK} {k k':Bool} (I:Inv X pins σ H s) (q:Q (.bl k) H) (e:k=k'):EP X pins σ Q (.bool k') s:=by
 subst e
 exact ⟨.bl k,H,I,rfl,q⟩
theorem op_lt:OpR X (compareOp .Lt) (rI0 fun i j=>.bl (decide (i<j))):=opB0 fun _ _ _ _ _ _ _ q=>lt_int q
theorem op_gt:OpR X (compareOp .Gt) (rI0 fun i j=>.bl (decide (j<i))):=opB0 fun _ _ _ _ _ _ _ q=>gt_int q
theorem op_ge:OpR X (compareOp .GtE) (rI0 fun i j=>.bl (decide (j≤i))):=opB0 fun _ _ _ _ _ _ _ q=>ge_int q
theorem op_in_str:OpR X (compareOp .In) (fun x y H Q=>∃i j,x=.str i∧y=.str j∧Q (.bl (!(Builtin.Str.occurrences j i 0 j.length 1).isEmpty)) H):=by
 intro pins s σ H x y v u Q I rx ry h
 obtain ⟨i,j,rfl,rfl,q⟩:=h
 obtain ⟨t,rfl⟩:=rx
 obtain ⟨t',rfl⟩:=ry
 exact in_str (fin_bl I q rfl)
theorem op_isN : OpR X (compareOp .Is) (fun x y H Q => y = .non ∧ Q (.bl (decide (x = .non))) H) := by
 intro pins s σ H x y v u Q I rx ry h
 obtain ⟨rfl, q⟩ := h
 cases ry
 refine is_none_gen (fin_bl I q ?_)
 cases x <;> first
  | (cases rx; rfl)
  | (obtain ⟨t, rfl⟩ := rx; rfl)
theorem q0u (b:Expr) {op:CmpOp} (h:op≠.In:=by decide) (h2:op≠.NotIn:=by decide):behindInMarks op b=false:=by
 have e1:(op == CmpOp.In)=false:=by cases op<;>first | rfl | exact absurd rfl h
 have e2:(op == CmpOp.NotIn)=false:=by cases op<;>first | rfl | exact absurd rfl h2
 cases b<;>simp [behindInMarks,e1,e2]
theorem pe_cmpR {op:CmpOp} {r:R2} (ho:OpR X (compareOp op) r) (ha:PE X a ta) (hb:PE X b tb) (hm:behindInMarks op b=false):PE X (.Compare a [op] [b] pos) (tOp r ta tb):=by
 intro pins s σ H Q I h
 exact wpAny_Compare1 (binT ha hb I h fun v u s2 x y H2 I2 rx ry q=>ho pins s2 σ H2 x y v u Q I2 rx ry q) hm
def tTest (t:TE):TT:=fun σ H Q=>t σ H fun x H'=>∃k,x=.bl k∧Q k H'
theorem pt_cmpR {op:CmpOp} {r:R2} (ho:OpR X (compareOp op) r) (ha:PE X a ta) (hb:PE X b tb) (hm:behindInMarks op b=false):PT X (.Compare a [op] [b] pos) (tTest (tOp r ta tb)):=by
 intro pins s σ H Q I h
 refine wpAny_isTrue_Compare1 (thn (ha pins s σ H _ I h) fun v s1 ⟨x,H1,I1,r1,q1⟩=>thn (hb pins s1 σ H1 _ I1 q1) fun u s2 ⟨y,H2,I2,r2,q2⟩=>
  thn (ho pins s2 σ H2 x y v u _ I2 r1 r2 q2) fun c s3 ⟨z,H3,I3,r3,k,e,q3⟩=>?_) hm
 subst e
 cases r3
 exact wpAny_truthy_bool ⟨H3,I3,q3⟩
def TruV (K:PySem.W.Frag) (x:V) (H:Hp) (k:Bool):Prop:=
 match x with
 | .non=>k=false
 | .bl b=>k=b
 | .int i=>k=(i != 0)
 | .str y=>y.length≤sizeLine∧k=((y.length:Int) != 0)
 | .byt y=>y.size≤sizeLine∧k=((y.size:Int) != 0)
 | .ref p=>(∃xs,SqL K H p xs∧k=!xs.isEmpty)∨(∃xs,SqT K H p xs∧k=!xs.isEmpty)∨∃kvs,H p=some (.dK kvs)∧k=!kvs.isEmpty
 | _=>False
theorem isEmpty_kv {κ:Type} {kvs:List (κ×V)} {vs:List (κ×Value)} (r:KV kvs vs):(!vs.isEmpty)=!kvs.isEmpty:=by
 cases r<;>rfl
theorem isEmpty_of {xs:List V} {its:List Value} (r:Vals xs its):(!its.toArray.isEmpty)=!xs.isEmpty:=by
 cases r<;>simp
theorem z1q:(sizeLine:Nat)<2 ^ 63:=by rw [sizeLine_eq]; decide
theorem tru_ok:TruR X (fun x H Q=>∃k,TruV X.K x H k∧Q k H):=by
 intro pins s σ H x v Q I rx h
 obtain ⟨k,e,q⟩:=h
 have hl:=z1q
 have hs:sizeLine=16777216:=sizeLine_eq
 cases x with
 | non=>
  cases rx
  have e':k=false:=e
  subst e'
  exact truthy_none ⟨H,I,q⟩
 | bl b=>
  cases rx
  have e':k=b:=e
  subst e'
  exact wpAny_truthy_bool ⟨H,I,q⟩
 | int i=>
  obtain ⟨t,rfl⟩:=rx
  have e':k=(i != 0):=e
  subst e'
  exact PySem.P.truthy_int ⟨H,I,q⟩
 | str y=>
  obtain ⟨t,rfl⟩:=rx
  obtain ⟨hy,e'⟩:y.length≤sizeLine∧k=((y.length:Int) != 0):=e
  subst e'
  exact PySem.P.truthy_str (by omega) ⟨H,I.tok _,q⟩
 | byt y=>
  obtain ⟨t,rfl⟩:=rx
  obtain ⟨hy,e'⟩:y.size≤sizeLine∧k=((y.size:Int) != 0):=e
  subst e'
  exact PySem.W.truthy_bytes (by omega) ⟨H,I.tok _,q⟩
 | ref p=>
  cases rx
  have e':(∃xs,SqL X.K H p xs∧k=!xs.isEmpty)∨(∃xs,SqT X.K H p xs∧k=!xs.isEmpty)∨∃kvs,H p=some (.dK kvs)∧k=!kvs.isEmpty:=e
  rcases e' with ⟨xs,hx,e'⟩ | ⟨xs,hx,e'⟩ | ⟨kvs,hx,e'⟩
  ·subst e'
   obtain ⟨its,r,pl,hz⟩:=I.list hx
   have hlen:=r.length
   exact wpAny_truthy_list pl.isList (by simp only [List.size_toArray]; omega) ⟨H,I.tok _,by rw [isEmpty_of r]; exact q⟩
  ·subst e'
   obtain ⟨its,r,pl,hz⟩:=I.tuple hx
   have hlen:=r.length
   exact truthy_tuple pl (by simp only [List.size_toArray]; omega) ⟨H,I.tok _,by rw [isEmpty_of r]; exact q⟩
  ·subst e'
   obtain ⟨hz,hS,vs,r,m⟩:kvs.length≤sizeLine∧(p == sysModules)=false∧∃vs,KV kvs vs∧s.heap.DictOf (q2p X.prog X.w) p vs:=I.hok p _ hx
   have hlen:kvs.length=vs.length:=Paired.length r
   exact wpAny_truthy_dict hS m (by omega) ⟨H,I.tok _,by rw [isEmpty_kv r]; exact q⟩
 | _=>exact (show False from e).elim
theorem pt_truth (ha:PE X a ta) (he:∀whole,isTrue a X.env whole=(do let v ←whole; standAt a.pos; holding [v] (truthy v))) :
  PT X a (fun σ H Q=>ta σ H fun x H'=>∃k,TruV X.K x H' k∧Q k H'):=by
 intro pins s σ H Q I h
 exact isTrue_plain (thn (ha pins s σ H _ I h) fun v s1 hh1=>by obtain ⟨x,H1,I1,r1,q1⟩:=hh1; exact (tru_ok pins s1 σ H1 x v Q I1 r1 q1)) (he _)
theorem op_add_str:OpR X (binaryOp .Add) (fun x y H Q=>∃i j,x=.str i∧y=.str j∧i.length+j.length≤sizeLine∧Q (.str (i++j)) H):=by
 intro pins s σ H x y v u Q I rx ry h
 obtain ⟨i,j,rfl,rfl,hz,q⟩:=h
 obtain ⟨t,rfl⟩:=rx
 obtain ⟨t',rfl⟩:=ry
 exact add_str (fun t' tk=>⟨.str (i++j),H,I.tok _,⟨_,rfl⟩,q⟩) hz
theorem vals1 {x:V} {us:List Value} (r:Vals [x] us):∃u,us=[u]∧RelV x u:=by
 cases r with
 | cons r1 r2=>cases r2; exact ⟨_,rfl,r1⟩
theorem vals2 {x y:V} {us:List Value} (r:Vals [x,y] us):∃u w',us=[u,w']∧RelV x u∧RelV y w':=by
 cases r with
 | cons r1 r2=>
  cases r2 with
  | cons r3 r4=>cases r4; exact ⟨_,_,rfl,r1,r3⟩
end
end L2
namespace L2
open PySem PySem.Spec PyProof.Rows
structure ObjM (h:Heap) (x dx C:Addr) (mA:Str→Option Value):Prop where
 obj:h.get? x=some (PySem.W.instObj C dx)
 ns:h.Ns1 dx mA
 ne:dx≠x
theorem lookIn_ns {h:Heap} {dx:Addr} {mA:Str→Option Value} (n:h.Ns1 dx mA):∃od,h.get? dx=some od∧∀name,PySem.W.lookIn name od=some (mA name):=by
 obtain ⟨o,es,ep,ho,hd,hk,_,hm⟩:=n
 refine ⟨o,ho,fun name=>?_⟩
 have e:=hm name
 unfold nsFind findBy at e
 rw [←Array.find?_toList] at e
 unfold PySem.W.lookIn
 rw [hd]
 dsimp only
 split
 ·rename_i y q
  rw [q] at e
  exact congrArg some e
 ·rename_i q
  rw [q] at e
  have a:es.toList.any (·.refKey)=false:=by
   rw [List.any_eq_false]
   intro y hy
   obtain ⟨z,t,hkey⟩:=hk y (Array.mem_toList_iff.mp hy)
   simp [DictEntry.refKey,hkey]
  have a':¬es.toList.any (·.refKey)=true:=by rw [a]; exact Bool.false_ne_true
  rw [if_neg a']
  exact congrArg some e
theorem ObjM.look {h:Heap} {x dx C:Addr} {mA:Str→Option Value} (I:ObjM h x dx C mA):∃od,PySem.W.InstAt h x (PySem.W.instObj C dx) C (some od)∧∀name,PySem.W.lookIn name od=some (mA name):=
 let ⟨od,ho,hl⟩:=lookIn_ns I.ns
 ⟨od,⟨I.obj,rfl,rfl,ho⟩,hl⟩
section
variable {prog:Program} {w:World} {A:Around} {E:Value→Shared→Prop} {s:Shared} {K:PySem.W.Frag} {x dx C f:Addr} {mA:Str→Option Value} {name:Str} {v:Value}
end
theorem RelO.some_of {v:V} {o:Option Value} (r:RelO (some v) o):∃u,o=some u∧RelV v u:=by
 cases o with
 | none=>exact (show False from r).elim
 | some u=>exact ⟨u,rfl,r⟩
section
variable {P:Program} {w:World} {H H':Hp} {h h':Heap} {a C dx:Addr} {fs fs':List (Str×V)}
theorem ins_get (hok:HOk P w H h) (e:H a=some (.ins C dx fs)):∃mA,ObjM h a dx C mA∧(∀f,RelO (fs.lookup f) (mA f))∧PySem.Within mA (fs.map (·.1))∧fs.length≤1000∧H dx=some (.own a):=by
 obtain ⟨d,z,ne,ob,mA,n,r,q⟩:=(show q3s P w H h a (.ins C dx fs) from hok a _ e)
 exact ⟨mA,⟨ob,n,ne⟩,r,q,z,d⟩
end
structure Cls (K:PySem.W.Frag) (C:Addr):Prop where
 pg:PySem.W.plainGet K C Str.empty=true
 hd:PySem.W.hasDictIn K C=true
 po:PySem.W.plainOver K C=true
 sa:PySem.W.findIn K (.ref C) "__setattr__" = some (some (.builtin "object.__setattr__"))
theorem Cls.get {K:PySem.W.Frag} {C:Addr} (c:Cls K C) (f:Str):PySem.W.plainGet K C f=true:=c.pg
structure Con (K:PySem.W.Frag) (C:Addr) (f:Str) (v:V) (u:Value):Prop where
 at_:PySem.W.findIn K (.ref C) f=some (some u)
 rel:RelV v u
 get:PySem.W.specialIn K u "__get__" = some none
 cp:PySem.W.copiedNames.contains f=false
structure Meth (K:PySem.W.Frag) (C:Addr) (m:Str) (f:Addr):Prop where
 at_:PySem.W.findIn K (.ref C) m=some (some (.ref f))
 fn:PySem.W.isFn K (.ref f)=true
 kp:PySem.W.keepIn K (.ref f)=true
section
variable {X:Cx} {pins:List (Addr×Obj)} {σ:St} {H:Hp} {s:Shared} {a C dx:Addr} {fs:List (Str×V)} {f:Str} {v:V} {A:Around} {E:Value→Shared→Prop}
end
section
variable {X:Cx} {o e value:Expr} {f:Str} {pos pos' tpos:Pos} {ta tv:TE}
end
section
variable {X:Cx} {pins:List (Addr×Obj)} {σ:St} {H:Hp} {s:Shared} {A:Around} {E:Value→Shared→Prop} {Q:Value→Shared→Prop} {c:Value} {b:Bool}
inductive TyOf (K:PySem.W.Frag) (H:Hp):V→Value→Prop where
 | non:TyOf K H .non (.type "NoneType")
 | bl (x:Bool):TyOf K H (.bl x) (.type "bool")
 | int (i:Int):TyOf K H (.int i) (.type "int")
 | str (x:Str):TyOf K H (.str x) (.type "str")
 | flt (x:UInt64):TyOf K H (.flt x) (.type "float")
 | lst {a:Addr} {xs:List V} (e:H a=some (.lst xs)):TyOf K H (.ref a) (.type "list")
 | frz {a:Addr} {o:Obj} {xs:List V} (e:H a=some (.frz o (.lst xs))):TyOf K H (.ref a) (.type "list")
 | tup {a:Addr} {xs:List V} (e:H a=some (.tup xs)):TyOf K H (.ref a) (.type "tuple")
 | dK {a:Addr} {kvs:List (Key×V)} (e:H a=some (.dK kvs)):TyOf K H (.ref a) (.type "dict")
 | dT {a:Addr} {kvs:List (List Key×V)} (e:H a=some (.dT kvs)):TyOf K H (.ref a) (.type "dict")
 | ins {a C dx:Addr} {fs:List (Str×V)} (e:H a=some (.ins C dx fs)) (cl:Cls K C) (ha:PySem.W.findIn K (.ref C) "__class__" = some (some (.builtin "object.__class__")))
   (hn:PySem.W.specialIn K (.builtin "object.__class__") "__get__" = some (some (.builtin "getset_descriptor.__get__"))) (htk:PySem.W.takesIn K (.builtin "object.__class__")=some true)
   (hm:PySem.W.mroIn K C (.type "object")=some true):TyOf K H (.ref a) (.ref C)
theorem isinst_ok {x:V} {u t:Value} (I:Inv X pins σ H s) (rx:RelV x u) (ty:TyOf X.K H x t) (e:PySem.W.kitOne X.K t c=some b) (h:∀tk,Q (.bool b) { s with toks:=tk }) :
  wpAny (model X.prog X.w) A (call (.builtin "isinstance") [u,c]) Q E s:=by
 cases ty with
 | non=>cases (show u=Value.none from rx); exact PySem.W.kia_one PySem.W.kitx_none I.kIn True.intro e (fun z=>nomatch z) h
 | bl y=>cases (show u=Value.bool y from rx); exact PySem.W.kia_one PySem.W.kitx_bool I.kIn True.intro e (fun z=>nomatch z) h
 | int i=>obtain ⟨t,q⟩:=(show ∃t,u=Value.int i t from rx); cases q; exact PySem.W.kia_one PySem.W.kitx_int I.kIn True.intro e (fun z=>nomatch z) h
 | str y=>obtain ⟨t,q⟩:=(show ∃t,u=Value.str y t from rx); cases q; exact PySem.W.kia_one PySem.W.kitx_str I.kIn True.intro e (fun z=>nomatch z) h
 | flt y=>obtain ⟨t,q⟩:=(show ∃t,u=Value.float y t from rx); cases q; exact PySem.W.kia_one PySem.W.kitx_float I.kIn True.intro e (fun z=>nomatch z) h
 | @lst a xs ea=>
  cases (show u=Value.ref a from rx)
  obtain ⟨_,_,n,_,h1⟩:=(show q3s X.prog X.w H s.heap a (.lst xs) from I.hok a _ ea)
  exact PySem.W.kia_one PySem.W.kitx_list I.kIn ⟨_,h1,rfl⟩ e (fun z=>nomatch z) h
 | @frz a ob xs ea=>
  cases (show u=Value.ref a from rx)
  obtain ⟨_,_,_,n,_,h1⟩:=(show q3s X.prog X.w H s.heap a (.frz ob (.lst xs)) from I.hok a _ ea)
  exact PySem.W.kia_one PySem.W.kitx_list I.kIn ⟨_,h1,rfl⟩ e (fun z=>nomatch z) h
 | @tup a xs ea=>
  cases (show u=Value.ref a from rx)
  obtain ⟨_,_,_,p⟩:=(show q3s X.prog X.w H s.heap a (.tup xs) from I.hok a _ ea)
  obtain ⟨o,h1,h2,_⟩:=p
  exact PySem.W.kia_one PySem.W.kitx_tuple I.kIn ⟨o,h1,h2⟩ e (fun z=>nomatch z) h
 | @dK a kvs ea=>
  cases (show u=Value.ref a from rx)
  obtain ⟨_,_,vs,_,p⟩:=(show q3s X.prog X.w H s.heap a (.dK kvs) from I.hok a _ ea)
  obtain ⟨o,es,ep,h1,h2,_⟩:=p
  exact PySem.W.kia_one PySem.W.kitx_dict I.kIn ⟨o,h1,h2.1⟩ e (fun z=>nomatch z) h
 | @dT a kvs ea=>
  cases (show u=Value.ref a from rx)
  obtain ⟨_,_,xs,_,o,es,ep,h1,h2,_⟩:=(show q3s X.prog X.w H s.heap a (.dT kvs) from I.hok a _ ea)
  exact PySem.W.kia_one PySem.W.kitx_dict I.kIn ⟨o,h1,h2.1⟩ e (fun z=>nomatch z) h
 | @ins a C dx fs ea cl ha hn htk hm=>
  cases (show u=Value.ref a from rx)
  obtain ⟨mA,O,_⟩:=ins_get I.hok ea
  obtain ⟨od,J,_⟩:=O.look
  exact PySem.W.kia_one (PySem.W.kitx_own (cl.get _) cl.hd ha hn htk hm) I.kIn J e (fun z=>nomatch z) h
end
end L2
namespace L2
open PySem PySem.Spec PyProof.Rows
structure Room (k:Nat) (A:Around):Prop where
 hd:A.handled=none
 dp:A.depth+3*k+5<recursionLimit
 un:A.units+16*k+200<cLine
theorem Room.mono {j k:Nat} {A:Around} (r:Room k A) (h:j≤k):Room j A:=⟨r.hd,by have:=r.dp; omega,by have:=r.un; omega⟩
theorem Room.deeper {k:Nat} {A:Around} (r:Room (k+1) A) (env:Env):Room k (A.deeper env):=
 ⟨r.hd,by have:=r.dp; show A.depth+1+3*k+5<_; omega,by have:=r.un; show A.units+3+16*k+200<_; omega⟩
theorem Room.depth {k:Nat} {A:Around} (r:Room k A):A.depth<recursionLimit:=by have:=r.dp; omega
def tNil:TA:=fun _ H Q=>Q [] H
def tCons (ta:TE) (tr:TA):TA:=fun σ H Q=>ta σ H fun x H1=>tr σ H1 fun xs H2=>Q (x::xs) H2
section
variable {X:Cx} {e:Expr} {es:List Expr} {te:TE} {t:TA} {pos:Pos}
theorem pa_nil:PA X [] tNil:=fun _ _ _ _ H Q I h=>Calls.spliced_nil ⟨[],H,I,.nil,h⟩
theorem pa_cons (ha:PE X e te) (hr:PA X es t) (hs:starEach (e::es) X.env=(false,eval e X.env)::starEach es X.env:=by rfl):PA X (e::es) (tCons te t):=by
 intro pos pins s σ H Q I h
 rw [hs]
 show wpAny _ _ (spliced ((false,eval e X.env)::backTo pos (starEach es X.env))) _ _ s
 refine Calls.spliced_cons (thn (ha pins s σ H _ I h) fun u s1 hh1=>?_)
 obtain ⟨x,H1,I1,r1,q1⟩:=hh1
 exact thn (hr pos pins s1 σ H1 _ I1 q1) fun us s2 hh2=>by obtain ⟨xs,H2,I2,r2,q2⟩:=hh2; exact (⟨x::xs,H2,I2,.cons r1 r2,q2⟩)
def tTup (t:TA):TE:=fun σ H Q=>t σ H fun xs H1=>xs.length≤sizeLine∧∀p,H1 p=none→Q (.ref p) (upd H1 p (.tup xs))
def tLst (t:TA):TE:=fun σ H Q=>t σ H fun xs H1=>xs.length≤sizeLine∧∀p,H1 p=none→Q (.ref p) (upd H1 p (.lst xs))
theorem pe_tup {x1} (h:PA X es t):PE X (.Tuple es x1 pos) (tTup t):=by
 intro pins s σ H Q I hq
 refine wpAny_Tuple_spliced (thn (h pos pins s σ H _ I hq) fun us s1 ⟨xs,H1,I1,r,z,q⟩=>⟨by rw [←r.length]; exact z,?_⟩)
 have hf:H1 s1.heap.objs.size=none:=I1.hok.fresh (Nat.le_refl _)
 refine ⟨.ref s1.heap.objs.size,upd H1 s1.heap.objs.size (.tup xs),I1.laid (t':=s1.toks) (fun b u e=>Heap.get?_push_of_some _ e) (Nat.le_refl _) ?_,rfl,q _ hf⟩
 exact ⟨z,us,r,⟨_,Heap.get?_push_size _ rfl,rfl,_,rfl⟩⟩
theorem pe_lst (h:PA X es t):PE X (.List es pos) (tLst t):=by
 intro pins s σ H Q I hq
 refine wpAny_List_spliced (thn (h pos pins s σ H _ I hq) fun us s1 ⟨xs,H1,I1,r,z,q⟩=>⟨by rw [←r.length]; exact z,?_⟩)
 have hf:H1 s1.heap.objs.size=none:=I1.hok.fresh (Nat.le_refl _)
 refine ⟨.ref s1.heap.objs.size,upd H1 s1.heap.objs.size (.lst xs),I1.laid (t':=s1.toks) (fun b u e=>Heap.get?_push_of_some _ e) (Nat.le_refl _) ?_,rfl,q _ hf⟩
 exact ⟨z,us,0,r,Heap.get?_push_size _ rfl⟩
end
abbrev Sp:=List V→Hp→VK→XK→Prop
abbrev CXT:=List Env→Hp→Shared→XK→Value→Shared→Prop
structure Env0 (P:Program) (w:World) (K:PySem.W.Frag) (mg:Str→Option Value) (base:Heap) (A:Around) (outer:List Env) (s:Shared) (H:Hp):Prop where
 frames:A.frames=some outer
 mod:Mod K mg base
 bs:∀b o,base.get? b=some o→s.heap.get? b=some o∧H b=none
 bsz:base.objs.size≤s.heap.objs.size
 funs:s.heap.FunFrames base outer
 frf:∀b∈frs outer,H b=none
 hok:HOk P w H s.heap
 bare:AllBare s.gens
def CE (outer:List Env) (P:Program) (w:World) (H:Hp) (s:Shared) (Q:VK) (u:Value) (s':Shared):Prop:=
 ∃v H',s'.os=s.os∧AllBare s'.gens∧Un (frs outer) [] H H' s.heap s'.heap∧HOk P w H' s'.heap∧RelV v u∧Q v H'
def CR (CX:CXT) (outer:List Env) (P:Program) (w:World) (H:Hp) (s:Shared) (Q:VK) (E:XK) (r:Result) (s':Shared):Prop:=
 match r with
 | .ok (.ret u)=>CE outer P w H s Q u s'
 | .ok _=>False
 | .error e=>CX outer H s E e s'
structure FnOk (P:Program) (w:World) (K:PySem.W.Frag) (mg:Str→Option Value) (base:Heap) (CX:CXT) (k:Nat) (f:Addr) (fd:FuncData) (ps:List Str) (sp:Sp):Prop where
 len:∀vs H Q E,sp vs H Q E→vs.length=ps.length
 run:∀(A:Around) (outer:List Env) (s:Shared) (H:Hp) (args:Args) (us:List Value) (vs:List V) (Q:VK) (E:XK),Room k A→Env0 P w K mg base A outer s H→BindsTo s fd args (ps.zip us)→Vals vs us→sp vs H Q E→
  codeAny (model P w) A (.call (.ref f) args) (CR CX outer P w H s Q E) s
theorem FnOk.mono {P:Program} {w:World} {K:PySem.W.Frag} {mg:Str→Option Value} {base:Heap} {CX:CXT} {j k:Nat} {f:Addr} {fd:FuncData} {ps:List Str} {sp:Sp} (F:FnOk P w K mg base CX j f fd ps sp) (h:j≤k) :
  FnOk P w K mg base CX k f fd ps sp:=⟨F.len,fun A outer s H args us vs Q E hr=>F.run A outer s H args us vs Q E (hr.mono h)⟩
section
variable {X:Cx} {pins:List (Addr×Obj)} {σ:St} {H:Hp} {s s':Shared}
theorem Inv.env0 (I:Inv X pins σ H s):Env0 X.prog X.w X.K X.mg X.base X.A X.stack s H:=
 ⟨I.ok.frames,I.ok.mod,I.bs,Nat.le_trans I.ok.bsz I.sz,I.stack,I.stkFree,I.hok,I.bare⟩
theorem Inv.after {Q:VK} {u:Value} (I:Inv X pins σ H s) (h:CE X.stack X.prog X.w H s Q u s'):EP X pins σ Q u s':=by
 obtain ⟨v,H',os,bare,un,hok,r,q⟩:=h
 obtain ⟨hh,g,d,t,os'⟩:=s'
 obtain rfl:os'=s.os:=os
 exact ⟨v,H',I.call (h':=hh) (g':=g) (d':=d) (t':=t) (ch:=[]) un hok bare (fun b z=>absurd z (by simp)),r,q⟩
end
def tCall (sp:Sp) (dvs:List V) (E:XK) (t:TA):TE:=fun σ H Q=>t σ H fun vs H1=>sp (vs++dvs) H1 Q E
def Binds (K:PySem.W.Frag) (fd:FuncData) (ps:List Str) (ds:List Value):Prop:=
 ∀(s:Shared) (us:List Value),K.In s.heap→(us++ds).length=ps.length→BindsTo s fd ⟨us,[]⟩ (ps.zip (us++ds))
theorem Binds.all {K:PySem.W.Frag} {fd:FuncData} {ps:List Str} (h:∀us:List Value,us.length=ps.length→bindArgs fd ⟨us,[]⟩=pure (ps.zip us)):Binds K fd ps []:=fun s us _ hl=>by
 rw [List.append_nil] at hl ⊢
 exact .of_eq (h us hl)
def q6o (CX:CXT) (X:Cx) (E:XK):Prop:=∀(pins:List (Addr×Obj)) (σ:St) (H:Hp) (s:Shared) (e:Value) (s':Shared),Inv X pins σ H s→CX X.stack H s E e s'→X.xe e s'
section
variable {X:Cx} {CX:CXT} {k:Nat} {f C:Addr} {fd:FuncData} {ps:List Str} {sp:Sp} {dvs:List V} {ds:List Value} {E:XK} {x m:Str} {p pos apos:Pos} {e o:Expr} {es:List Expr} {ta:TE} {t:TA}
theorem run_fn {pins:List (Addr×Obj)} {σ:St} {H:Hp} {s:Shared} {Q:VK} {us:List Value} {vs:List V} (F:FnOk X.prog X.w X.K X.mg X.base CX k f fd ps sp) (hr:Room k X.A) (hb:Binds X.K fd ps ds) (hd:Vals dvs ds) (hx:q6o CX X E)
  (I:Inv X pins σ H s) (r:Vals vs us) (h:sp (vs++dvs) H Q E):wpAny (model X.prog X.w) X.A (call (.ref f) us) (EP X pins σ Q) X.xe s:=by
 have r2:Vals (vs++dvs) (us++ds):=r.append hd
 have hl:(us++ds).length=ps.length:=by rw [←r2.length]; exact F.len _ _ _ _ h
 refine wpAny_call (codeAny_mono (F.run X.A X.stack s H ⟨us,[]⟩ (us++ds) (vs++dvs) Q E hr I.env0 (hb s us I.kIn hl) r2 h) fun r s' hq=>?_)
 cases r with
 | error e=>exact hx pins σ H s e s' I hq
 | ok fl=>
  cases fl with
  | ret u=>exact I.after hq
  | next=>exact False.elim hq
  | brk=>exact False.elim hq
  | cont=>exact False.elim hq
theorem pe_call (F:FnOk X.prog X.w X.K X.mg X.base CX k f fd ps sp) (hr:Room k X.A) (hg:Gl X x) (hm:X.mg x=some (.ref f)) (hk:PySem.W.keepIn X.K (.ref f)=true) (hb:Binds X.K fd ps ds) (hd:Vals dvs ds) (hx:q6o CX X E)
  (ha:PA X (e::es) t) (hdb:(x == ("__debug__" : Str))=false:=by decide) (he:starEach (e::es) X.env=(false,eval e X.env)::starEach es X.env:=by rfl) (hpl:(backTo pos (starEach es X.env)).any (·.1)=false:=by rfl) :
  PE X (.Call (.Name x p) (e::es) [] pos) (tCall sp dvs E t):=by
 intro pins s σ H Q I h
 refine wpAny_Call_Name_kw (ld_glob I hg hm ?_ hdb)
 refine PySem.W.callWith_K (h₀:=X.base) I.ok.mod.kin hk (thn (ha pos pins s σ H _ I h) fun us s1 ⟨vs,H1,I1,r,q⟩=>⟨I1.kIn,?_⟩) he hpl
 exact run_fn F hr hb hd hx I1 r q
structure Mk (K:PySem.W.Frag) (C f:Addr):Prop where
 makes:PySem.W.makesIn K C=true
 init:PySem.W.findIn K (.ref C) "__init__" = some (some (.ref f))
 fn:PySem.W.isFn K (.ref f)=true
 kp:PySem.W.keepIn K (.ref C)=true
end
section
variable {X:Cx} {CX:CXT} {k:Nat} {f C:Addr} {fd:FuncData} {ps ks:List Str} {sp:Sp} {E:XK} {x m:Str} {p pos apos kpos:Pos} {e o:Expr} {es:List Expr} {kws:List Keyword} {te ta:TE} {t tk:TA} {nm:Option Str}
structure KBinds (K:PySem.W.Frag) (fd:FuncData) (ps ks:List Str) (g:List Value→List Value→List Value) (gV:List V→List V→List V):Prop where
 to:∀(s:Shared) (us ws:List Value),K.In s.heap→(g us ws).length=ps.length→BindsTo s fd ⟨us,ks.zip ws⟩ (ps.zip (g us ws))
 rel:∀{vs:List V} {us:List Value} {zs:List V} {ws:List Value},Vals vs us→Vals zs ws→Vals (gV vs zs) (g us ws)
variable {g:List Value→List Value→List Value} {gV:List V→List V→List V}
end
structure FnScope (N P:List Str) (sc:Scope):Prop where
 kind:sc.kind=.function
 co:sc.isCoroutine=false
 gen:sc.isGenerator=false
 nd:N.Nodup
 pre:N.take P.length=P
 par:∀x∈P,sc.names.lookup x=some .local∨sc.names.lookup x=some .cell
 nofree:∀y∈sc.names,y.2≠.free
theorem bindL_out {kindOf : Str → Option NameKind} {x : Str} : ∀ {binds : List (Str × Value)} {m : Str → Option Value}, (∀ v, (x, v) ∉ binds) → bindL kindOf binds m x = m x
 | [], _, _ => rfl
 | (n, v) :: r, m, h => by
  unfold bindL
  rw [bindL_out fun w hw => h w (List.mem_cons_of_mem _ hw)]
  split
  ·have : x ≠ n := by rintro rfl; exact h v List.mem_cons_self
   simp [this]
  ·rfl
theorem bindC_out {kindOf : Str → Option NameKind} {x : Str} : ∀ {binds : List (Str × Value)} {m : Str → Option Value}, (∀ v, (x, v) ∉ binds) → bindC kindOf binds m x = m x
 | [], _, _ => rfl
 | (n, v) :: r, m, h => by
  unfold bindC
  rw [bindC_out fun w hw => h w (List.mem_cons_of_mem _ hw)]
  split
  ·rfl
  ·have : x ≠ n := by rintro rfl; exact h v List.mem_cons_self
   simp [this]
theorem bindL_get {kindOf:Str→Option NameKind} {x:Str} {v:Value}:∀{P:List Str} {vs:List Value} {i:Nat} {m:Str→Option Value},P.Nodup→P[i]?=some x→vs[i]?=some v→kindOf x=some .local→
  bindL kindOf (P.zip vs) m x=some v
 | [],_,_,_,_,h,_,_=>by simp at h
 | _::_,[],_,_,_,_,h,_=>by simp at h
 | p::P,w::vs,0,m,nd,h1,h2,hk=>by
  simp at h1 h2; subst h1; subst h2
  show bindL kindOf ((p,w)::P.zip vs) m p=_
  unfold bindL
  rw [bindL_out fun v hv=>(List.nodup_cons.mp nd).1 (List.of_mem_zip hv).1,if_pos hk]
  simp
 | p::P,w::vs,i+1,m,nd,h1,h2,hk=>by
  show bindL kindOf ((p,w)::P.zip vs) m x=_
  unfold bindL
  exact bindL_get (i:=i) (List.nodup_cons.mp nd).2 (by simpa using h1) (by simpa using h2) hk
theorem bindC_get {kindOf:Str→Option NameKind} {x:Str} {v:Value}:∀{P:List Str} {vs:List Value} {i:Nat} {m:Str→Option Value},P.Nodup→P[i]?=some x→vs[i]?=some v→kindOf x≠some .local→
  bindC kindOf (P.zip vs) m x=some v
 | [],_,_,_,_,h,_,_=>by simp at h
 | _::_,[],_,_,_,_,h,_=>by simp at h
 | p::P,w::vs,0,m,nd,h1,h2,hk=>by
  simp at h1 h2; subst h1; subst h2
  show bindC kindOf ((p,w)::P.zip vs) m p=_
  unfold bindC
  rw [bindC_out fun v hv=>(List.nodup_cons.mp nd).1 (List.of_mem_zip hv).1,if_neg hk]
  simp
 | p::P,w::vs,i+1,m,nd,h1,h2,hk=>by
  show bindC kindOf ((p,w)::P.zip vs) m x=_
  unfold bindC
  exact bindC_get (i:=i) (List.nodup_cons.mp nd).2 (by simpa using h1) (by simpa using h2) hk
def z1a (N:List Str) (vs:List V):St:=vs.map some++List.replicate (N.length - vs.length) none
def cxOf (CX:CXT) (P:Program) (w:World) (K:PySem.W.Frag) (mg:Str→Option Value) (base:Heap) (N:List Str) (qual:Str) (scope:Scope) (f:Addr) (cd:Value) (A:Around) (outer:List Env) (s:Shared) (H:Hp) (E:XK):Cx where
 prog:=P
 w:=w
 K:=K
 mg:=mg
 base:=base
 A:=A.deeper (envOfC qual scope s.heap.objs.size f cd)
 N:=N
 s₀:=s
 H₀:=H
 env:=envOfC qual scope s.heap.objs.size f cd
 outer:=outer
 stack:=envOfC qual scope s.heap.objs.size f cd::outer
 ex:=[]
 calm:=true
 fn:=fun _=>true
 pn:=[]
 xe:=fun e s'=>wpAny (model P w) (A.deeper (envOfC qual scope s.heap.objs.size f cd)) (leaving (envOfC qual scope s.heap.objs.size f cd) e) (fun _ s''=>CX outer H s E e s'') (fun e' s''=>CX outer H s E e' s'') s'
theorem cell_has {sc:Scope} {n:Nat} {x:Str} (h:sc.names.lookup x=some .cell):∃c,(cellsFrom n sc.names []).lookup x=some c:=by
 have q:=PySem.W.cellsFrom_some sc.names n [] (.inl h)
 exact Option.isSome_iff_exists.mp q
theorem inv_start {CX:CXT} {P:Program} {w:World} {K:PySem.W.Frag} {mg:Str→Option Value} {base:Heap} {N ps:List Str} {qual:Str} {scope:Scope} {f:Addr} {cd:Value} {A:Around} {outer:List Env} {s s1:Shared} {H:Hp} {E:XK} {us:List Value} {vs:List V}
  (S:FnScope N ps scope) (hd:A.handled=none) (e0:Env0 P w K mg base A outer s H) (hl:vs.length=ps.length) (r:Vals vs us)
  (x:InCallC s s.heap.objs.size (bindL (envOfC qual scope s.heap.objs.size f cd).kindOf (ps.zip us) fun _=>none) (cellsFrom (s.heap.objs.size+1) scope.names []) (bindC (envOfC qual scope s.heap.objs.size f cd).kindOf (ps.zip us) fun _=>none) s1) :
  Inv (cxOf CX P w K mg base N qual scope f cd A outer s H E) [] (z1a N vs) H s1:=by
 have hpl:ps.length≤N.length:=by have:=congrArg List.length S.pre; rw [List.length_take] at this; omega
 obtain ⟨h1,tk,rfl,hk⟩:=x.done
 have noA:∀b:Addr,b∉(cxOf CX P w K mg base N qual scope f cd A outer s H E).ex:=fun b z=>absurd (show b∈([]:List Addr) from z) (by simp)
 refine ⟨⟨e0.mod,S.kind,rfl,rfl,Nat.le_refl _,fun y z c h1 h2=>?_,fun y hy=>?_,fun y c _ h=>?_,fun _=>hd,Around.frames_deeper e0.frames,.inr ⟨rfl,rfl⟩,fun b z=>absurd z (noA b),e0.bs,e0.bsz,fun b _ _=>noA b,fun b z=>absurd z (noA b),e0.funs,e0.frf⟩,
  rfl,e0.bare,Un.kept hk,⟨_,x.toInCall.ns,fun i y v h1 h2 h3=>?_⟩,fun y c h=>⟨_,x.cell y c h⟩,e0.hok.fresh (Nat.le_refl _),fun y c h=>?_,fun p hp=>absurd (show p∈([]:List (Addr×Obj)) from hp) (by simp),e0.hok.kept hk,?_⟩
 ·exact name_of_addr x.apart (PySem.mem_of_lookup h1) (PySem.mem_of_lookup h2)
 ·have hy:scope.names.lookup y=some .cell∨scope.names.lookup y=some .free:=hy
  rcases hy with hy | hy
  ·exact cell_has hy
  ·exact absurd rfl (S.nofree _ (PySem.mem_of_lookup hy))
 ·exact Nat.le_of_lt (x.above y c (PySem.mem_of_lookup h))
 ·have hi:i<vs.length:=by
   unfold z1a at h2
   by_cases hi:i<vs.length
   ·exact hi
   ·rw [List.getElem?_append_right (by simpa using hi)] at h2
    rw [List.getElem?_replicate] at h2
    split at h2<;>cases h2
  have ha:vs[i]?=some v:=by
   unfold z1a at h2
   rw [List.getElem?_append_left (by simpa using hi),List.getElem?_map] at h2
   cases e:vs[i]? with
   | none=>rw [e] at h2; cases h2
   | some a=>rw [e] at h2; cases h2; rfl
  obtain ⟨u,hu,rv⟩:=r.get ha
  have hp:ps[i]?=some y:=by
   rw [←S.pre,List.getElem?_take_of_lt (by omega)]; exact h1
  have ndP:ps.Nodup:=by rw [←S.pre]; exact S.nd.sublist (List.take_sublist _ _)
  refine ⟨u,rv,?_⟩
  rcases S.par y (List.mem_of_getElem? hp) with k | k
  ·exact .inl ⟨k,bindL_get ndP hp hu k⟩
  ·obtain ⟨c,e⟩:=cell_has (n:=s.heap.objs.size+1) k
   refine .inr ⟨.inl k,c,e,?_⟩
   have q:=x.cell y c e
   rw [bindC_get ndP hp hu (by show scope.names.lookup y≠_; rw [k]; decide)] at q
   exact q
 ·exact e0.hok.fresh (Nat.le_of_lt (x.above y c (PySem.mem_of_lookup h)))
 ·unfold z1a
  show _=N.length
  rw [List.length_append,List.length_map,List.length_replicate]
  omega
theorem fn_of {CX:CXT} {P:Program} {w:World} {K:PySem.W.Frag} {mg:Str→Option Value} {base:Heap} {k:Nat} {f:Addr} {name qual:Str} {params:Arguments} {body:List Stmt} {scope:Scope} {dV kV doc pm cdv ct oc:Value} {an od:Option Addr}
  {osl:Array (Option Value)} {N ps:List Str} {sp:Sp} (lk:K.lookup f=some ⟨oc,od,.func (PySem.W.fnOf name qual params body scope dV kV doc pm an cdv ct),osl⟩) (hcd:PySem.W.codeIn K cdv qual=true) (S:FnScope N ps scope)
  (len:∀vs H Q E,sp vs H Q E→vs.length=ps.length)
  (hbody:∀(A:Around) (outer:List Env) (s:Shared) (H:Hp) (vs:List V) (Q:VK) (E:XK),Room k (A.deeper (envOfC qual scope s.heap.objs.size f cdv))→sp vs H Q E→
   ∃t,PSs (cxOf CX P w K mg base N qual scope f cdv A outer s H E) body t∧t { nx:=fun _ H'=>Q .non H',rt:=Q } (z1a N vs) H) :
  FnOk P w K mg base CX (k+1) f (PySem.W.fnOf name qual params body scope dV kV doc pm an cdv ct) ps sp:=by
 refine ⟨len,fun A outer s H args us vs Q E hr e0 hb r hsp=>?_⟩
 have hl:=len _ _ _ _ hsp
 have KX:K.In s.heap:=e0.mod.kin.keeps fun b o e=>(e0.bs b o e).1
 have lim:s.heap.NoLimit:=e0.mod.nolimit.keeps fun b o e=>(e0.bs b o e).1
 have hkind:∀y∈ps.zip us,scope.names.lookup y.1=some .local∨(scope.names.lookup y.1=some .cell∧((cellsFrom (s.heap.objs.size+1) scope.names []).lookup y.1).isSome=true):=fun hh1 hy=>by
  obtain ⟨n,v⟩:=hh1
  rcases S.par n (List.of_mem_zip hy).1 with q | q
  ·exact .inl q
  ·exact .inr ⟨q,PySem.W.cellsFrom_some _ _ _ (.inl q)⟩
 refine codeAny_call_function hr.depth (KX _ _ lk) rfl S.co S.gen rfl (PySem.W.codeRec_of KX hcd) (hb _ _ _ _ ?_)
 refine wpAny_newFunctionEnv_cells S.kind hkind fun env he s1 x=>?_
 subst he
 refine ⟨lim.keeps x.toInCall.keep,codeAny_func ?_⟩
 obtain ⟨t,ht,hq⟩:=hbody A outer s H vs Q E (hr.deeper _) hsp
 have I:Inv (cxOf CX P w K mg base N qual scope f cdv A outer s H E) [] (z1a N vs) H s1:=inv_start S hr.hd e0 hl r x
 refine wpAny_mono (ht [] s1 (z1a N vs) H _ I hq) (fun fl s' hs=>?_) fun e s' hs=>hs
 have fin:∀{σ':St} {H':Hp} {v:V} {u:Value},Inv (cxOf CX P w K mg base N qual scope f cdv A outer s H E) [] σ' H' s'→RelV v u→Q v H'→CE outer P w H s Q u s':=
  fun {σ' H' v u} J rv q=>⟨v,H',J.os,J.bare,J.base,J.hok,rv,q⟩
 cases fl with
 | ret u=>
  obtain ⟨v,σ',H',J,rv,q⟩:=hs
  exact fin J rv q
 | next=>
  obtain ⟨σ',H',J,q⟩:=hs
  exact fin (v:=V.non) (u:=Value.none) J rfl q
 | brk=>
  obtain ⟨_,_,_,q⟩:=hs
  exact False.elim q
 | cont=>
  obtain ⟨_,_,_,q⟩:=hs
  exact False.elim q
end L2
namespace L2
open PySem PySem.Spec PyProof.Rows
section
variable {X:Cx} {x:Str} {p pos:Pos} {e:Expr} {es:List Expr} {t:TA} {id T:String} {r:List V→Hp→VK→Prop}
def tCB (r:List V→Hp→VK→Prop) (t:TA):TE:=fun σ H Q=>t σ H fun vs H1=>r vs H1 Q
theorem pe_callB (hc:q8k X (.builtin id) r) (hg:Gl X x) (hm:X.mg x=none) (hv:bootBuiltins x=some (.builtin id)) (ha:PA X (e::es) t) (hn:x≠ "__name__" :=by decide) (hdb:(x == ("__debug__" : Str))=false:=by decide)
  (he:starEach (e::es) X.env=(false,eval e X.env)::starEach es X.env:=by rfl) (hpl:(backTo pos (starEach es X.env)).any (·.1)=false:=by rfl):PE X (.Call (.Name x p) (e::es) [] pos) (tCB r t):=by
 intro pins s σ H Q I h
 refine wpAny_Call_Name_kw (z0f I hg hm hv ?_ hn hdb)
 exact PyProof.Rows.callWith_builtin1 (thn (ha pos pins s σ H _ I h) fun us s1 hh1=>by obtain ⟨vs,H1,I1,r1,q1⟩:=hh1; exact (hc pins s1 σ H1 vs us Q I1 r1 q1)) he hpl
theorem pe_callTy (hc:q8k X (.type T) r) (hg:Gl X x) (hm:X.mg x=none) (hv:bootBuiltins x=some (.type T)) (ha:PA X (e::es) t) (hn:x≠ "__name__" :=by decide) (hdb:(x == ("__debug__" : Str))=false:=by decide)
  (he:starEach (e::es) X.env=(false,eval e X.env)::starEach es X.env:=by rfl) (hpl:(backTo pos (starEach es X.env)).any (·.1)=false:=by rfl):PE X (.Call (.Name x p) (e::es) [] pos) (tCB r t):=by
 intro pins s σ H Q I h
 refine wpAny_Call_Name_kw (z0f I hg hm hv ?_ hn hdb)
 exact PyProof.Rows.callWith_type1 (thn (ha pos pins s σ H _ I h) fun us s1 hh1=>by obtain ⟨vs,H1,I1,r1,q1⟩:=hh1; exact (hc pins s1 σ H1 vs us Q I1 r1 q1)) he hpl
end
end L2
namespace HT
open PySem PyProof.Rows
section
open PySem.SeqAt
open PySem.AutoSeq1 (wpAny_loadPart')
open PySem.MeetsSeq PySem.MeetsSeq2 PySem.MeetsSeq3
end
section
variable {prog:Program} {w:World} {A:Around} {E:Value→Shared→Prop} {s:Shared}
theorem cat_tup {t b:Addr} {vs ws:List Value} {Q:Value→Shared→Prop} (ht:IsTup s.heap t vs.toArray) (hb:IsTup s.heap b ws.toArray) (hv:vs≠[])
  (h1:ws=[]→Q (.ref t) s) (h2:ws≠[]→Q (.ref s.heap.objs.size) { s with heap:=s.heap.push { cls:=.type "tuple",data:=.seq (vs++ws).toArray } })
  (hsz:vs.length+ws.length≤sizeLine):wpAny (model prog w) A (binaryOp .Add (.ref t) (.ref b)) Q E s:=by
 obtain ⟨⟨cls,dd,data,sl⟩,ho,hc,n,hd⟩:=id ht
 obtain ⟨⟨cls2,dd2,data2,sl2⟩,ho2,hc2,n2,hd2⟩:=id hb
 simp only at hc hd hc2 hd2
 subst hc hd hc2 hd2
 have e:vs.toArray++ws.toArray=(vs++ws).toArray:=by simp
 by_cases hw:ws=[]
 ·exact concat_meets ⟨_,ho,rfl⟩ ⟨_,ho2,rfl⟩ noFill_tuple_add seq_tuple_add PySem.F.slot_tuple_add PySem.F.entry_tuple_add (PySem.F.args_tuple_add_2 _ _)
   (tuple_addW1 t b vs.toArray ws.toArray n n2 dd dd2 sl sl2 (by simpa using hv) (by simp [hw])) ⟨ho,ho2,h1 hw⟩
 ·refine concat_meets ⟨_,ho,rfl⟩ ⟨_,ho2,rfl⟩ noFill_tuple_add seq_tuple_add PySem.F.slot_tuple_add PySem.F.entry_tuple_add (PySem.F.args_tuple_add_2 _ _)
   (tuple_addW2 t b vs.toArray ws.toArray n n2 dd dd2 sl sl2 (by simpa using hv) (by simpa using hw) (by rw [List.size_toArray,List.size_toArray]; exact hsz)) ⟨ho,ho2,?_⟩
  rw [e]
  exact h2 hw
def sIx (n d:Nat):Option Int→Nat
 | none=>d
 | some v=>if v<0 then (v+(n:Int)).toNat else min v.toNat n
theorem sIx_none (n d:Nat):sIx n d none=d:=rfl
theorem sIx_nat (n d k:Nat):sIx n d (some (k:Int))=min k n:=by
 show (if (k:Int)<0 then ((k:Int)+(n:Int)).toNat else min (k:Int).toNat n)=min k n
 rw [if_neg (by omega),Int.toNat_natCast]
theorem sIx_le (n d:Nat) (hd:d≤n) (o:Option Int):sIx n d o≤n:=by
 cases o with
 | none=>exact hd
 | some v=>
  show (if v<0 then (v+(n:Int)).toNat else min v.toNat n)≤n
  by_cases hv:v<0
  ·rw [if_pos hv]; omega
  ·rw [if_neg hv]; exact Nat.min_le_right _ _
theorem clip_eq (v:Int) (n d:Nat):(if v<0 then max (v+(n:Int)) 0 else min v (n:Int))=((sIx n d (some v):Nat):Int):=by
 show (if v<0 then max (v+(n:Int)) 0 else min v (n:Int))=(((if v<0 then (v+(n:Int)).toNat else min v.toNat n):Nat):Int)
 by_cases hv:v<0
 ·simp only [if_pos hv]; omega
 ·simp only [if_neg hv]; omega
theorem adjust_gen (lo hi:Option Int) (n:Nat):Builtin.Slice.sliceAdjust lo hi 1 (n:Int)=(((sIx n 0 lo:Nat):Int),((sIx n n hi:Nat):Int)):=by
 have h1:¬((1:Int)<0):=by omega
 unfold Builtin.Slice.sliceAdjust
 simp only [h1,if_false]
 refine Prod.ext ?_ ?_
 ·cases lo with
  | none=>rfl
  | some v=>exact clip_eq v n 0
 ·cases hi with
  | none=>rfl
  | some v=>exact clip_eq v n n
theorem places_gen (i j:Nat):Builtin.Slice.slicePlaces (i:Int) (j:Int) 1=j - i:=by
 unfold Builtin.Slice.slicePlaces
 have h1:(1:Int) > 0:=by omega
 simp only [h1,if_true,Int.ediv_one]
 split<;>omega
theorem slicePart_ {v:Value} {o:Option Int} {Q:Option Int→Shared→Prop} (p:IsPart v o) (h:Q o s):wpAny (model prog w) A (Builtin.Slice.slicePartIndex v) Q E s:=by
 cases p with
 | none=>exact slicePart_none h
 | int i t=>exact slicePart_int h
theorem z0i {sl:Addr} {vl vu:Value} {lo hi:Option Int} {n:Nat} {Q:Int×Int×Nat→Shared→Prop} (hs:s.heap.IsSliceOf sl vl vu .none) (pl:IsPart vl lo) (pu:IsPart vu hi)
  (h:Q (((sIx n 0 lo:Nat):Int),1,sIx n n hi - sIx n 0 lo) s):wpAny (model prog w) A (Builtin.Slice.sliceApplied (.ref sl) (pure (n:Int))) Q E s:=by
 obtain ⟨os,hos,hcs,hds⟩:=id hs
 unfold Builtin.Slice.sliceApplied Builtin.Slice.sliceFields
 refine wpAny_bind (wpAny_bind (wpAny_field hos hds (x:=vl) rfl (wpAny_bind (wpAny_field hos hds (x:=vu) rfl (wpAny_bind (wpAny_field hos hds (x:=.none) rfl (wpAny_pure ?_)))))))
 refine wpAny_bind (slicePart_none ?_)
 show wpAny _ _ (if ((1:Int) == 0)=true then _ else _) _ _ s
 rw [if_neg (by decide)]
 refine wpAny_bind (slicePart_ pl (wpAny_bind (slicePart_ pu (wpAny_bind (wpAny_pure ?_)))))
 show wpAny _ _ (match Builtin.Slice.sliceAdjust lo hi 1 (n:Int) with | (lo,hi)=>pure (lo,(1:Int),Builtin.Slice.slicePlaces lo hi 1)) _ _ s
 rw [adjust_gen lo hi n]
 show wpAny _ _ (pure (((sIx n 0 lo:Nat):Int),(1:Int),Builtin.Slice.slicePlaces ((sIx n 0 lo:Nat):Int) ((sIx n n hi:Nat):Int) 1)) _ _ s
 rw [places_gen]
 exact wpAny_pure h
theorem pick_gen (xs:Array Value) (i k:Nat):((List.range k).filterMap fun (m:Nat)=>xs[((i:Int)+(m:Int)*1).toNat]?).toArray=((xs.toList.drop i).take k).toArray:=by
 have e:(fun (m:Nat)=>xs[((i:Int)+(m:Int)*1).toNat]?)=fun m=>xs[i+m]?:=by
  funext m
  have:((i:Int)+(m:Int)*1).toNat=i+m:=by omega
  rw [this]
 rw [e]
 have:=pick_run xs i k
 rw [List.filterMap_map] at this
 have e2:((fun x=>xs[x]?)∘fun x=>i+x)=fun m=>xs[i+m]?:=rfl
 rw [e2] at this
 rw [this]
theorem getItem_tuple_cut {t sl:Addr} {items:Array Value} {vl vu:Value} {lo hi:Option Int} {Q:Value→Shared→Prop} (ht:IsTup s.heap t items) (hs:s.heap.IsSliceOf sl vl vu .none) (pl:IsPart vl lo) (pu:IsPart vu hi)
  (hw:¬(sIx items.size 0 lo=0∧sIx items.size items.size hi=items.size))
  (h:Q (.ref s.heap.objs.size) { s with heap:=s.heap.push { cls:=.type "tuple",data:=.seq ((items.toList.drop (sIx items.size 0 lo)).take (sIx items.size items.size hi - sIx items.size 0 lo)).toArray } })
  (hsz:items.size≤sizeLine):wpAny (model prog w) A (getItem (.ref t) (.ref sl)) Q E s:=by
 have htake:sizeOk (.seq ((items.toList.drop (sIx items.size 0 lo)).take (sIx items.size items.size hi - sIx items.size 0 lo)).toArray):=by
  show ((items.toList.drop (sIx items.size 0 lo)).take (sIx items.size items.size hi - sIx items.size 0 lo)).toArray.size≤sizeLine
  rw [List.size_toArray,List.length_take,List.length_drop,Array.length_toList]
  omega
 have hj:sIx items.size items.size hi≤items.size:=sIx_le _ _ (Nat.le_refl _) hi
 obtain ⟨os,hos,hcs,hds⟩:=id hs
 have hTs:s.TypeIs (.ref sl) "slice" :=⟨os,hos,hcs⟩
 unfold getItem
 try with_reducible refine wpAny_holding ?_
 first | refine wpAny_bind (wpAny_pure ?_) | skip
 refine wpAny_bind (wpAny_sequenceKey ht.typeIs (by decide) ?_)
 refine wpAny_bind (wpAny_callSpecial?_slot (name:=Str.ofString "__getitem__") ht.typeIs PyProof.Rows.slot_tuple_getitem
  (wpAny_call_entry PyProof.Rows.slot_tuple_getitem ht.typeIs entry_tuple_getitem ?_ (args_tuple_getitem _ _)))
 show wpAny _ _ (Builtin.Tuple.tupleItemsOf (.ref t) >>= _) _ _ s
 refine wpAny_bind (tupleItemsOf_ ht ?_)
 refine wpAny_bind (wpAny_typeOf hTs ?_)
 rw [if_pos (by decide)]
 refine wpAny_bind (z0i hs pl pu ?_)
 have hno:¬((((sIx items.size 0 lo:Nat):Int) == 0 && (1:Int) == 1 && (sIx items.size items.size hi - sIx items.size 0 lo) == items.size)=true):=by
  intro q
  rw [Bool.and_eq_true,Bool.and_eq_true] at q
  have q1:((sIx items.size 0 lo:Nat):Int)=0:=eq_of_beq q.1.1
  have q2:sIx items.size items.size hi - sIx items.size 0 lo=items.size:=eq_of_beq q.2
  exact hw ⟨by omega,by omega⟩
 show wpAny _ _ (if (((sIx items.size 0 lo:Nat):Int) == 0 && (1:Int) == 1 && (sIx items.size items.size hi - sIx items.size 0 lo) == items.size)=true then _ else _) _ _ s
 rw [if_neg hno,pick_gen]
 first
  | exact wpAny_bind (m:=Builtin.Tuple.tupleExact _) (wpAny_newObj_type (wpAny_pure ⟨_,rfl,wpAny_pure h⟩) htake)
  | exact wpAny_bind (m:=Builtin.Tuple.tupleExact _) (wpAny_newObj_type (wpAny_bind (wpAny_pure (wpAny_pure ⟨_,rfl,wpAny_pure h⟩))) htake)
  | exact wpAny_bind (wpAny_bind (m:=Builtin.Tuple.tupleExact _) (wpAny_newObj_type (wpAny_pure (wpAny_pure ⟨_,rfl,wpAny_pure h⟩)) htake))
  | exact wpAny_bind (wpAny_bind (m:=Builtin.Tuple.tupleExact _) (wpAny_newObj_type (wpAny_pure ⟨_,rfl,wpAny_pure h⟩) htake))
end
end HT
namespace L2
open PySem PySem.Spec PyProof.Rows
abbrev TO:=St→Hp→(Option Int→Hp→Prop)→Prop
def PO (X:Cx) (e:Option Expr) (t:TO):Prop:=
 ∀(pins:List (Addr×Obj)) (s:Shared) (σ:St) (H:Hp) (Q:Option Int→Hp→Prop),Inv X pins σ H s→t σ H Q→
  wpAny (model X.prog X.w) X.A (evalPart e X.env) (fun u s'=>∃o H',Inv X pins σ H' s'∧IsPart u o∧Q o H') X.xe s
def tNoPart:TO:=fun _ H Q=>Q none H
def tPart (t:TE):TO:=fun σ H Q=>t σ H fun x H1=>∃i,x=.int i∧Q (some i) H1
theorem q9z {ns:List Int}:∀{us:List Value},Vals (ns.map V.int) us→IntsAre us ns:=by
 induction ns with
 | nil=>intro us r; rw [List.map_nil] at r; cases r; exact .nil
 | cons n ns ih=>
  intro us r
  rw [List.map_cons] at r
  cases r with
  | cons r1 r2=>
   obtain ⟨t,e⟩:=r1
   subst e
   exact .cons n t (ih r2)
section
variable {X:Cx} {e:Expr} {te:TE} {lo hi:Option Expr} {tl th:TO} {pos p2:Pos}
theorem po_none:PO X none tNoPart:=by
 intro pins s σ H Q I h
 rw [evalPart_none]
 exact wpAny_pure ⟨none,H,I,.none,h⟩
theorem po_some (h:PE X e te):PO X (some e) (tPart te):=by
 intro pins s σ H Q I hw
 rw [evalPart_some]
 refine thn (h pins s σ H _ I hw) fun u s1 hh1=>?_
 obtain ⟨x,H1,I1,r1,q1⟩:=hh1
 obtain ⟨i,rfl,q⟩:=q1
 obtain ⟨t,rfl⟩:=r1
 exact ⟨some i,H1,I1,.int i t,q⟩
def SlR (X:Cx) (r:V→Option Int→Option Int→Hp→VK→Prop):Prop:=
 ∀(pins:List (Addr×Obj)) (s:Shared) (σ:St) (H:Hp) (x:V) (v vl vu:Value) (lo hi:Option Int) (sl:Addr) (Q:VK),Inv X pins σ H s→RelV x v→s.heap.IsSliceOf sl vl vu .none→IsPart vl lo→IsPart vu hi→r x lo hi H Q→
  ∃T id,typeLookup (.type T) "__getitem__" = pure (some (.builtin id))∧s.TypeIs v T∧wpAny (model X.prog X.w) X.A (getItem v (.ref sl)) (EP X pins σ Q) X.xe s
def tSl (r:V→Option Int→Option Int→Hp→VK→Prop) (te:TE) (tl th:TO):TE:=fun σ H Q=>te σ H fun x H1=>tl σ H1 fun l H2=>th σ H2 fun u H3=>r x l u H3 Q
theorem pe_slice {r:V→Option Int→Option Int→Hp→VK→Prop} (hr:SlR X r) (he:PE X e te) (hl:PO X lo tl) (hu:PO X hi th):PE X (.Subscript e (.Slice lo hi none p2) pos) (tSl r te tl th):=by
 intro pins s σ H Q I h
 refine Subscript_ (thn (he pins s σ H _ I h) fun v s1 hh1=>?_)
 obtain ⟨x,H1,I1,r1,q1⟩:=hh1
 refine wpAny_Slice (thn (hl pins s1 σ H1 _ I1 q1) fun vl s2 ⟨l,H2,I2,pl,q2⟩=>thn (hu pins s2 σ H2 _ I2 q2) fun vu s3 hh2=>?_)
 obtain ⟨u,H3,I3,pu,q3⟩:=hh2
 rw [evalPart_none]
 refine wpAny_pure ?_
 have I4:Inv X pins σ H3 { s3 with heap:=s3.heap.push { cls:=.type "slice",data:=.fields #[vl,vu,.none] } }:=I3.kept (t':=s3.toks) fun b ob q=>Heap.get?_push_of_some _ q
 obtain ⟨T,id,hT,ht,hg⟩:=hr pins { s3 with heap:=s3.heap.push { cls:=.type "slice",data:=.fields #[vl,vu,.none] } } σ H3 x v vl vu l u s3.heap.objs.size Q I4 r1 (Heap.IsSliceOf.new ..) pl pu q3
 show wpAny (model X.prog X.w) X.A (subscriptTail e (.Slice lo hi none p2) v (.ref s3.heap.objs.size)) (EP X pins σ Q) X.xe { s3 with heap:=s3.heap.push { cls:=.type "slice",data:=.fields #[vl,vu,.none] } }
 exact tail_any (ops:=[.ref s3.heap.objs.size,v]) ht hT hg (by with_unfolding_all rfl)
def cutV (xs:List V) (lo hi:Option Int):List V:=(xs.drop (HT.sIx xs.length 0 lo)).take (HT.sIx xs.length xs.length hi - HT.sIx xs.length 0 lo)
theorem z1w (xs:List V) (lo hi:Option Int):(cutV xs lo hi).length≤xs.length:=by
 unfold cutV
 rw [List.length_take,List.length_drop]
 omega
def rSlT (K:PySem.W.Frag):V→Option Int→Option Int→Hp→VK→Prop:=fun x lo hi H Q=>∃a xs,x=.ref a∧SqT K H a xs∧
 ¬(HT.sIx xs.length 0 lo=0∧HT.sIx xs.length xs.length hi=xs.length)∧∀p,H p=none→Q (.ref p) (upd H p (.tup (cutV xs lo hi)))
theorem sl_tup:SlR X (rSlT X.K):=by
 intro pins s σ H x v vl vu lo hi sl Q I rx hs pl pu h
 obtain ⟨a,xs,rfl,hx,hw,q⟩:=h
 cases rx
 obtain ⟨its,r,ht,hz⟩:=I.tuple hx
 have hlen:its.toArray.size=xs.length:=by rw [List.size_toArray]; exact r.length.symm
 refine ⟨"tuple",_,PyProof.Rows.slot_tuple_getitem.lookup,ht.typeIs,?_⟩
 refine HT.getItem_tuple_cut ht hs pl pu (by rw [hlen]; exact hw) ?_ (by rw [hlen]; exact hz)
 rw [hlen]
 refine ⟨.ref s.heap.objs.size,_,I.laid (t':=s.toks) (o:=.tup (cutV xs lo hi)) (fun b ob q=>Heap.get?_push_of_some _ q) (Nat.le_refl _) ?_,rfl,q _ (I.hok.fresh (Nat.le_refl _))⟩
 exact ⟨Nat.le_trans (z1w xs lo hi) hz,_,(r.drop (HT.sIx xs.length 0 lo)).take (HT.sIx xs.length xs.length hi - HT.sIx xs.length 0 lo),IsTup.new _ _⟩
def rCatT (K:PySem.W.Frag):R2:=fun x y H Q=>∃a b xs ys,x=.ref a∧y=.ref b∧SqT K H a xs∧SqT K H b ys∧xs≠[]∧xs.length+ys.length≤sizeLine∧
 (ys=[]→Q (.ref a) H)∧(ys≠[]→∀p,H p=none→Q (.ref p) (upd H p (.tup (xs++ys))))
theorem Vals.nil_iff {xs:List V} {us:List Value} (r:Vals xs us):us=[]↔xs=[]:=by
 cases r with
 | nil=>simp
 | cons _ _=>simp
theorem op_catT:OpR X (binaryOp .Add) (rCatT X.K):=by
 intro pins s σ H x y v u Q I rx ry h
 obtain ⟨a,b,xs,ys,rfl,rfl,ha,hb,hx,hz,q1,q2⟩:=h
 cases rx
 cases ry
 obtain ⟨its,r1,p1,_⟩:=I.tuple ha
 obtain ⟨its2,r2,p2,_⟩:=I.tuple hb
 refine HT.cat_tup p1 p2 (fun z=>hx (r1.nil_iff.mp z)) (fun z=>⟨.ref a,H,I,rfl,q1 (r2.nil_iff.mp z)⟩) (fun z=>?_) (by rw [←r1.length,←r2.length]; exact hz)
 refine ⟨.ref s.heap.objs.size,_,I.laid (t':=s.toks) (o:=.tup (xs++ys)) (fun b ob q=>Heap.get?_push_of_some _ q) (Nat.le_refl _) ?_,rfl,q2 (fun w=>z (r2.nil_iff.mpr w)) _ (I.hok.fresh (Nat.le_refl _))⟩
 exact ⟨by rw [List.length_append]; exact hz,_,r1.append r2,IsTup.new _ _⟩
end
end L2
namespace L2
open PySem PySem.Spec PyProof.Rows
def ixN (n:Nat) (i:Int):Option Nat:=if 0≤i then (if i<n then some i.toNat else none) else if -(n:Int)≤i then some (i+n).toNat else none
def atI {α:Type} (xs:List α) (i:Int):Option α:=(ixN xs.length i).bind fun j=>xs[j]?
theorem ixN_seq {n:Nat} {i:Int} {j:Nat} (h:ixN n i=some j):seqIndex? i n=some j∧j<n∧-(n:Int)≤i∧i<n:=by
 unfold ixN at h
 by_cases h0:0≤i
 ·rw [if_pos h0] at h
  by_cases h1:i<n
  ·rw [if_pos h1] at h
   have e:i.toNat=j:=Option.some.inj h
   exact ⟨by rw [seqIndex_of h0 h1,e],by omega,by omega,h1⟩
  ·rw [if_neg h1] at h; cases h
 ·rw [if_neg h0] at h
  by_cases h1:-(n:Int)≤i
  ·rw [if_pos h1] at h
   have e:(i+n).toNat=j:=Option.some.inj h
   exact ⟨by rw [seqIndex_neg (by omega) h1,e],by omega,h1,by omega⟩
  ·rw [if_neg h1] at h; cases h
theorem atI_get {α:Type} {xs:List α} {i:Int} {v:α} (h:atI xs i=some v):∃j,seqIndex? i xs.length=some j∧xs[j]?=some v∧j<xs.length∧-(xs.length:Int)≤i∧i<xs.length:=by
 unfold atI at h
 cases e:ixN xs.length i with
 | none=>rw [e] at h; cases h
 | some j=>
  rw [e] at h
  obtain ⟨h1,h2,h3,h4⟩:=ixN_seq e
  exact ⟨j,h1,h,h2,h3,h4⟩
theorem atI_nat {α:Type} {xs:List α} {j:Nat} {v:α} (h:xs[j]?=some v):atI xs (j:Int)=some v:=by
 have hj:j<xs.length:=(List.getElem?_eq_some_iff.mp h).1
 have e:ixN xs.length (j:Int)=some j:=by
  unfold ixN
  rw [if_pos (by omega),if_pos (by omega)]; simp
 unfold atI; rw [e]; exact h
theorem q8c {α:Type} (xs:List α) (v:α):atI (xs++[v]) (-1)=some v:=by
 have hl:(xs++[v]).length=xs.length+1:=by simp
 have e:ixN (xs++[v]).length (-1)=some xs.length:=by
  unfold ixN
  rw [hl,if_neg (by decide),if_pos (by omega)]
  congr 1
  omega
 unfold atI
 rw [e]
 show (xs++[v])[xs.length]?=some v
 simp
def PlainIx (b:Expr):Prop:=∀o i,subscripted b false o i=operate [o,i] (getItem o i)
def IxR (X:Cx) (r:R2):Prop:=
 ∀(value slice:Expr) (pins:List (Addr×Obj)) (s:Shared) (σ:St) (H:Hp) (x y:V) (v u:Value) (Q:VK),Inv X pins σ H s→RelV x v→RelV y u→r x y H Q→
  subscripted slice false v u=operate [v,u] (getItem v u)→wpAny (model X.prog X.w) X.A (subscriptTail value slice v u) (EP X pins σ Q) X.xe s
def MtR (X:Cx) (id:String) (r:V→List V→Hp→VK→Prop):Prop:=
 ∀(pins:List (Addr×Obj)) (s:Shared) (σ:St) (H:Hp) (x:V) (xs:List V) (v:Value) (us:List Value) (Q:VK),Inv X pins σ H s→RelV x v→Vals xs us→r x xs H Q→
  wpAny (model X.prog X.w) X.A (call (.builtin id) (v::us)) (EP X pins σ Q) X.xe s
section
variable {X:Cx} {a b:Expr} {ta tb:TE} {pos:Pos}
theorem pe_ix {r:R2} (hr:IxR X r) (ha:PE X a ta) (hb:PE X b tb) (hs:PlainIx b):PE X (.Subscript a b pos) (tOp r ta tb):=by
 intro pins s σ H Q I h
 exact Subscript_ (binT ha hb I h fun v u s2 x y H2 I2 rx ry q=>hr a b pins s2 σ H2 x y v u Q I2 rx ry q (hs _ _))
def rIxL (K:PySem.W.Frag):R2:=fun x y H Q=>∃p xs i v,x=.ref p∧y=.int i∧SqL K H p xs∧atI xs i=some v∧Q v H
def rIxT (K:PySem.W.Frag):R2:=fun x y H Q=>∃p xs i v,x=.ref p∧y=.int i∧SqT K H p xs∧atI xs i=some v∧Q v H
def rIxS:R2:=fun x y H Q=>∃z i c,x=.str z∧y=.int i∧z.length≤sizeLine∧atI z.cps.toList i=some c∧Q (.str ⟨#[c]⟩) H
theorem ix_list:IxR X (rIxL X.K):=by
 intro value slice pins s σ H x y v u Q I rx ry h hs
 obtain ⟨p,xs,i,z,rfl,rfl,hq,he,q⟩:=h
 cases rx
 obtain ⟨t,rfl⟩:=ry
 obtain ⟨its,r,pl,hz⟩:=I.list hq
 obtain ⟨j,h1,h2,h3,h4,h5⟩:=atI_get he
 obtain ⟨w,ew,rw'⟩:=r.get h2
 have hl:=r.length
 have hn:=z1q
 have fin:EP X pins σ Q w s:=⟨z,H,I,rw',q⟩
 by_cases h0:0≤i
 ·have hj:i.toNat=j:=by
   rw [seqIndex_of h0 h5] at h1
   exact Option.some.inj h1
  exact item_listR pl.isList h0 (by omega) (by rw [hj]; simpa using ew) fin hs
 ·have hj:(i+(its.toArray.size:Int)).toNat=j:=by
   rw [seqIndex_neg (by omega) h4] at h1
   rw [List.size_toArray,←hl]
   exact Option.some.inj h1
  exact subscriptTail_builtinR (x:=w) pl.isList.typeIs slot_list_getitem.lookup
   (wpAny_getItem_list_neg (Q:=fun r s'=>r=w∧EP X pins σ Q r s') pl.isList (by omega) (by rw [List.size_toArray]<;>omega) (by omega) (by rw [hj]; simpa using ew) ⟨rfl,fin⟩) hs
theorem ix_tup:IxR X (rIxT X.K):=by
 intro value slice pins s σ H x y v u Q I rx ry h hs
 obtain ⟨p,xs,i,z,rfl,rfl,hq,he,q⟩:=h
 cases rx
 obtain ⟨t,rfl⟩:=ry
 obtain ⟨its,r,pl,hz⟩:=I.tuple hq
 obtain ⟨j,h1,h2,h3,h4,h5⟩:=atI_get he
 obtain ⟨w,ew,rw'⟩:=r.get h2
 have hl:=r.length
 have hn:=z1q
 have fin:EP X pins σ Q w s:=⟨z,H,I,rw',q⟩
 exact subscriptTail_builtinR (x:=w) pl.typeIs slot_tuple_getitem.lookup
  (getItem_tuple (j:=j) (Q:=fun r s'=>r=w∧EP X pins σ Q r s') pl (by omega) (by omega) (by rw [List.size_toArray,←hl]; exact h1) (by simpa using ew) ⟨rfl,fin⟩) hs
theorem ix_str:IxR X rIxS:=by
 intro value slice pins s σ H x y v u Q I rx ry h hs
 obtain ⟨z,i,c,rfl,rfl,hz,he,q⟩:=h
 obtain ⟨t,rfl⟩:=rx
 obtain ⟨t',rfl⟩:=ry
 obtain ⟨j,h1,h2,h3,h4,h5⟩:=atI_get he
 have hl:z.cps.toList.length=z.length:=by simp [Str.length]
 rw [hl] at h1 h4 h5
 have hn:=z1q
 exact tail_any (typeIs_str s z t) slot_str_getitem.lookup (getItem_str (c:=c) (by
  have e1:decide (i < -(2 ^ 63:Int))=false:=decide_eq_false (by omega)
  have e2:decide (i≥2 ^ 63)=false:=decide_eq_false (by omega)
  rw [e1,e2,Bool.or_false]) (by rw [h1]; simpa using h2) ⟨.str ⟨#[c]⟩,H,I.tok _,⟨_,rfl⟩,q⟩) hs
theorem mapSeq_set (its:List Value) (n j:Nat) (u:Value):Obj.mapSeq (·.setIfInBounds j u) { cls:=.type "list",data:=.seq its.toArray n }={ cls:=.type "list",data:=.seq (its.set j u).toArray n }:=by
 simp [Obj.mapSeq]
theorem Inv.lst {pins:List (Addr×Obj)} {σ:St} {H:Hp} {s:Shared} {p:Addr} {xs:List V} (I:Inv X pins σ H s) (h:H p=some (.lst xs)) :
  ∃(its:List Value) (n:Nat),Vals xs its∧s.heap.get? p=some { cls:=.type "list",data:=.seq its.toArray n }∧xs.length≤sizeLine:=by
 obtain ⟨z,its,n,r,e⟩:=I.hok p _ h
 exact ⟨its,n,r,e,z⟩
theorem Inv.lstUpd {pins:List (Addr×Obj)} {σ:St} {H:Hp} {s:Shared} {p:Addr} {xs ys:List V} {its its':List Value} {n n':Nat} {f:Obj→Obj} (I:Inv X pins σ H s) (h:H p=some (.lst xs))
  (ho:s.heap.get? p=some { cls:=.type "list",data:=.seq its.toArray n }) (hf:f { cls:=.type "list",data:=.seq its.toArray n }={ cls:=.type "list",data:=.seq its'.toArray n' }) (r:Vals ys its') (hz:ys.length≤sizeLine) (t:Nat) :
  Inv X pins σ (upd H p (.lst ys)) { s with heap:=s.heap.update p f,toks:=t }:=by
 have e:(s.heap.update p f).get? p=some { cls:=.type "list",data:=.seq its'.toArray n' }:=by
  rw [Heap.get?_update_self f ho (by rw [hf]<;>rfl),hf]
 refine I.write (x:=p) (e:=p) (by rw [h]; trivial) (.inl rfl) (fun b u hb q=>(Heap.get?_update_other _ _ (Ne.symm hb)).trans q) ⟨_,e⟩ ?_
 exact ⟨hz,its',n',r,e⟩
def rSetL:V→V→V→Hp→(Hp→Prop)→Prop:=fun o i v H Q=>∃p xs k j,o=.ref p∧i=.int k∧H p=some (.lst xs)∧ixN xs.length k=some j∧Q (upd H p (.lst (xs.set j v)))
theorem set_list:PSet X rSetL:=by
 intro pins s σ H o i v ov iv u Q I ro ri rv h
 obtain ⟨p,xs,k,j,rfl,rfl,hp,hj,q⟩:=h
 cases ro
 obtain ⟨t,rfl⟩:=ri
 obtain ⟨its,n,r,ho,hz⟩:=I.lst hp
 obtain ⟨h1,h2,h3,h4⟩:=ixN_seq hj
 have hl:=r.length
 have hn:=z1q
 have I':Inv X pins σ (upd H p (.lst (xs.set j v))) { s with heap:=s.heap.update p (Obj.mapSeq (·.setIfInBounds j u)) }:=
  I.lstUpd hp ho (mapSeq_set its n j u) (r.set rv j) (by rw [List.length_set]; exact hz) s.toks
 by_cases h0:0≤k
 ·have hk:k.toNat=j:=by
   rw [seqIndex_of h0 h4] at h1
   exact Option.some.inj h1
  exact PySem.W.ki_setAt ho h0 (by omega) (by rw [List.size_toArray,←hl]; exact h4) (by rw [hk]; exact ⟨_,I',q⟩)
 ·have hk:(k+(its.toArray.size:Int)).toNat=j:=by
   rw [seqIndex_neg (by omega) h3] at h1
   rw [List.size_toArray,←hl]
   exact Option.some.inj h1
  exact PySem.W.ki_setBack ho (by omega) (by rw [List.size_toArray,←hl]; exact h3) (by omega) (by rw [hk]; exact ⟨_,I',q⟩)
theorem slice_bounds (lo hi:Option Int) (n:Nat):(sliceBounds lo hi none n).1=((HT.sIx n 0 lo:Nat):Int)∧(sliceBounds lo hi none n).2.1=((HT.sIx n n hi:Nat):Int)∧(sliceBounds lo hi none n).2.2=1:=by
 refine ⟨?_,?_,rfl⟩
 ·cases lo with
  | none=>simp [sliceBounds,HT.sIx]
  | some i=>
   simp only [sliceBounds,HT.sIx,Option.getD_none,show (1:Int) > 0 by decide,if_true]
   by_cases h:i<0
   ·simp only [h,if_true]<;>omega
   ·simp only [h,if_false]<;>omega
 ·cases hi with
  | none=>simp [sliceBounds,HT.sIx]
  | some i=>
   simp only [sliceBounds,HT.sIx,Option.getD_none,show (1:Int) > 0 by decide,if_true]
   by_cases h:i<0
   ·simp only [h,if_true]<;>omega
   ·simp only [h,if_false]<;>omega
theorem slicePick_cut (its:List Value) (lo hi:Option Int):slicePick its.toArray lo hi none=((its.drop (HT.sIx its.length 0 lo)).take (HT.sIx its.length its.length hi - HT.sIx its.length 0 lo)).toArray:=by
 obtain ⟨h1,h2,h3⟩:=slice_bounds lo hi its.toArray.size
 unfold slicePick
 rw [h1,h2,h3]
 simp only [sliceRange_one,pick_run,List.size_toArray]<;>rfl
def rSlL (K:PySem.W.Frag):V→Option Int→Option Int→Hp→VK→Prop:=fun x lo hi H Q=>∃a xs,x=.ref a∧SqL K H a xs∧∀p,H p=none→Q (.ref p) (upd H p (.lst (cutV xs lo hi)))
theorem sl_list:SlR X (rSlL X.K):=by
 intro pins s σ H x v vl vu lo hi sl Q I rx hs pl pu h
 obtain ⟨a,xs,rfl,hx,q⟩:=h
 cases rx
 obtain ⟨its,r,ht,hz⟩:=I.list hx
 have hlen:=r.length
 refine ⟨"list",_,slot_list_getitem.lookup,ht.isList.typeIs,?_⟩
 refine wpAny_getItem_list_slice ht.isList hs pl pu .none (by simp) ?_ (by rw [List.size_toArray]<;>omega)
 rw [slicePick_cut,←hlen]
 refine ⟨.ref s.heap.objs.size,_,I.laid (t':=s.toks) (o:=.lst (cutV xs lo hi)) (fun b ob q=>Heap.get?_push_of_some _ q) (Nat.le_refl _) ?_,rfl,q _ (I.hok.fresh (Nat.le_refl _))⟩
 exact ⟨Nat.le_trans (z1w xs lo hi) hz,_,0,(r.drop (HT.sIx xs.length 0 lo)).take (HT.sIx xs.length xs.length hi - HT.sIx xs.length 0 lo),Heap.get?_push_size _ rfl⟩
theorem q7w:q8k X (.builtin "len") (fun xs H Q=>∃p ys,xs=[.ref p]∧(SqL X.K H p ys∨SqT X.K H p ys)∧Q (.int ys.length) H):=by
 intro pins s σ H xs us Q I r h
 obtain ⟨p,ys,rfl,hq,q⟩:=h
 obtain ⟨u,rfl,rx⟩:=vals1 r
 cases rx
 have hn:=z1q
 rcases hq with hq | hq
 ·obtain ⟨its,r',pl,hz⟩:=I.list hq
  have hlen:=r'.length
  exact Calls.call_len_list pl.isList (by simp only [List.size_toArray]<;>omega) ⟨.int ys.length,H,I.tok _,⟨s.toks+1,by rw [List.size_toArray,hlen]⟩,q⟩
 ·obtain ⟨its,r',pl,hz⟩:=I.tuple hq
  have hlen:=r'.length
  exact len_tuple pl (by simp only [List.size_toArray]<;>omega) ⟨.int ys.length,H,I.tok _,⟨s.toks+1,by rw [List.size_toArray,hlen]⟩,q⟩
theorem call_len_str:q8k X (.builtin "len") (fun xs H Q=>∃z,xs=[.str z]∧z.length≤sizeLine∧Q (.int z.length) H):=by
 intro pins s σ H xs us Q I r h
 obtain ⟨z,rfl,hz,q⟩:=h
 obtain ⟨u,rfl,t,rfl⟩:=vals1 r
 have hn:=z1q
 exact len_str (by omega) ⟨.int z.length,H,I.tok _,⟨_,rfl⟩,q⟩
theorem q7v:q8k X (.type "list") (fun xs H Q=>∃p ys,xs=[.ref p]∧(SqL X.K H p ys∨SqT X.K H p ys)∧∀l,H l=none→Q (.ref l) (upd H l (.lst ys))):=by
 intro pins s σ H xs us Q I r h
 obtain ⟨p,ys,rfl,hq,q⟩:=h
 obtain ⟨u,rfl,rx⟩:=vals1 r
 cases rx
 have fin:∀(its:List Value),Vals ys its→ys.length≤sizeLine→∀(h':Heap) (c':Nat),(∀b o',s.heap.get? b=some o'→h'.get? b=some o')→
   h'.get? s.heap.objs.size=some { cls:=.type "list",dict:=none,data:=.seq its.toArray c',slots:=#[] }→EP X pins σ Q (.ref s.heap.objs.size) { s with heap:=h' }:=fun its r' hz h' c' kp e=>
  ⟨.ref s.heap.objs.size,_,I.laid (t':=s.toks) kp (Nat.le_refl _) (show q3s X.prog X.w _ h' _ (.lst ys) from ⟨hz,its,c',r',e⟩),rfl,q _ (I.hok.fresh (Nat.le_refl _))⟩
 rcases hq with hq | hq
 ·obtain ⟨its,r',pl,hz⟩:=I.list hq
  have hlen:=r'.length
  obtain ⟨o,ho,hc,n,hd⟩:=pl.isList
  exact call_list_seq p (.inl rfl) ho hc hd (fun h' c' kp e=>fin its r' hz h' c' kp e) (by simp only [List.size_toArray]<;>omega)
 ·obtain ⟨its,r',pl,hz⟩:=I.tuple hq
  have hlen:=r'.length
  obtain ⟨o,ho,hc,n,hd⟩:=pl
  exact call_list_seq p (.inr rfl) ho hc hd (fun h' c' kp e=>fin its r' hz h' c' kp e) (by simp only [List.size_toArray]<;>omega)
def tyV (K:PySem.W.Frag) (T:String) (x:V) (H:Hp):Prop:=match x with
 | .str _=>T = "str"
 | .int _=>T = "int"
 | .ref p=>(T = "list" ∧∃xs,SqL K H p xs)∨(T = "tuple" ∧∃o,K.lookup p=some o∧o.cls=.type "tuple" ∧o.dict=none)∨
   (T = "dict" ∧((∃kvs,H p=some (.dK kvs))∨∃kvs,H p=some (.dT kvs)))∨(T = "set" ∧∃S n,H p=some (.set S n))
 | _=>False
theorem tyV_is {pins:List (Addr×Obj)} {σ:St} {H:Hp} {s:Shared} {T:String} {x:V} {v:Value} (I:Inv X pins σ H s) (r:RelV x v) (ty:tyV X.K T x H) :
  s.TypeIs v T∧∀a,v=.ref a→∃ob,s.heap.get? a=some ob∧ob.dict=none:=by
 cases x with
 | str z=>
  obtain ⟨t,rfl⟩:=r
  cases (show T = "str" from ty)
  exact ⟨typeIs_str s z t,fun _ e=>nomatch e⟩
 | int i=>
  obtain ⟨t,rfl⟩:=r
  cases (show T = "int" from ty)
  exact ⟨typeIs_int s i t,fun _ e=>nomatch e⟩
 | ref p=>
  cases r
  rcases ty with ⟨rfl,xs,hq⟩ | ⟨rfl,o,hk,hc,hd⟩ | ⟨rfl,hk⟩ | ⟨rfl,S,n,hk⟩
  ·obtain ⟨its,_,pl,_⟩:=I.list hq
   refine ⟨pl.isList.typeIs,fun a e=>?_⟩
   cases e
   obtain ⟨o,n,e,c,hd,_⟩:=pl
   exact ⟨o,e,hd⟩
  ·refine ⟨⟨o,I.kIn p o hk,hc⟩,fun a e=>?_⟩
   cases e
   exact ⟨o,I.kIn _ o hk,hd⟩
  ·have z:∃o,s.heap.get? p=some o∧o.ExactDict:=by
    rcases hk with ⟨kvs,hk⟩ | ⟨kvs,hk⟩
    ·obtain ⟨_,_,_,_,o,_,_,e,ex,_⟩:=I.hok p _ hk
     exact ⟨o,e,ex⟩
    ·obtain ⟨_,_,_,_,o,_,_,e,ex,_⟩:=I.hok p _ hk
     exact ⟨o,e,ex⟩
   obtain ⟨o,e,ex⟩:=z
   refine ⟨⟨o,e,ex.1⟩,fun a e2=>?_⟩
   cases e2
   exact ⟨o,e,ex.2.1⟩
  ·obtain ⟨o,_,_,_,e,ex,_⟩:=I.hok p _ hk
   refine ⟨⟨o,e,ex.1⟩,fun a e2=>?_⟩
   cases e2
   exact ⟨o,e,ex.2.1⟩
 | _=>exact False.elim ty
def tBM0 (K:PySem.W.Frag) (T:String) (r:V→List V→Hp→VK→Prop) (to:TE):TE:=fun σ H Q=>to σ H fun x H1=>tyV K T x H1∧r x [] H1 Q
def tBM (K:PySem.W.Frag) (T:String) (r:V→List V→Hp→VK→Prop) (to:TE) (t:TA):TE:=fun σ H Q=>to σ H fun x H1=>tyV K T x H1∧t σ H1 fun xs H2=>r x xs H2 Q
variable {o e:Expr} {es:List Expr} {to:TE} {t:TA} {name:Str} {apos cpos:Pos} {T id:String} {r:V→List V→Hp→VK→Prop}
theorem pe_bm0 (pa:PlainAttrs T) (slot:Slot T name id) (hty:typeOf (.builtin id)=pure (.type "method_descriptor")) (hm:MtR X id r) (ho:PE X o to)
  (hbase:attributeBase o name X.env (eval o X.env)=eval o X.env:=by rfl) (hline:(apos.endLine == cpos.line)=true:=by rfl):PE X (.Call (.Attribute o name apos) [] [] cpos) (tBM0 X.K T r to):=by
 intro pins s σ H Q I h
 refine wpAny_Call_method0_late hbase hline (thn (ho pins s σ H _ I h) fun v s1 hh1=>?_)
 obtain ⟨x,H1,I1,r1,ty,q1⟩:=hh1
 obtain ⟨h1,h2⟩:=tyV_is I1 r1 ty
 exact ⟨T,id,pa,slot,hty,h1,h2,Calls.callWith_builtin rfl (PySem.evalArgs_none (hm pins s1 σ H1 x [] v [] Q I1 r1 .nil q1))⟩
theorem pe_bm (pa:PlainAttrs T) (slot:Slot T name id) (hty:typeOf (.builtin id)=pure (.type "method_descriptor")) (hm:MtR X id r) (ho:PE X o to) (ha:PA X (e::es) t)
  (hbase:attributeBase o name X.env (eval o X.env)=eval o X.env:=by rfl)
  (hfew:((backTo cpos (starEach (e::es) X.env)).all (fun x=>!x.1) && (backToKw cpos (keywordEach [] X.env)).all (fun x=>x.1.isSome)
   && decide ((e::es).length+([]:List Keyword).length+(if ([]:List Keyword).isEmpty then 0 else 1)<30))=true:=by rfl)
  (hline:(apos.endLine == cpos.line)=true:=by rfl) (hs:starEach (e::es) X.env=(false,eval e X.env)::starEach es X.env:=by rfl) (hplain:(backTo cpos (starEach es X.env)).any (·.1)=false:=by rfl) :
  PE X (.Call (.Attribute o name apos) (e::es) [] cpos) (tBM X.K T r to t):=by
 intro pins s σ H Q I h
 refine wpAny_Call_method_late hbase hfew hline rfl (thn (ho pins s σ H _ I h) fun v s1 hh1=>?_)
 obtain ⟨x,H1,I1,r1,ty,q1⟩:=hh1
 obtain ⟨h1,h2⟩:=tyV_is I1 r1 ty
 refine ⟨T,id,pa,slot,hty,h1,h2,?_⟩
 have hA:=ha cpos pins s1 σ H1 _ I1 q1
 rw [hs] at hA ⊢
 refine Calls.callWith_builtin (by show (false || (backTo cpos (starEach es X.env)).any (·.1))=false; rw [hplain]<;>rfl) (Calls.evalArgs_plain ?_)
 exact thn hA fun us s2 hh2=>by obtain ⟨vs,H2,I2,r2,q2⟩:=hh2; exact (hm pins s2 σ H2 x vs v us Q I2 r1 r2 q2)
/- xs.append(e),list.index on a module's tuple .. are MtR facts of 06m -/
end
end L2
namespace L2
open PySem PySem.Spec PyProof.Rows
def MtM (X:Cx) (id:String) (r:V→List V→Hp→VK→Prop):Prop:=
 ∀(pins:List (Addr×Obj)) (s:Shared) (σ:St) (H:Hp) (x:V) (xs:List V) (v:Value) (us:List Value) (Q:VK),Inv X pins σ H s→RelV x v→Vals xs us→r x xs H Q→
  wpAny (model X.prog X.w) X.A (call (.builtin id) (v::us)) (EP X pins σ Q) X.xe s
theorem Vals.one:∀{x:V} {us:List Value},Vals [x] us→∃u,us=[u]∧RelV x u
 | _,_,.cons r .nil=>⟨_,rfl,r⟩
theorem Vals.zero:∀{us:List Value},Vals [] us→us=[]
 | _,.nil=>rfl
theorem Vals.dropLast {xs:List V} {us:List Value} (h:Vals xs us):Vals xs.dropLast us.dropLast:=by
 induction h with
 | nil=>exact .nil
 | cons r t ih=>
  cases t with
  | nil=>exact .nil
  | cons q t'=>exact .cons r ih
theorem Vals.eraseIdx:∀{xs:List V} {us:List Value} (i:Nat),Vals xs us→Vals (xs.eraseIdx i) (us.eraseIdx i)
 | _,_,_,.nil=>.nil
 | _,_,0,.cons _ t=>t
 | _,_,i+1,.cons r t=>.cons r (Vals.eraseIdx i t)
theorem Vals.reverse {xs:List V} {us:List Value} (h:Vals xs us):Vals xs.reverse us.reverse:=by
 induction h with
 | nil=>exact .nil
 | cons r t ih=>rw [List.reverse_cons,List.reverse_cons]; exact Vals.append ih (.cons r .nil)
theorem Vals.rep {xs:List V} {us:List Value} (h:Vals xs us):∀k:Nat,Vals (List.replicate k xs).flatten (List.replicate k us).flatten
 | 0=>.nil
 | k+1=>by
  rw [List.replicate_succ,List.replicate_succ,List.flatten_cons,List.flatten_cons]
  exact Vals.append h (Vals.rep h k)
theorem erase_last {α:Type} (l:List α):l.eraseIdx (l.length - 1)=l.dropLast:=by
 induction l with
 | nil=>rfl
 | cons a r ih=>
  cases r with
  | nil=>rfl
  | cons b r=>
   have e:(a::b::r).length - 1=((b::r).length - 1)+1:=by
    have h1:(a::b::r).length=r.length+2:=rfl
    have h2:(b::r).length=r.length+1:=rfl
    omega
   rw [e,List.eraseIdx_cons_succ,ih]
   all_goals rfl
theorem len_erase {α:Type}:∀(l:List α) (i:Nat),(l.eraseIdx i).length≤l.length
 | [],_=>Nat.le_refl _
 | _::_,0=>Nat.le_succ _
 | _::r,i+1=>Nat.succ_le_succ (len_erase r i)
theorem foldl_rep (its:List Value):∀(k:Nat) (acc:List Value),
  List.foldl (fun x1 x2=>x1++x2) acc.toArray (List.replicate k its.toArray)=(acc++(List.replicate k its).flatten).toArray
 | 0,acc=>by simp
 | k+1,acc=>by
  have e:acc.toArray++its.toArray=(acc++its).toArray:=by simp
  have e2:(acc++its)++(List.replicate k its).flatten=acc++(List.replicate (k+1) its).flatten:=by
   rw [List.replicate_succ,List.flatten_cons,List.append_assoc]
  rw [←e2,←foldl_rep its k (acc++its),←e,List.replicate_succ,List.foldl_cons]
section
variable {X:Cx} {pins:List (Addr×Obj)} {σ:St} {H:Hp} {s:Shared} {l b:Addr} {xs ys zs:List V}
theorem Inv.lset {its its':List Value} {n:Nat} {f:Array Value→Array Value} {t':Nat} (I:Inv X pins σ H s) (hH:H l=some (.lst xs))
  (e:s.heap.get? l=some { cls:=.type "list",data:=.seq its.toArray n }) (hf:f its.toArray=its'.toArray) (hv:Vals ys its') (hz:ys.length≤sizeLine) :
  Inv X pins σ (upd H l (.lst ys)) { s with heap:=s.heap.update l (Obj.mapSeq f),toks:=t' }:=by
 have q:=PySem.IsL.update e f
 rw [hf] at q
 refine I.write (x:=l) (e:=l) (by rw [hH]; exact trivial) (.inl rfl) (fun b' u hb hu=>(Heap.get?_update_other s.heap (Obj.mapSeq f) (Ne.symm hb)).trans hu) ⟨_,q⟩ ?_
 exact ⟨hz,its',_,hv,q⟩
theorem Inv.lnew {its:List Value} {t':Nat} (I:Inv X pins σ H s) (hv:Vals ys its) (hz:ys.length≤sizeLine) :
  Inv X pins σ (upd H s.heap.objs.size (.lst ys)) { s with heap:=s.heap.push { cls:=.type "list",data:=.seq its.toArray },toks:=t' }:=
 I.laid (fun _ _ q=>Heap.get?_push_of_some _ q) (Nat.le_refl _) ⟨hz,its,0,hv,Heap.get?_push_size _ rfl⟩
theorem Inv.fresh (I:Inv X pins σ H s):H s.heap.objs.size=none:=I.hok.fresh (Nat.le_refl _)
theorem Inv.lstM (I:Inv X pins σ H s) (hH:H l=some (.lst xs)):xs.length≤sizeLine∧∃(its:List Value) (n:Nat),Vals xs its∧xs.length=its.length∧s.heap.get? l=some { cls:=.type "list",data:=.seq its.toArray n }:=by
 obtain ⟨z,its,n,r,e⟩:=I.hok l _ hH
 exact ⟨z,its,n,r,r.length,e⟩
theorem notLongL {n:Nat} (h:n≤sizeLine):Builtin.List.listTooLong n=false:=by
 unfold Builtin.List.listTooLong
 exact decide_eq_false (by omega)
end
section
variable {X:Cx}
def rAppend:V→List V→Hp→VK→Prop:=fun x vs H Q=>∃l xs y,x=.ref l∧vs=[y]∧H l=some (.lst xs)∧xs.length<sizeLine∧Q .non (upd H l (.lst (xs++[y])))
theorem mt_append:MtM X "list.append" rAppend:=by
 intro pins s σ H x vs v us Q I rx rv h
 obtain ⟨l,xs,y,rfl,rfl,hH,hz,q⟩:=h
 cases rx
 obtain ⟨u,rfl,ru⟩:=rv.one
 obtain ⟨z,its,n,r,hl,e⟩:=I.lstM hH
 refine call_meets F.slot_list_append ⟨_,e,rfl⟩ F.entry_list_append (F.args_list_append_2 _ _) (PySem.list_append l its.toArray n u (by rw [List.size_toArray]; omega)) ⟨e,?_⟩
 refine ⟨.non,_,I.lset (its':=its++[u]) hH e (by simp) (r.append (.cons ru .nil)) ?_,rfl,q⟩
 rw [List.length_append,List.length_singleton]
 omega
def rExtend:V→List V→Hp→VK→Prop:=fun x vs H Q=>∃l b xs zs,x=.ref l∧vs=[.ref b]∧H l=some (.lst xs)∧H b=some (.lst zs)∧xs.length+zs.length≤sizeLine∧Q .non (upd H l (.lst (xs++zs)))
theorem mt_extend:MtM X "list.extend" rExtend:=by
 intro pins s σ H x vs v us Q I rx rv h
 obtain ⟨l,b,xs,zs,rfl,rfl,hH,hB,hz,q⟩:=h
 cases rx
 obtain ⟨u,rfl,ru⟩:=rv.one
 cases ru
 obtain ⟨z,its,n,r,hl,e⟩:=I.lstM hH
 obtain ⟨z2,its2,n2,r2,hl2,e2⟩:=I.lstM hB
 have hsz:its.toArray.size+its2.toArray.size≤sizeLine:=by rw [List.size_toArray,List.size_toArray]; omega
 have hlong:¬(!its.toArray.isEmpty && Builtin.List.listTooLong (its.toArray.size+its2.toArray.size))=true:=by
  rw [notLongL hsz,Bool.and_false]
  exact Bool.false_ne_true
 refine call_meets F.slot_list_extend ⟨_,e,rfl⟩ F.entry_list_extend (F.args_list_extend_2 _ _)
  (AutoSeq1.list_extend_list_list_0 l its.toArray n b its2.toArray n2 hlong (by rw [List.size_toArray]; omega) (by omega)) ⟨e,e2,?_⟩
 refine ⟨.non,_,I.lset (its':=its++its2) hH e (by simp) (r.append r2) ?_,rfl,q⟩
 rw [List.length_append]
 omega
def rPop:V→List V→Hp→VK→Prop:=fun x vs H Q=>∃l xs y,x=.ref l∧vs=[]∧H l=some (.lst xs)∧xs[xs.length - 1]?=some y∧Q y (upd H l (.lst xs.dropLast))
theorem mt_pop:MtM X "list.pop" rPop:=by
 intro pins s σ H x vs v us Q I rx rv h
 obtain ⟨l,xs,y,rfl,rfl,hH,hy,q⟩:=h
 cases rx
 have hus:=rv.zero
 subst hus
 obtain ⟨z,its,n,r,hl,e⟩:=I.lstM hH
 obtain ⟨u,hu,ru⟩:=r.get hy
 have hy':its.toArray[its.toArray.size - 1]?=some u:=by
  show its.toArray[its.length - 1]?=some u
  rw [←Array.getElem?_toList,←hl]
  exact hu
 refine call_meets F.slot_list_pop ⟨_,e,rfl⟩ F.entry_list_pop (F.args_list_pop_1 _) (MeetsSeq.list_pop_last l its.toArray n u hy' (by rw [List.size_toArray]; omega)) ⟨e,?_⟩
 refine ⟨y,_,I.lset (its':=its.dropLast) hH e ?_ r.dropLast ?_,ru,q⟩
 ·show its.toArray.eraseIdxIfInBounds (its.toArray.size - 1)=its.dropLast.toArray
  rw [List.size_toArray,List.eraseIdxIfInBounds_toArray,erase_last]
 ·rw [List.length_dropLast]
  omega
def rPopAt:V→List V→Hp→VK→Prop:=fun x vs H Q=>∃l xs i k y,x=.ref l∧vs=[.int i]∧H l=some (.lst xs)∧-(2 ^ 63)≤i∧i<2 ^ 63∧seqIndex? i xs.length=some k∧xs[k]?=some y∧Q y (upd H l (.lst (xs.eraseIdx k)))
theorem mt_popAt:MtM X "list.pop" rPopAt:=by
 intro pins s σ H x vs v us Q I rx rv h
 obtain ⟨l,xs,i,k,y,rfl,rfl,hH,h1,h2,hk,hy,q⟩:=h
 cases rx
 obtain ⟨u,rfl,ru⟩:=rv.one
 obtain ⟨t,rfl⟩:=ru
 obtain ⟨z,its,n,r,hl,e⟩:=I.lstM hH
 obtain ⟨w,hw,rw'⟩:=r.get hy
 refine call_meets F.slot_list_pop ⟨_,e,rfl⟩ F.entry_list_pop (F.args_list_pop_2 _ _)
  (MeetsSeq.list_pop_at l its.toArray n i t k w (fitsIndex_both h1 h2) (by rw [List.size_toArray,←hl]; exact hk) (by rw [←Array.getElem?_toList]; exact hw) (by rw [List.size_toArray]; omega)) ⟨e,?_⟩
 refine ⟨y,_,I.lset (its':=its.eraseIdx k) hH e ?_ (r.eraseIdx k) ?_,rw',q⟩
 ·show its.toArray.eraseIdxIfInBounds k=(its.eraseIdx k).toArray
  rw [List.eraseIdxIfInBounds_toArray]
 ·have:=len_erase xs k
  omega
def rClear:V→List V→Hp→VK→Prop:=fun x vs H Q=>∃l xs,x=.ref l∧vs=[]∧H l=some (.lst xs)∧Q .non (upd H l (.lst []))
theorem mt_clear:MtM X "list.clear" rClear:=by
 intro pins s σ H x vs v us Q I rx rv h
 obtain ⟨l,xs,rfl,rfl,hH,q⟩:=h
 cases rx
 have hus:=rv.zero
 subst hus
 obtain ⟨z,its,n,r,hl,e⟩:=I.lstM hH
 refine call_meets F.slot_list_clear ⟨_,e,rfl⟩ F.entry_list_clear (F.args_list_clear_1 _) (AutoSeq1.list_clear_list_0 l its.toArray n (by rw [List.size_toArray]; omega)) ⟨e,?_⟩
 exact ⟨.non,_,I.lset (its':=[]) (ys:=[]) hH e rfl .nil (Nat.zero_le _),rfl,q⟩
def rCat:R2:=fun x y H Q=>∃l b xs zs,x=.ref l∧y=.ref b∧H l=some (.lst xs)∧H b=some (.lst zs)∧xs.length+zs.length≤sizeLine∧∀p,H p=none→Q (.ref p) (upd H p (.lst (xs++zs)))
theorem op_cat:OpR X (binaryOp .Add) rCat:=by
 intro pins s σ H x y v u Q I rx ry h
 obtain ⟨l,b,xs,zs,rfl,rfl,hH,hB,hz,q⟩:=h
 cases rx
 cases ry
 obtain ⟨z,its,n,r,hl,e⟩:=I.lstM hH
 obtain ⟨z2,its2,n2,r2,hl2,e2⟩:=I.lstM hB
 refine PySem.P.add_list e e2 ?_ (by rw [List.size_toArray,List.size_toArray]; omega)
 have ea:its.toArray++its2.toArray=(its++its2).toArray:=by simp
 rw [ea]
 exact ⟨.ref _,_,I.lnew (t':=s.toks) (r.append r2) (by rw [List.length_append]; omega),rfl,q _ I.fresh⟩
def rRep:R2:=fun x y H Q=>∃l k xs,x=.ref l∧y=.int k∧H l=some (.lst xs)∧-(2 ^ 63)≤k∧k<2 ^ 63∧xs.length*k.toNat≤sizeLine∧
 ∀p,H p=none→Q (.ref p) (upd H p (.lst (List.replicate k.toNat xs).flatten))
theorem len_rep {α:Type} (xs:List α) (k:Nat):(List.replicate k xs).flatten.length=k*xs.length:=by
 induction k with
 | zero=>simp
 | succ k ih=>rw [List.replicate_succ,List.flatten_cons,List.length_append,ih,Nat.succ_mul,Nat.add_comm]
theorem op_rep:OpR X (binaryOp .Mult) rRep:=by
 intro pins s σ H x y v u Q I rx ry h
 obtain ⟨l,k,xs,rfl,rfl,hH,h1,h2,hz,q⟩:=h
 cases rx
 obtain ⟨t,rfl⟩:=ry
 obtain ⟨z,its,n,r,hl,e⟩:=I.lstM hH
 have hlen:its.toArray.size*k.toNat≤sizeLine:=by rw [List.size_toArray,←hl]; exact hz
 have hcap:¬its.toArray.size*k.toNat > (2 ^ 63 - 1) / 8:=by
  have:(sizeLine:Nat)≤(2 ^ 63 - 1) / 8:=by decide
  omega
 have hfit:¬(!Builtin.List.listFitsIndex k)=true:=by
  rw [fitsIndex_both h1 h2]
  exact Bool.false_ne_true
 have hlong:¬Builtin.List.listTooLong (its.toArray.size*k.toNat)=true:=by
  rw [notLongL hlen]
  exact Bool.false_ne_true
 have hnew:List.foldl (fun x1 x2=>x1++x2) #[] (List.replicate (if its.toArray.isEmpty=true then 0 else k.toNat) its.toArray)=(List.replicate k.toNat its).flatten.toArray:=by
  have f0:∀m:Nat,List.foldl (fun x1 x2=>x1++x2) #[] (List.replicate m its.toArray)=(List.replicate m its).flatten.toArray:=fun m=>by
   have:=foldl_rep its m []
   rw [List.nil_append] at this
   exact this
  rw [f0]
  cases its with
  | nil=>simp
  | cons a r'=>rw [if_neg (by simp)]
 refine wpAny_binaryOp_repeat_ref (T:= "list") (U:= "int") (by decide) ⟨_,e,rfl⟩ (fun s'=>typeIs_int s' k t) noFill_list_mul F.fills_int_mul F.slot_int_rmul repeat_list F.slot_int_index.lookup
  (call_meets F.slot_int_rmul (typeIs_int s k t) F.entry_int_rmul (F.args_int_rmul_2 _ _) (int___rmul___int_list k t l its.toArray n)
   ⟨e,rfl,⟨_,e,rfl⟩,call_meets F.slot_list_mul ⟨_,e,rfl⟩ F.entry_list_mul (F.args_list_mul_2 _ _) (AutoListH.list___mul___list_int_3 l its.toArray n k t hfit hcap hlong) ⟨e,?_⟩⟩)
 rw [hnew]
 exact ⟨.ref _,_,I.lnew (t':=s.toks) (r.rep k.toNat) (by rw [len_rep,Nat.mul_comm]; exact hz),rfl,q _ I.fresh⟩
end
section
variable {prog:Program} {w:World} {A:Around} {E:Value→Shared→Prop} {s:Shared}
end
section
variable {X:Cx}
end
end L2
namespace Att
open PySem PySem.W PySem.Calls PyProof.Rows
theorem z1t {P:Params} {h:Heap}:∀(ns:List Int) (vs:List Value),WellAll P h vs (ns.map WData.int)→IntsAre vs ns:=by
 intro ns
 induction ns with
 | nil=>
  intro vs w
  rw [List.map_nil] at w
  cases w
  exact .nil
 | cons n ns ih=>
  intro vs w
  rw [List.map_cons] at w
  cases w with
  | cons a b=>
   cases a
   exact .cons _ _ (ih _ b)
theorem script_of {l : OpenLaw} {n : Nat} (hn : l.most = some n) {P : Params} {h : Heap} {args : List WData} {vals : List Value}
  (hpre : l.row.toRowW.claim.pre args = true) (hwl : WellAll P h vals args) :
  ∃ a vs ns, vals = [Value.ref a] ∧ args = [WData.list (ns.map WData.int)] ∧ h.get? a = some { cls := .type "list", data := .seq vs.toArray } ∧ IntsAre vs ns ∧ ns.length ≤ n := by
 have hsh : WShape.hasAll [] args [.list .int] = true := (pre_splitW hpre).1
 have hc : l.pre.holds [] { args := args } = true := (pre_splitW hpre).2
 obtain ⟨d, r, rfl, h1, h2⟩ := hasAllW_cons hsh
 obtain rfl := hasAllW_nil h2
 obtain ⟨xs, rfl, h3⟩ := hasW_list h1
 obtain ⟨ns, rfl⟩ := items_int h3
 have hlen : ns.length ≤ n := by
  unfold OpenLaw.pre at hc
  have h4 : (WTm.not (.lt (.lit (.int (n : Int))) (.len (.arg 0)))).holds [] { args := [.list (ns.map .int)] } = true := by
   have h4 := (holds_andW hc).1
   rw [hn] at h4
   exact h4
  have h5 := condW_of h4 (w_not (w_lt w_lit (w_len_list (w_arg rfl))))
  rw [List.length_map] at h5
  refine Nat.le_of_not_lt fun q => ?_
  have q' : (n : Int) < ((ns.length : Nat) : Int) := by omega
  first
   | (rw [decide_eq_true q'] at h5; exact absurd h5 (by decide))
   | (simp at h5; omega)
 cases hwl with
 | cons w1 w2 =>
  cases w2
  cases w1 with
  | list ho hall => exact ⟨_, _, ns, rfl, rfl, ho, z1t ns _ hall, hlen⟩
theorem post_true (l:OpenLaw) (args:List WData):l.row.toRowW.claim.post args (.bool true) args=true:=
 postW_of (r:=l.row.toRowW) (X:=(true == true))
  (show WShape.has [] (.bool true) .bool=true by first | rfl | decide | simp [WShape.has,WShape.arms,WShape.armsAll])
  (show (WTm.eq .res (.lit (.bool true))).value [] { args:=args,res:=some (.bool true),after:=args }=some (.bool (true == true)) from w_eq_bool (w_res rfl) w_lit) rfl
theorem attach_call {l:OpenLaw} {n:Nat} {q:Program} {loose:List Str} {XP:(Str→Option Value)→Heap→Prop} {YP:World→Heap→Prop} {d:DefRec}
  (hn:l.most=some n) (hdf:d.params.defaults=[])
  (call:∀(w:World) (s₀ s₁:Shared) (mg mb:Str→Option Value) (fa:Addr) (o:Obj) (pm cd doc:Value) (a:Addr) (vs:List Value) (ns:List Int),
   Ground q loose [] XP w s₀ mg mb s₁.heap→YP w s₁.heap→
   s₁.heap.get? fa=some o→o.data=.func (docDef d.name d.params d.body d.scope pm cd doc)→s₁.heap.CodeRec cd d.name→mg d.name=some (.ref fa)→
   s₁.heap.get? a=some { cls:=.type "list",data:=.seq vs.toArray }→IntsAre vs ns→ns.length≤n→s₁.gens=#[]→
   codeAny (model l.prog w) callerA (.call (.ref fa) ⟨[.ref a],[]⟩) (fun r s'=>r=.ok (.ret (.bool true))∧OldK s₁.heap s'.heap∧s'.os=s₁.os∧AllBare s'.gens) s₁) :
  WalkO q loose XP YP l.row.toRowW d [] (fun f vs=>PySem.call f vs):=by
 intro w s₀ s₁ mg mb G Y fa o pm cd doc dV kV ho hd hcd hD hmg hg args vals as hpre hlay hrd hwl hlo
 obtain rfl:dV=.none:=Dflts.none hD hdf
 obtain rfl:kV=.none:=Dflts.noKw hD
 obtain ⟨a,vs,ns,rfl,rfl,hobj,hints,hlen⟩:=script_of hn hpre hwl
 refine enter_call (codeAny_mono (call w s₀ s₁ mg mb fa o pm cd doc a vs ns G Y ho (fd_plain hd) hcd hmg hobj hints hlen hg) fun r s' hq=>?_)
 obtain ⟨rfl,h2,h3,h4⟩:=hq
 exact ⟨.inl ⟨.bool true,.bool true,[],rfl,fun _=>rfl,.bool true,post_true l _,fun _=>⟨List.Pairwise.nil,fun _ hm=>(nomatch hm)⟩⟩,h2,h3,h4⟩
section
variable {prog:Program} {w:World} {A:Around} {E:Value→Shared→Prop} {s:Shared} {K:Frag}
end
end Att
namespace L2
open PySem PySem.Spec PyProof.Rows
theorem vals_ints:∀{vs:List Value} {ns:List Int},IntsAre vs ns→Vals (ns.map V.int) vs
 | _,_,.nil=>.nil
 | _,_,.cons n t h=>.cons ⟨t,rfl⟩ (vals_ints h)
def Only (H:Hp):Prop:=∀b,H b=none∨∃o xs,H b=some (.frz o (.lst xs))
theorem law_call {P:Program} {w:World} {K:PySem.W.Frag} {mg mb:Str→Option Value} {CX:CXT} {k:Nat} {fa a:Addr} {fd:FuncData} {x:Str} {sp:Sp} {s₁:Shared} {vs:List Value} {ns:List Int}
  (KX:K.In s₁.heap) (hns:s₁.heap.Ns mainGlobals mg) (hb:s₁.heap.Ns builtinsNs mb) (hbb:∀x:Str,x≠ "__name__" →mb x=bootBuiltins x) (hlim:s₁.heap.NoLimit) (hg:s₁.gens=#[])
  (ha:s₁.heap.get? a=some { cls:=.type "list",data:=.seq vs.toArray }) (hi:IntsAre vs ns) (hl:ns.length≤sizeLine) (hr:Room k callerA)
  (F:∀base:Heap,K.In base→base.Ns mainGlobals mg→FnOk P w K mg base CX k fa fd [x] sp) (hbind:∀(s:Shared) (u:Value),BindsTo s fd ⟨[u],[]⟩ [(x,u)])
  (hsp:∀H:Hp,Only H→SqL K H a (ns.map V.int)→sp [.ref a] H (fun v _=>v=.bl true) fun _ _ _=>False)
  (hCX:∀H e s',CX [] H s₁ (fun _ _ _=>False) e s'→False) :
  codeAny (model P w) callerA (.call (.ref fa) ⟨[.ref a],[]⟩) (fun r s'=>r=.ok (.ret (.bool true))∧OldK s₁.heap s'.heap∧s'.os=s₁.os∧AllBare s'.gens) s₁:=by
 have rv:=vals_ints hi
 have lenV:=hi.length
 have core:∀H:Hp,Only H→SqL K H a (ns.map V.int)→HOk P w H s₁.heap→(∀b,H b≠none→b=a)→(H a≠none→K.lookup a=none)→
   codeAny (model P w) callerA (.call (.ref fa) ⟨[.ref a],[]⟩) (fun r s'=>r=.ok (.ret (.bool true))∧OldK s₁.heap s'.heap∧s'.os=s₁.os∧AllBare s'.gens) s₁:=by
  intro H hO hS hok hA hK
  have base_of:∀{b:Addr} {o:Obj},s₁.heap.get? b=some o→H b=none→(hidT s₁.heap H).get? b=some o:=fun e n=>hidT_get e n
  have noA:∀{b:Addr} {o:Obj} {es:Array DictEntry} {ep:Nat},s₁.heap.get? b=some o→o.data=.dict es ep→H b=none:=fun {b o es ep} e d=>by
   cases q:H b with
   | none=>rfl
   | some u=>
    have e':b=a:=hA b (by rw [q]; simp)
    subst e'
    rw [ha] at e; cases e
    have d':Data.seq vs.toArray _=Data.dict es ep:=d
    cases d'
  have nsK:∀{b:Addr} {m:Str→Option Value},s₁.heap.Ns b m→(hidT s₁.heap H).Ns b m:=fun {b m} ⟨o,es,ep,e,d,r⟩=>⟨o,es,ep,base_of e (noA e d),d,r⟩
  have hKb:K.In (hidT s₁.heap H):=fun b o e=>base_of (KX b o e) (by
   cases q:H b with
   | none=>rfl
   | some u=>
    have e':b=a:=hA b (by rw [q]; simp)
    subst e'
    rw [hK (by rw [q]; simp)] at e; cases e)
  have hM:Mod K mg (hidT s₁.heap H):=⟨hKb,nsK hns,⟨mb,nsK hb,hbb⟩,let ⟨mc,h1,h2⟩:=hlim; ⟨mc,nsK h1,h2⟩⟩
  have e0:Env0 P w K mg (hidT s₁.heap H) callerA [] s₁ H:=⟨rfl,hM,fun b o e=>of_hidT e,Nat.le_of_eq (hidT_size _ _),trivial,fun b hb=>absurd (show b∈([]:List Addr) from hb) (by simp),hok,.of_eq hg⟩
  refine codeAny_mono ((F _ hKb (nsK hns)).run callerA [] s₁ H ⟨[.ref a],[]⟩ [.ref a] [.ref a] _ _ hr e0 (hbind s₁ (.ref a)) (.cons rfl .nil) (hsp H hO hS)) fun r s' h=>?_
  cases r with
  | error e=>exact (hCX H e s' h).elim
  | ok fl=>
   cases fl with
   | next=>exact False.elim h
   | brk=>exact False.elim h
   | cont=>exact False.elim h
   | ret u=>
    obtain ⟨v,H',os,bare,un,hok',r',q⟩:=h
    have q':v=.bl true:=q
    subst q'
    obtain rfl:u=Value.bool true:=r'
    refine ⟨rfl,OldK.of_keep fun b o e=>?_,os,bare⟩
    cases q:H b with
    | none=>exact un.keep b o e q (by intro z; exact absurd (show b∈([]:List Addr) from z) (by simp)) (by simp)
    | some u=>
     rcases hO b with z | ⟨ob,xs,z⟩
     ·rw [q] at z; cases z
     ·have z2:=un.frzs b ob _ z
      obtain ⟨e1,_⟩:=hok b _ z
      obtain ⟨e2,_⟩:=hok' b _ z2
      rw [e] at e1; cases e1
      exact e2
 cases hk:K.lookup a with
 | some o=>
  have e:=KX a o hk
  rw [ha] at e
  cases e
  refine core (fun _=>none) (fun _=>.inl rfl) (.inr ⟨_,vs.toArray,_,hk,rfl,rfl,rfl,by rw [List.size_toArray,lenV]; exact hl,by simpa using rv⟩) (fun b u z=>by have z':(none:Option HO)=some u:=z; cases z') (fun b z=>absurd rfl z) fun z=>absurd rfl z
 | none=>
  refine core (fun b=>if b=a then some (.frz { cls:=.type "list",data:=.seq vs.toArray } (.lst (ns.map V.int))) else none) (fun b=>?_) (.inl (.inr ⟨{ cls:=.type "list",data:=.seq vs.toArray },if_pos rfl⟩)) (fun b u z=>?_) (fun b z=>?_) fun _=>hk
  ·by_cases hb:b=a
   ·exact .inr ⟨_,_,if_pos hb⟩
   ·exact .inl (if_neg hb)
  ·by_cases hb:b=a
   ·have z':=(if_pos hb).symm.trans z
    cases z'
    subst hb
    exact ⟨ha,by rw [List.length_map]; exact hl,vs,_,rv,ha⟩
   ·have z':=(if_neg hb).symm.trans z
    cases z'
  ·by_cases hb:b=a
   ·exact hb
   ·exact absurd (if_neg hb) z
end L2
namespace L2
open PySem PySem.Spec PyProof.Rows
theorem walk_of {l:PySem.W.OpenLaw} {n k:Nat} {q:Program} {loose:List Str} {XP:(Str→Option Value)→Heap→Prop} {YP:World→Heap→Prop} {d:DefRec} {K:Params→PySem.W.Frag} {CX:World→CXT} {sp:World→Sp} {x:Str}
  (hn:l.most=some n) (hn2:n≤sizeLine) (hdf:d.params.defaults=[]) (hr:Room k callerA)
  (hY:∀(w:World) (h:Heap),YP w h→(K w.params).In h)
  (F:∀(w:World) (mg:Str→Option Value) (fa:Addr) (h:Heap),(K w.params).In h→h.Ns mainGlobals mg→mg d.name=some (.ref fa)→
   ∃fd:FuncData,(∀(s:Shared) (u:Value),BindsTo s fd ⟨[u],[]⟩ [(x,u)])∧
    ∀base:Heap,(K w.params).In base→base.Ns mainGlobals mg→FnOk l.prog w (K w.params) mg base (CX w) k fa fd [x] (sp w))
  (hsp:∀(w:World) (H:Hp) (a:Addr) (ns:List Int),ns.length≤n→Only H→SqL (K w.params) H a (ns.map V.int)→sp w [.ref a] H (fun v _=>v=.bl true) fun _ _ _=>False)
  (hCX:∀(w:World) (H:Hp) (s:Shared) (e:Value) (s':Shared),CX w [] H s (fun _ _ _=>False) e s'→False) :
  PySem.W.WalkO q loose XP YP l.row.toRowW d [] (fun f vs=>PySem.call f vs):=by
 refine Att.attach_call hn hdf fun w s₀ s₁ mg mb fa o pm cd doc a vs ns G Y ho hd hcd hmg hobj hints hlen hg=>?_
 have KX:=hY w _ Y
 obtain ⟨fd,hb,hF⟩:=F w mg fa _ KX G.T.g hmg
 exact law_call KX G.T.g G.T.b G.T.builtins G.T.nolimit hg hobj hints (Nat.le_trans hlen hn2) hr hF hb (fun H hO hS=>hsp w H a ns hlen hO hS) fun H e s'=>hCX w H s₁ e s'
end L2
/- THE LAST THEOREM (shape; LID,My.* are yours):
   My.Adr: a structure of the addresses that your layer names (classes,functions); My.Txt K t: a structure (Prop) of the equations over K;
   My.txt_mk:{K} {implicit addresses ..} (e1:nsIn K mainGlobals "law" = some (some (.ref f))) (e2:K.lookup f=some ⟨oc,od,.func (fnOf "law" "law" params body scope dV kV doc pm an cdv ct),sl⟩) (e3:codeIn K cdv "law" = true) ..:∃t,My.Txt K t
set_option maxRecDepth 100000 in
set_option maxHeartbeats 0 in
theorem PySem.Challenge.cw_LID_holds : PySem.Challenge.rw_LID.Holds := by
 w_on; o_law; k_head; (case hw => w_witness2)
 k_fill
 refine L2.walk_of (l := PySem.Challenge.rw_LID) (n := 63) (k := 40) (x := "script") (CX := fun w => ..) (sp := fun _ => My.sp_law) rfl (by decide) rfl ⟨rfl, by decide, by decide⟩ (fun w h Y => PySem.W.kIn_of Y) ?F ?S ?C
 case F =>
  intro w mg fa h KX G hmg
  have T : ∃ t, My.Txt (L2.KOf KX) t := by
   dsimp only [L2.KOf]                          -- K must stand as «<heap const> w.params» for k_is
   refine' My.txt_mk ?e1 ?e2 ?e3 ..
   (case e1 => PySem.W.k_is)                    -- in the order: a name -> its address -> its object -> its parts
   (case e2 => PySem.W.k_is)
   ..
  obtain ⟨t, T⟩ := T
  have e0 := hmg.symm.trans (PySem.W.mg_of KX G T.law)
  cases e0                                       -- fa is the law's own address
  exact ⟨_, fun s u => .of_eq rfl, fun base kb nb => My.law_fn T kb nb⟩     -- if «.of_eq rfl» comes too early: refine' ⟨_, ?b, fun base kb nb => My.law_fn T kb nb⟩; exact fun s u => .of_eq rfl
 case S => exact fun w H a ns hl hO hS => ..
 case C => exact ..
(the tactic k_is has no namespace: write k_is) -/
namespace L2
open PySem PySem.Spec PyProof.Rows
def q0z (s:Stmt):Arguments:=match s with
 | .FunctionDef _ a _ _ _ _ _ _ _ _=>a
 | _=>{ posonlyargs:=[],args:=[],vararg:=none,kwonlyargs:=[],kw_defaults:=[],kwarg:=none,defaults:=[] }
def q0y (s:Stmt):List Stmt:=match s with
 | .FunctionDef _ _ b _ _ _ _ _ _ _=>b
 | _=>[]
def q0j (s:Stmt):Scope:=match s with
 | .FunctionDef _ _ _ _ _ _ sc _ _ _=>sc
 | _=>{ kind:=.function,names:=[],isGenerator:=false,isCoroutine:=false }
abbrev E0:XK:=fun _ _ _=>False
structure Fun (K:PySem.W.Frag) (x qual:Str) (st:Stmt) (f:Addr) (fd:FuncData):Prop where
 ex:∃(oc:Value) (od:Option Addr) (kV doc pm:Value) (an:Option Addr) (cdv ct:Value) (osl:Array (Option Value)),
  fd=PySem.W.fnOf x qual (q0z st) (q0y st) (q0j st) .none kV doc pm an cdv ct∧K.lookup f=some ⟨oc,od,.func fd,osl⟩∧PySem.W.codeIn K cdv qual=true
 kp:PySem.W.keepIn K (.ref f)=true
section
variable {P:Program} {w:World} {K:PySem.W.Frag} {mg:Str→Option Value} {base:Heap}
theorem Fun.binds {x qual:Str} {st:Stmt} {f:Addr} {fd:FuncData} {ps:List Str} (F:Fun K x qual st f fd)
  (h:∀(kV doc pm:Value) (an:Option Addr) (cdv ct:Value) (us:List Value),us.length=ps.length→bindArgs (PySem.W.fnOf x qual (q0z st) (q0y st) (q0j st) .none kV doc pm an cdv ct) ⟨us,[]⟩=pure (ps.zip us)):Binds K fd ps []:=by
 obtain ⟨oc,od,kV,doc,pm,an,cdv,ct,osl,rfl,lk,hcd⟩:=F.ex
 exact .all (h kV doc pm an cdv ct)
theorem q0t {x qual:Str} {st:Stmt} {f:Addr} {oc:Value} {od an:Option Addr} {osl:Array (Option Value)} {kV doc pm cdv ct:Value} (l:K.lookup f=some ⟨oc,od,.func (PySem.W.fnOf x qual (q0z st) (q0y st) (q0j st) .none kV doc pm an cdv ct),osl⟩)
  (c:PySem.W.codeIn K cdv qual=true) (k:PySem.W.keepIn K (.ref f)=true):Fun K x qual st f (PySem.W.fnOf x qual (q0z st) (q0y st) (q0j st) .none kV doc pm an cdv ct):=⟨⟨oc,od,kV,doc,pm,an,cdv,ct,osl,rfl,l,c⟩,k⟩
end
section
variable {X:Cx}
end
theorem ite2 {c A B:Prop} [Decidable c] (h1:c→A) (h2:¬c→B):if c then A else B:=by
 by_cases h:c
 ·rw [if_pos h]
  exact h1 h
 ·rw [if_neg h]
  exact h2 h
def Same (H H':Hp):Prop:=∀b o,H b=some o→H' b=some o
end L2
namespace L2
open PySem PySem.Spec PyProof.Rows
structure Fly (e:Addr) (cls:Value) (own:List Addr) (h:Heap):Prop where
 is:∃(oe:Obj) (vs:Array Value) (hd:Value),h.get? e=some oe∧oe.cls=cls∧oe.data=.fields vs∧vs[1]?=some hd∧
  (hd=.none∨∃(T:Addr) (oT:Obj) (ts:Array Value),hd=.ref T∧T∈own∧T≠e∧h.get? T=some oT∧oT.data=.fields ts∧ts[3]?=some .none)
structure Past (fs own:List Addr) (h h':Heap):Prop where
 keep:∀b o,h.get? b=some o→b∉own→b∉fs→h'.get? b=some o
 slot:∀b o,h.get? b=some o→b∉own→b∈fs→∃sl,h'.get? b=some { o with slots:=sl }
 there:∀b o,h.get? b=some o→∃o',h'.get? b=some o'
theorem Past.refl (fs own:List Addr) (h:Heap):Past fs own h h:=⟨fun _ _ q _ _=>q,fun _ o q _ _=>⟨o.slots,q⟩,fun _ o q=>⟨o,q⟩⟩
theorem Past.trans {fs own:List Addr} {h1 h2 h3:Heap} (a:Past fs own h1 h2) (b:Past fs own h2 h3):Past fs own h1 h3 where
 keep:=fun c o q n m=>b.keep c o (a.keep c o q n m) n m
 slot:=fun c o q n m=>by
  obtain ⟨sl,q1⟩:=a.slot c o q n m
  obtain ⟨sl2,q2⟩:=b.slot c _ q1 n m
  exact ⟨sl2,q2⟩
 there:=fun c o q=>by
  obtain ⟨o1,q1⟩:=a.there c o q
  exact b.there c o1 q1
theorem Past.mono {fs own own':List Addr} {h h':Heap} (a:Past fs own h h') (k:∀b∈own,b∈own'):Past fs own' h h':=
 ⟨fun b o q n m=>a.keep b o q (fun z=>n (k b z)) m,fun b o q n m=>a.slot b o q (fun z=>n (k b z)) m,a.there⟩
theorem past_slots {fs own:List Addr} {h h':Heap} (x:Heap.SlotsOnly fs h h'):Past fs own h h' where
 keep:=fun b o q _ m=>by rw [x.2.1 b m]; exact q
 slot:=fun b o q _ _=>x.2.2 b o q
 there:=fun b o q=>let ⟨_,z⟩:=x.2.2 b o q; ⟨_,z⟩
theorem past_push {fs own:List Addr} (h:Heap) (o:Obj):Past fs own h (h.push o) where
 keep:=fun b u q _ _=>Heap.get?_push_of_some o q
 slot:=fun b u q _ _=>⟨u.slots,Heap.get?_push_of_some o q⟩
 there:=fun b u q=>⟨u,Heap.get?_push_of_some o q⟩
theorem past_field {fs own:List Addr} {h:Heap} {a:Addr} {oa:Obj} {vs:Array Value} (g:Array Value→Array Value) (ha:a∈own) (q:h.get? a=some oa) (hd:oa.data=.fields vs):Past fs own h (h.update a (Obj.mapFields g)) where
 keep:=fun b u z n _=>by rw [Heap.get?_update_other _ _ (fun w=>n (by rw [←w]; exact ha))]; exact z
 slot:=fun b u z n _=>⟨u.slots,by rw [Heap.get?_update_other _ _ (fun w=>n (by rw [←w]; exact ha))]; exact z⟩
 there:=fun b u z=>by
  by_cases w:a=b
  ·subst w
   exact ⟨_,Heap.get?_update_self _ q (Obj.isFreed_of_fields (Obj.data_mapFields hd g))⟩
  ·exact ⟨u,by rw [Heap.get?_update_other _ _ w]; exact z⟩
section
variable {M:Model} {A:Around} {E:Value→Shared→Prop} {s:Shared}
theorem note_new {base:Heap} {env:Env} {outer:List Env} {L e:Addr} {oe:Obj} {vs:Array Value} {head:Value} {hn:Bool} {own:List Addr} {Q:Unit→Shared→Prop} (hfr:A.frames=some (env::outer)) (hl:s.heap.FunFrames base (env::outer))
  (hf:env.frame=some L) (he:s.heap.get? e=some oe) (hd:oe.data=.fields vs) (hsz:1<vs.size) (ho:e∈own)
  (h:∀h' T,s.heap.get? T=none→Past ((env::outer).filterMap (·.frame)) own s.heap h'→Fly e oe.cls [T] h'→Q () { s with heap:=h' }) :
  wpAny M A (do let a ←frameOf env; let pl ←entryPlaceOf L hn; let b ←EntryCells.newEntry head a .none (rawInt L) .none pl; setField (.ref e) 1 b) (fun _ s'=>wpAny M A (setFlight (.ref e) none) Q E s') E s:=by
 have nfr:e∉(env::outer).filterMap (·.frame):=fun z=>by
  obtain ⟨-,o,q,nd⟩:=hl.mem z
  rw [he] at q; cases q
  exact nd vs hd
 refine wpAny_bind (wpAny_frameOf_fun hfr hl hf fun g1 s1=>wpAny_bind (wpAny_entryPlaceOf fun pl hpl=>?_))
 have P1:Past ((env::outer).filterMap (·.frame)) own s.heap g1:=past_slots s1
 unfold EntryCells.newEntry newFields
 refine wpAny_bind (wpAny_newObj_type ?_ (hpl.sizeOk5 _ _ _ _ _))
 have e1:g1.get? e=some oe:=by rw [s1.2.1 e nfr]; exact he
 generalize hto:({ cls:=.type "traceback",dict:=none,data:=.fields ([head,.ref L,.none,rawInt L,.none]++(if pl.isEmpty then List.replicate 6 Value.none else pl)).toArray }:Obj)=to
 have P2:Past ((env::outer).filterMap (·.frame)) own g1 (g1.push to):=past_push g1 to
 have e2:=Heap.get?_push_of_some (h:=g1) to e1
 have Tnew:s.heap.get? g1.objs.size=none:=by
  cases q:s.heap.get? g1.objs.size with
  | none=>rfl
  | some o=>exact absurd (Heap.lt_size q) (by rw [s1.1]; exact Nat.lt_irrefl _)
 have T2:(g1.push to).get? g1.objs.size=some to:=Heap.get?_push_size g1 (by subst hto; rfl)
 refine wpAny_setField e2 hd hsz ?_
 have Te:g1.objs.size≠e:=Nat.ne_of_gt (Heap.lt_size e1)
 have P3:Past ((env::outer).filterMap (·.frame)) own (g1.push to) _:=past_field (·.setIfInBounds 1 (Value.ref g1.objs.size)) ho e2 hd
 have d3:=Obj.data_mapFields hd (·.setIfInBounds 1 (Value.ref g1.objs.size))
 have e3:=Heap.get?_update_self (Obj.mapFields (·.setIfInBounds 1 (Value.ref g1.objs.size))) e2 (Obj.isFreed_of_fields d3)
 have T3:=(Heap.get?_update_other (g1.push to) (Obj.mapFields (·.setIfInBounds 1 (Value.ref g1.objs.size))) (Ne.symm Te)).trans T2
 have tod:to.data=.fields ([head,.ref L,.none,rawInt L,.none]++(if pl.isEmpty then List.replicate 6 Value.none else pl)).toArray:=by subst hto; rfl
 unfold setFlight
 refine wpAny_bind (wpAny_field e3 d3 (x:=.ref g1.objs.size) (by simp [hsz]) ?_)
 rw [if_pos (show (Value.ref g1.objs.size != Value.none)=true by simp)]
 have sz3:3<([head,.ref L,.none,rawInt L,.none]++(if pl.isEmpty then List.replicate 6 Value.none else pl)).toArray.size:=by
  simp only [List.size_toArray,List.length_append,List.length_cons,List.length_nil]; omega
 refine wpAny_setField T3 tod sz3 (h _ g1.objs.size Tnew ?_ ?_)
 ·have P:=(P1.trans P2).trans P3
  have nT:∀b u,s.heap.get? b=some u→g1.objs.size≠b:=fun b u z w=>by rw [w,z] at Tnew; cases Tnew
  refine ⟨fun b u z n m=>?_,fun b u z n m=>?_,fun b u z=>?_⟩
  ·rw [Heap.get?_update_other _ _ (nT b u z)]
   exact P.keep b u z n m
  ·obtain ⟨sl,q⟩:=P.slot b u z n m
   exact ⟨sl,by rw [Heap.get?_update_other _ _ (nT b u z)]; exact q⟩
  ·obtain ⟨o',q⟩:=P.there b u z
   exact ⟨o',by rw [Heap.get?_update_other _ _ (nT b u z)]; exact q⟩
 ·have T4:=Heap.get?_update_self (Obj.mapFields (·.setIfInBounds 3 ((none:Option Addr).elim Value.none fun f=>rawInt f))) T3 (Obj.isFreed_of_fields (Obj.data_mapFields tod _))
  refine ⟨_,_,.ref g1.objs.size,?_,Obj.cls_mapFields _ _,d3,by simp [hsz],.inr ⟨g1.objs.size,_,_,rfl,by simp,Te,T4,Obj.data_mapFields tod _,?_⟩⟩
  ·rw [Heap.get?_update_other _ _ Te]
   exact e3
  ·rw [Array.getElem?_setIfInBounds_self_of_lt sz3]
   rfl
theorem note_fly {base:Heap} {env:Env} {outer:List Env} {L e:Addr} {cls:Value} {own:List Addr} {Q:Unit→Shared→Prop} (hfr:A.frames=some (env::outer)) (hl:s.heap.FunFrames base (env::outer)) (hf:env.frame=some L) (F:Fly e cls own s.heap)
  (h:∀h' T,s.heap.get? T=none→Past ((env::outer).filterMap (·.frame)) (e::own) s.heap h'→Fly e cls [T] h'→Q () { s with heap:=h' }):wpAny M A (noteFrame (.ref e) env) (fun _ s2=>wpAny M A (setFlight (.ref e) none) Q E s2) E s:=by
 obtain ⟨oe,vs,hd,he,hc,hdt,h1,hh⟩:=F.is
 subst hc
 have hsz:1<vs.size:=(Array.getElem?_eq_some_iff.mp h1).1
 unfold noteFrame
 simp only [hf]
 refine wpAny_bind (wpAny_field he hdt h1 ?_)
 rcases hh with rfl | ⟨T,oT,ts,rfl,hT,Te,gT,dT,h3⟩
 ·rw [if_neg (by decide)]
  exact note_new hfr hl hf he hdt hsz (by simp) h
 ·rw [if_pos (show (Value.ref T != Value.none)=true by simp)]
  refine wpAny_bind (wpAny_field gT dT h3 ?_)
  rw [if_neg (show ¬((Value.none == rawInt L)=true) by simp [rawInt])]
  refine wpAny_bind (wpAny_setField gT dT (Array.getElem?_eq_some_iff.mp h3).1 ?_)
  have P:Past ((env::outer).filterMap (·.frame)) (e::own) s.heap _:=past_field (·.setIfInBounds 3 Value.none) (List.mem_cons_of_mem _ hT) gT dT
  have hl2:(s.heap.update T (Obj.mapFields (·.setIfInBounds 3 Value.none))).FunFrames base (env::outer):=hl.of_keeps fun b o q nd=>⟨o,by
   rw [Heap.get?_update_other _ _ (fun w=>by subst w; rw [gT] at q; cases q; exact nd ts dT)]; exact q,rfl⟩
  refine note_new (own:=e::own) hfr hl2 hf (oe:=oe) (by rw [Heap.get?_update_other _ _ Te]; exact he) hdt hsz (by simp) fun h' T' n' P' F'=>h h' T' ?_ (P.trans P') F'
  cases q:s.heap.get? T' with
  | none=>rfl
  | some o=>
   obtain ⟨o',z⟩:=P.there T' o q
   rw [z] at n'
   cases n'
theorem leave_fly {base:Heap} {env:Env} {outer:List Env} {L e:Addr} {cls:Value} {own:List Addr} {Q:Unit→Shared→Prop} (hfr:A.frames=some (env::outer)) (hl:s.heap.FunFrames base (env::outer)) (hf:env.frame=some L) (F:Fly e cls own s.heap)
  (h:∀h' T,s.heap.get? T=none→Past ((env::outer).filterMap (·.frame)) (e::own) s.heap h'→Fly e cls [T] h'→Q () { s with heap:=h' }):wpAny M A (leaving env (.ref e)) Q E s:=by
 unfold leaving
 exact wpAny_bind (note_fly hfr hl hf F h)
end
def CXE (P:Program) (w:World):CXT:=fun outer H s E e s'=>∃(a:Addr) (cls:Value) (own:List Addr) (H':Hp),e=.ref a∧s'.os=s.os∧AllBare s'.gens∧Un (frs outer) [] H H' s.heap s'.heap∧HOk P w H' s'.heap∧Fly a cls own s'.heap∧
 (∀b∈a::own,s.heap.get? b=none∧H' b=none)∧E cls none H'
theorem HOk.past {P:Program} {w:World} {H:Hp} {h h':Heap} {fs own:List Addr} (ok:HOk P w H h) (p:Past fs own h h') (n1:∀b∈fs,H b=none) (n2:∀b∈own,H b=none):HOk P w H h':=fun a o q=>
 (ok a o q).stay (fun b u hb z=>p.keep b u z (fun m=>by
   rcases hb with rfl | hb
   ·rw [n2 _ m] at q; cases q
   ·rw [n2 _ m] at hb; cases hb) (fun m=>by
   rcases hb with rfl | hb
   ·rw [n1 _ m] at q; cases q
   ·rw [n1 _ m] at hb; cases hb)) (fun _ q=>q) fun _ _ q=>q
theorem q3s.ex {P:Program} {w:World} {H:Hp} {h:Heap} {a:Addr} {o:HO} (x:q3s P w H h a o):∃u,h.get? a=some u:=by
 cases o with
 | lst xs=>obtain ⟨_,_,_,_,e⟩:=x; exact ⟨_,e⟩
 | tup xs=>obtain ⟨_,_,_,_,e,_⟩:=x; exact ⟨_,e⟩
 | dK kvs=>obtain ⟨_,_,_,_,o,_,_,e,_⟩:=x; exact ⟨_,e⟩
 | dT kvs=>obtain ⟨_,_,_,_,o,_,_,e,_⟩:=x; exact ⟨_,e⟩
 | dH kvs=>obtain ⟨_,_,_,_,o,_,_,e,_⟩:=x; exact ⟨_,e⟩
 | set S n=>obtain ⟨o,_,_,_,e,_⟩:=x; exact ⟨_,e⟩
 | ins C dx fs=>obtain ⟨_,_,_,e,_⟩:=x; exact ⟨_,e⟩
 | own _=>exact x
 | xd fs=>obtain ⟨_,⟨_,_,_,e,_⟩,_⟩:=x; exact ⟨_,e⟩
 | rng lo hi=>obtain ⟨_,_,_,e⟩:=x; exact ⟨_,e⟩
 | frz o u=>exact ⟨_,x.1⟩
 | tbl ps=>exact ⟨_,x⟩
 | met f y=>exact ⟨_,x⟩
 | ext φ=>exact x.2.1
theorem HOk.none_of {P:Program} {w:World} {H:Hp} {h:Heap} {b:Addr} (ok:HOk P w H h) (n:h.get? b=none):H b=none:=by
 cases q:H b with
 | none=>rfl
 | some o=>
  obtain ⟨u,z⟩:=q3s.ex (ok b o q)
  rw [n] at z; cases z
theorem passX {P:Program} {w:World} {K:PySem.W.Frag} {mg:Str→Option Value} {base:Heap} {N:List Str} {qual:Str} {scope:Scope} {f:Addr} {cd:Value} {A:Around} {outer:List Env} {s:Shared} {H:Hp} {E:XK} :
  q6o (CXE P w) (cxOf (CXE P w) P w K mg base N qual scope f cd A outer s H E) E:=by
 intro pins σ H1 s1 e s2 I1 hx
 obtain ⟨a,cls,own,H2,rfl,os,bare,un,hok,F,new,q⟩:=hx
 have I2:=I1.call' os un hok bare (fun b z=>absurd z (by simp))
 have n0:∀b,(∃o,s.heap.get? b=some o)→∃o,s1.heap.get? b=some o:=fun b ⟨o,z⟩=>I1.base.there b o z (by intro y; cases y)
 have old:∀b,(∃o,s.heap.get? b=some o)→b∉a::own:=fun b z m=>by
  obtain ⟨o,y⟩:=n0 b z
  rw [(new b m).1] at y; cases y
 have n2:∀b,(∃o,s.heap.get? b=some o)→∃o,s2.heap.get? b=some o:=fun b ⟨o,z⟩=>I2.base.there b o z (by intro y; cases y)
 refine leave_fly (base:=base) I2.ok.frames I2.stack rfl F fun h' T nT P' F'=>?_
 have hfr:∀b,(∃o,s.heap.get? b=some o)→b∉frs outer→b∉frs (envOfC qual scope s.heap.objs.size f cd::outer):=fun b ⟨o,z⟩ m y=>by
  have lt:=Heap.lt_size z
  have y':b∈s.heap.objs.size::frs outer:=y
  rcases List.mem_cons.mp y' with r | r
  ·rw [r] at lt; exact absurd lt (Nat.lt_irrefl _)
  ·exact m r
 refine ⟨a,cls,[T],H2,rfl,I2.os,I2.bare,⟨fun b o z n m _=>?_,fun b o z n m _=>?_,fun b o z n x=>I2.base.free b o z n x,fun b o z x=>?_,I2.base.tups,I2.base.frzs,I2.base.tbls⟩,?_,F',?_,q⟩
 ·exact P'.keep b o (I2.base.keep b o z n m (by intro y; cases y)) (old b ⟨o,z⟩) (hfr b ⟨o,z⟩ m)
 ·obtain ⟨sl,y⟩:=I2.base.slot b o z n m (by intro y; cases y)
  obtain ⟨sl2,y2⟩:=P'.slot b _ y (old b ⟨o,z⟩) (show b∈s.heap.objs.size::frs outer from List.mem_cons_of_mem _ m)
  exact ⟨sl2,y2⟩
 ·obtain ⟨o2,y⟩:=n2 b ⟨o,z⟩
  exact P'.there b o2 y
 ·exact HOk.past I2.hok P' I2.stkFree fun b m=>(new b m).2
 ·intro b m
  simp only [List.mem_cons,List.not_mem_nil,or_false] at m
  rcases m with rfl | rfl
  ·refine ⟨?_,(new b (by simp)).2⟩
   cases z:s.heap.get? b with
   | none=>rfl
   | some o=>exact absurd (by simp) (old b ⟨o,z⟩)
  ·refine ⟨?_,HOk.none_of I2.hok nT⟩
   cases z:s.heap.get? b with
   | none=>rfl
   | some o=>
    obtain ⟨o',y⟩:=n2 b ⟨o,z⟩
    rw [nT] at y; cases y
theorem exc_obj {K:PySem.W.Frag} {h:Heap} {C:Addr} {bmB:List Value} {newId:String} (X:K.In h) (q:PySem.W.excIn K C bmB newId=true) :
  ∃bm N nm qn bs hd sn sub ab col dd k0 k1 k2 k3 k5 mN,h.get? C=some (excClassObj nm qn C N bs bm hd sn sub ab col dd k0 k1 k2 k3 k5 newId)∧h.Ns N mN∧mN "__init__" = none∧OwnTail h bmB bm:=by
 unfold PySem.W.excIn at q
 split at q
 ·rename_i d0 cl slots lk
  split at q
  ·rename_i C1 rest j0 j1 j2 j3 id j5 hm hs
   simp only [Bool.and_eq_true,beq_iff_eq,Bool.not_eq_true'] at q
   obtain ⟨⟨⟨⟨⟨rfl,rfl⟩,nodel⟩,tl⟩,okN⟩,noI⟩:=q
   obtain ⟨c1,c2,c3,c4,c5,c6,c7,c8,c9,c10,c11⟩:=cl
   dsimp only at hm nodel okN noI
   subst hm nodel
   have es:slots=#[j0,j1,j2,j3,some (.builtin id),j5]:=by
    cases slots with
    | mk l=>simp only at hs; rw [hs]
   subst es
   refine ⟨rest,c4,c1,c5,c2,c6,c7,c8,c9,c10,d0,j0,j1,j2,j3,j5,h.nsMap c4,X _ _ lk,?_,?_,?_⟩
   ·exact Heap.Ns.of_isNs (PySem.W.isNs_of_in X okN)
   ·exact PySem.W.nsMap_none_of_in X okN noI
   ·exact PySem.W.tail_of_in X tl
  ·cases q
 ·cases q
def vErr:List Value:=[.type "ValueError",.type "Exception",.type "BaseException",.type "object"]
section
variable {X:Cx} {E:XK}
theorem made_fly {pins:List (Addr×Obj)} {σ:St} {H:Hp} {s:Shared} {h':Heap} {a C:Addr} {vs:List Value} (I:Inv X pins σ H s) (m:Heap.MadeExcOf s.heap h' a (.ref C) vs) (q:E (.ref C) none H):CXE X.prog X.w X.stack H s E (.ref a) { s with heap:=h' }:=by
 obtain ⟨t,he,htn,ht⟩:=m.there
 refine ⟨a,.ref C,[],H,rfl,rfl,I.bare,Un.kept m.keeps,I.hok.kept m.keeps,⟨_,_,.none,he,rfl,rfl,rfl,.inl rfl⟩,fun b hb=>?_,q⟩
 have:b=a:=by simpa using hb
 subst this
 exact ⟨m.new,HOk.none_of I.hok m.new⟩
theorem ps_raise {x:Str} {C:Addr} {np cpos pos:Pos} {e0:Expr} {ta:TA} (hp:q6o (CXE X.prog X.w) X E) (hc:X.calm=true) (hg:Gl X x) (hm:X.mg x=some (.ref C)) (q:PySem.W.excIn X.K C vErr "ValueError.__new__" = true) (ha:PA X [e0] ta)
  (hd:(x == ("__debug__" : Str))=false:=by decide) (he:starEach [e0] X.env=(false,eval e0 X.env)::starEach [] X.env:=by rfl) :
  PS X (.Raise (some (.Call (.Name x np) [e0] [] cpos)) none pos) (fun _ σ H=>ta σ H fun vs H1=>vs.length≤sizeLine∧E (.ref C) none H1):=by
 intro pins s σ H D I h
 obtain ⟨bm,N,nm,qn,bs,hdd,sn,sub,ab,col,dd,k0,k1,k2,k3,k5,mN,hC,hN,hni,T⟩:=exc_obj I.ok.mod.kin q
 have FB:=PySem.F.excBase_ValueError
 refine wpAny_Raise_call_subT (C:=C) (N:=N) (nm:=nm) (q:=qn) (bs:=bs) (bm:=bm) (hdct:=hdd) (sn:=sn) (sub:=sub) (ab:=ab) (col:=col) (dd:=dd) (k0:=k0) (k1:=k1) (k2:=k2) (k3:=k3) (k5:=k5) (mN:=mN) FB (T.hasType FB.hasBase) (I.ok.hd hc) (by rw [he]; rfl) hni ?_
 refine ld_glob I hg hm ⟨rfl,?_⟩ hd
 have hs:=ha cpos pins s σ H _ I h
 rw [he] at hs ⊢
 refine Calls.evalArgs_plain (wpAny_mono hs (fun us s2 ⟨vs,H1,I1,r,hl,hE⟩=>?_) fun _ _ z=>z)
 refine ⟨rfl,by rw [←r.length]; exact hl,I1.bk _ _ hC,hN.keeps I1.bk,T.keeps I1.bk,fun h' a m=>?_⟩
 exact hp pins σ H1 s2 (.ref a) _ I1 (made_fly I1 m hE)
end
theorem Inv.stepX {X:Cx} {pins:List (Addr×Obj)} {σ:List (Option V)} {H H':Hp} {s:Shared} {h':Heap} {g':Array GenState} {t':Nat} {d':Drawn} {ch:List Addr} (I:Inv X pins σ H s)
  (hch:∀b∈ch,(b∈X.ex∨X.s₀.heap.get? b=none)∧b≠X.env.locals∧(∀x c,X.env.cells.lookup x=some c→c≠b)∧∀p∈X.pn++pins,p.1≠b)
  (keep:∀b o,b≠X.env.locals→b∉X.fs→b∉ch→s.heap.get? b=some o→H b=none→h'.get? b=some o)
  (slot:∀b o,b≠X.env.locals→b∈X.fs→b∉ch→s.heap.get? b=some o→H b=none→∃sl,h'.get? b=some { o with slots:=sl }) (free:∀b o,b∉ch→s.heap.get? b=some o→H b=none→H' b=none)
  (there:∀b o,b∉ch→s.heap.get? b=some o→∃o',h'.get? b=some o')
  (tups:∀b xs,H b=some (.tup xs)→H' b=some (.tup xs)) (frzs:∀b o u,H b=some (.frz o u)→H' b=some (.frz o u)) (tbls:∀b ps,H b=some (.tbl ps)→∃more,H' b=some (.tbl (ps++more)))
  (ns:∀m,s.heap.Ns X.env.locals m→h'.Ns X.env.locals m) (hok:HOk X.prog X.w H' h') (hg:AllBare g') :
  Inv X pins σ H' { s with heap:=h',gens:=g',drawn:=d',toks:=t' }:=by
 have neL:∀b o,X.s₀.heap.get? b=some o→b≠X.env.locals:=fun b o e=>Nat.ne_of_lt (Nat.lt_of_lt_of_le (Heap.lt_size e) I.ok.above)
 have neC:∀b o,X.s₀.heap.get? b=some o→b∉X.ex→b∉ch:=fun b o e hx hb=>by
  rcases (hch b hb).1 with z | z
  ·exact hx z
  ·rw [e] at z; cases z
 have cellK:∀x c,X.env.cells.lookup x=some c→∀v,s.heap.IsCell c v→h'.IsCell c v:=fun x c e v hh1=>by
  obtain ⟨o,ho,hd⟩:=hh1
  have nch:c∉ch:=fun z=>(hch c z).2.2.1 x c e rfl
  by_cases hc:c∈X.fs
  ·obtain ⟨sl,q⟩:=slot c o (I.cne x c e) hc nch ho (I.freeC x c e)
   exact ⟨_,q,hd⟩
  ·exact ⟨o,keep c o (I.cne x c e) hc nch ho (I.freeC x c e),hd⟩
 refine ⟨I.ok,I.os,hg,⟨fun b o e n hb hx=>?_,fun b o e n hb hx=>?_,fun b o e n hx=>?_,fun b o e hx=>?_,fun b xs e=>tups b xs (I.base.tups b xs e),fun b o xs e=>frzs b o xs (I.base.frzs b o xs e),fun b ps e=>?_⟩,?_,fun x c e=>?_,?_,fun x c e=>?_,fun p hp=>?_,hok,I.len⟩
 ·exact keep b o (neL b o e) hb (neC b o e hx) (I.base.keep b o e n hb hx) (I.base.free b o e n hx)
 ·obtain ⟨sl,e1⟩:=I.base.slot b o e n hb hx
  obtain ⟨sl',e2⟩:=slot b _ (neL b o e) hb (neC b o e hx) e1 (I.base.free b o e n hx)
  exact ⟨sl',e2⟩
 ·obtain ⟨o',e1⟩:=I.base.there b o e hx
  exact free b o' (neC b o e hx) e1 (I.base.free b o e n hx)
 ·obtain ⟨o',e1⟩:=I.base.there b o e hx
  exact there b o' (neC b o e hx) e1
 ·obtain ⟨m1,e1⟩:=I.base.tbls b ps e
  obtain ⟨m2,e2⟩:=tbls b _ e1
  exact ⟨m1++m2,by rw [e2,Array.append_assoc]⟩
 ·obtain ⟨m,hn,hl⟩:=I.loc
  refine ⟨m,ns m hn,fun i x v e1 e2 e3=>?_⟩
  obtain ⟨u,r,l⟩:=hl i x v e1 e2 e3
  refine ⟨u,r,?_⟩
  rcases l with l | ⟨k,c,e,z⟩
  ·exact .inl l
  ·exact .inr ⟨k,c,e,cellK x c e _ z⟩
 ·obtain ⟨v,z⟩:=I.cell x c e
  exact ⟨v,cellK x c e v z⟩
 ·obtain ⟨m,⟨o,_,_,ho,_⟩,_⟩:=I.loc
  exact free _ o (fun z=>(hch _ z).2.1 rfl) ho I.free
 ·obtain ⟨v,o,ho,hd⟩:=I.cell x c e
  exact free c o (fun z=>(hch c z).2.2.1 x c e rfl) ho (I.freeC x c e)
 ·obtain ⟨e,n,ne,nf,d⟩:=I.pin p hp
  have nch:p.1∉ch:=fun z=>(hch p.1 z).2.2.2 p hp rfl
  exact ⟨keep p.1 p.2 ne nf nch e n,free p.1 p.2 nch e n,ne,nf,d⟩
theorem passE0 {P:Program} {w:World} {X:Cx}:q6o (CXE P w) X E0:=fun _ _ _ _ _ _ _ hh1=>by obtain ⟨_,_,_,_,_,_,_,_,_,_,_,q⟩:=hh1; exact (q.elim)
theorem CXE.imp {P:Program} {w:World} {outer:List Env} {H:Hp} {s s':Shared} {E E':XK} {e:Value} (h:CXE P w outer H s E e s') (i:∀c d H',E c d H'→E' c d H'):CXE P w outer H s E' e s':=
 let ⟨a,cls,own,H',h1,h2,h3,h4,h5,h6,h7,q⟩:=h; ⟨a,cls,own,H',h1,h2,h3,h4,h5,h6,h7,i _ _ _ q⟩
theorem q6o.imp {P:Program} {w:World} {X:Cx} {E E':XK} (h:q6o (CXE P w) X E) (i:∀c d H',E' c d H'→E c d H'):q6o (CXE P w) X E':=fun pins σ H s e s' I q=>h pins σ H s e s' I (q.imp i)
theorem Fun.okX {P:Program} {w:World} {K:PySem.W.Frag} {mg:Str→Option Value} {base:Heap} {x qual:Str} {st:Stmt} {f:Addr} {fd:FuncData} {N ps:List Str} {k:Nat} {sp:Sp} (F:Fun K x qual st f fd) (S:FnScope N ps (q0j st)) (len:∀vs H Q E,sp vs H Q E→vs.length=ps.length)
  (hbody:∀(cdv:Value) (A:Around) (outer:List Env) (s:Shared) (H:Hp) (vs:List V) (Q:VK) (E:XK),Room k (A.deeper (envOfC qual (q0j st) s.heap.objs.size f cdv))→sp vs H Q E→
   ∃t,PSs (cxOf (CXE P w) P w K mg base N qual (q0j st) f cdv A outer s H E) (q0y st) t∧t { nx:=fun _ H'=>Q .non H',rt:=Q } (z1a N vs) H):FnOk P w K mg base (CXE P w) (k+1) f fd ps sp:=by
 obtain ⟨oc,od,kV,doc,pm,an,cdv,ct,osl,rfl,lk,hcd⟩:=F.ex
 exact fn_of lk hcd S len fun A outer s H vs Q E hr hsp=>hbody cdv A outer s H vs Q E hr hsp
end L2
namespace L2
open PySem PySem.Spec PyProof.Rows
end L2
namespace L2
open PySem PySem.Spec PyProof.Rows
section
variable (P:Program) (w:World)
end
section
variable {P:Program} {w:World} {H H':Hp} {h h':Heap} {a:Addr} {o:HO}
end
section
variable {P:Program} {w:World} {H:Hp} {h h':Heap} {x e:Addr} {o':HO}
end
section
variable {fs fs' ex ex':List Addr} {H H1 H2:Hp} {h h1 h2 h':Heap} {a x e:Addr} {o:HO}
end
end L2
namespace L2
open PySem PySem.Spec PyProof.Rows
section
variable {X:Cx} {pins:List (Addr×Obj)} {σ:List (Option V)} {H H':Hp} {s:Shared} {h':Heap}
end
end L2
namespace L2
open PySem PySem.Spec PyProof.Rows
section
variable {X:Cx}
variable {a b:Expr} {ta tb:TE} {pos:Pos}
variable {tA tB':TT} {rest:List Expr}
end
end L2
namespace L2
open PySem PySem.Spec PyProof.Rows
section
variable {X:Cx} {pins:List (Addr×Obj)} {σ:St} {H:Hp} {s:Shared} {a:Addr} {xs ys:List V}
end
section
variable {X:Cx} {pins:List (Addr×Obj)} {σ:St} {H:Hp} {s:Shared} {E:Value→Shared→Prop}
end
section
variable {X:Cx} {st:Stmt} {rest:List Stmt} {t u:TS} {e:Expr} {te:TE} {pos:Pos}
end
section
variable {X:Cx} {pos:Pos}
end
section
variable {X:Cx} {pos:Pos}
end
end L2
namespace L2
open PySem PySem.Spec PyProof.Rows
section
variable {X:Cx} {tg:Expr}
end
end L2
namespace L2
open PySem PySem.Spec PyProof.Rows
section
variable {X:Cx} {a b c:Expr} {ta tb tc:TE} {pos:Pos}
end
section
variable {X:Cx} {a b c:Expr} {ta tb tc:TE} {pos:Pos}
end
end L2
namespace L2
open PySem PySem.Spec PyProof.Rows
section
variable {prog:Program} {w:World} {A:Around} {E:Value→Shared→Prop} {s:Shared} {K:PySem.W.Frag} {x dx C f:Addr} {mA:Str→Option Value} {name:Str} {v:Value}
end
section
variable {P:Program} {w:World} {H H':Hp} {h h':Heap} {a C dx:Addr} {fs fs':List (Str×V)}
end
section
variable {X:Cx} {pins:List (Addr×Obj)} {σ:St} {H:Hp} {s:Shared} {a C dx:Addr} {fs:List (Str×V)} {f:Str} {v:V} {A:Around} {E:Value→Shared→Prop}
end
section
variable {X:Cx} {o e value:Expr} {f:Str} {pos pos' tpos:Pos} {ta tv:TE}
end
section
variable {X:Cx} {pins:List (Addr×Obj)} {σ:St} {H:Hp} {s:Shared} {A:Around} {E:Value→Shared→Prop} {Q:Value→Shared→Prop} {c:Value} {b:Bool}
end
end L2
namespace L2
open PySem PySem.Spec PyProof.Rows
section
variable {X:Cx} {e:Expr} {es:List Expr} {te:TE} {t:TA} {pos:Pos}
end
section
variable {X:Cx} {pins:List (Addr×Obj)} {σ:St} {H:Hp} {s s':Shared}
end
section
variable {X:Cx} {CX:CXT} {k:Nat} {f C:Addr} {fd:FuncData} {ps:List Str} {sp:Sp} {dvs:List V} {ds:List Value} {E:XK} {x m:Str} {p pos apos:Pos} {e o:Expr} {es:List Expr} {ta:TE} {t:TA}
end
section
variable {X:Cx} {CX:CXT} {k:Nat} {f C:Addr} {fd:FuncData} {ps ks:List Str} {sp:Sp} {E:XK} {x m:Str} {p pos apos kpos:Pos} {e o:Expr} {es:List Expr} {kws:List Keyword} {te ta:TE} {t tk:TA} {nm:Option Str}
variable {g:List Value→List Value→List Value} {gV:List V→List V→List V}
end
end L2
namespace L2
open PySem PySem.Spec PyProof.Rows
section
variable {X:Cx} {x:Str} {p pos:Pos} {e:Expr} {es:List Expr} {t:TA} {id T:String} {r:List V→Hp→VK→Prop}
end
end L2
namespace L2
open PySem PySem.Spec PyProof.Rows
section
variable {κ:Type} [DecidableEq κ]
def valV (kvs:List (κ×V)) (k:κ):Option V:=(kvs.find? fun kv=>decide (kv.1=k)).map (·.2)
def putK (kvs:List (κ×V)) (k:κ) (v:V):List (κ×V):=
 if (kvs.any fun kv=>decide (kv.1=k))=true then kvs.map (fun kv=>if kv.1=k then (kv.1,v) else kv) else kvs++[(k,v)]
theorem z0r {p:κ×V} {r:List (κ×V)} {k:κ} (e:p.1=k):valV (p::r) k=some p.2:=by simp [valV,List.find?_cons,e]
theorem z0s {p:κ×V} {r:List (κ×V)} {k:κ} (e:¬p.1=k):valV (p::r) k=valV r k:=by simp [valV,List.find?_cons,e]
theorem valV_any (k:κ):∀kvs:List (κ×V),(kvs.any fun kv=>decide (kv.1=k))=(valV kvs k).isSome
 | []=>rfl
 | p::r=>by
  rw [List.any_cons]
  by_cases e:p.1=k
  ·simp only [z0r e,decide_eq_true e,Bool.true_or,Option.isSome_some]
  ·rw [z0s e,decide_eq_false e,Bool.false_or]; exact valV_any k r
theorem q8t (kvs:List (κ×V)) (k:κ) (v:V):(putK kvs k v).length≤kvs.length+1:=by
 unfold putK
 split
 ·rw [List.length_map]; omega
 ·rw [List.length_append,List.length_cons,List.length_nil]; omega
theorem RelO.isSome_eq {o:Option V} {u:Option Value} (r:RelO o u):o.isSome=u.isSome:=by
 cases o with
 | none=>cases u with
  | none=>rfl
  | some _=>exact (show False from r).elim
 | some _=>cases u with
  | none=>exact (show False from r).elim
  | some _=>rfl
theorem RelO.getD {o:Option V} {u:Option Value} {d:V} {d':Value} (r:RelO o u) (rd:RelV d d'):RelV (o.getD d) (u.getD d'):=by
 cases o with
 | none=>cases u with
  | none=>exact rd
  | some _=>exact (show False from r).elim
 | some _=>cases u with
  | none=>exact (show False from r).elim
  | some _=>exact r
theorem KV.val {kvs:List (κ×V)} {vs:List (κ×Value)} (r:KV kvs vs) (k:κ):RelO (valV kvs k) (valueAt vs k):=by
 unfold KV at r
 induction r with
 | nil=>exact True.intro
 | @cons p q ps qs h t ih=>
  obtain ⟨h1,h2⟩:=h
  by_cases e:p.1=k
  ·have e':q.1=k:=h1.symm.trans e
   have b:valueAt (q::qs) k=some q.2:=by simp [valueAt,List.find?_cons,e']
   rw [z0r e,b]; exact h2
  ·have e':¬q.1=k:=fun z=>e (h1.trans z)
   have b:valueAt (q::qs) k=valueAt qs k:=by simp [valueAt,List.find?_cons,e']
   rw [z0s e,b]; exact ih
theorem KV.any {kvs:List (κ×V)} {vs:List (κ×Value)} (r:KV kvs vs) (k:κ):(kvs.any fun kv=>decide (kv.1=k))=vs.any fun kv=>decide (kv.1=k):=by
 unfold KV at r
 induction r with
 | nil=>rfl
 | cons h t ih=>rw [List.any_cons,List.any_cons,ih,h.1]
theorem KV.repl {kvs:List (κ×V)} {vs:List (κ×Value)} (r:KV kvs vs) (k:κ) {y:V} {u:Value} (ry:RelV y u) :
  KV (kvs.map fun kv=>if kv.1=k then (kv.1,y) else kv) (vs.map fun kv=>if kv.1=k then (kv.1,u) else kv):=by
 unfold KV at r ⊢
 induction r with
 | nil=>exact .nil
 | @cons p q ps qs h t ih=>
  rw [List.map_cons,List.map_cons]
  refine .cons ?_ ih
  obtain ⟨h1,h2⟩:=h
  by_cases e:p.1=k
  ·rw [if_pos e,if_pos (h1.symm.trans e)]; exact ⟨h1,ry⟩
  ·rw [if_neg e,if_neg (fun z=>e (h1.trans z))]; exact ⟨h1,h2⟩
theorem KV.put {kvs:List (κ×V)} {vs:List (κ×Value)} (r:KV kvs vs) (k:κ) {y:V} {u:Value} (ry:RelV y u):KV (putK kvs k y) (stored vs k u):=by
 unfold putK stored
 rw [r.any k]
 by_cases e:(vs.any fun kv=>decide (kv.1=k))=true
 ·rw [if_pos e,if_pos e]; exact r.repl k ry
 ·rw [if_neg e,if_neg e]; exact Paired.snoc r ⟨rfl,ry⟩
theorem KV.length {kvs:List (κ×V)} {vs:List (κ×Value)} (r:KV kvs vs):kvs.length=vs.length:=Paired.length r
end
theorem kV_is {P:Program} {w:World} {k:Key} {u:Value} (r:RelV (kV k) u):(q2p P w).is k u=true:=by
 cases k with
 | inl i=>obtain ⟨t,e⟩:=(show ∃t,u=Value.int i t from r); subst e; exact z1p P w i t
 | inr x=>obtain ⟨t,e⟩:=(show ∃t,u=Value.str x t from r); subst e; exact z1o P w x t
theorem items_are {P:Program} {w:World}:∀{ks:List Key} {us:List Value},Vals (ks.map kV) us→ItemsAre (q2p P w) ks us
 | [],_,r=>by rw [List.map_nil] at r; cases r; exact .nil
 | k::ks,_,r=>by
  rw [List.map_cons] at r
  cases r with
  | cons h t=>exact .cons (kV_is h) (items_are t)
abbrev KT (H:Hp):List (List Key×V)→List (List Key×Addr×Value)→Prop:=Paired fun p q=>p.1=q.1∧H q.2.1=some (.tup (p.1.map kV))∧RelV p.2 q.2.2
theorem KT.val {H:Hp} {kvs:List (List Key×V)} {xs:List (List Key×Addr×Value)} (r:KT H kvs xs) (k:List Key):RelO (valV kvs k) ((atKey xs k).map (·.2)):=by
 induction r with
 | nil=>exact True.intro
 | @cons p q ps qs h t ih=>
  obtain ⟨h1,_,h2⟩:=h
  by_cases e:p.1=k
  ·have e':q.1=k:=h1.symm.trans e
   have b:atKey (q::qs) k=some q.2:=by simp [atKey,List.find?_cons,e']
   rw [z0r e,b]; exact h2
  ·have e':¬q.1=k:=fun z=>e (h1.trans z)
   have b:atKey (q::qs) k=atKey qs k:=by simp [atKey,List.find?_cons,e']
   rw [z0s e,b]; exact ih
theorem KT.repl {H:Hp} {kvs:List (List Key×V)} {xs:List (List Key×Addr×Value)} (r:KT H kvs xs) (k:List Key) {y:V} {u:Value} (ry:RelV y u) :
  KT H (kvs.map fun kv=>if kv.1=k then (kv.1,y) else kv) (xs.map (putAt k u)):=by
 induction r with
 | nil=>exact .nil
 | @cons p q ps qs h t ih=>
  rw [List.map_cons,List.map_cons]
  refine .cons ?_ ih
  obtain ⟨h1,h2,h3⟩:=h
  unfold putAt
  by_cases e:p.1=k
  ·rw [if_pos e,if_pos (h1.symm.trans e)]; exact ⟨h1,h2,ry⟩
  ·rw [if_neg e,if_neg (fun z=>e (h1.trans z))]; exact ⟨h1,h2,h3⟩
theorem KT.put {H:Hp} {kvs:List (List Key×V)} {xs:List (List Key×Addr×Value)} (r:KT H kvs xs) (k:List Key) {b:Addr} {y:V} {u:Value} (hb:H b=some (.tup (k.map kV))) (ry:RelV y u) :
  KT H (putK kvs k y) (storedH xs k b u):=by
 have e:(kvs.any fun kv=>decide (kv.1=k))=(atKey xs k).isSome:=by
  rw [valV_any,(r.val k).isSome_eq,Option.isSome_map]
 unfold putK storedH
 rw [e]
 by_cases q:(atKey xs k).isSome=true
 ·rw [if_pos q,if_pos q]; exact r.repl k ry
 ·rw [if_neg q,if_neg q]; exact Paired.snoc r ⟨rfl,hb,ry⟩
theorem KT.keeps {H H':Hp} {kvs:List (List Key×V)} {xs:List (List Key×Addr×Value)} (r:KT H kvs xs) (ht:∀b ys,H b=some (.tup ys)→H' b=some (.tup ys)):KT H' kvs xs:=
 Paired.mapP r fun _ _ z=>⟨z.1,ht _ _ z.2.1,z.2.2⟩
section
variable {P:Program} {w:World} {H:Hp} {h:Heap} {a:Addr}
theorem rd_of {u:HO} (ok:HOk P w H h) (e:Rd H a u):q3s P w H h a u:=e.ok ok
theorem dk_rd {kvs:List (Key×V)} (ok:HOk P w H h) (e:Rd H a (.dK kvs)):kvs.length≤sizeLine∧(a == sysModules)=false∧∃vs,KV kvs vs∧h.DictOf (q2p P w) a vs:=
 show q3s P w H h a (.dK kvs) from rd_of ok e
theorem dk_of {kvs:List (Key×V)} (ok:HOk P w H h) (e:H a=some (.dK kvs)):kvs.length≤sizeLine∧(a == sysModules)=false∧∃vs,KV kvs vs∧h.DictOf (q2p P w) a vs:=dk_rd ok (.inl e)
theorem key_of {ks:List Key} (ok:HOk P w H h) (e:H a=some (.tup (ks.map kV))):(tupleKind (q2p P w)).is h ks a:=by
 obtain ⟨_,its,r,o,h1,h2,n,h3⟩:=(show q3s P w H h a (.tup (ks.map kV)) from ok a _ e)
 exact ⟨o,its.toArray,n,h1,h2,h3,by simpa using items_are r⟩
theorem dt_rd {kvs:List (List Key×V)} (ok:HOk P w H h) (e:Rd H a (.dT kvs)):kvs.length≤sizeLine∧(a == sysModules)=false∧
  ∃xs,KT H kvs xs∧h.DictOfH (tupleKind (q2p P w)) a xs:=by
 obtain ⟨z,y,xs,r,o,es,ep,h1,h2,h3,h4,h5⟩:=(show q3s P w H h a (.dT kvs) from rd_of ok e)
 refine ⟨z,y,xs,r,o,es,ep,h1,h2,h3,h4,fun x hx=>?_,h5⟩
 have all:∀{l:List (List Key×V)} {m:List (List Key×Addr×Value)},KT H l m→∀x∈m,(tupleKind (q2p P w)).is h x.1 x.2.1:=by
  intro l m q
  induction q with
  | nil=>intro x hx; exact nomatch hx
  | @cons p q ps qs hq t ih=>
   intro x hx
   rcases List.mem_cons.mp hx with e | hx
   ·subst e
    exact key_of ok (by rw [←hq.1]; exact hq.2.1)
   ·exact ih x hx
 exact all r x hx
theorem dt_of {kvs:List (List Key×V)} (ok:HOk P w H h) (e:H a=some (.dT kvs)):kvs.length≤sizeLine∧(a == sysModules)=false∧
  ∃xs,KT H kvs xs∧h.DictOfH (tupleKind (q2p P w)) a xs:=dt_rd ok (.inl e)
end
def DGet (H:Hp) (a:Addr) (y:V) (r:Option V):Prop:=
 (∃kvs k,Rd H a (.dK kvs)∧y=kV k∧r=valV kvs k)∨∃kvs k b,Rd H a (.dT kvs)∧y=.ref b∧H b=some (.tup (k.map kV))∧r=valV kvs k
def DPut (H:Hp) (a:Addr) (y v:V) (H':Hp):Prop:=
 (∃kvs k,H a=some (.dK kvs)∧y=kV k∧kvs.length<sizeLine∧H'=upd H a (.dK (putK kvs k v)))∨
 ∃kvs k b,H a=some (.dT kvs)∧y=.ref b∧H b=some (.tup (k.map kV))∧kvs.length<sizeLine∧H'=upd H a (.dT (putK kvs k v))
theorem DGet.k {H:Hp} {a:Addr} {kvs:List (Key×V)} {k:Key} (e:H a=some (.dK kvs)):DGet H a (kV k) (valV kvs k):=.inl ⟨kvs,k,.inl e,rfl,rfl⟩
theorem DPut.k {H:Hp} {a:Addr} {kvs:List (Key×V)} {k:Key} {v:V} (e:H a=some (.dK kvs)) (hl:kvs.length<sizeLine):DPut H a (kV k) v (upd H a (.dK (putK kvs k v))):=.inl ⟨kvs,k,e,rfl,hl,rfl⟩
section
variable {X:Cx} {pins:List (Addr×Obj)} {σ:St} {H:Hp} {s:Shared} {a:Addr} {y v:V} {u r:Value} {o:Option V} {A:Around} {E:Value→Shared→Prop}
theorem Inv.big (I:Inv X pins σ H s):sysModules<s.heap.objs.size:=by
 have h:mainGlobals<s.heap.objs.size:=(I.mod.glob.keeps I.bk).lt
 exact Nat.lt_trans (by decide) h
theorem d_getItem {Q:Value→Shared→Prop} (hu:A.units+1<cLine) (I:Inv X pins σ H s) (g:DGet H a y (some v)) (ry:RelV y u) (h:∀w' s',Inv X pins σ H s'→RelV v w'→Q w' s') :
  wpAny (model X.prog X.w) A (getItem (.ref a) u) Q E s:=by
 rcases g with ⟨kvs,k,e,ey,l⟩ | ⟨kvs,k,b,e,ey,eb,l⟩
 ·subst ey
  obtain ⟨z,hd,vs,rel,dd⟩:=dk_rd I.hok e
  obtain ⟨w',hw,rw'⟩:=RelO.some_of (v:=v) (o:=valueAt vs k) (by rw [l]; exact rel.val k)
  exact wpAny_getItem_of (kV_is ry) dd.mapOf hw (h w' _ (I.tok _) rw')
 ·subst ey
  cases (show u=Value.ref b from ry)
  obtain ⟨z,hd,xs,rel,dd⟩:=dt_rd I.hok e
  obtain ⟨w',hw,rw'⟩:=RelO.some_of (v:=v) (o:=(atKey xs k).map (·.2)) (by rw [l]; exact rel.val k)
  obtain ⟨p,hp,hp2⟩:=Option.map_eq_some_iff.mp hw
  refine wpAny_getItem_heap (tupleKind_room_in1 hu) (key_of I.hok eb) dd hp ?_
  rw [hp2]
  exact h w' _ (I.tok _) rw'
theorem d_write {h':Heap} {t':Nat} {ob:HO} (I:Inv X pins σ H s) (mu:Mut (H a)) (hs:Heap.SameBut a s.heap h') (he:∃q,h'.get? a=some q) (new:q3s X.prog X.w (upd H a ob) h' a ob) :
  Inv X pins σ (upd H a ob) { s with heap:=h',toks:=t' }:=
 I.write (x:=a) (e:=a) mu (.inl rfl) (fun b q hb z=>(hs.2 b hb).trans z) he new
theorem dk_new {P:Program} {w:World} {H':Hp} {h':Heap} {kvs:List (Key×V)} {vs:List (Key×Value)} (z:kvs.length≤sizeLine) (hd:(a == sysModules)=false) (rel:KV kvs vs) (dd:h'.DictOf (q2p P w) a vs) :
  q3s P w H' h' a (.dK kvs):=⟨z,hd,vs,rel,dd⟩
theorem d_setItem {H':Hp} {Q:Unit→Shared→Prop} (hu:A.units+1<cLine) (I:Inv X pins σ H s) (g:DPut H a y v H') (ry:RelV y u) (rv:RelV v r) (h:∀s',Inv X pins σ H' s'→Q () s') :
  wpAny (model X.prog X.w) A (setItem (.ref a) u r) Q E s:=by
 rcases g with ⟨kvs,k,e,ey,l,eH⟩ | ⟨kvs,k,b,e,ey,eb,l,eH⟩
 ·subst ey eH
  obtain ⟨z,hd,vs,rel,dd⟩:=dk_of I.hok e
  have hz:vs.length≤sizeLine:=by rw [←rel.length]; exact z
  have hl:(putK kvs k v).length≤sizeLine:=by have:=q8t kvs k v; omega
  refine wpAny_setItem_pairs (hsz:=hz) (kV_is ry) dd fun h' dd' hs=>h _ ?_
  have he:∃q,h'.get? a=some q:=let ⟨q,_,_,hq,_⟩:=dd'; ⟨q,hq⟩
  exact d_write I (by rw [e]; exact True.intro) hs he (dk_new hl hd (rel.put k rv) dd')
 ·subst ey eH
  cases (show u=Value.ref b from ry)
  obtain ⟨z,hd,xs,rel,dd⟩:=dt_of I.hok e
  have hz:xs.length≤sizeLine:=by rw [←Paired.length rel]; exact z
  have hl:(putK kvs k v).length≤sizeLine:=by have:=q8t kvs k v; omega
  refine wpAny_setItem_heap (hsz:=hz) (tupleKind_room_in1 hu) (key_of I.hok eb) dd fun h' dd' hs=>h _ ?_
  obtain ⟨q,es,ep,hq,h2,h3,h4,_,h5⟩:=dd'
  refine d_write I (by rw [e]; exact True.intro) hs ⟨q,hq⟩ ⟨hl,hd,_,(rel.put k eb rv).keeps fun c ys ec=>?_,q,es,ep,hq,h2,h3,h4,h5⟩
  rw [q1h (ne_of ec e (fun z=>nomatch z))]
  exact ec
end
section
variable {X:Cx} {pins:List (Addr×Obj)} {σ:St} {H:Hp} {s:Shared} {a:Addr} {kvs:List (Key×V)} {k:Key} {u:Value} {A:Around} {E:Value→Shared→Prop}
end
theorem dict_typeIs {X:Cx} {pins:List (Addr×Obj)} {σ:St} {H:Hp} {s:Shared} {a:Addr} {y:V} {o:Option V} (I:Inv X pins σ H s) (g:DGet H a y o):s.TypeIs (.ref a) "dict" :=by
 rcases g with ⟨kvs,k,e,_,_⟩ | ⟨kvs,k,b,e,_,_,_⟩
 ·obtain ⟨_,_,vs,_,dd⟩:=dk_rd I.hok e
  exact dd.typeIs
 ·obtain ⟨_,_,xs,_,dd⟩:=dt_rd I.hok e
  exact dd.typeIs
section
variable {X:Cx} {o i e value:Expr} {pos pos' tpos:Pos} {td ty tv:TE}
end
theorem dk_empty {P:Program} {w:World} {H:Hp} (h:Heap) (hb:sysModules<h.objs.size):q3s P w H (h.push { cls:=.type "dict",data:=.dict #[] }) h.objs.size (.dK []):=
 ⟨Nat.zero_le _,beq_eq_false_iff_ne.mpr (Ne.symm (Nat.ne_of_lt hb)),[],.nil,Heap.DictOf.new h⟩
def tDNewK:TE:=fun _ H Q=>∀p,H p=none→Q (.ref p) (upd H p (.dK []))
section
variable {X:Cx} {pos:Pos}
theorem pe_dnewK:PE X (.Dict [] [] pos) tDNewK:=fun pins s σ H Q I h=>
 wpAny_Dict_empty ⟨.ref s.heap.objs.size,_,I.laid (a:=s.heap.objs.size) (o:=.dK []) (t':=s.toks) (fun _ _ q=>Heap.get?_push_of_some _ q) (Nat.le_refl _) (dk_empty s.heap I.big),rfl,h _ (I.hok.fresh (Nat.le_refl _))⟩
end
def tPairs : List (TE × TE) → St → Hp → (List (V × V) → Hp → Prop) → Prop
 | [], _, H, Q => Q [] H
 | (tk, tv) :: r, σ, H, Q => tk σ H fun x H1 => tv σ H1 fun y H2 => tPairs r σ H2 fun ps H3 => Q ((x, y) :: ps) H3
abbrev VV:List (V×V)→List (Value×Value)→Prop:=Paired fun p q=>RelV p.1 q.1∧RelV p.2 q.2
def PPs (X:Cx) (pos:Pos) (keys:List (Option Expr)) (values:List Expr) (trs:List (TE×TE)):Prop:=
 ∀(pins:List (Addr×Obj)) (s:Shared) (σ:St) (H:Hp) (Q:List (V×V)→Hp→Prop),Inv X pins σ H s→tPairs trs σ H Q→
  wpAny (model X.prog X.w) X.A (evalPairs (pairTrees keys values X.env pos)) (fun vs s'=>∃ps H',Inv X pins σ H' s'∧VV ps vs∧Q ps H') X.xe s
theorem pps_nil {X:Cx} {pos:Pos}:PPs X pos [] [] []:=fun pins s σ H Q I h=>pairTrees_nil_walk ⟨[],H,I,.nil,h⟩
theorem pps_cons {X:Cx} {pos:Pos} {k v:Expr} {ks:List (Option Expr)} {vs:List Expr} {tk tv:TE} {trs:List (TE×TE)} (hk:PE X k tk) (hv:PE X v tv) (hr:PPs X pos ks vs trs) :
  PPs X pos (some k::ks) (v::vs) ((tk,tv)::trs):=fun pins s σ H Q I h=>
 pairTrees_cons_walk (thn (hk pins s σ H _ I h) fun u s1 hh1=>by obtain ⟨x,H1,I1,rx,q1⟩:=hh1; exact (thn (hv pins s1 σ H1 _ I1 q1) fun w2 s2 ⟨y,H2,I2,ry,q2⟩=>
  thn (hr pins s2 σ H2 _ I2 q2) fun ws s3 hh2=>by obtain ⟨ps,H3,I3,rel,q3⟩:=hh2; exact (⟨(x,y)::ps,H3,I3,.cons ⟨rx,ry⟩ rel,q3⟩)))
def mergeK (kvs more:List (Key×V)):List (Key×V):=more.foldl (fun acc kv=>putK acc kv.1 kv.2) kvs
theorem KV.merge:∀{more:List (Key×V)} {rs:List (Key×Value)} {kvs:List (Key×V)} {vs:List (Key×Value)},KV more rs→KV kvs vs→KV (mergeK kvs more) (merged vs rs):=by
 intro more rs kvs vs r
 unfold KV at r
 induction r generalizing kvs vs with
 | nil=>intro q; exact q
 | @cons p q ps qs h t ih=>
  intro r0
  have e:KV (putK kvs p.1 p.2) (stored vs q.1 q.2):=by
   have:=r0.put p.1 h.2
   rw [←h.1]; exact this
  exact ih e
theorem q9p:∀(more kvs:List (Key×V)),(mergeK kvs more).length≤kvs.length+more.length
 | [],kvs=>by show kvs.length≤kvs.length+0; omega
 | p::r,kvs=>by
  have h1:=q9p r (putK kvs p.1 p.2)
  have h2:=q8t kvs p.1 p.2
  show (mergeK (putK kvs p.1 p.2) r).length≤_
  rw [List.length_cons]; omega
theorem carries_of {P:Program} {w:World}:∀{kvs:List (Key×V)} {ws:List (Value×Value)},VV (kvs.map fun kv=>(kV kv.1,kv.2)) ws→∃rs,Carries (q2p P w) ws rs∧KV kvs rs
 | [],_,r=>by rw [List.map_nil] at r; cases r; exact ⟨[],True.intro,.nil⟩
 | p::kvs,_,r=>by
  rw [List.map_cons] at r
  cases r with
  | @cons a b as bs h t=>
   obtain ⟨rs,c,q⟩:=carries_of (P:=P) (w:=w) t
   obtain ⟨b1,b2⟩:=b
   exact ⟨(p.1,b2)::rs,⟨kV_is h.1,rfl,c⟩,.cons ⟨rfl,h.2⟩ q⟩
def tDisp (trs:List (TE×TE)):TE:=fun σ H Q=>∀p,H p=none→tPairs trs σ (upd H p (.dK [])) fun ps H2=>H2 p=some (.dK [])∧∃kvs:List (Key×V),ps=kvs.map (fun kv=>(kV kv.1,kv.2))∧kvs.length≤15∧Q (.ref p) (upd H2 p (.dK (mergeK [] kvs)))
theorem pe_disp {X:Cx} {pos:Pos} {keys:List (Option Expr)} {values:List Expr} {trs:List (TE×TE)} (h:PPs X pos keys values trs) (hall:keys.all (·.isSome)=true) (hl:keys.length=values.length) (h0:keys≠[])
  (h15:keys.length≤15):PE X (.Dict keys values pos) (tDisp trs):=by
 intro pins s σ H Q I q
 have hn:=I.hok.fresh (Nat.le_refl s.heap.objs.size)
 have I1:=I.laid (a:=s.heap.objs.size) (o:=.dK []) (h':=s.heap.push { cls:=.type "dict",data:=.dict #[] }) (t':=s.toks) (fun _ _ q=>Heap.get?_push_of_some _ q) (Nat.le_refl _) (dk_empty s.heap I.big)
 refine wpAny_Dict_walk (knd:=q2p X.prog X.w) hall hl h0 h15 (thn (h pins _ σ _ _ I1 (q _ hn)) fun ws s2 hh1=>?_)
 obtain ⟨ps,H2,I2,rel,e,kvs,ep,lk,q2⟩:=hh1
 subst ep
 obtain ⟨rs,c,rk⟩:=carries_of (P:=X.prog) (w:=X.w) rel
 obtain ⟨z,hd,vs0,r0,dd⟩:=dk_of I2.hok e
 cases r0
 refine ⟨rs,c,dd,fun h' dd' hs=>⟨.ref s.heap.objs.size,_,?_,rfl,q2⟩⟩
 have hz:(mergeK [] kvs).length≤sizeLine:=by
  have h1:=q9p kvs []
  rw [List.length_nil] at h1
  rw [sizeLine_eq]; omega
 have he:∃q,h'.get? s.heap.objs.size=some q:=let ⟨q,_,_,hq,_⟩:=dd'; ⟨q,hq⟩
 exact d_write I2 (by rw [e]; exact True.intro) hs he (dk_new hz hd (rk.merge .nil) dd')
structure M1 (X:Cx) (o:Expr) (m:Str) (apos:Pos) (e:Expr) (cpos:Pos):Prop where
 base:attributeBase o m X.env (eval o X.env)=eval o X.env
 few:((backTo cpos (starEach [e] X.env)).all (fun x=>!x.1) && (backToKw cpos (keywordEach [] X.env)).all (fun x=>x.1.isSome)
  && decide (([e]:List Expr).length+([]:List Keyword).length+(if ([]:List Keyword).isEmpty then 0 else 1)<30))=true
 line:(apos.endLine == cpos.line)=true
 trees:backTo cpos (starEach [e] X.env)=[(false,eval e X.env)]
structure M2 (X:Cx) (o:Expr) (m:Str) (apos:Pos) (e f:Expr) (cpos:Pos):Prop where
 base:attributeBase o m X.env (eval o X.env)=eval o X.env
 few:((backTo cpos (starEach [e,f] X.env)).all (fun x=>!x.1) && (backToKw cpos (keywordEach [] X.env)).all (fun x=>x.1.isSome)
  && decide (([e,f]:List Expr).length+([]:List Keyword).length+(if ([]:List Keyword).isEmpty then 0 else 1)<30))=true
 line:(apos.endLine == cpos.line)=true
 trees:backTo cpos (starEach [e,f] X.env)=[(false,eval e X.env),(false,eval f X.env)]
section
variable {X:Cx} {pins:List (Addr×Obj)} {σ:St} {H:Hp} {s:Shared} {a:Addr} {y d:V} {u r:Value} {o:Option V} {A:Around} {E:Value→Shared→Prop}
theorem d_get1 {Q:Value→Shared→Prop} (hu:A.units+1<cLine) (I:Inv X pins σ H s) (g:DGet H a y o) (ry:RelV y u) (h:∀w' s',Inv X pins σ H s'→RelV (o.getD .non) w'→Q w' s') :
  wpAny (model X.prog X.w) A (call (.builtin "dict.get") [.ref a,u]) Q E s:=by
 rcases g with ⟨kvs,k,e,ey,l⟩ | ⟨kvs,k,b,e,ey,eb,l⟩
 ·subst ey
  obtain ⟨z,hd,vs,rel,dd⟩:=dk_rd I.hok e
  refine call_meetsIn PySem.F.slot_dict_get dd.typeIs PySem.F.entry_dict_get (PySem.F.args_dict_get_2 _ _) (meets_dict_get (q2p X.prog X.w) a (kV_is ry) hd) ⟨_,dd.mapOf,h _ _ (I.tok _) ?_⟩
  rw [l]
  exact (rel.val k).getD rfl
 ·subst ey
  cases (show u=Value.ref b from ry)
  obtain ⟨z,hd,xs,rel,dd⟩:=dt_rd I.hok e
  refine call_meetsIn PySem.F.slot_dict_get dd.typeIs PySem.F.entry_dict_get (PySem.F.args_dict_get_2 _ _) (meetsH_dict_get (tupleKind (q2p X.prog X.w)) a b hd) ⟨tupleKind_room_in1 hu,k,xs,key_of I.hok eb,dd,h _ _ (I.tok _) ?_⟩
  rw [l]
  exact (rel.val k).getD rfl
end
section
variable {X:Cx} {o e f:Expr} {apos cpos:Pos} {td ty tx:TE}
end
section
variable {X:Cx} {pins:List (Addr×Obj)} {σ:St} {H:Hp} {s:Shared} {a:Addr} {kvs:List (Key×V)} {A:Around} {E:Value→Shared→Prop}
end
section
variable {X:Cx} {pins:List (Addr×Obj)} {σ:St} {H:Hp} {s:Shared} {a:Addr} {y:V} {u:Value} {A:Around} {E:Value→Shared→Prop}
end
end L2
namespace Att
open PySem PySem.W PySem.Calls PyProof.Rows
section
variable {prog:Program} {w:World} {A:Around} {E:Value→Shared→Prop} {s:Shared} {K:Frag}
end
end Att
namespace L2
open PySem PySem.Spec PyProof.Rows
end L2
namespace L2
open PySem PySem.Spec PyProof.Rows
end L2
namespace L2
open PySem PySem.Spec PyProof.Rows
section
variable {P:Program} {w:World} {K:PySem.W.Frag} {mg:Str→Option Value} {base:Heap}
end
section
variable {X:Cx}
end
section
variable {κ:Type} [DecidableEq κ]
end
end L2
namespace L2
open PySem PySem.Spec PyProof.Rows
theorem closure_loop (env:Env):∀(names:List (Str×NameKind)) (acc:List (Str×Addr)),
  (∀p∈names,p.2=.free→∃c,env.cells.lookup p.1=some c)→
  (∀x c,acc.lookup x=some c→env.cells.lookup x=some c)→
  ∃cl,(forIn names acc (fun (x:Str×NameKind) cs=>
    (if (x.2 == NameKind.free)=true then (do let a ←cellOf env x.1; pure (ForInStep.yield ((x.1,a)::cs))) else pure (ForInStep.yield cs))):Sem (List (Str×Addr)))=pure cl∧
   (∀x c,cl.lookup x=some c→env.cells.lookup x=some c)∧
   (∀x,(names.lookup x=some .free∨(acc.lookup x).isSome=true)→∃c,cl.lookup x=some c):=by
 intro names
 induction names with
 | nil=>
  intro acc _ ha
  refine ⟨acc,rfl,ha,fun x hx=>?_⟩
  rcases hx with hx | hx
  ·simp at hx
  ·exact Option.isSome_iff_exists.mp hx
 | cons p r ih=>
  intro acc hf ha
  obtain ⟨n,k⟩:=p
  have hr:∀p∈r,p.2=.free→∃c,env.cells.lookup p.1=some c:=fun p hp=>hf p (List.mem_cons_of_mem _ hp)
  by_cases hk:k=.free
  ·subst hk
   obtain ⟨c,hc⟩:=hf (n,.free) List.mem_cons_self rfl
   obtain ⟨cl,h1,h2,h3⟩:=ih ((n,c)::acc) hr (fun x c' e=>by
    rw [List.lookup_cons] at e
    cases hx:x == n with
    | true=>
     rw [hx] at e
     have:=eq_of_beq hx
     subst this
     cases e
     exact hc
    | false=>rw [hx] at e; exact ha x c' e)
   refine ⟨cl,?_,h2,fun x hx=>h3 x ?_⟩
   ·rw [List.forIn_cons]
    have:cellOf env n=pure c:=by unfold cellOf; rw [hc]
    simp only [beq_self_eq_true,if_true,this]
    exact h1
   ·rcases hx with hx | hx
    ·rw [List.lookup_cons] at hx
     cases hq:x == n with
     | true=>right; rw [List.lookup_cons,hq]; rfl
     | false=>rw [hq] at hx; exact .inl hx
    ·right
     rw [List.lookup_cons]
     cases hq:x == n with
     | true=>rfl
     | false=>exact hx
  ·have hb:(k == NameKind.free)=false:=by simpa using hk
   obtain ⟨cl,h1,h2,h3⟩:=ih acc hr ha
   refine ⟨cl,?_,h2,fun x hx=>h3 x ?_⟩
   ·rw [List.forIn_cons]
    simp only [hb,Bool.false_eq_true,if_false]
    exact h1
   ·rcases hx with hx | hx
    ·rw [List.lookup_cons] at hx
     cases hq:x == n with
     | true=>rw [hq] at hx; cases hx; exact absurd rfl hk
     | false=>rw [hq] at hx; exact .inl hx
    ·exact .inr hx
theorem closure_free {scope:Scope} {env:Env} (hf:∀p∈scope.names,p.2=.free→∃c,env.cells.lookup p.1=some c) :
  ∃cl,closureFor scope env=pure cl∧(∀x c,cl.lookup x=some c→env.cells.lookup x=some c)∧(∀x,scope.names.lookup x=some .free→∃c,cl.lookup x=some c):=by
 obtain ⟨cl,h1,h2,h3⟩:=closure_loop env scope.names [] hf (fun _ _ e=>by simp at e)
 refine ⟨cl,?_,h2,fun x hx=>h3 x (.inl hx)⟩
 unfold closureFor
 simp only []
 have:((forIn scope.names ([]:List (Str×Addr)) (fun (x:Str×NameKind) cs=>
    (if (x.2 == NameKind.free)=true then (do let a ←cellOf env x.1; pure (ForInStep.yield ((x.1,a)::cs))) else pure (ForInStep.yield cs))):Sem (List (Str×Addr))) >>= fun r=>pure r)=pure cl:=by
  rw [h1]; rfl
 exact this
def IxOk (N:List Str) (around:Scope) (scope:Scope):List Str→List (Option Nat)→Prop
 | [],[]=>True
 | y::r,some j::t=>(N[j]?=some y∧scope.names.lookup y=some .free∧(around.names.lookup y=some .cell∨around.names.lookup y=some .free))∧IxOk N around scope r t
 | _::r,none::t=>IxOk N around scope r t
 | _,_=>False
theorem IxOk.at {N:List Str} {around scope:Scope}:∀{N':List Str} {ix:List (Option Nat)},IxOk N around scope N' ix→∀(i:Nat) (y:Str) (j:Nat),N'[i]?=some y→ix[i]?=some (some j)→
  N[j]?=some y∧scope.names.lookup y=some .free∧(around.names.lookup y=some .cell∨around.names.lookup y=some .free)
 | [],_,_,i,y,j,e,_=>by simp at e
 | _::_,[],h,_,_,_,_,_=>h.elim
 | y'::r,some j'::t,h,0,y,j,e,e'=>by
  simp at e e'
  subst e e'
  exact h.1
 | y'::r,some j'::t,h,i+1,y,j,e,e'=>IxOk.at (N':=r) (ix:=t) h.2 i y j (by simpa using e) (by simpa using e')
 | y'::r,none::t,h,0,y,j,e,e'=>by simp at e'
 | y'::r,none::t,h,i+1,y,j,e,e'=>IxOk.at (N':=r) (ix:=t) h i y j (by simpa using e) (by simpa using e')
theorem IxOk.len {N:List Str} {around scope:Scope}:∀{N':List Str} {ix:List (Option Nat)},IxOk N around scope N' ix→ix.length=N'.length
 | [],[],_=>rfl
 | [],_::_,h=>h.elim
 | _::_,[],h=>h.elim
 | _::r,some _::t,h=>by simp [IxOk.len (N':=r) (ix:=t) h.2]
 | _::r,none::t,h=>by simp [IxOk.len (N':=r) (ix:=t) h]
def q5h (ix:List (Option Nat)) (σ:St):St:=ix.map fun o=>match o with
 | none=>none
 | some j=>match σ[j]? with
  | some v=>v
  | none=>none
structure CompOk (X:Cx) (scope:Scope) (N':List Str) (ix:List (Option Nat)):Prop where
 kind:scope.kind=.function
 cell:∀y∈scope.names,y.2≠.cell
 names:∀y∈scope.names,y.2=.local→scope.names.lookup y.1=some .local
 free:∀y∈scope.names,y.2=.free→X.env.scope.names.lookup y.1=some .cell∨X.env.scope.names.lookup y.1=some .free
 ixs:IxOk X.N X.env.scope scope N' ix
def Cx.comp (X:Cx) (scope:Scope) (N':List Str) (cl:List (Str×Addr)) (C:Addr) (s:Shared) (H:Hp) (fp:List Addr):Cx where
 prog:=X.prog
 w:=X.w
 K:=X.K
 mg:=X.mg
 base:=X.base
 A:=X.A
 N:=N'
 s₀:=s
 H₀:=H
 env:=compEnvC scope cl C X.env
 outer:=X.stack
 stack:=X.stack
 ex:=fp
 fn:=fun _=>false
 calm:=true
 pn:=[]
 xe:=fun _ _=>False
theorem lookup_relabel {env:Env} {scope:Scope} {x:Str} {k:NameKind}:(relabel scope env).names.lookup x=some k→k=.cell∨k=.free→(∀y∈scope.names,y.2≠.cell)→scope.names.lookup x=some .free:=by
 unfold relabel
 dsimp only
 generalize scope.names=names
 intro h hk hc
 induction names with
 | nil=>simp at h
 | cons p r ih=>
  obtain ⟨n,k'⟩:=p
  rw [List.map_cons,List.lookup_cons] at h
  rw [List.lookup_cons]
  by_cases hf:k'=.free
  ·subst hf
   cases hq:x == n with
   | true=>rfl
   | false=>
    refine ih ?_ fun y hy=>hc y (List.mem_cons_of_mem _ hy)
    split at h
    ·rename_i hh; simp only [hq] at hh; split at hh<;>exact absurd hh (by simp [hq])
    ·exact h
  ·have hb:(k' == NameKind.free)=false:=by simpa using hf
   simp only [hb,Bool.false_and,Bool.false_eq_true,if_false] at h
   cases hq:x == n with
   | true=>
    rw [hq] at h
    simp only [Option.some.injEq] at h
    subst h
    rcases hk with hk | hk
    ·exact absurd hk (hc (n,k') List.mem_cons_self)
    ·exact absurd hk hf
   | false=>
    rw [hq] at h
    exact ih h fun y hy=>hc y (List.mem_cons_of_mem _ hy)
theorem relabel_free {env:Env} {scope:Scope} {x:Str} (h:scope.names.lookup x=some .free):(relabel scope env).names.lookup x=some .cell∨(relabel scope env).names.lookup x=some .free:=by
 unfold relabel
 dsimp only
 generalize scope.names=names at h
 induction names with
 | nil=>simp at h
 | cons p r ih=>
  obtain ⟨n,k'⟩:=p
  rw [List.lookup_cons] at h
  rw [List.map_cons]
  cases hq:x == n with
  | true=>
   rw [hq] at h
   simp only [Option.some.injEq] at h
   subst h
   by_cases hc:(env.scope.kind == ScopeKind.function && env.kindOf n == some NameKind.cell)=true
   ·left
    simp only [beq_self_eq_true,Bool.true_and,hc,if_true,List.lookup_cons,hq]
   ·right
    simp only [beq_self_eq_true,Bool.true_and,hc,Bool.false_eq_true,if_false,List.lookup_cons,hq]
  | false=>
   rw [hq] at h
   have:=ih h
   by_cases hc:(k' == NameKind.free && env.scope.kind == ScopeKind.function && env.kindOf n == some NameKind.cell)=true
   ·simp only [hc,if_true,List.lookup_cons,hq]; exact this
   ·simp only [hc,Bool.false_eq_true,if_false,List.lookup_cons,hq]; exact this
end L2
namespace L2
open PySem PySem.Spec PyProof.Rows
section
variable {X:Cx} {pins:List (Addr×Obj)} {σ:St} {H:Hp} {s:Shared}
theorem Inv.track {D:Addr} {its:List Value} {n:Nat} {ys:List V} (I:Inv X pins σ H s) (hn:H D=none) (hL:D≠X.env.locals) (h1:X.s₀.heap.objs.size≤D)
  (h2:∀x c,X.env.cells.lookup x=some c→c≠D) (h3:∀p∈X.pn++pins,p.1≠D) (ho:s.heap.get? D=some { cls:=.type "list",data:=.seq its.toArray n }) (r:Vals ys its) (hz:ys.length≤sizeLine) :
  Inv X pins σ (upd H D (.lst ys)) s:=by
 have ne:∀b u,H b=some u→b≠D:=fun b u e z=>by rw [z,hn] at e; cases e
 have ne0:∀b o,X.s₀.heap.get? b=some o→b≠D:=fun b o e=>Nat.ne_of_lt (Nat.lt_of_lt_of_le (Heap.lt_size e) h1)
 refine ⟨I.ok,I.os,I.bare,⟨I.base.keep,I.base.slot,fun b o e n' hx=>?_,I.base.there,fun b xs e=>?_,fun b o u e=>?_,fun b ps e=>?_⟩,I.loc,I.cell,?_,fun x c e=>?_,fun p hp=>?_,fun b u e=>?_,I.len⟩
 ·rw [q1h (ne0 b o e)]; exact I.base.free b o e n' hx
 ·have q:=I.base.tups b xs e
  rw [q1h (ne _ _ q)]; exact q
 ·have q:=I.base.frzs b o u e
  rw [q1h (ne _ _ q)]; exact q
 ·obtain ⟨more,q⟩:=I.base.tbls b ps e
  exact ⟨more,by rw [q1h (ne _ _ q)]; exact q⟩
 ·rw [q1h (Ne.symm hL)]; exact I.free
 ·rw [q1h (h2 x c e)]; exact I.freeC x c e
 ·obtain ⟨a1,a2,a3⟩:=I.pin p hp
  exact ⟨a1,by rw [q1h (h3 p hp)]; exact a2,a3⟩
 ·by_cases hb:b=D
  ·subst hb
   rw [q3p] at e
   cases e
   exact ⟨hz,its,n,r,ho⟩
  ·rw [q1h hb] at e
   refine (I.hok b u e).stay (fun c v hc q=>q) (fun c q=>?_) fun c xs q=>?_
   ·rw [q1h (ne _ _ q)]; exact q
   ·rw [q1h (ne _ _ q)]; exact q
theorem Inv.comp {scope:Scope} {N':List Str} {ix:List (Option Nat)} {cl:List (Str×Addr)} {C:Addr} {fp:List Addr} {h':Heap} {t':Nat} (I:Inv X pins σ H s) (co:CompOk X scope N' ix)
  (hcl1:∀x c,cl.lookup x=some c→X.env.cells.lookup x=some c) (hcl2:∀x,scope.names.lookup x=some .free→∃c,cl.lookup x=some c) (hc:X.calm=true)
  (hC:s.heap.objs.size≤C) (hns:h'.Ns C fun _=>none) (hk:∀b o,s.heap.get? b=some o→h'.get? b=some o) (hf:∀b∈fp,FpOk X pins H b) (hfz:∀b∈fp,b<s.heap.objs.size) :
  Inv (X.comp scope N' cl C s H fp) [] (q5h ix σ) H { s with heap:=h',toks:=t' }:=by
 have lookK:∀x k,(compEnvC scope cl C X.env).kindOf x=some k→k=.cell∨k=.free→scope.names.lookup x=some .free:=fun x k e hk'=>lookup_relabel (env:=X.env) e hk' co.cell
 have ok:(X.comp scope N' cl C s H fp).Ok:=by
  refine ⟨I.ok.mod,co.kind,I.ok.glob,I.ok.blt,hC,fun x y c e1 e2=>I.ok.inj x y c (hcl1 x c e1) (hcl1 y c e2),fun x hx=>?_,fun x c e=>(by cases e),fun _=>I.ok.hd hc,I.ok.frames,.inl rfl,fun b hb=>⟨?_,fun x c e=>?_⟩,I.bs,?_,fun b o e hb=>?_,fun b hb z=>?_,I.stack,I.stkFree⟩
  ·refine hcl2 x ?_
   rcases hx with e | e
   ·exact lookK x _ e (.inl rfl)
   ·exact lookK x _ e (.inr rfl)
  ·exact Nat.ne_of_lt (Nat.lt_of_lt_of_le (hfz b hb) hC)
  ·exact (hf b hb).2.2.2.2.1 x c (hcl1 x c e)
  ·exact Nat.le_trans I.ok.bsz I.sz
  ·rcases (hf b hb).2.2.2.1 with z | z
   ·exact I.ok.noex b o e z
   ·exact absurd (Nat.lt_of_lt_of_le (Heap.lt_size (I.ok.bs b o e).1) z) (Nat.lt_irrefl _)
  ·rcases List.mem_cons.mp (I.stkSub b z) with q | q
   ·exact (hf b hb).2.1 q
   ·exact (hf b hb).2.2.1 q
 refine ⟨ok,rfl,I.bare,Un.kept hk,⟨_,hns,fun i y v e1 e2 e3=>?_⟩,fun x c e=>?_,?_,fun x c e=>I.freeC x c (hcl1 x c e),(fun p hp=>by cases hp),I.hok.kept hk,?_⟩
 ·-- a name of the frame around
  have e1':N'[i]?=some y:=e1
  have e2':(q5h ix σ)[i]?=some (some v):=e2
  unfold q5h at e2'
  rw [List.getElem?_map] at e2'
  cases hix:ix[i]? with
  | none=>rw [hix] at e2'; cases e2'
  | some o=>
   rw [hix] at e2'
   cases o with
   | none=>cases e2'
   | some j=>
    have hj:σ[j]?=some (some v):=by
     cases hs:σ[j]? with
     | none=>simp only [Option.map_some,hs] at e2'; cases e2'
     | some o=>
      simp only [Option.map_some,hs,Option.some.injEq] at e2'
      rw [e2']
    obtain ⟨a1,a2,a3⟩:=co.ixs.at i y j e1' hix
    obtain ⟨m,hm,hl⟩:=I.loc
    obtain ⟨u,r,l⟩:=hl j y v a1 hj (by rcases a3 with z | z; exact .inr (.inl z); exact .inr (.inr z))
    refine ⟨u,r,.inr ⟨relabel_free a2,?_⟩⟩
    obtain ⟨c,hc'⟩:=hcl2 y a2
    refine ⟨c,hc',?_⟩
    rcases l with ⟨z,_⟩ | ⟨_,c',e',o,ho,hd⟩
    ·have z':X.env.scope.names.lookup y=some .local:=z
     rcases a3 with q | q<;>rw [z'] at q<;>cases q
    ·have:c'=c:=Option.some.inj (e'.symm.trans (hcl1 y c hc'))
     subst this
     exact ⟨o,hk _ _ ho,hd⟩
 ·obtain ⟨v,o,ho,hd⟩:=I.cell x c (hcl1 x c e)
  exact ⟨v,o,hk _ _ ho,hd⟩
 ·exact I.hok.fresh hC
 ·show (q5h ix σ).length=N'.length
  unfold q5h
  rw [List.length_map]
  exact co.ixs.len
end
end L2
namespace L2
open PySem PySem.Spec PyProof.Rows
def CompGoIf (J:It) (g:TG) (tc:TT) (te:TE) (Q:VK) (σ₀:St) (H1:Hp):Prop:=∃(W:Nat→List V→St→Hp→Prop) (n:Nat),n≤sizeLine∧W 0 [] σ₀ H1∧∀i ys σ H,i≤n→W i ys σ H→
 (J.stop i H∧∀p,H p=none→Q (.ref p) (upd H p (.lst ys)))∨(i<n∧J.go i H∧∀x H',J.yld i H x H'→g x σ H' fun σ2 H2=>tc σ2 H2 fun b H3=>if b=true then te σ2 H3 fun y H4=>W (i+1) (ys++[y]) σ2 H4 else W (i+1) ys σ2 H3)
def tCompIf (wi:TI) (ix:List (Option Nat)) (g:TG) (tc:TT) (te:TE):TE:=fun σ H Q=>wi σ H fun J H1=>CompGoIf J g tc te Q (q5h ix σ) H1
section
variable {X:Cx} {tg iter elt c:Expr} {scope:Scope} {pos:Pos} {N':List Str} {ix:List (Option Nat)} {wi:TI} {g:TG} {te:TE} {tc:TT}
structure CompMid (X:Cx) (scope:Scope) (N':List Str) (cl:List (Str×Addr)) (C D:Addr) (s₂:Shared) (H₂:Hp) (fp:List Addr) (tn:Nat→Heap→Prop) (W:Nat→List V→St→Hp→Prop) (i:Nat) (ys:List V) (σ':St) (H':Hp) (s':Shared):Prop where
 inv:∃us:List Value,Vals ys us∧Inv (X.comp scope N' cl C s₂ H₂ fp) [(D,{ cls:=.type "list",data:=.seq us.toArray us.length })] σ' H' s'
 tn:tn i s'.heap
 fpn:∀b∈fp,H' b=none
 len:ys.length≤i
 w:W i ys σ' H'
theorem comp_end {pins:List (Addr×Obj)} {σ:St} {H₂:Hp} {s₂:Shared} {cl:List (Str×Addr)} {C D:Addr} {fp:List Addr} {Q:VK} {ys:List V} {us:List Value} {σ':St} {H':Hp} {s':Shared}
  (I₂:Inv X pins σ H₂ s₂) (f2:∀b∈fp,FpOk X pins H₂ b) (hD:s₂.heap.objs.size≤D) (hC:s₂.heap.objs.size≤C) (hDC:D≠C) (r:Vals ys us)
  (I':Inv (X.comp scope N' cl C s₂ H₂ fp) [(D,{ cls:=.type "list",data:=.seq us.toArray us.length })] σ' H' s') (hz:ys.length≤sizeLine) (q:∀p,H' p=none→Q (.ref p) (upd H' p (.lst ys))) :
  ∃m,s'.heap.Ns C m∧∀h',Heap.SameBut C s'.heap h'→EP X pins σ Q (.ref D) { s' with heap:=h' }:=by
 obtain ⟨m,hm,_⟩:=I'.loc
 refine ⟨m,hm,fun h' sb=>?_⟩
 have new:∀a,s₂.heap.objs.size≤a→a≠X.env.locals∧X.s₀.heap.objs.size≤a∧(∀x c,X.env.cells.lookup x=some c→c≠a)∧∀p∈X.pn++pins,p.1≠a:=fun a ha=>by
  refine ⟨Nat.ne_of_gt (Nat.lt_of_lt_of_le I₂.lt ha),Nat.le_trans I₂.sz ha,fun x c e=>?_,fun p hp=>?_⟩
  ·obtain ⟨v,o,ho,_⟩:=I₂.cell x c e
   exact Nat.ne_of_lt (Nat.lt_of_lt_of_le (Heap.lt_size ho) ha)
  ·exact Nat.ne_of_lt (Nat.lt_of_lt_of_le (Heap.lt_size (I₂.pin p hp).1) ha)
 have I3:Inv X pins σ H' s':=I₂.call' I'.os I'.base I'.hok I'.bare fun b hb=>⟨(f2 b hb).2.2.2.1,(f2 b hb).2.1,(f2 b hb).2.2.2.2.1,(f2 b hb).2.2.2.2.2⟩
 obtain ⟨eD,nD,_,_,_⟩:=I'.pin (D,{ cls:=.type "list",data:=.seq us.toArray us.length }) (by simp)
 obtain ⟨c1,c2,c3,c4⟩:=new C hC
 have I4:Inv X pins σ H' { s' with heap:=h' }:=I3.turned (t':=s'.toks) (it:=C) (fun b o hb e=>(sb.2 b hb).trans e) I'.free c1 (.inr c2) c3 c4
 obtain ⟨d1,d2,d3,d4⟩:=new D hD
 have I5:=I4.track (D:=D) (ys:=ys) nD d1 d2 d3 d4 ((sb.2 D hDC).trans eD) r hz
 exact ⟨.ref D,_,I5,rfl,q D nD⟩
theorem comp_app {H₂:Hp} {s₂:Shared} {cl:List (Str×Addr)} {C D:Addr} {fp:List Addr} {ys:List V} {us:List Value} {σ':St} {H':Hp} {s':Shared} {pl:List (Addr×Obj)} {y:V} {u:Value} {Q:Value→Shared→Prop} {E:Value→Shared→Prop}
  (hD:s₂.heap.objs.size≤D) (hDC:D≠C) (hcl:∀x c,cl.lookup x=some c→c≠D) (r:Vals ys us) (ry:RelV y u) (hz:ys.length<sizeLine)
  (I':Inv (X.comp scope N' cl C s₂ H₂ fp) ([(D,{ cls:=.type "list",data:=.seq us.toArray us.length })]++pl) σ' H' s') (hp:∀p∈pl,p.1≠D)
  (h:∀s'',Inv (X.comp scope N' cl C s₂ H₂ fp) ([(D,{ cls:=.type "list",data:=.seq (us++[u]).toArray (us++[u]).length })]++pl) σ' H' s''→Q .none s'') :
  wpAny (model X.prog X.w) X.A (call (.builtin "list.append") [.ref D,u]) Q E s':=by
 obtain ⟨eD,nD,neD,nfD,ndD⟩:=I'.pin (D,{ cls:=.type "list",data:=.seq us.toArray us.length }) (by simp)
 refine append_at eD (fun h₅ hs₅ hD₅=>h _ ?_) (by simp only [List.size_toArray]; rw [←r.length]; exact Nat.le_of_lt hz)
 have I1:Inv (X.comp scope N' cl C s₂ H₂ fp) pl σ' H' s':=I'.pins_of fun p hp'=>I'.pin p (List.mem_append_right _ (List.mem_append_right _ hp'))
 have I2:Inv (X.comp scope N' cl C s₂ H₂ fp) pl σ' H' { s' with heap:=h₅ }:=I1.turned (t':=s'.toks) (it:=D) (fun b o hb e=>(hs₅.2 b hb).trans e) nD neD (.inr hD) hcl (fun p hp'=>hp p (by simpa [Cx.comp] using hp'))
 refine I2.pins_of fun p hp'=>?_
 rcases List.mem_append.mp hp' with z | z
 ·obtain rfl:=List.mem_singleton.mp z
  refine ⟨?_,nD,neD,nfD,fun v z=>by cases z⟩
  rw [hD₅,List.length_append,List.length_singleton,List.push_toArray]
 ·exact I2.pin p (List.mem_append_right _ z)
end
end L2
namespace L2
open PySem PySem.Spec PyProof.Rows
section
variable {X:Cx} {tg iter elt c:Expr} {scope:Scope} {pos:Pos} {N':List Str} {ix:List (Option Nat)} {wi:TI} {g:TG} {te:TE} {tc:TT}
theorem comp_end_use {pins:List (Addr×Obj)} {σ:St} {H₂:Hp} {s₂:Shared} {cl:List (Str×Addr)} {C D:Addr} {fp:List Addr} {ys:List V} {us:List Value} {σ':St} {H':Hp} {s':Shared} {i:Nat} {x:Str} {py:Pos} {Q:Value→Shared→Prop}
  (hN:X.N.Nodup) (hi:X.N[i]?=some x) (hx:Loc X.env.scope x) (hf:X.fn x=true∨X.env.scope.names.lookup x=some .local)
  (I₂:Inv X pins σ H₂ s₂) (f2:∀b∈fp,FpOk X pins H₂ b) (hD:s₂.heap.objs.size≤D) (hC:s₂.heap.objs.size≤C) (hDC:D≠C) (r:Vals ys us)
  (I':Inv (X.comp scope N' cl C s₂ H₂ fp) [(D,{ cls:=.type "list",data:=.seq us.toArray us.length })] σ' H' s') (hz:ys.length≤sizeLine)
  (q:∀s'',Inv X pins (σ.set i (some (.ref D))) (upd H' D (.lst ys)) s''→H' D=none→Q .none s'') :
  wpAny (model X.prog X.w) X.A (assign (.Name x py) X.env (.ref D)) (fun _ s''=>∃m,s''.heap.Ns C m∧∀h',Heap.SameBut C s''.heap h'→Q .none { s'' with heap:=h' }) X.xe s':=by
 obtain ⟨m,hm,_⟩:=I'.loc
 have new:∀a,s₂.heap.objs.size≤a→a≠X.env.locals∧X.s₀.heap.objs.size≤a∧(∀x c,X.env.cells.lookup x=some c→c≠a)∧∀p∈X.pn++pins,p.1≠a:=fun a ha=>by
  refine ⟨Nat.ne_of_gt (Nat.lt_of_lt_of_le I₂.lt ha),Nat.le_trans I₂.sz ha,fun x c e=>?_,fun p hp=>?_⟩
  ·obtain ⟨v,o,ho,_⟩:=I₂.cell x c e
   exact Nat.ne_of_lt (Nat.lt_of_lt_of_le (Heap.lt_size ho) ha)
  ·exact Nat.ne_of_lt (Nat.lt_of_lt_of_le (Heap.lt_size (I₂.pin p hp).1) ha)
 have I3:Inv X pins σ H' s':=I₂.call' I'.os I'.base I'.hok I'.bare fun b hb=>⟨(f2 b hb).2.2.2.1,(f2 b hb).2.1,(f2 b hb).2.2.2.2.1,(f2 b hb).2.2.2.2.2⟩
 obtain ⟨eD,nD,_,_,_⟩:=I'.pin (D,{ cls:=.type "list",data:=.seq us.toArray us.length }) (by simp)
 obtain ⟨c1,c2,c3,c4⟩:=new C hC
 obtain ⟨d1,d2,d3,d4⟩:=new D hD
 have I5:=I3.track (D:=D) (ys:=ys) nD d1 d2 d3 d4 eD r hz
 refine wpAny_assign_Name (store_ok2 I5 hN hi hx (v:=.ref D) rfl (fun s'' I'' ⟨a,sb,ha⟩=>?_) hf)
 have haC:a≠C:=by
  rcases ha with rfl | ha
  ·exact c1.symm
  ·exact c3 _ _ ha
 refine ⟨m,hm.sameBut sb haC.symm,fun h' sb'=>q _ ?_ nD⟩
 exact I''.turned (t':=s''.toks) (it:=C) (fun b o hb e=>(sb'.2 b hb).trans e) (by rw [q1h hDC.symm]; exact I'.free) c1 (.inr c2) c3 c4
theorem kcg_loop {prog:Program} {w:World} {A:Around} {s:Shared} {elt target iter:Expr} {ifs:List Expr} {scope:Scope} {pos:Pos} {it acc:Value} {env:Env} {R:Result→Shared→Prop} (I:Nat→Shared→Prop)
  (turn:∀n s,I n s→wpAny (model prog w) A (pyNext it) (fun r s₁=>match r with
   | none=>R (.ok .next) s₁
   | some v=>wpAny (model prog w) A (letOwnedTupleGo target it v) (fun _ s₀=>wpAny (model prog w) A (assign target env v) (fun _ s₂=>
     wpAny (model prog w) A (forIn ifs true fun c r=>if r=true then do let ok ←isTrue c env (eval c env); pure (ForInStep.yield ok) else pure (ForInStep.yield r)) (fun ok s₃=>if ok=true then wpAny (model prog w) A (eval elt env) (fun x s₄=>
      wpAny (model prog w) A (call (.builtin "list.append") [acc,x]) (fun _ s₅=>∃m,m<n∧I m s₅) (notedBy (model prog w) A env fun e s'=>R (.error e) s') s₄) (notedBy (model prog w) A env fun e s'=>R (.error e) s') s₃
      else ∃m,m<n∧I m s₃) (notedBy (model prog w) A env fun e s'=>R (.error e) s') s₂)
     (notedBy (model prog w) A env fun e s'=>R (.error e) s') s₀) (notedBy (model prog w) A env fun e s'=>R (.error e) s') s₁) (notedBy (model prog w) A env fun e s'=>R (.error e) s') s)
  (n:Nat) (h:I n s):codeAny (model prog w) A (.compLoop (.ListComp elt [⟨target,iter,ifs,0⟩] scope pos) 0 it acc env) R s:=by
 refine codeAny_loop rfl I (fun n s hI=>?_) n h
 show wpAny _ A ((compTurn (.ListComp elt [⟨target,iter,ifs,0⟩] scope pos) 0 it acc env).onRaise (fun x=>do noteFrame x env; theTreesLotGoes x)) _ _ s
 refine wpAny_noted ?_
 rw [compTurn_list]
 refine wpAny_bind (wpAny_standAt (wpAny_bind (wpAny_mono (turn n s hI) (fun r s₁ h₁=>?_) fun _ _ h'=>h')))
 cases r with
 | none=>exact wpAny_pure h₁
 | some v=>
  refine wpAny_bind (wpAny_mono h₁ (fun _ s₀ h₀'=>?_) fun _ _ h'=>h')
  refine wpAny_bind (wpAny_mono h₀' (fun _ s₂ h₂=>?_) fun _ _ h'=>h')
  refine wpAny_bind (wpAny_mono h₂ (fun okb s₃ h₃=>?_) fun _ _ h'=>h')
  cases okb with
  | false=>exact wpAny_pure ⟨rfl,h₃⟩
  | true=>exact wpAny_bind (wpAny_bind (wpAny_mono h₃ (fun x s₄ h₄=>wpAny_bind (wpAny_mono h₄ (fun _ s₅ h₅=>wpAny_pure (wpAny_pure ⟨rfl,h₅⟩)) fun _ _ h'=>h')) fun _ _ h'=>h'))
def PTs (X:Cx) (ifs:List Expr) (t:TT):Prop:=
 ∀(pins:List (Addr×Obj)) (s:Shared) (σ:St) (H:Hp) (Q:Bool→Hp→Prop),Inv X pins σ H s→t σ H Q→wpAny (model X.prog X.w) X.A (forIn ifs true fun c r=>if r=true then do let ok ←isTrue c X.env (eval c X.env); pure (ForInStep.yield ok) else pure (ForInStep.yield r)) (TP X pins σ Q) X.xe s
theorem pts_one (h:PT X c tc):PTs X [c] tc:=fun pins s σ H Q I q=>wpAny_tests_one (h pins s σ H Q I q)
theorem pts_nil (h:∀σ H Q,tc σ H Q→Q true H):PTs X [] tc:=fun pins s σ H Q I q=>wpAny_tests_nil ⟨H,I,h σ H Q q⟩
theorem comp_runG {ifs:List Expr} {use:Option (Value→Sem Unit)} {Qf:Value→Shared→Prop} {pins:List (Addr×Obj)} {s:Shared} {σ:St} {H:Hp} {ps:Pos} (hc:X.calm=true) (co:CompOk X scope N' ix) (hi:PI X tg iter wi) (hg:∀cl C s H fp,PG (X.comp scope N' cl C s H fp) tg g) (ht:∀cl C s H fp,PTs (X.comp scope N' cl C s H fp) ifs tc) (he:∀cl C s H fp,PE (X.comp scope N' cl C s H fp) elt te)
  (hs:∀x,foldedSetIterable iter X.env x=pure x:=by intro _; rfl)
  (I:Inv X pins σ H s) (h:wi σ H fun J H1=>∃Q:VK,CompGoIf J g tc te Q (q5h ix σ) H1∧∀{H₂:Hp} {s₂:Shared} {cl:List (Str×Addr)} {C D:Addr} {fp:List Addr} {ys:List V} {us:List Value} {σ':St} {H':Hp} {s':Shared},Inv X pins σ H₂ s₂→(∀b∈fp,FpOk X pins H₂ b)→s₂.heap.objs.size≤D→s₂.heap.objs.size≤C→D≠C→Vals ys us→
   Inv (X.comp scope N' cl C s₂ H₂ fp) [(D,{ cls:=.type "list",data:=.seq us.toArray us.length })] σ' H' s'→ys.length≤sizeLine→(∀p,H' p=none→Q (.ref p) (upd H' p (.lst ys)))→compPost (model X.prog X.w) X.A X.xe use Qf (.ref D) C (.ok .next) s') :
  wpAny (model X.prog X.w) X.A (comprehension (.ListComp elt [⟨tg,iter,ifs,0⟩] scope pos) scope X.env ps (newList []) false (eval iter X.env) use) Qf X.xe s:=by
 obtain ⟨cl,hclos,hcl1,hcl2⟩:=closure_free (scope:=scope) (env:=X.env) fun p hp e=>by
  rcases co.free p hp e with z | z
  ·exact I.ok.has p.1 (.inl z)
  ·exact I.ok.has p.1 (.inr z)
 refine wpAny_comprehension_free (use:=use) rfl hs hclos co.kind co.names (thn (hi pins s σ H _ I h) fun v s1 h1=>thn h1 fun itv s₂ h2=>?_)
 obtain ⟨it,fp,tn,J,H₂,rfl,I₂,T,st2,f2,Q,⟨W,n,hn,w0,turn⟩,fin⟩:=h2
 refine wpAny_newObj_type (wpAny_newFunctionEnv co.cell (by intro y hy; simp at hy) (fun h₁ hns₁ hsb₁=>?_) co.kind)
 dsimp only at hns₁ hsb₁ ⊢
 generalize hH2:s₂.heap.push { cls:=.type "list",dict:=none,data:=.seq ([]:List Value).toArray }=H2 at hns₁ hsb₁ ⊢
 have hC:H2.objs.size=s₂.heap.objs.size+1:=by rw [←hH2,Heap.size_push]
 have hCle:s₂.heap.objs.size≤H2.objs.size:=by omega
 have hDC:s₂.heap.objs.size≠H2.objs.size:=by omega
 have old:∀b o,s₂.heap.get? b=some o→h₁.get? b=some o:=fun b o e=>hsb₁.extBut b o (Nat.ne_of_lt (by rw [hC]; exact Nat.lt_succ_of_lt (Heap.lt_size e))) (Heap.get?_push_of_some _ (hH2▸Heap.get?_push_of_some _ e))
 have hacc:h₁.get? s₂.heap.objs.size=some { cls:=.type "list",data:=.seq ([]:List Value).toArray }:=hsb₁.extBut _ _ hDC (Heap.get?_push_of_some _ (hH2▸Heap.get?_push_size _ rfl))
 have hfz:∀b∈fp,b<s₂.heap.objs.size:=fun b hb=>by
  obtain ⟨o,e,_⟩:=T.obj _ _ st2 b hb
  exact Heap.lt_size e
 have hclD:∀x c,cl.lookup x=some c→c≠s₂.heap.objs.size:=fun x c e=>by
  obtain ⟨v,o,ho,_⟩:=I₂.cell x c (hcl1 x c e)
  exact Nat.ne_of_lt (Heap.lt_size ho)
 have st0:tn 0 h₁:=T.keep _ _ _ st2 fun b hb o e=>old b o e
 have loop:∀s₃:Shared,s₃={ s₂ with heap:=h₁,toks:=s₂.toks+([]:List (Str×Value)).length }→
   codeAny (model X.prog X.w) X.A (.compLoop (.ListComp elt [⟨tg,iter,ifs,0⟩] scope pos) 0 (.ref it) (.ref s₂.heap.objs.size) (compEnvC scope cl H2.objs.size X.env))
    (compPost (model X.prog X.w) X.A X.xe use Qf (.ref s₂.heap.objs.size) H2.objs.size) s₃:=by
  rintro s₃ rfl
  have I0:=I₂.comp (t':=s₂.toks+([]:List (Str×Value)).length) co hcl1 hcl2 hc hCle hns₁ old f2 hfz
  have nof:s₂.heap.objs.size∉(X.comp scope N' cl H2.objs.size s₂ H₂ fp).fs:=fun z=>by
   obtain ⟨_,o,ho,_⟩:=I0.ok.funs.mem z
   exact absurd (Heap.lt_size ho) (Nat.lt_irrefl _)
  have I0':Inv (X.comp scope N' cl H2.objs.size s₂ H₂ fp) [(s₂.heap.objs.size,{ cls:=.type "list",data:=.seq ([]:List Value).toArray ([]:List Value).length })] (q5h ix σ) H₂ { s₂ with heap:=h₁,toks:=s₂.toks+([]:List (Str×Value)).length }:=I0.pins_of fun p hp=>by
   obtain rfl:=List.mem_singleton.mp hp
   exact ⟨hacc,I₂.fresh,hDC,nof,fun v z=>by cases z⟩
  have hclC:∀x c,cl.lookup x=some c→c≠s₂.heap.objs.size:=hclD
  have fpok:∀{us:List Value} {H':Hp},(∀b∈fp,H' b=none)→∀b∈fp,FpOk (X.comp scope N' cl H2.objs.size s₂ H₂ fp) [(s₂.heap.objs.size,{ cls:=.type "list",data:=.seq us.toArray us.length })] H' b:=fun hn' b hb=>
   ⟨hn' b hb,(I0.ok.exf b hb).1,I0.ok.exfs b hb,.inl hb,(I0.ok.exf b hb).2,fun p hp=>by
    have hp':p∈[(s₂.heap.objs.size,({ cls:=.type "list",data:=.seq _ _ }:Obj))]:=hp
    obtain rfl:=List.mem_singleton.mp hp'
    exact Nat.ne_of_gt (hfz b hb)⟩
  refine kcg_loop (fun k s'=>∃i ys σ' H',i≤n∧k=n - i∧CompMid X scope N' cl H2.objs.size s₂.heap.objs.size s₂ H₂ fp tn W i ys σ' H' s') ?_ n
   ⟨0,[],q5h ix σ,H₂,Nat.zero_le _,rfl,⟨[],.nil,I0'⟩,st0,fun b hb=>(f2 b hb).1,Nat.le_refl _,w0⟩
  rintro k s3 ⟨i,ys,σ3,H3,hi3,rfl,⟨us,r3,I3⟩,st3,fr3,hl3,w3⟩
  have weak:∀{e:Value} {s':Shared},False→notedBy (model X.prog X.w) X.A (compEnvC scope cl H2.objs.size X.env) (fun e s'=>compPost (model X.prog X.w) X.A X.xe use Qf (.ref s₂.heap.objs.size) H2.objs.size (.error e) s') e s':=fun z=>z.elim
  rcases turn i ys σ3 H3 hi3 w3 with ⟨stop,q⟩ | ⟨hlt,go,step⟩
  ·refine thn (T.done (X.comp scope N' cl H2.objs.size s₂ H₂ fp) rfl rfl rfl rfl i _ s3 σ3 H3 _ I3 (fpok fr3) st3 stop) fun r s4 hh1=>?_
   obtain ⟨hr,I4⟩:=hh1
   subst hr
   exact fin I₂ f2 (Nat.le_refl _) hCle hDC r3 I4 (by omega) q
  ·refine thn (T.item (X.comp scope N' cl H2.objs.size s₂ H₂ fp) rfl rfl rfl rfl i _ s3 σ3 H3 _ I3 (fpok fr3) st3 go) fun r s4 hh2=>?_
   obtain ⟨u,hr,h4⟩:=hh2
   subst hr
   refine thn h4 fun _ s5 hh3=>?_
   obtain ⟨x,H5,I5,r5,y5,st5,fr5⟩:=hh3
   have I5':=I5.pinned (fpok fr5) (T.obj _ _ st5)
   refine wpAny_mono (hg cl _ s₂ H₂ fp _ s5 σ3 H5 x u _ I5' r5 (step x H5 y5)) (fun _ s6 ⟨σ6,H6,I6,q6⟩=>?_) fun _ _ z=>weak z
   refine wpAny_mono (ht cl _ s₂ H₂ fp _ s6 σ6 H6 _ I6 q6) (fun b6 s6' ⟨H6',I6',q6'⟩=>?_) fun _ _ z=>weak z
   have hpl:∀p∈pinsAt fp s5.heap,p.1≠s₂.heap.objs.size:=fun p hp=>Nat.ne_of_lt (hfz p.1 (of_pinsAt hp).1)
   cases b6 with
   | false=>
    have q6'':W (i+1) ys σ6 H6':=by simpa using q6'
    have g6:¬(false=true):=by decide
    rw [if_neg g6]
    refine ⟨n - (i+1),by omega,i+1,ys,σ6,H6',hlt,rfl,⟨us,r3,I6'.unpinned⟩,?_,fun b hb=>?_,by omega,q6''⟩
    ·exact T.keep _ _ _ st5 fun b hb o e=>(I6'.pin (b,o) (List.mem_append_right _ (List.mem_append_right _ (q5m hb e)))).1
    ·obtain ⟨o,e,d⟩:=T.obj _ _ st5 b hb
     exact (I6'.pin (b,o) (List.mem_append_right _ (List.mem_append_right _ (q5m hb e)))).2.1
   | true=>
    have q6'':te σ6 H6' fun y H4=>W (i+1) (ys++[y]) σ6 H4:=by simpa using q6'
    have g6:true=true:=rfl
    rw [if_pos g6]
    refine wpAny_mono (he cl _ s₂ H₂ fp _ s6' σ6 H6' _ I6' q6'') (fun u7 s7 ⟨y7,H7,I7,r7,q7⟩=>?_) fun _ _ z=>weak z
    refine comp_app (pl:=pinsAt fp s5.heap) (Nat.le_refl _) hDC hclD r3 r7 (by omega) I7 hpl fun s8 I8=>?_
    refine ⟨n - (i+1),by omega,i+1,ys++[y7],σ6,H7,hlt,rfl,⟨us++[u7],r3.append (.cons r7 .nil),I8.unpinned⟩,?_,fun b hb=>?_,by rw [List.length_append,List.length_singleton]; omega,q7⟩
    ·exact T.keep _ _ _ st5 fun b hb o e=>(I8.pin (b,o) (List.mem_append_right _ (List.mem_append_right _ (q5m hb e)))).1
    ·obtain ⟨o,e,d⟩:=T.obj _ _ st5 b hb
     exact (I8.pin (b,o) (List.mem_append_right _ (List.mem_append_right _ (q5m hb e)))).2.1
 exact codeAny_compStart_list (loop _ rfl) (T.self _ 0 _ _ _ st0 (loop _ rfl))
theorem pe_compG {ifs:List Expr} (hc:X.calm=true) (co:CompOk X scope N' ix) (hit:PI X tg iter wi) (hm:∀σ H R R',(∀J H1,R J H1→R' J H1)→wi σ H R→wi σ H R') (hg:∀cl C s H fp,PG (X.comp scope N' cl C s H fp) tg g) (ht:∀cl C s H fp,PTs (X.comp scope N' cl C s H fp) ifs tc) (he:∀cl C s H fp,PE (X.comp scope N' cl C s H fp) elt te)
  (hs:∀x,foldedSetIterable iter X.env x=pure x:=by intro _; rfl):PE X (.ListComp elt [⟨tg,iter,ifs,0⟩] scope pos) (tCompIf wi ix g tc te):=by
 intro pins s σ H Q I h
 rw [eval_ListComp]
 refine comp_runG (use:=none) (Qf:=EP X pins σ Q) hc co hit hg ht he hs I (hm σ H _ _ (fun J H1 q=>⟨_,q,?_⟩) h)
 intro H₂ s₂ cl C DD fp ys us σ' H' s' I₂ f2 hD hC hDC r I' hz q
 exact comp_end I₂ f2 hD hC hDC r I' hz q
def tAsgCompIf (wi:TI) (ix:List (Option Nat)) (g:TG) (tc:TT) (te:TE) (i:Nat):TS:=fun D σ H=>tCompIf wi ix g tc te σ H fun v H1=>D.nx (σ.set i (some v)) H1
theorem PI.mono {wi wi':TI} (h:PI X tg iter wi) (i:∀σ H R,wi' σ H R→wi σ H R):PI X tg iter wi':=fun pins s σ H R I q=>h pins s σ H R I (i σ H R q)
theorem ps_setCompG {ifs:List Expr} {i:Nat} {x:Str} {px sp:Pos} (hsw:swapsWith (.ListComp elt [⟨tg,iter,ifs,0⟩] scope pos) (some (.Name x px)) sp.line X.env=pure true) (hN:X.N.Nodup) (hi:X.N[i]?=some x) (hx:Loc X.env.scope x)
  (hc:X.calm=true) (co:CompOk X scope N' ix) (hit:PI X tg iter wi) (hm:∀σ H R R',(∀J H1,R J H1→R' J H1)→wi σ H R→wi σ H R') (hg:∀cl C s H fp,PG (X.comp scope N' cl C s H fp) tg g) (ht:∀cl C s H fp,PTs (X.comp scope N' cl C s H fp) ifs tc) (he:∀cl C s H fp,PE (X.comp scope N' cl C s H fp) elt te)
  (hs:∀x,foldedSetIterable iter X.env x=pure x:=by intro _; rfl) (hf:X.fn x=true∨X.env.scope.names.lookup x=some .local:=by first | exact .inl rfl | exact .inr rfl | assumption) :
  PS X (.Assign [.Name x px] (.ListComp elt [⟨tg,iter,ifs,0⟩] scope pos) sp) (tAsgCompIf wi ix g tc te i):=by
 intro pins s σ H D I h
 rw [exec_Assign_Name_used _ _ _ _ hsw]
 refine wpAny_bind (wpAny_standAt (wpAny_bind ?_))
 show wpAny _ X.A (do let _ ←comprehension (.ListComp elt [⟨tg,iter,ifs,0⟩] scope pos) scope X.env _ (newList []) false (eval iter X.env) (some (assign (.Name x px) X.env))) _ _ s
 refine wpAny_bind (wpAny_mono (comp_runG (use:=some (assign (.Name x px) X.env)) (Qf:=fun _ s'=>SP X pins D .next s') hc co hit hg ht he hs I (hm σ H _ _ (fun J H1 q=>⟨_,q,?_⟩) h)) (fun _ s' hq=>wpAny_pure (wpAny_pure hq)) fun _ _ e=>e)
 intro H₂ s₂ cl C DD fp ys us σ' H' s' I₂ f2 hD hC hDC r I' hz q
 exact comp_end_use (py:=px) (Q:=fun _ s'=>SP X pins D .next s') hN hi hx hf I₂ f2 hD hC hDC r I' hz fun s'' I'' nD=>⟨_,_,I'',q DD nD⟩
end
end L2
namespace L2
open PySem PySem.Spec PyProof.Rows
section
variable {prog:Program} {w:World} {A:Around} {E:Value→Shared→Prop} {s:Shared}
theorem zn_tuple_some {j t:Addr} {k:Nat} {xs:Array Value} {v:Value} {R:Value→Shared→Prop} (g:s.heap.IsTupleIter j t k) (gt:s.heap.IsTuple t xs) (gv:xs[k]?=some v)
  (gR:∀h',h'.IsTupleIter j t (k+1)→Heap.SameBut j s.heap h'→R v { s with heap:=h' }):wpAny (model prog w) A (Builtin.SmallTypes.nextOf (.ref j)) R E s:=by
 obtain ⟨oj,gj,cj,dj⟩:=id g
 obtain ⟨ot,got,_,nt,dt⟩:=gt
 unfold Builtin.SmallTypes.nextOf
 refine wpAny_bind (wpAny_callSpecial?_slot (name:=Str.ofString "__next__") g.typeIs F.slot_tuple_iterator_next (wpAny_call_entry F.slot_tuple_iterator_next g.typeIs F.entry_tuple_iterator_next ?_ (F.args_tuple_iterator_next_1 _)))
 show wpAny _ _ (field (.ref j) 0 >>= _) _ _ s
 refine wpAny_bind (wpAny_field gj dj (x:=.ref t) rfl ?_)
 show wpAny _ _ (ite ((Value.ref t == Value.none)=true) _ _) _ _ s
 rw [if_neg (show (Value.ref t == Value.none)≠true from Bool.false_ne_true)]
 show wpAny _ _ (field (.ref j) 1 >>= _) _ _ s
 refine wpAny_bind (wpAny_field gj dj (x:=.int k 0) rfl ?_)
 show wpAny _ _ (seqItems? (.ref t) >>= _) _ _ s
 refine wpAny_bind (wpAny_seqItems got dt ?_)
 simp only [Int.toNat_natCast,gv]
 refine wpAny_bind (wpAny_setField gj dj (by simp) (wpAny_pure ⟨v,rfl,wpAny_pure (gR _ ?_ (Heap.SameBut.update ..))⟩))
 refine ⟨_,Heap.get?_update_self _ gj (Obj.isFreed_of_fields (Obj.data_mapFields dj _)),(Obj.cls_mapFields ..).trans cj,?_⟩
 rw [Obj.data_mapFields dj]; simp [rawInt]
theorem zn_tuple_none {j t:Addr} {k:Nat} {xs:Array Value} {R:Value→Shared→Prop} (gh:A.handled=none) (g:s.heap.IsTupleIter j t k) (gt:s.heap.IsTuple t xs) (gv:xs[k]?=none)
  (gE:∀h' e,Heap.ExtBut j s.heap h'→(∃o,h'.get? e=some o∧o.cls=.type "StopIteration")→E (.ref e) { s with heap:=h' }):wpAny (model prog w) A (Builtin.SmallTypes.nextOf (.ref j)) R E s:=by
 obtain ⟨oj,gj,cj,dj⟩:=id g
 obtain ⟨ot,got,_,nt,dt⟩:=gt
 unfold Builtin.SmallTypes.nextOf
 refine wpAny_bind (wpAny_callSpecial?_slot (name:=Str.ofString "__next__") g.typeIs F.slot_tuple_iterator_next (wpAny_call_entry F.slot_tuple_iterator_next g.typeIs F.entry_tuple_iterator_next ?_ (F.args_tuple_iterator_next_1 _)))
 show wpAny _ _ (field (.ref j) 0 >>= _) _ _ s
 refine wpAny_bind (wpAny_field gj dj (x:=.ref t) rfl ?_)
 show wpAny _ _ (ite ((Value.ref t == Value.none)=true) _ _) _ _ s
 rw [if_neg (show (Value.ref t == Value.none)≠true from Bool.false_ne_true)]
 show wpAny _ _ (field (.ref j) 1 >>= _) _ _ s
 refine wpAny_bind (wpAny_field gj dj (x:=.int k 0) rfl ?_)
 show wpAny _ _ (seqItems? (.ref t) >>= _) _ _ s
 refine wpAny_bind (wpAny_seqItems got dt ?_)
 simp only [Int.toNat_natCast,gv]
 refine wpAny_bind (wpAny_rule (wpAny_bind (wpAny_setField gj dj (by simp) ?_)))
 show wpAny _ _ (newExc (.type "StopIteration") [] >>= _) _ _ _
 refine wpAny_bind ?_
 simp only [newExc,newTuple]
 refine wpAny_bind (wpAny_newObj_type ?_ (by size_fits))
 refine wpAny_bind (m:=firstArgMember _ _) (wpAny_of_eq (a:=Value.none) (by simp only [firstArgMember]; rfl) ?_)
 refine wpAny_newObj_type ?_ (by size_fits)
 simp only [raiseNew]
 refine wpAny_bind (wpAny_handled ?_)
 rw [show A.in1.handled=none from gh]
 refine wpAny_bind (wpAny_pure (wpAny_throw ?_))
 exact gE _ _ (((Heap.SameBut.update ..).extBut.push _).push _) ⟨_,Heap.get?_push_size _ rfl,rfl⟩
end
def ZIt (tp:Bool) (it l:Addr) (i:Nat) (h:Heap):Prop:=if tp=true then h.IsTupleIter it l i else h.IsListIter it l i
def ZSrc (tp:Bool) (l:Addr) (xs:Array Value) (h:Heap):Prop:=if tp=true then h.IsTuple l xs else h.IsList l xs
theorem ZIt.get {tp:Bool} {it l:Addr} {i:Nat} {h:Heap} (x:ZIt tp it l i h):∃o,h.get? it=some o∧∀v,o.data≠.cell v:=by
 unfold ZIt at x
 split at x
 ·obtain ⟨o,e,c,d⟩:=x
  exact ⟨o,e,fun v z=>by rw [d] at z; cases z⟩
 ·obtain ⟨o,e,c,d⟩:=x
  exact ⟨o,e,fun v z=>by rw [d] at z; cases z⟩
theorem ZIt.at {tp:Bool} {it l:Addr} {i:Nat} {h h':Heap} (x:ZIt tp it l i h) (k:∀o,h.get? it=some o→h'.get? it=some o):ZIt tp it l i h':=by
 unfold ZIt at x ⊢
 split at x
 ·rename_i c; rw [if_pos c]; obtain ⟨o,e,r⟩:=x; exact ⟨o,k o e,r⟩
 ·rename_i c; rw [if_neg c]; obtain ⟨o,e,r⟩:=x; exact ⟨o,k o e,r⟩
theorem ZSrc.at {tp:Bool} {l:Addr} {xs:Array Value} {h h':Heap} (x:ZSrc tp l xs h) (k:∀o,h.get? l=some o→h'.get? l=some o):ZSrc tp l xs h':=by
 unfold ZSrc at x ⊢
 split at x
 ·rename_i c; rw [if_pos c]; obtain ⟨o,e,r⟩:=x; exact ⟨o,k o e,r⟩
 ·rename_i c; rw [if_neg c]; obtain ⟨o,e,r⟩:=x; exact ⟨o,k o e,r⟩
section
variable {prog:Program} {w:World} {A:Around} {E:Value→Shared→Prop} {s:Shared}
theorem zn_some {tp:Bool} {j t:Addr} {k:Nat} {xs:Array Value} {v:Value} {R:Value→Shared→Prop} (g:ZIt tp j t k s.heap) (gt:ZSrc tp t xs s.heap) (gv:xs[k]?=some v)
  (gR:∀h',ZIt tp j t (k+1) h'→Heap.SameBut j s.heap h'→R v { s with heap:=h' }):wpAny (model prog w) A (Builtin.SmallTypes.nextOf (.ref j)) R E s:=by
 cases tp with
 | true=>exact zn_tuple_some g gt gv gR
 | false=>exact wpAny_nextOf_list_item g gt gv gR
theorem zn_none {tp:Bool} {j t:Addr} {k:Nat} {xs:Array Value} {R:Value→Shared→Prop} (gh:A.handled=none) (g:ZIt tp j t k s.heap) (gt:ZSrc tp t xs s.heap) (gv:xs[k]?=none)
  (gE:∀h' e,Heap.ExtBut j s.heap h'→(∃o,h'.get? e=some o∧o.cls=.type "StopIteration")→E (.ref e) { s with heap:=h' }):wpAny (model prog w) A (Builtin.SmallTypes.nextOf (.ref j)) R E s:=by
 cases tp with
 | true=>exact zn_tuple_none gh g gt gv gE
 | false=>exact wpAny_nextOf_list_end gh g gt gv gE
structure ZAp (z ti to j1 j2 t1 t2:Addr):Prop where
 a1:ti≠z
 a2:to≠z
 a3:j1≠z
 a4:j2≠z
 a5:ti≠to
 a6:ti≠j1
 a7:ti≠j2
 a8:to≠j1
 a9:to≠j2
 b1:j1≠j2
 b2:t1≠z
 b3:t1≠to
 b4:t1≠j1
 b5:t1≠j2
 b6:t2≠z
 b7:t2≠to
 b8:t2≠j1
 b9:t2≠j2
theorem z_next {tp tq:Bool} {z ti to j1 j2 t1 t2:Addr} {k1 k2:Nat} {xs ys:Array Value} {x y p q:Value} {R:Value→Shared→Prop} (D:ZAp z ti to j1 j2 t1 t2)
  (gz:IsZip s.heap z ti to .none) (gi:IsPair s.heap ti (.ref j1) (.ref j2)) (go:IsPair s.heap to p q)
  (g1:ZIt tp j1 t1 k1 s.heap) (g2:ZIt tq j2 t2 k2 s.heap) (l1:ZSrc tp t1 xs s.heap) (l2:ZSrc tq t2 ys s.heap) (ex:xs[k1]?=some x) (ey:ys[k2]?=some y)
  (gR:∀h',IsZip h' z ti to (rawInt s.heap.objs.size)→IsPair h' to x y→ZIt tp j1 t1 (k1+1) h'→ZIt tq j2 t2 (k2+1) h'→IsPair h' s.heap.objs.size x y→
   (∀c o,c≠z→c≠to→c≠j1→c≠j2→s.heap.get? c=some o→h'.get? c=some o)→R (.ref s.heap.objs.size) { s with heap:=h' }) :
  wpAny (model prog w) A (Builtin.«zip.__next__» ⟨[.ref z],[]⟩) (fun fin s'=>∃v,fin=.done (.ret v)∧R v s') E s:=by
 show wpAny _ _ (field (.ref z) 2 >>= _) _ _ _
 refine wpAny_bind (wpAny_field gz rfl (x:=.bool false) rfl ?_)
 show wpAny _ _ (field (.ref z) 3 >>= _) _ _ _
 refine wpAny_bind (wpAny_field gz rfl (x:=.ref ti) rfl ?_)
 refine wpAny_bind (wpAny_seqItems gi rfl ?_)
 show wpAny _ _ (Builtin.SmallTypes.ownedTupleIsFree (.ref z) >>= _) _ _ _
 refine wpAny_bind ?_
 unfold Builtin.SmallTypes.ownedTupleIsFree
 refine wpAny_bind (wpAny_field gz rfl (x:=.none) rfl (wpAny_pure ?_))
 simp only [if_true]
 refine wpAny_bind (wpAny_rule ?_)
 refine wpAny_bind (wpAny_field gz rfl (x:=.ref to) rfl ?_)
 refine wpAny_bind (wpAny_setField_rec gz (by simp) fun H1 gz1 e1=>?_)
 replace gz1:IsZip H1 z ti to .ellipsis:=gz1
 refine wpAny_bind ?_
 simp only [List.zipIdx_cons,List.zipIdx_nil,List.forIn_cons,List.forIn_nil]
 refine wpAny_bind (wpAny_bind (wpAny_onRaise ?_))
 show wpAny _ _ (Builtin.SmallTypes.nextOf (.ref j1) >>= _) _ _ _
 refine wpAny_bind (zn_some (g1.at fun o e=>e1.extBut _ _ D.a3 e) (l1.at fun o e=>e1.extBut _ _ D.b2 e) ex fun H2 n1 e2=>wpAny_pure ?_)
 have go2:IsPair H2 to p q:=e2.extBut _ _ D.a8 (e1.extBut _ _ D.a2 go)
 refine wpAny_bind (wpAny_seqItems go2 rfl ?_)
 refine wpAny_bind (wpAny_updateSeq_pair go2 fun H3 go3 e3=>?_)
 replace go3:IsPair H3 to x q:=go3
 refine wpAny_bind (wpAny_letGo (wpAny_pure ?_))
 refine wpAny_bind (wpAny_bind (wpAny_onRaise ?_))
 show wpAny _ _ (Builtin.SmallTypes.nextOf (.ref j2) >>= _) _ _ _
 refine wpAny_bind (zn_some (g2.at fun o e=>e3.extBut _ _ D.a9.symm (e2.extBut _ _ D.b1.symm (e1.extBut _ _ D.a4 e))) (l2.at fun o e=>e3.extBut _ _ D.b7 (e2.extBut _ _ D.b8 (e1.extBut _ _ D.b6 e))) ey fun H4 n2 e4=>wpAny_pure ?_)
 have go4:IsPair H4 to x q:=e4.extBut _ _ D.a9 go3
 refine wpAny_bind (wpAny_seqItems go4 rfl ?_)
 refine wpAny_bind (wpAny_updateSeq_pair go4 fun H5 go5 e5=>?_)
 replace go5:IsPair H5 to x y:=go5
 refine wpAny_bind (wpAny_letGo (wpAny_pure (wpAny_pure ?_)))
 refine wpAny_bind (wpAny_seqItems go5 rfl ?_)
 refine wpAny_bind (wpAny_newTuple ?_)
 have sz5:H5.objs.size=s.heap.objs.size:=by rw [e5.1,e4.1,e3.1,e2.1,e1.1]
 have gz5:IsZip H5 z ti to .ellipsis:=e5.extBut _ _ D.a2.symm (e4.extBut _ _ D.a4.symm (e3.extBut _ _ D.a2.symm (e2.extBut _ _ D.a3.symm gz1)))
 have kk5:∀c o,c≠z→c≠to→c≠j1→c≠j2→s.heap.get? c=some o→H5.get? c=some o:=fun c o c1 c2 c3 c4 e=>
  e5.extBut _ _ c2 (e4.extBut _ _ c4 (e3.extBut _ _ c2 (e2.extBut _ _ c3 (e1.extBut _ _ c1 e))))
 have n15:ZIt tp j1 t1 (k1+1) H5:=n1.at fun o e=>e5.extBut _ _ D.a8.symm (e4.extBut _ _ D.b1 (e3.extBut _ _ D.a8.symm e))
 have n25:ZIt tq j2 t2 (k2+1) H5:=n2.at fun o e=>e5.extBut _ _ D.a9.symm e
 have lz:z<H5.objs.size:=Heap.lt_size gz5
 show wpAny _ _ (Builtin.SmallTypes.ownedTupleHandOut (.ref z) (.ref H5.objs.size) >>= _) _ _ _
 refine wpAny_bind ?_
 unfold Builtin.SmallTypes.ownedTupleHandOut
 have gz6:IsZip (H5.push { cls:=.type "tuple",data:=.seq #[x,y] }) z ti to .ellipsis:=Heap.get?_push_of_some _ gz5
 refine wpAny_bind (wpAny_setField_rec gz6 (by simp) fun H7 gz7 e7=>?_)
 replace gz7:IsZip H7 z ti to (rawInt H5.objs.size):=gz7
 refine wpAny_setField_rec gz7 (by simp) fun H8 gz8 e8=>?_
 replace gz8:IsZip H8 z ti to (rawInt H5.objs.size):=gz8
 have up:∀c o,c≠z→H5.get? c=some o→H8.get? c=some o:=fun c o c1 e=>e8.extBut _ _ c1 (e7.extBut _ _ c1 (Heap.get?_push_of_some _ e))
 have gT8:IsPair H8 H5.objs.size x y:=e8.extBut _ _ (Nat.ne_of_gt lz) (e7.extBut _ _ (Nat.ne_of_gt lz) (Heap.get?_push_size _ rfl))
 rw [sz5] at gz8 gT8
 refine wpAny_pure ⟨_,rfl,?_⟩
 show R (.ref H5.objs.size) _
 rw [sz5]
 exact gR H8 gz8 (up _ _ D.a2 go5) (n15.at fun o e=>up _ o D.a3 e) (n25.at fun o e=>up _ o D.a4 e) gT8 fun c o c1 c2 c3 c4 e=>up c o c1 (kk5 c o c1 c2 c3 c4 e)
theorem z_last {tp tq:Bool} {z ti to j1 j2 t1 t2:Addr} {k1 k2:Nat} {xs ys:Array Value} {p q:Value} {R:Fin→Shared→Prop} (gh:A.handled=none) (D:ZAp z ti to j1 j2 t1 t2)
  (gz:IsZip s.heap z ti to .none) (gi:IsPair s.heap ti (.ref j1) (.ref j2)) (go:IsPair s.heap to p q)
  (g1:ZIt tp j1 t1 k1 s.heap) (g2:ZIt tq j2 t2 k2 s.heap) (l1:ZSrc tp t1 xs s.heap) (l2:ZSrc tq t2 ys s.heap) (hend:xs[k1]?=none∨ys[k2]?=none)
  (gE:∀h' e,(∀c o,c≠z→c≠to→c≠j1→c≠j2→s.heap.get? c=some o→h'.get? c=some o)→(∃o,h'.get? e=some o∧o.cls=.type "StopIteration")→E (.ref e) { s with heap:=h' }) :
  wpAny (model prog w) A (Builtin.«zip.__next__» ⟨[.ref z],[]⟩) R E s:=by
 show wpAny _ _ (field (.ref z) 2 >>= _) _ _ _
 refine wpAny_bind (wpAny_field gz rfl (x:=.bool false) rfl ?_)
 show wpAny _ _ (field (.ref z) 3 >>= _) _ _ _
 refine wpAny_bind (wpAny_field gz rfl (x:=.ref ti) rfl ?_)
 refine wpAny_bind (wpAny_seqItems gi rfl ?_)
 show wpAny _ _ (Builtin.SmallTypes.ownedTupleIsFree (.ref z) >>= _) _ _ _
 refine wpAny_bind ?_
 unfold Builtin.SmallTypes.ownedTupleIsFree
 refine wpAny_bind (wpAny_field gz rfl (x:=.none) rfl (wpAny_pure ?_))
 simp only [if_true]
 refine wpAny_bind (wpAny_rule ?_)
 refine wpAny_bind (wpAny_field gz rfl (x:=.ref to) rfl ?_)
 refine wpAny_bind (wpAny_setField_rec gz (by simp) fun H1 gz1 e1=>?_)
 replace gz1:IsZip H1 z ti to .ellipsis:=gz1
 refine wpAny_bind ?_
 simp only [List.zipIdx_cons,List.zipIdx_nil,List.forIn_cons,List.forIn_nil]
 refine wpAny_bind (wpAny_bind (wpAny_onRaise ?_))
 show wpAny _ _ (Builtin.SmallTypes.nextOf (.ref j1) >>= _) _ _ _
 cases ex:xs[k1]? with
 | none=>
  refine wpAny_bind (zn_none gh (g1.at fun o e=>e1.extBut _ _ D.a3 e) (l1.at fun o e=>e1.extBut _ _ D.b2 e) ex fun H2 e e2 ge=>?_)
  obtain ⟨oe,goe,gce⟩:=ge
  have gz2:IsZip H2 z ti to .ellipsis:=e2 _ _ D.a3.symm gz1
  have ne:e≠z:=fun x=>by subst x; rw [gz2] at goe; cases goe; simp at gce
  refine wpAny_setField_rec gz2 (by simp) fun H3 _ e3=>gE H3 e (fun c o c1 _ c3 _ x=>e3.extBut _ _ c1 (e2 _ _ c3 (e1.extBut _ _ c1 x))) ⟨oe,e3.extBut _ _ ne goe,gce⟩
 | some x=>
  have ey:ys[k2]?=none:=by
   rcases hend with h | h
   ·rw [ex] at h; cases h
   ·exact h
  refine wpAny_bind (zn_some (g1.at fun o e=>e1.extBut _ _ D.a3 e) (l1.at fun o e=>e1.extBut _ _ D.b2 e) ex fun H2 n1 e2=>wpAny_pure ?_)
  have go2:IsPair H2 to p q:=e2.extBut _ _ D.a8 (e1.extBut _ _ D.a2 go)
  refine wpAny_bind (wpAny_seqItems go2 rfl ?_)
  refine wpAny_bind (wpAny_updateSeq_pair go2 fun H3 go3 e3=>?_)
  refine wpAny_bind (wpAny_letGo (wpAny_pure ?_))
  refine wpAny_bind (wpAny_bind (wpAny_onRaise ?_))
  show wpAny _ _ (Builtin.SmallTypes.nextOf (.ref j2) >>= _) _ _ _
  refine wpAny_bind (zn_none gh (g2.at fun o e=>e3.extBut _ _ D.a9.symm (e2.extBut _ _ D.b1.symm (e1.extBut _ _ D.a4 e))) (l2.at fun o e=>e3.extBut _ _ D.b7 (e2.extBut _ _ D.b8 (e1.extBut _ _ D.b6 e))) ey fun H4 e e4 ge=>?_)
  obtain ⟨oe,goe,gce⟩:=ge
  have gz4:IsZip H4 z ti to .ellipsis:=e4 _ _ D.a4.symm (e3.extBut _ _ D.a2.symm (e2.extBut _ _ D.a3.symm gz1))
  have ne:e≠z:=fun x=>by subst x; rw [gz4] at goe; cases goe; simp at gce
  refine wpAny_setField_rec gz4 (by simp) fun H5 _ e5=>gE H5 e (fun c o c1 c2 c3 c4 x=>e5.extBut _ _ c1 (e4 _ _ c4 (e3.extBut _ _ c2 (e2.extBut _ _ c3 (e1.extBut _ _ c1 x))))) ⟨oe,e5.extBut _ _ ne goe,gce⟩
end
end L2
namespace L2
open PySem PySem.Spec PyProof.Rows
section
variable {X:Cx} {pins:List (Addr×Obj)} {σ:St} {H:Hp} {s:Shared} {h':Heap}
theorem Inv.turneds {t':Nat} {ch:List Addr} (I:Inv X pins σ H s) (k:∀b o,b∉ch→s.heap.get? b=some o→h'.get? b=some o) (hf:∀b∈ch,FpOk X pins H b):Inv X pins σ H { s with heap:=h',toks:=t' }:=by
 have nit:∀b u,H b=some u→b∉ch:=fun b u e z=>by have q:=(hf b z).1; rw [q] at e; cases e
 refine I.step (g':=s.gens) (d':=s.drawn) (ch:=ch) (fun b hb=>?_) (fun b o _ _ hc e _=>k b o hc e) (fun b o _ _ hc e _=>⟨o.slots,k b o hc e⟩) (fun _ _ _ _ n=>n)
  (fun b o hc e=>⟨o,k b o hc e⟩) (fun _ _ e=>e) (fun _ _ _ e=>e) (fun b ps e=>⟨#[],by rw [e]; simp⟩) (fun m hm=>?_) (fun b u e=>?_) I.bare
 ·exact ⟨(hf b hb).2.2.2.1,(hf b hb).2.1,(hf b hb).2.2.2.2.1,(hf b hb).2.2.2.2.2⟩
 ·obtain ⟨o,es,ep,ho,r⟩:=hm
  exact ⟨o,es,ep,k _ o (fun z=>(hf _ z).2.1 rfl) ho,r⟩
 ·refine (I.hok b u e).stay (fun c v hc q=>k c v ?_ q) (fun _ q=>q) fun _ _ q=>q
  rcases hc with z | z
  ·rw [z]; exact nit b u e
  ·exact nit c _ z
theorem Inv.trackO {D:Addr} {ob:HO} (I:Inv X pins σ H s) (hf:FpOk X pins H D) (h1:X.s₀.heap.objs.size≤D) (new:q3s X.prog X.w (upd H D ob) s.heap D ob):Inv X pins σ (upd H D ob) s:=by
 obtain ⟨hn,hL,_,_,h2,h3⟩:=hf
 have ne:∀b u,H b=some u→b≠D:=fun b u e z=>by rw [z,hn] at e; cases e
 have ne0:∀b o,X.s₀.heap.get? b=some o→b≠D:=fun b o e=>Nat.ne_of_lt (Nat.lt_of_lt_of_le (Heap.lt_size e) h1)
 refine ⟨I.ok,I.os,I.bare,⟨I.base.keep,I.base.slot,fun b o e n' hx=>?_,I.base.there,fun b xs e=>?_,fun b o u e=>?_,fun b ps e=>?_⟩,I.loc,I.cell,?_,fun x c e=>?_,fun p hp=>?_,fun b u e=>?_,I.len⟩
 ·rw [q1h (ne0 b o e)]; exact I.base.free b o e n' hx
 ·have q:=I.base.tups b xs e
  rw [q1h (ne _ _ q)]; exact q
 ·have q:=I.base.frzs b o u e
  rw [q1h (ne _ _ q)]; exact q
 ·obtain ⟨more,q⟩:=I.base.tbls b ps e
  exact ⟨more,by rw [q1h (ne _ _ q)]; exact q⟩
 ·rw [q1h (Ne.symm hL)]; exact I.free
 ·rw [q1h (h2 x c e)]; exact I.freeC x c e
 ·obtain ⟨a1,a2,a3⟩:=I.pin p hp
  exact ⟨a1,by rw [q1h (h3 p hp)]; exact a2,a3⟩
 ·by_cases hb:b=D
  ·subst hb
   rw [q3p] at e
   cases e
   exact new
  ·rw [q1h hb] at e
   refine (I.hok b u e).stay (fun c v hc q=>q) (fun c q=>?_) fun c xs q=>?_
   ·rw [q1h (ne _ _ q)]; exact q
   ·rw [q1h (ne _ _ q)]; exact q
end
def Sq (tp:Bool) (K:PySem.W.Frag) (H:Hp) (a:Addr) (xs:List V):Prop:=if tp=true then SqT K H a xs else SqL K H a xs
theorem Inv.sq {X:Cx} {pins:List (Addr×Obj)} {σ:St} {H:Hp} {s:Shared} {tp:Bool} {a:Addr} {xs:List V} (I:Inv X pins σ H s) (h:Sq tp X.K H a xs):∃its:List Value,Vals xs its∧ZSrc tp a its.toArray s.heap∧xs.length≤sizeLine:=by
 cases tp with
 | true=>
  obtain ⟨its,r,t,z⟩:=I.tuple h
  exact ⟨its,r,t,z⟩
 | false=>
  obtain ⟨its,r,t,z⟩:=I.list h
  exact ⟨its,r,t.isList,z⟩
theorem Inv.sq_inj {X:Cx} {pins:List (Addr×Obj)} {σ:St} {H:Hp} {s:Shared} {tp:Bool} {a:Addr} {xs ys:List V} (I:Inv X pins σ H s) (h:Sq tp X.K H a xs) (h':Sq tp X.K H a ys):xs=ys:=by
 cases tp with
 | true=>exact I.tuple_inj h h'
 | false=>exact I.list_inj h h'
theorem Inv.sq_fp {X:Cx} {pins:List (Addr×Obj)} {σ:St} {H:Hp} {s:Shared} {tp:Bool} {a b:Addr} {xs:List V} (I:Inv X pins σ H s) (h:Sq tp X.K H a xs) (hf:FpOk X pins H b):a≠b:=by
 rintro rfl
 have look:∀o,X.K.lookup a=some o→False:=fun o e=>by
  have e':=I.ok.mod.kin a o e
  rcases hf.2.2.2.1 with z | z
  ·exact I.ok.noex a o e' z
  ·exact absurd (Nat.lt_of_lt_of_le (Heap.lt_size (I.ok.bs a o e').1) z) (Nat.lt_irrefl _)
 have rd:∀u,Rd H a u→False:=fun u e=>by
  rcases e with e | ⟨o,e⟩<;>rw [hf.1] at e<;>cases e
 cases tp with
 | true=>
  rcases h with e | ⟨o,its,n,e,_⟩
  ·exact rd _ e
  ·exact look o e
 | false=>
  rcases h with e | ⟨o,its,n,e,_⟩
  ·exact rd _ e
  ·exact look o e
def Itz (tp tq:Bool) (K:PySem.W.Frag) (a b:Addr):It:=
  ⟨fun i H=>∃xs ys x y,Sq tp K H a xs∧Sq tq K H b ys∧xs[i]?=some x∧ys[i]?=some y,
   fun i H v H'=>∃p x y,v=.ref p∧H p=none∧H'=upd H p (.tup [x,y])∧(∀xs,Sq tp K H a xs→xs[i]?=some x)∧(∀ys,Sq tq K H b ys→ys[i]?=some y),
   fun i H=>∃xs ys,Sq tp K H a xs∧Sq tq K H b ys∧(xs.length≤i∨ys.length≤i)⟩
structure ZAt (tp tq:Bool) (z ti to j1 j2 a b:Addr) (i:Nat) (h:Heap):Prop where
 gz:IsZip h z ti to .none
 gi:IsPair h ti (.ref j1) (.ref j2)
 go:∃p q,IsPair h to p q
 g1:ZIt tp j1 a i h
 g2:ZIt tq j2 b i h
theorem turn_zip {P:Program} {w:World} {K:PySem.W.Frag} {es:List Expr} {k:Nat} {ps:Pos} {tp tq:Bool} (a b z ti to j1 j2:Addr) (n1:ti≠z) (n2:to≠z) (n3:j1≠z) (n4:j2≠z) (n5:ti≠to) (n6:ti≠j1) (n7:ti≠j2) (n8:to≠j1) (n9:to≠j2) (n0:j1≠j2) :
  Turn P w K (.Tuple es k ps) (Itz tp tq K a b) [z,ti,to,j1,j2] z (ZAt tp tq z ti to j1 j2 a b) where
 mem:=by simp
 obj:=fun i h st c hc=>by
  obtain ⟨gz,gi,⟨p,q,go⟩,g1,g2⟩:=st
  simp only [List.mem_cons,List.not_mem_nil,or_false] at hc
  rcases hc with rfl | rfl | rfl | rfl | rfl
  ·exact ⟨_,gz,fun v e=>by cases e⟩
  ·exact ⟨_,gi,fun v e=>by cases e⟩
  ·exact ⟨_,go,fun v e=>by cases e⟩
  ·exact g1.get
  ·exact g2.get
 keep:=fun i h h' st kk=>by
  obtain ⟨gz,gi,⟨p,q,go⟩,g1,g2⟩:=st
  exact ⟨kk z (by simp) _ gz,kk ti (by simp) _ gi,⟨p,q,kk to (by simp) _ go⟩,g1.at fun o e=>kk j1 (by simp) o e,g2.at fun o e=>kk j2 (by simp) o e⟩
 item:=by
  intro X hP hw hK hc i pins s σ H E I hf st hg
  subst hP hw hK
  obtain ⟨gz,gi,⟨p,q,go⟩,g1,g2⟩:=st
  obtain ⟨xs,ys,x,y,sx,sy,ex,ey⟩:=hg
  obtain ⟨is,rx,lx,zx⟩:=I.sq sx
  obtain ⟨js,ry,ly,zy⟩:=I.sq sy
  obtain ⟨u,eu,ru⟩:=rx.get ex
  obtain ⟨v,ev,rv⟩:=ry.get ey
  have D:ZAp z ti to j1 j2 a b:=⟨n1,n2,n3,n4,n5,n6,n7,n8,n9,n0,I.sq_fp sx (hf z (by simp)),I.sq_fp sx (hf to (by simp)),I.sq_fp sx (hf j1 (by simp)),I.sq_fp sx (hf j2 (by simp)),I.sq_fp sy (hf z (by simp)),I.sq_fp sy (hf to (by simp)),I.sq_fp sy (hf j1 (by simp)),I.sq_fp sy (hf j2 (by simp))⟩
  have hT:s.TypeIs (.ref z) "zip" :=⟨_,gz,rfl⟩
  unfold pyNext
  refine wpAny_bind (wpAny_attempt (wpAny_callSpecial?_slot (name:=Str.ofString "__next__") hT F.slot_zip_next (wpAny_call_entry F.slot_zip_next hT F.entry_zip_next
   (z_next (x:=u) (y:=v) D gz gi go g1 g2 lx ly (by simpa using eu) (by simpa using ev) fun h1 b1 b2 b3 b4 b5 b6=>wpAny_pure ⟨_,rfl,?_⟩) (F.args_zip_next_1 _))))
  refine wpAny_letOwnedTupleGo_zip b1 fun h2 c1 c2=>?_
  have hsz:s.heap.objs.size≠z:=Nat.ne_of_gt (Heap.lt_size gz)
  have up:∀c o,c∉[z,ti,to,j1,j2]→s.heap.get? c=some o→h2.get? c=some o:=fun c o hc' e=>by
   simp only [List.mem_cons,List.not_mem_nil,or_false,not_or] at hc'
   exact c2.extBut _ _ hc'.1 (b6 c o hc'.1 hc'.2.2.1 hc'.2.2.2.1 hc'.2.2.2.2 e)
  have I1:Inv X pins σ H { s with heap:=h2 }:=I.turneds (t':=s.toks) (ch:=[z,ti,to,j1,j2]) up hf
  have f1:FpOk X pins H s.heap.objs.size:=I.fpOk (Nat.le_refl _) I.fresh
  have gT:IsPair h2 s.heap.objs.size u v:=c2.extBut _ _ hsz b5
  have I2:Inv X pins σ (upd H s.heap.objs.size (.tup [x,y])) { s with heap:=h2 }:=I1.trackO f1 I.sz ⟨by show 2≤sizeLine; decide,[u,v],.cons ru (.cons rv .nil),⟨_,gT,rfl,_,rfl⟩⟩
  have lt:∀c∈[z,ti,to,j1,j2],c≠s.heap.objs.size:=fun c hc'=>by
   simp only [List.mem_cons,List.not_mem_nil,or_false] at hc'
   rcases hc' with rfl | rfl | rfl | rfl | rfl
   ·exact Nat.ne_of_lt (Heap.lt_size gz)
   ·exact Nat.ne_of_lt (Heap.lt_size gi)
   ·exact Nat.ne_of_lt (Heap.lt_size go)
   ·obtain ⟨o,e,_⟩:=g1.get; exact Nat.ne_of_lt (Heap.lt_size e)
   ·obtain ⟨o,e,_⟩:=g2.get; exact Nat.ne_of_lt (Heap.lt_size e)
  refine ⟨.ref s.heap.objs.size,_,I2,rfl,⟨_,x,y,rfl,I.fresh,rfl,fun zs hz=>by rw [I.sq_inj hz sx]; exact ex,fun zs hz=>by rw [I.sq_inj hz sy]; exact ey⟩,⟨c1,c2.extBut _ _ n1 (b6 _ _ n1 n5 n6 n7 gi),⟨_,_,c2.extBut _ _ n2 b2⟩,b3.at fun o e=>c2.extBut _ _ n3 e,b4.at fun o e=>c2.extBut _ _ n4 e⟩,fun c hc'=>?_⟩
  rw [q1h (lt c hc')]
  exact (hf c hc').1
 done:=by
  intro X hP hw hK hc i pins s σ H E I hf st hg
  subst hP hw hK
  obtain ⟨gz,gi,⟨p,q,go⟩,g1,g2⟩:=st
  obtain ⟨xs,ys,sx,sy,he⟩:=hg
  obtain ⟨is,rx,lx,zx⟩:=I.sq sx
  obtain ⟨js,ry,ly,zy⟩:=I.sq sy
  have D:ZAp z ti to j1 j2 a b:=⟨n1,n2,n3,n4,n5,n6,n7,n8,n9,n0,I.sq_fp sx (hf z (by simp)),I.sq_fp sx (hf to (by simp)),I.sq_fp sx (hf j1 (by simp)),I.sq_fp sx (hf j2 (by simp)),I.sq_fp sy (hf z (by simp)),I.sq_fp sy (hf to (by simp)),I.sq_fp sy (hf j1 (by simp)),I.sq_fp sy (hf j2 (by simp))⟩
  have hT:s.TypeIs (.ref z) "zip" :=⟨_,gz,rfl⟩
  have l1:=rx.length
  have l2:=ry.length
  unfold pyNext
  refine wpAny_bind (wpAny_attempt (wpAny_callSpecial?_slot (name:=Str.ofString "__next__") hT F.slot_zip_next (wpAny_call_entry F.slot_zip_next hT F.entry_zip_next
   (z_last (I.ok.hd hc) D gz gi go g1 g2 lx ly (by rcases he with z | z; exact .inl (by simp; omega); exact .inr (by simp; omega)) fun h1 e kk ge=>?_) (F.args_zip_next_1 _))))
  obtain ⟨oe,goe,gce⟩:=ge
  refine wpAny_bind (wpAny_isInstance (T:= "StopIteration") (b:=true) ⟨oe,goe,gce⟩ isSubtype_stop ?_)
  refine wpAny_pure ⟨rfl,I.turneds (t':=s.toks) (ch:=[z,ti,to,j1,j2]) (fun c o hc' e=>?_) hf⟩
  simp only [List.mem_cons,List.not_mem_nil,or_false,not_or] at hc'
  exact kk c o hc'.1 hc'.2.2.1 hc'.2.2.2.1 hc'.2.2.2.2 e
 self:=fun _ _ _ _ _ st h=>wpAny_pyIter_zip st.gz h
end L2
namespace L2
open PySem PySem.Spec PyProof.Rows
abbrev zItObj (tp:Bool) (a:Addr):Obj:={ cls:=.type (if tp=true then "tuple_iterator" else "list_iterator"),data:=.fields #[.ref a,.int 0 0] }
theorem z_iter {prog:Program} {w:World} {A:Around} {E:Value→Shared→Prop} {s:Shared} {tp:Bool} {a:Addr} {xs:Array Value} {R:Value→Shared→Prop} (g:ZSrc tp a xs s.heap)
  (h:R (.ref s.heap.objs.size) { s with heap:=s.heap.push (zItObj tp a) }):wpAny (model prog w) A (pyIter (.ref a)) R E s:=by
 cases tp with
 | true=>exact wpAny_pyIter_tuple g h
 | false=>exact wpAny_pyIter_list g h
theorem ZIt.new {tp:Bool} {a:Addr} {h:Heap} {it:Addr} (g:h.get? it=some (zItObj tp a)):ZIt tp it a 0 h:=by
 cases tp with
 | true=>exact ⟨_,g,rfl,rfl⟩
 | false=>exact ⟨_,g,rfl,rfl⟩
abbrev zz1 (h:Heap) (tp:Bool) (a:Addr):Heap:=h.push (zItObj tp a)
abbrev zz2 (h:Heap) (tp tq:Bool) (a b:Addr):Heap:=(zz1 h tp a).push (zItObj tq b)
abbrev zz3 (h:Heap) (tp tq:Bool) (a b:Addr):Heap:=(zz2 h tp tq a b).push { cls:=.type "tuple",data:=.seq #[.ref h.objs.size,.ref (zz1 h tp a).objs.size] }
abbrev zz4 (h:Heap) (tp tq:Bool) (a b:Addr):Heap:=(zz3 h tp tq a b).push { cls:=.type "tuple",data:=.seq #[.none,.none] }
abbrev zz5 (h:Heap) (tp tq:Bool) (a b:Addr):Heap:=(zz4 h tp tq a b).push { cls:=.type "zip",data:=.fields #[.none,.bool false,.bool false,.ref (zz2 h tp tq a b).objs.size,.ref (zz3 h tp tq a b).objs.size] }
theorem z_new (tp tq:Bool) (a b:Addr) (xs ys:Array Value) :
  Meets (Builtin.«zip.__new__» ⟨[.type "zip",.ref a,.ref b],[]⟩) (fun _ R s=>ZSrc tp a xs s.heap∧ZSrc tq b ys s.heap∧R (.ok (.ret (.ref (zz4 s.heap tp tq a b).objs.size))) { s with heap:=zz5 s.heap tp tq a b }):=
 .of_wp fun prog w A R s h=>by
  obtain ⟨hp,g,d,tk,os⟩:=s; obtain ⟨s1,s2,h⟩:=h
  have hsub:=sub_zip
  have S1:ZSrc tp a xs (Shared.heap ⟨hp,g,d,tk,os⟩):=s1
  have S2:ZSrc tq b ys (Shared.heap ⟨hp.push (zItObj tp a),g,d,tk,os⟩):=ZSrc.at s2 fun o e=>Heap.get?_push_of_some _ e
  wp_walk using z_iter S1,z_iter S2
  exact ⟨_,rfl,h⟩
theorem call_zz {prog:Program} {w:World} {A:Around} {E:Value→Shared→Prop} {s:Shared} {tp tq:Bool} {a b:Addr} {xs ys:Array Value} {Q:Value→Shared→Prop} (s1:ZSrc tp a xs s.heap) (s2:ZSrc tq b ys s.heap)
  (h:∀h',ZAt tp tq (s.heap.objs.size+4) (s.heap.objs.size+2) (s.heap.objs.size+3) s.heap.objs.size (s.heap.objs.size+1) a b 0 h'→(∀c o,s.heap.get? c=some o→h'.get? c=some o)→Q (.ref (s.heap.objs.size+4)) { s with heap:=h' }) :
  wpAny (model prog w) A (call (.type "zip") [.ref a,.ref b]) Q E s:=by
 refine callType_new F.called_zip (by decide) (F.typeCall_zip_2 _ _) (F.newCall_zip_2 _ _) (fun obj=>F.args_object_init_3 obj _ _) F.entry_zip_new (z_new tp tq a b xs ys) ⟨s1,s2,?_⟩
 have z1:(zz1 s.heap tp a).objs.size=s.heap.objs.size+1:=Heap.size_push ..
 have z2:(zz2 s.heap tp tq a b).objs.size=s.heap.objs.size+2:=by rw [Heap.size_push,z1]
 have z3:(zz3 s.heap tp tq a b).objs.size=s.heap.objs.size+3:=by rw [Heap.size_push,z2]
 have z4:(zz4 s.heap tp tq a b).objs.size=s.heap.objs.size+4:=by rw [Heap.size_push,z3]
 have g5:(zz5 s.heap tp tq a b).get? (zz4 s.heap tp tq a b).objs.size=some _:=Heap.get?_push_size _ rfl
 have g4:(zz5 s.heap tp tq a b).get? (zz3 s.heap tp tq a b).objs.size=some _:=Heap.get?_push_of_some _ (Heap.get?_push_size _ rfl)
 have g3:(zz5 s.heap tp tq a b).get? (zz2 s.heap tp tq a b).objs.size=some _:=Heap.get?_push_of_some _ (Heap.get?_push_of_some _ (Heap.get?_push_size _ rfl))
 have g2:(zz5 s.heap tp tq a b).get? (zz1 s.heap tp a).objs.size=some _:=Heap.get?_push_of_some _ (Heap.get?_push_of_some _ (Heap.get?_push_of_some _ (Heap.get?_push_size _ rfl)))
 have g1:(zz5 s.heap tp tq a b).get? s.heap.objs.size=some _:=Heap.get?_push_of_some _ (Heap.get?_push_of_some _ (Heap.get?_push_of_some _ (Heap.get?_push_of_some _ (Heap.get?_push_size _ rfl))))
 show _∧_
 rw [z2,z3,z4] at g5
 rw [z1,z2] at g3
 rw [z3] at g4
 rw [z1] at g2
 rw [z4]
 exact ⟨⟨_,g5,rfl⟩,h _ ⟨g5,g3,⟨_,_,g4⟩,ZIt.new g1,ZIt.new g2⟩ fun c o x=>Heap.get?_push_of_some _ (Heap.get?_push_of_some _ (Heap.get?_push_of_some _ (Heap.get?_push_of_some _ (Heap.get?_push_of_some _ x))))⟩
theorem boot_zip:bootBuiltins "zip" = some (.type "zip"):=by kernel_rfl
def iZip (K:PySem.W.Frag) (ta:TA):TI:=fun σ H R=>ta σ H fun vs H1=>∃tp tq a b xs ys,vs=[.ref a,.ref b]∧Sq tp K H1 a xs∧Sq tq K H1 b ys∧R (Itz tp tq K a b) H1
theorem pi_zip {X:Cx} {es:List Expr} {k:Nat} {ps:Pos} {a b:Expr} {ta:TA} {p pos:Pos} (hg:Gl X "zip") (hm:X.mg "zip" = none) (ha:PA X [a,b] ta) (hs:starEach [a,b] X.env=[(false,eval a X.env),(false,eval b X.env)]:=by rfl) (hs2:starEach [b] X.env=[(false,eval b X.env)]:=by rfl) :
  PI X (.Tuple es k ps) (.Call (.Name "zip" p) [a,b] [] pos) (iZip X.K ta):=by
 intro pins s σ H R I h
 refine Call_ (z0f I hg hm boot_zip (PyProof.Rows.callWith_type1 (thn (ha pos pins s σ H _ I h) fun us s1 ⟨vs,H1,I1,r1,q1⟩=>?_) (by rw [hs,hs2]) (by rw [hs2]; rfl)))
 obtain ⟨tp,tq,a,b,xs,ys,e,sx,sy,q⟩:=q1
 subst e
 cases r1 with
 | cons r rr=>
  cases rr with
  | cons r' rr=>
   cases rr
   cases r
   cases r'
   obtain ⟨is,rx,lx,zx⟩:=I1.sq sx
   obtain ⟨js,ry,ly,zy⟩:=I1.sq sy
   have d:∀i j:Nat,i≠j→s1.heap.objs.size+i≠s1.heap.objs.size+j:=fun i j q z=>q (Nat.add_left_cancel z)
   refine call_zz lx ly fun h' st kk=>wpAny_pyIter_zip st.gz ?_
   refine ⟨_,[s1.heap.objs.size+4,s1.heap.objs.size+2,s1.heap.objs.size+3,s1.heap.objs.size,s1.heap.objs.size+1],_,_,H1,rfl,I1.kept (t':=s1.toks) kk,
    turn_zip a b _ _ _ _ _ (d 2 4 (by decide)) (d 3 4 (by decide)) (d 0 4 (by decide)) (d 1 4 (by decide)) (d 2 3 (by decide)) (d 2 0 (by decide)) (d 2 1 (by decide)) (d 3 0 (by decide)) (d 3 1 (by decide)) (d 0 1 (by decide)),st,fun c hc=>?_,q⟩
   have hle:s1.heap.objs.size≤c:=by
    simp only [List.mem_cons,List.not_mem_nil,or_false] at hc
    rcases hc with z | z | z | z | z<;>rw [z]<;>first | exact Nat.le_add_right _ _ | exact Nat.le_refl _
   exact I1.fpOk hle (I1.hok.fresh hle)
end L2
namespace L2
open PySem PySem.Spec PyProof.Rows
section
variable {X:Cx}
theorem op_fdivB:OpR X (binaryOp .FloorDiv) (rI (fun _ j=>0<j∧j<2 ^ 100) fun i j=>.int (i / j)):=opI fun i j _ _ s Q E hc q=>by
 refine floordiv_int (by omega) ?_ (.inl (PyProof.noPylong_of_log2 ?_))
 ·rw [Int.fdiv_eq_ediv_of_nonneg _ (by omega)]; exact q
 ·have:j.natAbs<2 ^ 100:=by omega
  have h2:j.natAbs.log2<100:=(Nat.log2_lt (by omega)).mpr this
  omega
theorem call_sum:X.calm=true→q8k X (.builtin "sum") (fun xs H Q=>∃(p:Addr) (ns:List Int),xs=[.ref p]∧SqL X.K H p (ns.map V.int)∧Q (.int ns.sum) H):=by
 intro hc pins s σ H xs us Q I r h
 obtain ⟨p,ns,rfl,hp,q⟩:=h
 obtain ⟨u,rfl,ru⟩:=vals1 r
 cases ru
 obtain ⟨is,r1,p1,_⟩:=I.list hp
 have hi:=q9z r1
 obtain ⟨zs,hz⟩:=hi.allInts.items
 refine sum_intListG (I.ok.hd hc) (by rw [←hz]; exact p1.isList) fun h' tk t' hk=>?_
 refine ⟨.int _,H,I.kept hk,⟨t',rfl⟩,?_⟩
 have e:preSum (numAt zs) zs.size=ns.sum:=by
  rw [preSum_eq,List.take_of_length_le (by simp)]
  have e2:=hi.numsOf
  have e3:is=(intItems zs).toList:=by rw [←hz]
  rw [e3,nums_intItems] at e2
  rw [←e2]
 rw [e]; exact q
theorem bools_at {bs:List Bool} {us:List Value} (r:Vals (bs.map V.bl) us) {i:Nat} {v:Value} (e:us[i]?=some v):v=.bool (bs.getD i true):=by
 have hl:=r.length
 rw [List.length_map] at hl
 obtain ⟨hi,rfl⟩:=List.getElem?_eq_some_iff.mp e
 have hi':i<bs.length:=by omega
 have:(bs.map V.bl)[i]?=some (.bl bs[i]):=by simp [hi']
 obtain ⟨u,eu,ru⟩:=r.get this
 rw [e] at eu
 cases eu
 have hd:bs.getD i true=bs[i]:=by simp [List.getD,hi']
 rw [hd]
 exact ru
theorem range_all (bs:List Bool):(List.range bs.length).all (fun i=>bs.getD i true)=bs.all id:=by
 rw [Bool.eq_iff_iff,List.all_eq_true,List.all_eq_true]
 constructor
 ·intro h x hx
  obtain ⟨i,hi,rfl⟩:=List.mem_iff_getElem.mp hx
  have:=h i (by simp [hi])
  simpa [List.getD,hi] using this
 ·intro h i hi
  have hi':i<bs.length:=by simpa using hi
  have:=h bs[i] (List.getElem_mem hi')
  simpa [List.getD,hi'] using this
theorem call_all:X.calm=true→q8k X (.builtin "all") (fun xs H Q=>∃(p:Addr) (bs:List Bool),xs=[.ref p]∧SqL X.K H p (bs.map V.bl)∧Q (.bl (bs.all id)) H):=by
 intro hc pins s σ H xs us Q I r h
 obtain ⟨p,bs,rfl,hp,q⟩:=h
 obtain ⟨u,rfl,ru⟩:=vals1 r
 cases ru
 obtain ⟨is,r1,p1,_⟩:=I.list hp
 have hl:=r1.length
 rw [List.length_map] at hl
 have hlt:p<s.heap.objs.size:=by obtain ⟨_,e,_⟩:=p1.isList; exact Heap.lt_size e
 refine call_all_walk (wpAny_pyIter_list p1.isList ?_)
 refine ⟨s.heap.objs.size,_,_,_,_,_,(fun i=>bs.getD i true),rfl,Walks.list (A:=X.A.in1) (I.ok.hd hc) s.heap.objs.size p (Nat.ne_of_lt hlt) is.toArray,⟨⟨_,Heap.get?_push_size _ rfl,rfl,rfl⟩,p1.isList.push _⟩,fun i v s' Q' E' hv hQ'=>?_,fun h' tk hk=>?_⟩
 ·have e:=bools_at r1 (i:=i) (v:=v) (by simpa using hv)
  subst e
  exact wpAny_pure hQ'
 ·refine ⟨.bl _,H,I.kept (fun b o e=>hk b o (by have:=Heap.lt_size e; simp; exact Nat.ne_of_lt this) (Heap.get?_push_of_some _ e)),rfl,?_⟩
  have e:(List.range is.toArray.size).all (fun i=>bs.getD i true)=bs.all id:=by
   rw [List.size_toArray,←hl]; exact range_all bs
  show Q (.bl ((List.range is.toArray.size).all fun i=>bs.getD i true)) H
  rw [e]; exact q
theorem isSlice_of {h:Heap} {sl:Addr} {vl vu:Value} {lo hi:Option Int} (hs:h.IsSliceOf sl vl vu .none) (pl:IsPart vl lo) (pu:IsPart vu hi):∃l u:Option (Int×Tok),h.IsSlice sl l u none∧l.map (·.1)=lo∧u.map (·.1)=hi:=by
 cases pl with
 | none=>
  cases pu with
  | none=>exact ⟨none,none,hs,rfl,rfl⟩
  | int i t=>exact ⟨none,some (_,_),hs,rfl,rfl⟩
 | int i t=>
  cases pu with
  | none=>exact ⟨some (_,_),none,hs,rfl,rfl⟩
  | int i t=>exact ⟨some (_,_),some (_,_),hs,rfl,rfl⟩
theorem sl_str:SlR X (fun x lo hi H Q=>∃z:Str,x=.str z∧z.length≤sizeLine∧Q (.str (Txt.slice z lo hi)) H):=by
 intro pins s σ H x v vl vu lo hi sl Q I rx hs pl pu h
 obtain ⟨z,rfl,hz,q⟩:=h
 obtain ⟨t,rfl⟩:=rx
 obtain ⟨l,u,hsl,rfl,rfl⟩:=isSlice_of hs pl pu
 refine ⟨"str",_,F.slot_str_getitem.lookup,typeIs_str _ _ _,wpAny_getItem_str_slice (l:=l) (u:=u) (st:=none) hsl rfl ?_⟩
 exact post_val_or_str ⟨Nat.le_trans (Txt.slice_le z _ _) hz,fun t' k=>⟨.str _,H,I.tok k,⟨t',rfl⟩,q⟩⟩
end
end L2
namespace L2
open PySem PySem.Spec PyProof.Rows
section
variable {X:Cx}
end
theorem z1z:bootBuiltins "list" = some (.type "list"):=by kernel_rfl
theorem z0a:bootBuiltins "tuple" = some (.type "tuple"):=by kernel_rfl
theorem q9t:bootBuiltins "str" = some (.type "str"):=by kernel_rfl
theorem boot_int:bootBuiltins "int" = some (.type "int"):=by kernel_rfl
theorem boot_bool:bootBuiltins "bool" = some (.type "bool"):=by kernel_rfl
theorem q2g:bootBuiltins "isinstance" = some (.builtin "isinstance"):=by kernel_rfl
theorem boot_sum:bootBuiltins "sum" = some (.builtin "sum"):=by kernel_rfl
theorem boot_all:bootBuiltins "all" = some (.builtin "all"):=by kernel_rfl
end L2
namespace L2
open PySem PySem.Spec PyProof.Rows
inductive Ty (H:Hp):V→String→Prop where
 | non:Ty H .non "NoneType"
 | bl (x:Bool):Ty H (.bl x) "bool"
 | int (i:Int):Ty H (.int i) "int"
 | str (x:Str):Ty H (.str x) "str"
 | lst {a:Addr} {xs:List V} (e:H a=some (.lst xs)):Ty H (.ref a) "list"
 | tup {a:Addr} {xs:List V} (e:H a=some (.tup xs)):Ty H (.ref a) "tuple"
section
variable {X:Cx}
theorem Ty.of {K:PySem.W.Frag} {H:Hp} {x:V} {T:String} (h:Ty H x T):TyOf K H x (.type T):=by
 cases h with
 | non=>exact .non
 | bl x=>exact .bl x
 | int i=>exact .int i
 | str x=>exact .str x
 | lst e=>exact .lst e
 | tup e=>exact .tup e
theorem kit_any2 {K:PySem.W.Frag} {T C D:String} {b c:Bool} (h1:PySem.W.kitOne K (.type T) (.type C)=some b) (h2:PySem.W.kitOne K (.type T) (.type D)=some c):PySem.W.kitAny K (.type T) [.type C,.type D]=some (b || c):=by
 unfold PySem.W.kitAny
 rw [h1]
 cases b with
 | true=>rfl
 | false=>
  show PySem.W.kitAny K (.type T) [.type D]=_
  unfold PySem.W.kitAny
  rw [h2]
  cases c<;>rfl
end
end L2
namespace L2
open PySem PySem.Spec PyProof.Rows
structure Cal (P:Program) (w:World) (K:PySem.W.Frag) (mg:Str→Option Value) (base:Heap) (k:Nat) (name:Str) (ps:List Str) (sp:Sp) (f:Addr) (fd:FuncData):Prop where
 G:FnOk P w K mg base (CXE P w) k f fd ps sp
 m:mg name=some (.ref f)
 kp:PySem.W.keepIn K (.ref f)=true
 b:Binds K fd ps []
theorem Cal.mono {P:Program} {w:World} {K:PySem.W.Frag} {mg:Str→Option Value} {base:Heap} {j k:Nat} {name:Str} {ps:List Str} {sp:Sp} {f:Addr} {fd:FuncData} (c:Cal P w K mg base j name ps sp f fd) (h:j≤k):Cal P w K mg base k name ps sp f fd:=⟨c.G.mono h,c.m,c.kp,c.b⟩
structure Loc2 (K:PySem.W.Frag) (mg:Str→Option Value) (name:Str) (st:Stmt) (ps:List Str) (f:Addr) (fd:FuncData):Prop where
 F:Fun K name name st f fd
 m:mg name=some (.ref f)
 b:Binds K fd ps []
theorem Loc2.cal {P:Program} {w:World} {K:PySem.W.Frag} {mg:Str→Option Value} {base:Heap} {k:Nat} {name:Str} {st:Stmt} {ps:List Str} {sp:Sp} {f:Addr} {fd:FuncData} (l:Loc2 K mg name st ps f fd) (G:FnOk P w K mg base (CXE P w) k f fd ps sp):Cal P w K mg base k name ps sp f fd:=⟨G,l.m,l.F.kp,l.b⟩
structure Zs (mg:Str→Option Value):Prop where
 len:mg "len" = none
 range:mg "range" = none
 isinstance:mg "isinstance" = none
 list:mg "list" = none
 tuple:mg "tuple" = none
 str:mg "str" = none
 int:mg "int" = none
 bool:mg "bool" = none
 sum:mg "sum" = none
 all:mg "all" = none
 zip:mg "zip" = none
def SameX (l:Addr) (H H':Hp):Prop:=∀b o,b≠l→H b=some o→H' b=some o
theorem Same.x {H H':Hp} (h:Same H H') (l:Addr):SameX l H H':=fun b o _ e=>h b o e
theorem SameX.trans {l:Addr} {H H1 H2:Hp} (a:SameX l H H1) (b:SameX l H1 H2):SameX l H H2:=fun c o n e=>b c o n (a c o n e)
theorem SameX.refl (l:Addr) (H:Hp):SameX l H H:=fun _ _ _ e=>e
theorem SameX.seq {K:PySem.W.Frag} {l:Addr} {H H':Hp} {a:Addr} {xs:List V} (e:SameX l H H') (n:a≠l) (h:SqL K H a xs):SqL K H' a xs:=by
 rcases h with h | h
 ·left
  rcases h with q | ⟨ob,q⟩
  ·exact .inl (e _ _ n q)
  ·exact .inr ⟨ob,e _ _ n q⟩
 ·exact .inr h
end L2
namespace My
open PySem L2
def wd (ks:List Nat):Str:=⟨(ks.map (97+·)).toArray⟩
theorem str_ext {x y:Str} (h:x.cps.toList=y.cps.toList):x=y:=by
 obtain ⟨a⟩:=x
 obtain ⟨b⟩:=y
 have:a=b:=by rw [←Array.toList_inj]; exact h
 rw [this]
theorem wd_list (ks:List Nat):(wd ks).cps.toList=ks.map (97+·):=rfl
theorem wd_len (ks:List Nat):(wd ks).length=ks.length:=by simp [wd,Str.length]
theorem app_list (x y:Str):(x++y).cps.toList=x.cps.toList++y.cps.toList:=by
 show (x.cps++y.cps).toList=_
 simp
theorem letters_wd:(Str.ofString "abcdefghijklmnopqrstuvwxyz")=wd (List.range 26):=by decide +kernel
theorem letters_at {i:Int} (h0:0≤i) (h1:i<26):atI (Str.ofString "abcdefghijklmnopqrstuvwxyz").cps.toList i=some (97+i.toNat):=by
 obtain ⟨m,rfl⟩:∃m:Nat,i=(m:Int):=⟨i.toNat,by omega⟩
 have hm:m<26:=by omega
 rw [letters_wd]
 refine atI_nat ?_
 rw [wd_list]
 simp [hm]
theorem letters_len:(Str.ofString "abcdefghijklmnopqrstuvwxyz").length≤sizeLine:=by rw [letters_wd,wd_len]; decide
theorem idx_eq (lo hi:Option Int) (n:Nat):Builtin.Str.strSliceIndices lo hi 1 n=(List.range (HT.sIx n n hi - HT.sIx n 0 lo)).map fun k=>HT.sIx n 0 lo+k:=by
 have clip:∀(v:Option Int) (d:Nat),(match v with | none=>((d:Nat):Int) | some i=>max 0 (min (if i<0 then i+(n:Int) else i) (n:Int)))=((HT.sIx n d v:Nat):Int):=by
  intro v d
  cases v with
  | none=>rfl
  | some i=>
   unfold HT.sIx
   dsimp only
   split
   ·omega
   ·omega
 unfold Builtin.Str.strSliceIndices
 simp only [show ((1:Int) > 0) by decide,if_true]
 have e1:=clip lo 0
 have e2:=clip hi n
 simp only [Int.ofNat_zero] at e1
 have key:∀a b a' b':Int,a=a'→b=b'→sliceRange a b 1=sliceRange a' b' 1:=fun a b a' b' h1 h2=>by rw [h1,h2]
 refine (key _ _ _ _ e1 e2).trans ?_
 unfold sliceRange
 simp only [show ((1:Int) > 0) by decide,if_true]
 have e3:(if ((HT.sIx n 0 lo:Nat):Int)<((HT.sIx n n hi:Nat):Int) then (((HT.sIx n n hi:Nat):Int) - ((HT.sIx n 0 lo:Nat):Int)+1 - 1) / 1 else 0).toNat=HT.sIx n n hi - HT.sIx n 0 lo:=by
  split
  ·rw [Int.ediv_one]; omega
  ·omega
 rw [e3]
 apply List.map_congr_left
 intro k _
 omega
theorem pick_eq (xs:List Nat) (a c:Nat) (hc:a+c≤xs.length):((List.range c).map fun k=>a+k).filterMap (fun i=>xs[i]?)=(xs.drop a).take c:=by
 induction c generalizing a with
 | zero=>simp
 | succ c ih=>
  have ha:a<xs.length:=by omega
  rw [List.range_succ_eq_map,List.map_cons,List.map_map,List.filterMap_cons]
  have e0:xs[a+0]?=some xs[a]:=by simp [ha]
  rw [e0]
  dsimp only
  rw [List.drop_eq_getElem_cons ha,List.take_succ_cons]
  congr 1
  have:=ih (a+1) (by omega)
  rw [←this]
  congr 1
  apply List.map_congr_left
  intro k _
  simp only [Function.comp]
  omega
theorem slice_list (x:Str) (lo hi:Option Int):(Txt.slice x lo hi).cps.toList=(x.cps.toList.drop (HT.sIx x.length 0 lo)).take (HT.sIx x.length x.length hi - HT.sIx x.length 0 lo):=by
 have hn:x.cps.toList.length=x.length:=by simp [Str.length]
 have hb:=HT.sIx_le x.length x.length (Nat.le_refl _) hi
 have ha:=HT.sIx_le x.length 0 (Nat.zero_le _) lo
 unfold Txt.slice
 rw [idx_eq,List.length_map,List.length_range]
 split
 ·rename_i h
  have h':HT.sIx x.length x.length hi - HT.sIx x.length 0 lo=x.length:=by simpa using h
  have h2:HT.sIx x.length 0 lo=0∨x.length=0:=by omega
  rw [h']
  rcases h2 with h2 | h2
  ·rw [h2,List.drop_zero,List.take_of_length_le (by omega)]
  ·have:x.cps.toList=[]:=List.length_eq_zero_iff.mp (by omega)
   rw [this]; simp
 ·show List.filterMap _ _=_
  have e:(fun (i:Nat)=>x.cps[i]?)=fun i=>x.cps.toList[i]?:=by funext i; simp
  rw [e]
  by_cases hle:HT.sIx x.length 0 lo≤HT.sIx x.length x.length hi
  ·exact pick_eq _ _ _ (by omega)
  ·have:HT.sIx x.length x.length hi - HT.sIx x.length 0 lo=0:=by omega
   rw [this]; simp
def Nm (x:Str):Prop:=∃ks:List Nat,x=wd ks∧ks≠[]∧ks.length≤8∧∀k∈ks,k<26
theorem Nm.len {x:Str} (h:Nm x):x.length≤8:=by
 obtain ⟨ks,rfl,_,h,_⟩:=h
 rw [wd_len]; exact h
end My
namespace L2
open PySem PySem.Spec PyProof.Rows
theorem q8l {X:Cx} {scope:Scope} {N':List Str} {ix:List (Option Nat)} (kind:scope.kind=.function) (cell:∀y∈scope.names,y.2≠.cell) (names:∀y∈scope.names,y.2=.local→scope.names.lookup y.1=some .local)
  (free:(scope.names.all fun y=>!(y.2 == .free) || X.env.scope.names.lookup y.1 == some .cell || X.env.scope.names.lookup y.1 == some .free)=true) (ixs:IxOk X.N X.env.scope scope N' ix):CompOk X scope N' ix:=
 ⟨kind,cell,names,fun y hy e=>by
  have h:=List.all_eq_true.mp free y hy
  simp only [e,beq_self_eq_true,Bool.not_true,Bool.false_or,Bool.or_eq_true,beq_iff_eq] at h
  exact h,ixs⟩
section
variable {X:Cx} {K:PySem.W.Frag}
end
end L2
namespace My
open PySem L2
end My
namespace L2
open PySem PySem.Spec PyProof.Rows
def Its (z:Str):It:=⟨fun i _=>i<z.length,fun i H v H'=>H'=H∧∃c,z.cps[i]?=some c∧v=.str ⟨#[c]⟩,fun i _=>z.length≤i⟩
theorem strWalk {P:Program} {w:World} {A:Around} (hh:A.handled=none) (it:Addr) (x:Str) (t:Tok):Walks P w A it [it] [it] x.cps.size (SignAt x) fun i h=>h.IsStrIter it (strIterType x) x t i:=by
 unfold strIterType
 split
 ·exact Walks.strAscii hh it x t
 ·exact Walks.strWide hh it x t
theorem go_str {M:Model} {A:Around} {E:Value→Shared→Prop} {s:Shared} {tg:Expr} {it:Addr} {u:Value} {x:Str} {t:Tok} {i:Nat} {Q:Unit→Shared→Prop} (h:s.heap.IsStrIter it (strIterType x) x t i) (hQ:Q () s):wpAny M A (letOwnedTupleGo tg (.ref it) u) Q E s:=by
 obtain ⟨o,e,c,d⟩:=h
 refine go_of e c d ?_ hQ
 unfold strIterType
 split<;>decide
theorem turn_str {P:Program} {w:World} {K:PySem.W.Frag} {tg:Expr} (it:Addr) (x:Str) (t:Tok):Turn P w K tg (Its x) [it] it (fun i h=>i≤x.length∧h.IsStrIter it (strIterType x) x t i) where
 mem:=by simp
 obj:=fun i h st b hb=>by
  obtain rfl:=List.mem_singleton.mp hb
  obtain ⟨_,o,e,c,d⟩:=st
  exact ⟨o,e,fun v z=>by rw [d] at z; cases z⟩
 keep:=fun i h h' st k=>by
  obtain ⟨hi,o,e,r⟩:=st
  exact ⟨hi,o,k it (by simp) o e,r⟩
 item:=by
  intro X hP hw hK hc i pins s σ H E I hf st hg
  subst hP hw hK
  obtain ⟨f0,f1,f2,f3,f4,f5⟩:=hf it (by simp)
  have hg':i<x.length:=hg
  refine (strWalk (P:=X.prog) (w:=X.w) (I.ok.hd hc) it x t).item i s _ _ hg' st.2 fun v h' tk hv st' kk=>?_
  have I1:Inv X pins σ H { s with heap:=h',toks:=tk }:=I.turned (fun b o hb e=>kk b o (by simpa using hb) e) f0 f1 f3 f4 f5
  obtain ⟨c,u,hc',rfl⟩:=hv
  exact ⟨_,rfl,go_str (s:={ s with heap:=h',toks:=tk }) st' ⟨.str ⟨#[c]⟩,H,I1,⟨u,rfl⟩,⟨rfl,c,hc',rfl⟩,⟨hg',st'⟩,fun b hb=>(hf b hb).1⟩⟩
 done:=by
  intro X hP hw hK hc i pins s σ H E I hf st hg
  subst hP hw hK
  obtain ⟨f0,f1,f2,f3,f4,f5⟩:=hf it (by simp)
  have hg':x.length≤i:=hg
  have e:i=x.cps.size:=Nat.le_antisymm st.1 hg'
  subst e
  exact (strWalk (P:=X.prog) (w:=X.w) (I.ok.hd hc) it x t).done s _ _ st.2 fun h' tk kk=>⟨rfl,I.turned (fun b o hb e=>kk b o (by simpa using hb) e) f0 f1 f3 f4 f5⟩
 self:=fun A i s Q E st h=>by
  have st':=st.2
  unfold strIterType at st'
  split at st'
  ·exact wpAny_pyIter_striter_ascii st' h
  ·exact wpAny_pyIter_striter_wide st' h
section
variable {X:Cx} {tg:Expr}
end
abbrev TJ:=St→Hp→Str→(Str→Hp→Prop)→Prop
def PJ (X:Cx) (es:List Expr) (t:TJ):Prop:=∀(pins:List (Addr×Obj)) (s:Shared) (σ:St) (H:Hp) (acc:Str) (Q:Str→Hp→Prop),Inv X pins σ H s→t σ H acc Q→
 Joins (model X.prog X.w) X.A X.xe (evalEach es X.env) acc (fun out s₁=>∃H',Inv X pins σ H' s₁∧Q out H') s
section
variable {X:Cx} {e:Expr} {es:List Expr} {t:TJ} {te:TE} {pos p2:Pos}
end
end L2
namespace L2
open PySem PySem.Spec PyProof.Rows
section
variable {X:Cx}
theorem extT (lA:Addr) (xsA:Array Value) (nA:Nat) (tB:Addr) (ysB:Array Value) (nB:Nat) (ddB:Option Addr) (slB:Array (Option Value)) (h0:¬(!xsA.isEmpty && Builtin.List.listTooLong (xsA.size+ysB.size))=true) (h1:xsA.size≤sizeLine) (h2:xsA.size+ysB.size≤sizeLine+1) :
  Meets (Builtin.«list.extend» ⟨[.ref lA,.ref tB],[]⟩) (fun _ R s=>s.heap.get? lA=some { cls:=.type "list",dict:=none,data:=.seq xsA nA,slots:=#[] }∧s.heap.get? tB=some { cls:=.type "tuple",dict:=ddB,data:=.seq ysB nB,slots:=slB }∧R (.ok (.ret Value.none)) { s with heap:=s.heap.update lA (Obj.mapSeq fun u=>u++ysB),toks:=s.toks }):=
 .of_wp fun prog w A R s h=>by
  obtain ⟨hp,g,d,tk,os⟩:=s
  obtain ⟨hl,hb,h⟩:=h
  have f1:=AutoSeq1.idx_int
  have f2:=AutoSeq1.sub_tuple_tuple
  have f3:=AutoSeq1.sub_list_list
  have f4:=AutoSeq1.sub_tuple_list
  have f5:=AutoSeq1.sub_list_tuple
  have hz':(xsA++ysB).size≤sizeLine+1:=by rw [Array.size_append]; exact h2
  wp_walk using (wpAny_updateSeq hl rfl (hz:=h1) (_hz':=hz')),AutoSeq1.wpAny_loadPart' hl,AutoSeq1.wpAny_loadPart' hb
  exact ⟨_,rfl,h⟩
theorem op_catT0:OpR X (binaryOp .Add) (fun x y H Q=>(∃a b ys,x=.ref a∧y=.ref b∧SqT X.K H a []∧SqT X.K H b ys∧Q (.ref b) H)∨rCatT X.K x y H Q):=by
 intro pins s σ H x y v u Q I rx ry h
 rcases h with h | h
 ·obtain ⟨a,b,ys,rfl,rfl,ha,hb,q⟩:=h
  cases rx
  cases ry
  obtain ⟨its,r1,p1,_⟩:=I.tuple ha
  obtain ⟨its2,r2,p2,hz⟩:=I.tuple hb
  cases r1
  obtain ⟨⟨c1,e1,t1,l1⟩,ho,hc,n,hd⟩:=p1
  obtain ⟨⟨c2,e2,t2,l2⟩,ho2,hc2,n2,hd2⟩:=p2
  simp only at hc hd hc2 hd2
  subst hc hd hc2 hd2
  refine concat_meets ⟨_,ho,rfl⟩ ⟨_,ho2,rfl⟩ noFill_tuple_add seq_tuple_add PySem.F.slot_tuple_add PySem.F.entry_tuple_add (PySem.F.args_tuple_add_2 _ _)
   (tuple_addW0 a b _ its2.toArray n n2 e1 e2 l1 l2 (by rfl)) ⟨ho,ho2,⟨.ref b,H,I,rfl,q⟩⟩
 ·exact op_catT pins s σ H x y v u Q I rx ry h
end
end L2
namespace Ev
open PySem L2
inductive PV where
 | non | bl (b:Bool) | int (i:Int) | str (x:Str) | ty (n:String)
 | tup (xs:List PV) | frl (xs:List PV) | ref (n:Nat) | exc (c:String)
inductive SO where
 | lst (xs:List PV) | dK (kvs:List (Key×PV)) | dN (kvs:List (KTr×PV))
abbrev q0l:=List SO
abbrev Loc:=List (Option PV)
def SqF (K:PySem.W.Frag) (H:Hp) (a:Addr) (xs:List V):Prop:=
 (∃o,H a=some (.frz o (.lst xs)))∨∃(o:Obj) (its:Array Value) (n:Nat),K.lookup a=some o∧o.cls=.type "list" ∧o.dict=none∧o.data=.seq its n∧its.size≤sizeLine∧Vals xs its.toList
theorem SqF.sq {K:PySem.W.Frag} {H:Hp} {a:Addr} {xs:List V} (h:SqF K H a xs):SqL K H a xs:=by
 rcases h with ⟨o,h⟩ | h
 ·exact .inl (.inr ⟨o,h⟩)
 ·exact .inr h
def ExcAt (K:PySem.W.Frag) (H:Hp) (a:Addr) (c:String):Prop:=∃(f:Heap→Prop) (C:Addr),H a=some (.ext f)∧PySem.W.nsIn K mainGlobals (Str.ofString c)=some (some (.ref C))∧∀h,f h→∃o,h.get? a=some o∧o.cls=.ref C
mutual
def RV (K:PySem.W.Frag) (H:Hp) (φ:List Addr):PV→V→Prop
 | .non,v=>v=.non
 | .bl b,v=>v=.bl b
 | .int i,v=>v=.int i
 | .str x,v=>v=.str x
 | .ty n,v=>v=.ty n
 | .tup xs,v=>∃a vs,v=.ref a∧SqT K H a vs∧RVs K H φ xs vs
 | .frl xs,v=>∃a vs,v=.ref a∧SqF K H a vs∧RVs K H φ xs vs
 | .ref n,v=>∃a,v=.ref a∧φ[n]?=some a
 | .exc c,v=>∃a,v=.ref a∧ExcAt K H a c
def RVs (K:PySem.W.Frag) (H:Hp) (φ:List Addr):List PV→List V→Prop
 | [],vs=>vs=[]
 | x::xs,vs=>∃y ys,vs=y::ys∧RV K H φ x y∧RVs K H φ xs ys
end
structure Mono (H H':Hp):Prop where
 tup:∀a xs,H a=some (.tup xs)→H' a=some (.tup xs)
 frz:∀a o u,H a=some (.frz o u)→H' a=some (.frz o u)
 ext:∀a f,H a=some (.ext f)→H' a=some (.ext f)
theorem Mono.refl (H:Hp):Mono H H:=⟨fun _ _ h=>h,fun _ _ _ h=>h,fun _ _ h=>h⟩
theorem Mono.trans {H H1 H2:Hp} (a:Mono H H1) (b:Mono H1 H2):Mono H H2:=⟨fun c xs h=>b.tup c xs (a.tup c xs h),fun c o u h=>b.frz c o u (a.frz c o u h),fun c f h=>b.ext c f (a.ext c f h)⟩
theorem Mono.new {H:Hp} {p:Addr} (o:HO) (h:H p=none):Mono H (upd H p o):=⟨fun b u q=>by rw [q1h (q3i q h)]; exact q,fun b u v q=>by rw [q1h (q3i q h)]; exact q,fun b f q=>by rw [q1h (q3i q h)]; exact q⟩
theorem Mono.rd {H H':Hp} (m:Mono H H') {a:Addr} {xs:List V} (h:Rd H a (.tup xs)):Rd H' a (.tup xs):=by
 rcases h with h | ⟨o,h⟩
 ·exact .inl (m.tup _ _ h)
 ·exact .inr ⟨o,m.frz _ _ _ h⟩
theorem Mono.sqT {K:PySem.W.Frag} {H H':Hp} (m:Mono H H') {a:Addr} {xs:List V} (h:SqT K H a xs):SqT K H' a xs:=by
 rcases h with h | h
 ·exact .inl (m.rd h)
 ·exact .inr h
theorem Mono.sqF {K:PySem.W.Frag} {H H':Hp} (m:Mono H H') {a:Addr} {xs:List V} (h:SqF K H a xs):SqF K H' a xs:=by
 rcases h with ⟨o,h⟩ | h
 ·exact .inl ⟨o,m.frz _ _ _ h⟩
 ·exact .inr h
theorem z1i {φ φ':List Addr} (h:φ <+: φ') {n:Nat} {a:Addr} (e:φ[n]?=some a):φ'[n]?=some a:=by
 obtain ⟨t,rfl⟩:=h
 rw [List.getElem?_append_left (by
  have:=List.getElem?_eq_some_iff.mp e
  exact this.1)]
 exact e
section
variable {K:PySem.W.Frag} {H H':Hp} {φ φ':List Addr}
mutual
theorem RV.mono (m:Mono H H') (p:φ <+: φ'):∀(v:PV) (x:V),RV K H φ v x→RV K H' φ' v x
 | .non,_,h=>h
 | .bl _,_,h=>h
 | .int _,_,h=>h
 | .str _,_,h=>h
 | .ty _,_,h=>h
 | .tup xs,_,⟨a,vs,e,s,r⟩=>⟨a,vs,e,m.sqT s,RVs.mono m p xs vs r⟩
 | .frl xs,_,⟨a,vs,e,s,r⟩=>⟨a,vs,e,m.sqF s,RVs.mono m p xs vs r⟩
 | .ref _,_,⟨a,e,q⟩=>⟨a,e,z1i p q⟩
 | .exc _,_,⟨a,e,f,C,h1,h2,h3⟩=>⟨a,e,f,C,m.ext _ _ h1,h2,h3⟩
theorem RVs.mono (m:Mono H H') (p:φ <+: φ'):∀(xs:List PV) (vs:List V),RVs K H φ xs vs→RVs K H' φ' xs vs
 | [],_,h=>h
 | x::xs,_,⟨y,ys,e,r,t⟩=>⟨y,ys,e,RV.mono m p x y r,RVs.mono m p xs ys t⟩
end
theorem RVs.length:∀{xs:List PV} {vs:List V},RVs K H φ xs vs→xs.length=vs.length
 | [],_,h=>by rw [show _=[] from h]; rfl
 | _::xs,_,⟨y,ys,e,_,t⟩=>by rw [e,List.length_cons,List.length_cons,RVs.length t]
theorem RVs.get:∀{xs:List PV} {vs:List V} {i:Nat} {x:PV},RVs K H φ xs vs→xs[i]?=some x→∃y,vs[i]?=some y∧RV K H φ x y
 | [],_,_,_,_,e=>by simp at e
 | x::xs,_,0,x',⟨y,ys,e,r,t⟩,q=>by
  simp at q; subst q; subst e
  exact ⟨y,by simp,r⟩
 | x::xs,_,i+1,x',⟨y,ys,e,r,t⟩,q=>by
  subst e
  obtain ⟨z,h1,h2⟩:=RVs.get (i:=i) t (by simpa using q)
  exact ⟨z,by simpa using h1,h2⟩
theorem RVs.append:∀{xs ys:List PV} {vs ws:List V},RVs K H φ xs vs→RVs K H φ ys ws→RVs K H φ (xs++ys) (vs++ws)
 | [],_,_,_,h,s=>by rw [show _=[] from h]; exact s
 | x::xs,_,_,_,⟨y,ys,e,r,t⟩,s=>by subst e; exact ⟨y,_,rfl,r,RVs.append t s⟩
theorem RVs.one {x:PV} {y:V} (r:RV K H φ x y):RVs K H φ [x] [y]:=⟨y,[],rfl,r,rfl⟩
theorem RVs.cons {x:PV} {y:V} {xs:List PV} {ys:List V} (r:RV K H φ x y) (t:RVs K H φ xs ys):RVs K H φ (x::xs) (y::ys):=⟨y,ys,rfl,r,t⟩
theorem RVs.take:∀{xs:List PV} {vs:List V} (n:Nat),RVs K H φ xs vs→RVs K H φ (xs.take n) (vs.take n)
 | _,_,0,_=>by simp; exact rfl
 | [],_,_+1,h=>by rw [show _=[] from h]; exact rfl
 | x::xs,_,n+1,⟨y,ys,e,r,t⟩=>by subst e; exact ⟨y,_,rfl,r,RVs.take n t⟩
theorem RVs.drop:∀{xs:List PV} {vs:List V} (n:Nat),RVs K H φ xs vs→RVs K H φ (xs.drop n) (vs.drop n)
 | _,_,0,h=>h
 | [],_,_+1,h=>by rw [show _=[] from h]; exact rfl
 | x::xs,_,n+1,⟨y,ys,e,r,t⟩=>by subst e; exact RVs.drop n t
theorem RVs.set {z:PV} {u:V} (q:RV K H φ z u):∀{xs:List PV} {vs:List V} (n:Nat),RVs K H φ xs vs→RVs K H φ (xs.set n z) (vs.set n u)
 | [],_,_,h=>by rw [show _=[] from h]; exact rfl
 | x::xs,_,0,⟨y,ys,e,r,t⟩=>by subst e; exact ⟨u,_,rfl,q,t⟩
 | x::xs,_,n+1,⟨y,ys,e,r,t⟩=>by subst e; exact ⟨y,_,rfl,r,RVs.set q n t⟩
theorem RVs.eraseIdx:∀{xs:List PV} {vs:List V} (n:Nat),RVs K H φ xs vs→RVs K H φ (xs.eraseIdx n) (vs.eraseIdx n)
 | [],_,_,h=>by rw [show _=[] from h]; exact rfl
 | x::xs,_,0,⟨y,ys,e,r,t⟩=>by subst e; exact t
 | x::xs,_,n+1,⟨y,ys,e,r,t⟩=>by subst e; exact ⟨y,_,rfl,r,RVs.eraseIdx n t⟩
theorem RVs.dropLast {xs:List PV} {vs:List V} (h:RVs K H φ xs vs):RVs K H φ xs.dropLast vs.dropLast:=by
 rw [List.dropLast_eq_take,List.dropLast_eq_take,←h.length]
 exact h.take _
theorem RVs.reverse:∀{xs:List PV} {vs:List V},RVs K H φ xs vs→RVs K H φ xs.reverse vs.reverse
 | [],_,h=>by rw [show _=[] from h]; exact rfl
 | x::xs,_,⟨y,ys,e,r,t⟩=>by
  subst e
  rw [List.reverse_cons,List.reverse_cons]
  exact (RVs.reverse t).append (.one r)
theorem RVs.rep {xs:List PV} {vs:List V} (h:RVs K H φ xs vs):∀n,RVs K H φ (List.replicate n xs).flatten (List.replicate n vs).flatten
 | 0=>rfl
 | n+1=>by
  rw [List.replicate_succ,List.replicate_succ,List.flatten_cons,List.flatten_cons]
  exact h.append (RVs.rep h n)
theorem RVs.ints:∀{ns:List Int} {vs:List V},RVs K H φ (ns.map PV.int) vs→vs=ns.map V.int
 | [],_,h=>h
 | _::ns,_,⟨y,ys,e,r,t⟩=>by rw [e,show y=_ from r,RVs.ints t]; rfl
theorem RVs.strs:∀{ns:List Str} {vs:List V},RVs K H φ (ns.map PV.str) vs→vs=ns.map V.str
 | [],_,h=>h
 | _::ns,_,⟨y,ys,e,r,t⟩=>by rw [e,show y=_ from r,RVs.strs t]; rfl
theorem RVs.bls:∀{ns:List Bool} {vs:List V},RVs K H φ (ns.map PV.bl) vs→vs=ns.map V.bl
 | [],_,h=>h
 | _::ns,_,⟨y,ys,e,r,t⟩=>by rw [e,show y=_ from r,RVs.bls t]; rfl
theorem RVs.of_ints:∀(ns:List Int),RVs K H φ (ns.map PV.int) (ns.map V.int)
 | []=>rfl
 | _::ns=>⟨_,_,rfl,rfl,RVs.of_ints ns⟩
def RKs (K:PySem.W.Frag) (H:Hp) (φ:List Addr):List (Key×PV)→List (Key×V)→Prop:=Paired fun p q=>p.1=q.1∧RV K H φ p.2 q.2
theorem RKs.mono (m:Mono H H') (p:φ <+: φ') {xs:List (Key×PV)} {ys:List (Key×V)} (h:RKs K H φ xs ys):RKs K H' φ' xs ys:=Paired.mapP h fun _ _ hh1=>by obtain ⟨a,b⟩:=hh1; exact (⟨a,RV.mono m p _ _ b⟩)
mutual
def ktP:KTr→PV
 | .int i=>.int i
 | .str x=>.str x
 | .tup xs=>.tup (ktPs xs)
def ktPs:List KTr→List PV
 | []=>[]
 | x::xs=>ktP x::ktPs xs
end
def RNs (K:PySem.W.Frag) (H:Hp) (φ:List Addr):List (KTr×PV)→List (KTr×Addr×V)→Prop:=Paired fun p q=>p.1=q.1∧((∃ys,p.1=.tup ys)∧kdep p.1≤8)∧RV K H φ (ktP p.1) (.ref q.2.1)∧RV K H φ p.2 q.2.2
theorem RNs.mono (m:Mono H H') (p:φ <+: φ') {xs:List (KTr×PV)} {ys:List (KTr×Addr×V)} (h:RNs K H φ xs ys):RNs K H' φ' xs ys:=Paired.mapP h fun _ _ hh1=>by obtain ⟨a,c,b,d⟩:=hh1; exact (⟨a,c,RV.mono m p _ _ b,RV.mono m p _ _ d⟩)
def ObjR (K:PySem.W.Frag) (H:Hp) (φ:List Addr):SO→Addr→Prop
 | .lst xs,a=>∃vs,H a=some (.lst vs)∧RVs K H φ xs vs
 | .dK kvs,a=>∃ws,H a=some (.dK ws)∧RKs K H φ kvs ws
 | .dN kvs,a=>∃ws,H a=some (.dH ws)∧RNs K H φ kvs ws
theorem ObjR.some {o:SO} {a:Addr} (h:ObjR K H φ o a):∃u,H a=Option.some u:=by
 cases o with
 | lst xs=>obtain ⟨vs,e,_⟩:=h; exact ⟨_,e⟩
 | dK xs=>obtain ⟨vs,e,_⟩:=h; exact ⟨_,e⟩
 | dN xs=>obtain ⟨vs,e,_⟩:=h; exact ⟨_,e⟩
theorem ObjR.mono (m:Mono H H') (p:φ <+: φ') {o:SO} {a:Addr} (e:∀u,H a=Option.some u→H' a=Option.some u) (h:ObjR K H φ o a):ObjR K H' φ' o a:=by
 cases o with
 | lst xs=>obtain ⟨vs,q,r⟩:=h; exact ⟨vs,e _ q,RVs.mono m p _ _ r⟩
 | dK xs=>obtain ⟨vs,q,r⟩:=h; exact ⟨vs,e _ q,RKs.mono m p r⟩
 | dN xs=>obtain ⟨vs,q,r⟩:=h; exact ⟨vs,e _ q,RNs.mono m p r⟩
structure Rel (K:PySem.W.Frag) (φ:List Addr) (S:q0l) (H:Hp):Prop where
 len:φ.length=S.length
 nd:φ.Nodup
 obj:∀(n:Nat) (a:Addr) (o:SO),φ[n]?=some a→S[n]?=some o→ObjR K H φ o a
theorem Rel.at {S:q0l} (h:Rel K φ S H) {n:Nat} {o:SO} (e:S[n]?=some o):∃a,φ[n]?=some a∧ObjR K H φ o a:=by
 have hn:n<φ.length:=by rw [h.len]; exact (List.getElem?_eq_some_iff.mp e).1
 exact ⟨φ[n],List.getElem?_eq_getElem hn,h.obj n _ o (List.getElem?_eq_getElem hn) e⟩
theorem Rel.at' {S:q0l} (h:Rel K φ S H) {n:Nat} {a:Addr} (e:φ[n]?=some a):∃o,S[n]?=some o∧ObjR K H φ o a:=by
 have hn:n<S.length:=by rw [←h.len]; exact (List.getElem?_eq_some_iff.mp e).1
 exact ⟨S[n],List.getElem?_eq_getElem hn,h.obj n a _ e (List.getElem?_eq_getElem hn)⟩
theorem Rel.frame {S:q0l} (h:Rel K φ S H) {p:Addr} (o:HO) (hp:H p=none):Rel K φ S (upd H p o):=
 ⟨h.len,h.nd,fun n a o' e q=>(h.obj n a o' e q).mono (Mono.new o hp) (List.prefix_refl _) fun u z=>by rw [q1h (q3i z hp)]; exact z⟩
theorem Rel.new {S:q0l} (h:Rel K φ S H) {p:Addr} {o:SO} {u:HO} (hp:H p=none) (ho:ObjR K (upd H p u) (φ++[p]) o p):Rel K (φ++[p]) (S++[o]) (upd H p u):=by
 refine ⟨by simp [h.len],?_,fun n a o' e q=>?_⟩
 ·refine List.nodup_append.mpr ⟨h.nd,by simp,fun a ha b hb=>?_⟩
  rw [List.mem_singleton] at hb
  subst hb
  intro z
  subst z
  obtain ⟨n,hn,e⟩:=List.mem_iff_getElem.mp ha
  obtain ⟨o',_,r⟩:=h.at' (n:=n) (a:=a) (by rw [List.getElem?_eq_getElem hn,e])
  obtain ⟨u',z⟩:=r.some
  rw [hp] at z
  cases z
 ·by_cases hn:n<φ.length
  ·rw [List.getElem?_append_left hn] at e
   rw [List.getElem?_append_left (by rw [←h.len]; exact hn)] at q
   exact (h.obj n a o' e q).mono (Mono.new u hp) (List.prefix_append _ _) fun u' z=>by rw [q1h (q3i z hp)]; exact z
  ·have hn':n=φ.length:=by
    have:=(List.getElem?_eq_some_iff.mp e).1
    simp at this
    omega
   subst hn'
   rw [List.getElem?_append_right (Nat.le_refl _)] at e
   rw [h.len,List.getElem?_append_right (Nat.le_refl _)] at q
   simp at e q
   subst e q
   exact ho
theorem Rel.put {S:q0l} (h:Rel K φ S H) {n:Nat} {a:Addr} {o:SO} {u:HO} (e:φ[n]?=some a) (m:Mono H (upd H a u)) (ho:ObjR K (upd H a u) φ o a):Rel K φ (S.set n o) (upd H a u):=by
 refine ⟨by simp [h.len],h.nd,fun i b o' q r=>?_⟩
 by_cases hi:i=n
 ·subst hi
  rw [e] at q
  cases q
  have hl:i<S.length:=by rw [←h.len]; exact (List.getElem?_eq_some_iff.mp e).1
  rw [List.getElem?_set_self hl] at r
  cases r
  exact ho
 ·rw [List.getElem?_set_ne (fun z=>hi z.symm)] at r
  have hb:b≠a:=fun z=>by
   subst z
   have h1:=List.getElem?_eq_some_iff.mp q
   have h2:=List.getElem?_eq_some_iff.mp e
   obtain ⟨l1,e1⟩:=h1
   obtain ⟨l2,e2⟩:=h2
   exact hi ((List.getElem_inj h.nd).mp (e1.trans e2.symm))
  exact (h.obj i b o' q r).mono m (List.prefix_refl _) fun u' z=>by rw [q1h hb]; exact z
theorem Mono.lst {a:Addr} {xs:List V} {u:HO} (e:H a=some (.lst xs)):Mono H (upd H a u):=
 ⟨fun b xs q=>by rw [q1h (ne_of q e (by intro z; cases z))]; exact q,fun b o w q=>by rw [q1h (ne_of q e (by intro z; cases z))]; exact q,fun b f q=>by rw [q1h (ne_of q e (by intro z; cases z))]; exact q⟩
theorem Mono.dict {a:Addr} {xs:List (Key×V)} {u:HO} (e:H a=some (.dK xs)):Mono H (upd H a u):=
 ⟨fun b xs q=>by rw [q1h (ne_of q e (by intro z; cases z))]; exact q,fun b o w q=>by rw [q1h (ne_of q e (by intro z; cases z))]; exact q,fun b f q=>by rw [q1h (ne_of q e (by intro z; cases z))]; exact q⟩
abbrev EK:=PV→q0l→Prop
structure GX where
 ek:EK
 xh:PV→Hp→Prop
structure LRel (K:PySem.W.Frag) (G:GX) (H:Hp) (φ:List Addr) (σ:Loc) (σV:St):Prop where
 len:σ.length=σV.length
 at':∀(i:Nat) (v:PV),σ[i]?=some (some v)→∃x,σV[i]?=some (some x)∧RV K H φ v x
 kx:∀v S' φ' H',G.ek v S'→φ <+: φ'→Mono H H'→Rel K φ' S' H'→G.xh v H'
theorem LRel.mono {G:GX} (m:Mono H H') (p:φ <+: φ') {σ:Loc} {σV:St} (h:LRel K G H φ σ σV):LRel K G H' φ' σ σV:=
 ⟨h.len,fun i v e=>let ⟨x,a,b⟩:=h.at' i v e; ⟨x,a,RV.mono m p _ _ b⟩,fun v S1 φ1 H1 g p1 m1 r=>h.kx v S1 φ1 H1 g (p.trans p1) (m.trans m1) r⟩
theorem LRel.set {G:GX} {σ:Loc} {σV:St} (h:LRel K G H φ σ σV) (i:Nat) {v:PV} {x:V} (r:RV K H φ v x):LRel K G H φ (σ.set i (some v)) (σV.set i (some x)):=by
 refine ⟨by simp [h.len],fun j u e=>?_,h.kx⟩
 by_cases hj:j=i
 ·subst hj
  have hl:j<σ.length:=by
   have:=(List.getElem?_eq_some_iff.mp e).1
   simpa using this
  rw [List.getElem?_set_self hl] at e
  cases e
  exact ⟨x,List.getElem?_set_self (by rw [←h.len]; exact hl),r⟩
 ·rw [List.getElem?_set_ne (fun z=>hj z.symm)] at e
  rw [List.getElem?_set_ne (fun z=>hj z.symm)]
  exact h.at' j u e
end
end Ev
namespace Ev
open PySem L2
abbrev VC:=PV→q0l→Prop
abbrev WE:=Loc→q0l→EK→VC→Prop
abbrev WT:=Loc→q0l→EK→(Bool→q0l→Prop)→Prop
abbrev WA:=Loc→q0l→EK→(List PV→q0l→Prop)→Prop
def KE (K:PySem.W.Frag) (φ:List Addr) (H:Hp) (Q0:VC) (Q:VK):Prop:=∀v S' φ' H' x,Q0 v S'→φ <+: φ'→Mono H H'→Rel K φ' S' H'→RV K H' φ' v x→Q x H'
def KB (K:PySem.W.Frag) (φ:List Addr) (H:Hp) (Q0:Bool→q0l→Prop) (Q:Bool→Hp→Prop):Prop:=∀v S' φ' H',Q0 v S'→φ <+: φ'→Mono H H'→Rel K φ' S' H'→Q v H'
def KL (K:PySem.W.Frag) (φ:List Addr) (H:Hp) (Q0:List PV→q0l→Prop) (Q:List V→Hp→Prop):Prop:=∀v S' φ' H' x,Q0 v S'→φ <+: φ'→Mono H H'→Rel K φ' S' H'→RVs K H' φ' v x→Q x H'
theorem KE.up {K:PySem.W.Frag} {φ φ1:List Addr} {H H1:Hp} {Q0:VC} {Q:VK} (k:KE K φ H Q0 Q) (p:φ <+: φ1) (m:Mono H H1):KE K φ1 H1 Q0 Q:=fun v S' φ' H' x q p' m'=>k v S' φ' H' x q (p.trans p') (m.trans m')
theorem KB.up {K:PySem.W.Frag} {φ φ1:List Addr} {H H1:Hp} {Q0:Bool→q0l→Prop} {Q:Bool→Hp→Prop} (k:KB K φ H Q0 Q) (p:φ <+: φ1) (m:Mono H H1):KB K φ1 H1 Q0 Q:=fun v S' φ' H' q p' m'=>k v S' φ' H' q (p.trans p') (m.trans m')
theorem KL.up {K:PySem.W.Frag} {φ φ1:List Addr} {H H1:Hp} {Q0:List PV→q0l→Prop} {Q:List V→Hp→Prop} (k:KL K φ H Q0 Q) (p:φ <+: φ1) (m:Mono H H1):KL K φ1 H1 Q0 Q:=fun v S' φ' H' x q p' m'=>k v S' φ' H' x q (p.trans p') (m.trans m')
def z0n (K:PySem.W.Frag) (G:GX) (w:WE):TE:=fun σV H Q=>∃φ σ S Q0,LRel K G H φ σ σV∧Rel K φ S H∧w σ S G.ek Q0∧KE K φ H Q0 Q
def liftT (K:PySem.W.Frag) (G:GX) (w:WT):TT:=fun σV H Q=>∃φ σ S Q0,LRel K G H φ σ σV∧Rel K φ S H∧w σ S G.ek Q0∧KB K φ H Q0 Q
def liftA (K:PySem.W.Frag) (G:GX) (w:WA):TA:=fun σV H Q=>∃φ σ S Q0,LRel K G H φ σ σV∧Rel K φ S H∧w σ S G.ek Q0∧KL K φ H Q0 Q
def SimE (X:Cx) (G:GX) (e:Expr) (w:WE):Prop:=PE X e (z0n X.K G w)
def SimT (X:Cx) (G:GX) (e:Expr) (w:WT):Prop:=PT X e (liftT X.K G w)
def SimW (X:Cx) (G:GX) (e:Expr) (w:WT):Prop:=PW X e (liftT X.K G w)
def SimA (X:Cx) (G:GX) (es:List Expr) (w:WA):Prop:=PA X es (liftA X.K G w)
theorem _root_.L2.PE.imp {X:Cx} {e:Expr} {t t':TE} (h:PE X e t) (i:∀σ H Q,t' σ H Q→t σ H Q):PE X e t':=fun pins s σ H Q I q=>h pins s σ H Q I (i σ H Q q)
theorem _root_.L2.PT.imp {X:Cx} {e:Expr} {t t':TT} (h:PT X e t) (i:∀σ H Q,t' σ H Q→t σ H Q):PT X e t':=fun pins s σ H Q I q=>h pins s σ H Q I (i σ H Q q)
theorem _root_.L2.PW.imp {X:Cx} {e:Expr} {t t':TT} (h:PW X e t) (i:∀σ H Q,t' σ H Q→t σ H Q):PW X e t':=fun wh pins s σ H Q I q=>h wh pins s σ H Q I (i σ H Q q)
theorem _root_.L2.PA.imp {X:Cx} {e:List Expr} {t t':TA} (h:PA X e t) (i:∀σ H Q,t' σ H Q→t σ H Q):PA X e t':=fun pos pins s σ H Q I q=>h pos pins s σ H Q I (i σ H Q q)
def wVar (i:Nat):WE:=fun σ S _ Q=>match σ[i]? with
 | some (some v)=>Q v S
 | _=>False
def wC (v:PV):WE:=fun _ S _ Q=>Q v S
section
variable {X:Cx} {G:GX} {pos:Pos}
theorem q0b (i:Nat) {x:Str} (hN:X.N[i]?=some x:=by rfl) (hv:Vis X.env.scope x:=by first | exact Or.inl rfl | exact Or.inr (Or.inl rfl) | exact Or.inr (Or.inr rfl)) (hd:(x == ("__debug__" : Str))=false:=by decide) (hcd:(x == ("__classdict__" : Str))=false:=by decide) :
  SimE X G (.Name x pos) (wVar i):=by
 refine (pe_var (i:=i) hN hv hd hcd).imp fun σV H Q hh1=>?_
 obtain ⟨φ,σ,S,Q0,L,R,h,k⟩:=hh1
 unfold wVar at h
 split at h
 ·rename_i v e
  obtain ⟨x,e',r⟩:=L.at' i v e
  exact ⟨x,e',k v S φ H x h (List.prefix_refl _) (.refl _) R r⟩
 ·exact h.elim
theorem z1c {e:Expr} {v:V} (p:PV) (h:PE X e (tC v)) (r:∀H φ,RV X.K H φ p v):SimE X G e (wC p):=
 h.imp fun σV H Q hh1=>by obtain ⟨φ,σ,S,Q0,L,R,h,k⟩:=hh1; exact (k p S φ H v h (List.prefix_refl _) (.refl _) R (r H φ))
theorem q0e {i j}:SimE X G (.Constant (.int i) j pos) (wC (.int i)):=z1c _ pe_int fun _ _=>rfl
theorem q7n {i j}:SimE X G (.Constant (.bool i) j pos) (wC (.bl i)):=z1c _ pe_bl fun _ _=>rfl
theorem q0m {i j}:SimE X G (.Constant (.str i) j pos) (wC (.str i)):=z1c _ pe_str fun _ _=>rfl
theorem z1b {j}:SimE X G (.Constant .none j pos) (wC .non):=z1c _ pe_non fun _ _=>rfl
structure GlobV (K:PySem.W.Frag) (mg:Str→Option Value) (x:Str) (p:PV):Prop where
 is:∃u v,mg x=some u∧RelV v u∧∀H φ,RV K H φ p v
theorem q7h {x:Str} {T:String} (hm:X.mg x=none) (hb:bootBuiltins x=some (.type T)) (hg:Gl X x:=by rfl) (hn:x≠ "__name__" :=by decide) (hd:(x == ("__debug__" : Str))=false:=by decide):SimE X G (.Name x pos) (wC (.ty T)):=
 z1c (v:=.ty T) _ (pe_bltn hg hm hb rfl hn hd) fun _ _=>rfl
end
abbrev F2:=PV→PV→q0l→VC→Prop
def wBin (f:F2) (wa wb:WE):WE:=fun σ S E Q=>wa σ S E fun x S1=>wb σ S1 E fun y S2=>f x y S2 Q
def q7f (K:PySem.W.Frag) (f:F2):R2:=fun x' y' H Q=>∃φ S x y Q0,Rel K φ S H∧RV K H φ x x'∧RV K H φ y y'∧f x y S Q0∧KE K φ H Q0 Q
section
variable {X:Cx} {G:GX} {pos:Pos} {a b:Expr} {wa wb:WE} {f:F2}
theorem z0x {σV:St} {H:Hp} {Q:VK} (h:z0n X.K G (wBin f wa wb) σV H Q):tOp (q7f X.K f) (z0n X.K G wa) (z0n X.K G wb) σV H Q:=by
 obtain ⟨φ,σ,S,Q0,L,R,h,k⟩:=h
 refine ⟨φ,σ,S,_,L,R,h,fun v S1 φ1 H1 x q p1 m1 R1 r1=>?_⟩
 refine ⟨φ1,σ,S1,_,L.mono m1 p1,R1,q,fun u S2 φ2 H2 y q2 p2 m2 R2 r2=>?_⟩
 exact ⟨φ2,S2,v,u,Q0,R2,RV.mono m2 p2 _ _ r1,r2,q2,k.up (p1.trans p2) (m1.trans m2)⟩
theorem q0n {op:Operator} (ho:OpR X (binaryOp op) (q7f X.K f)) (ha:SimE X G a wa) (hb:SimE X G b wb):SimE X G (.BinOp a op b pos) (wBin f wa wb):=(pe_op ho ha hb).imp fun _ _ _ h=>z0x h
theorem q5o {op:CmpOp} (ho:OpR X (compareOp op) (q7f X.K f)) (ha:SimE X G a wa) (hb:SimE X G b wb) (hm:behindInMarks op b=false):SimE X G (.Compare a [op] [b] pos) (wBin f wa wb):=(pe_cmpR ho ha hb hm).imp fun _ _ _ h=>z0x h
def q1b (w:WE):WT:=fun σ S E Q=>w σ S E fun x S1=>match x with
 | .bl c=>Q c S1
 | _=>False
theorem lift_test {w:WE} {t:TE} (i:∀σ H Q,z0n X.K G w σ H Q→t σ H Q) {σV:St} {H:Hp} {Q:Bool→Hp→Prop} (h:liftT X.K G (q1b w) σV H Q):tTest t σV H Q:=by
 obtain ⟨φ,σ,S,Q0,L,R,h,k⟩:=h
 refine i _ _ _ ⟨φ,σ,S,_,L,R,h,fun v S1 φ1 H1 x q p1 m1 R1 r1=>?_⟩
 cases v with
 | bl c=>exact ⟨c,r1,k c S1 φ1 H1 q p1 m1 R1⟩
 | _=>exact q.elim
theorem q0o {op:CmpOp} (ho:OpR X (compareOp op) (q7f X.K f)) (ha:SimE X G a wa) (hb:SimE X G b wb) (hm:behindInMarks op b=false):SimT X G (.Compare a [op] [b] pos) (q1b (wBin f wa wb)):=
 (pt_cmpR ho ha hb hm).imp fun _ _ _ h=>lift_test (fun _ _ _ h=>z0x h) h
end
def truK (x:PV) (S:q0l) (Q:Bool→q0l→Prop):Prop:=match x with
 | .non=>Q false S
 | .bl b=>Q b S
 | .int i=>Q (i != 0) S
 | .str y=>y.length≤sizeLine∧Q (!decide (y.length=0)) S
 | .tup xs=>Q (!xs.isEmpty) S
 | .frl xs=>Q (!xs.isEmpty) S
 | .ref n=>match S[n]? with
  | some (.lst xs)=>Q (!xs.isEmpty) S
  | some (.dK xs)=>Q (!xs.isEmpty) S
  | _=>False
 | .ty _=>False
 | .exc _=>False
def wTru (w:WE):WT:=fun σ S E Q=>w σ S E fun x S1=>truK x S1 Q
theorem emp_of {K:PySem.W.Frag} {H:Hp} {φ:List Addr} {xs:List PV} {vs:List V} (r:RVs K H φ xs vs):(!xs.isEmpty)=!vs.isEmpty:=by
 have:=r.length
 cases xs<;>cases vs<;>simp_all
theorem tru_rel {K:PySem.W.Frag} {H:Hp} {φ:List Addr} {S:q0l} {x:PV} {x':V} {Q0:Bool→q0l→Prop} {Q:Bool→Hp→Prop} (R:Rel K φ S H) (r:RV K H φ x x') (h:truK x S Q0) (k:∀b,Q0 b S→Q b H):∃b,TruV K x' H b∧Q b H:=by
 unfold truK at h
 cases x with
 | non=>cases r; exact ⟨false,rfl,k _ h⟩
 | bl b=>cases r; exact ⟨b,rfl,k _ h⟩
 | int i=>cases r; exact ⟨_,rfl,k _ h⟩
 | str y=>
  cases r
  obtain ⟨hz,h⟩:=h
  refine ⟨!decide (y.length=0),⟨hz,?_⟩,k _ h⟩
  by_cases e:y.length=0
  ·rw [e]; rfl
  ·rw [decide_eq_false e]
   symm
   simp only [bne_iff_ne,Bool.not_false]
   intro z
   exact e (by exact_mod_cast z)
 | tup xs=>
  obtain ⟨a,vs,rfl,s,rs⟩:=r
  exact ⟨_,.inr (.inl ⟨vs,s,rfl⟩),k _ (by rw [←emp_of rs]; exact h)⟩
 | frl xs=>
  obtain ⟨a,vs,rfl,s,rs⟩:=r
  exact ⟨_,.inl ⟨vs,s.sq,rfl⟩,k _ (by rw [←emp_of rs]; exact h)⟩
 | ref n=>
  obtain ⟨a,rfl,e⟩:=r
  dsimp only at h
  split at h
  ·rename_i xs es
   obtain ⟨vs,e1,rs⟩:=R.obj n a _ e es
   exact ⟨_,.inl ⟨vs,SqL.of e1,rfl⟩,k _ (by rw [←emp_of rs]; exact h)⟩
  ·rename_i xs es
   obtain ⟨vs,e1,rs⟩:=R.obj n a _ e es
   have:(!xs.isEmpty)=!vs.isEmpty:=by cases rs<;>rfl
   exact ⟨_,.inr (.inr ⟨vs,e1,rfl⟩),k _ (by rw [←this]; exact h)⟩
  ·exact h.elim
 | ty n=>exact h.elim
 | exc c=>exact h.elim
section
variable {X:Cx} {G:GX} {pos:Pos} {a b c:Expr} {wa wb:WE} {ta tb:WT} {rest:List Expr}
theorem q1y (ha:SimE X G a wa) (he:∀whole,isTrue a X.env whole=(do let v ←whole; standAt a.pos; holding [v] (truthy v)):=by intro _; rfl):SimT X G a (wTru wa):=
 (pt_truth ha he).imp fun σV H Q hh1=>by obtain ⟨φ,σ,S,Q0,L,R,h,k⟩:=hh1; exact (⟨φ,σ,S,_,L,R,h,fun v S1 φ1 H1 x q p1 m1 R1 r1=>tru_rel R1 r1 q fun b q=>k b S1 φ1 H1 q p1 m1 R1⟩)
def wAnd (ta tb:WT):WT:=fun σ S E Q=>ta σ S E fun c S1=>if c=true then tb σ S1 E Q else Q false S1
def wOr (ta tb:WT):WT:=fun σ S E Q=>ta σ S E fun c S1=>if c=true then Q true S1 else tb σ S1 E Q
def wNot (ta:WT):WT:=fun σ S E Q=>ta σ S E fun c S1=>Q (!c) S1
theorem SimW.t {e:Expr} {w:WT} (h:SimW X G e w):SimT X G e w:=h _
theorem q3v (ha:SimT X G a ta):SimW X G (.BoolOp .And [a] pos) ta:=pw_and1 ha
theorem q4w (ha:SimT X G a ta):SimW X G (.BoolOp .Or [a] pos) ta:=pw_or1 ha
theorem q3y (ha:SimT X G a ta) (hb:SimW X G (.BoolOp .And (b::rest) pos) tb):SimW X G (.BoolOp .And (a::b::rest) pos) (wAnd ta tb):=
 (pw_and ha hb).imp fun σV H Q hh1=>by obtain ⟨φ,σ,S,Q0,L,R,h,k⟩:=hh1; exact (⟨φ,σ,S,_,L,R,h,fun c S1 φ1 H1 q p1 m1 R1=>by
  cases c with
  | true=>exact ⟨φ1,σ,S1,_,L.mono m1 p1,R1,q,k.up p1 m1⟩
  | false=>exact k false S1 φ1 H1 q p1 m1 R1⟩)
theorem q4v (ha:SimT X G a ta) (hb:SimW X G (.BoolOp .Or (b::rest) pos) tb):SimW X G (.BoolOp .Or (a::b::rest) pos) (wOr ta tb):=
 (pw_or ha hb).imp fun σV H Q hh1=>by obtain ⟨φ,σ,S,Q0,L,R,h,k⟩:=hh1; exact (⟨φ,σ,S,_,L,R,h,fun c S1 φ1 H1 q p1 m1 R1=>by
  cases c with
  | false=>exact ⟨φ1,σ,S1,_,L.mono m1 p1,R1,q,k.up p1 m1⟩
  | true=>exact k true S1 φ1 H1 q p1 m1 R1⟩)
theorem q4x (ha:SimT X G a ta):SimT X G (.UnaryOp .Not a pos) (wNot ta):=
 (pt_not ha).imp fun σV H Q hh1=>by obtain ⟨φ,σ,S,Q0,L,R,h,k⟩:=hh1; exact (⟨φ,σ,S,_,L,R,h,fun c S1 φ1 H1 q p1 m1 R1=>k (!c) S1 φ1 H1 q p1 m1 R1⟩)
def wAndV (wa wb:WE):WE:=fun σ S E Q=>wa σ S E fun x S1=>match x with
 | .bl c=>if c=true then wb σ S1 E Q else Q (.bl false) S1
 | _=>False
def wNotV (wa:WE):WE:=fun σ S E Q=>wa σ S E fun x S1=>match x with
 | .bl c=>Q (.bl (!c)) S1
 | _=>False
theorem q9w {op} (h:SimE X G a wa):SimE X G (.BoolOp op [a] pos) wa:=pe_one h
theorem q8p (ha:SimE X G a wa) (hb:SimE X G (.BoolOp .And (b::rest) pos) wb):SimE X G (.BoolOp .And (a::b::rest) pos) (wAndV wa wb):=
 (pe_and ha hb).imp fun σV H Q hh1=>by obtain ⟨φ,σ,S,Q0,L,R,h,k⟩:=hh1; exact (⟨φ,σ,S,_,L,R,h,fun v S1 φ1 H1 x q p1 m1 R1 r1=>by
  cases v with
  | bl c=>
   refine ⟨c,r1,?_⟩
   cases c with
   | true=>exact ⟨φ1,σ,S1,_,L.mono m1 p1,R1,q,k.up p1 m1⟩
   | false=>exact k _ S1 φ1 H1 _ q p1 m1 R1 rfl
  | _=>exact q.elim⟩)
theorem sim_not (ha:SimE X G a wa):SimE X G (.UnaryOp .Not a pos) (wNotV wa):=
 (pe_not ha).imp fun σV H Q hh1=>by obtain ⟨φ,σ,S,Q0,L,R,h,k⟩:=hh1; exact (⟨φ,σ,S,_,L,R,h,fun v S1 φ1 H1 x q p1 m1 R1 r1=>by
  cases v with
  | bl c=>exact ⟨c,r1,k _ S1 φ1 H1 _ q p1 m1 R1 rfl⟩
  | _=>exact q.elim⟩)
def wIf (t:WT) (wa wb:WE):WE:=fun σ S E Q=>t σ S E fun c S1=>if c=true then wa σ S1 E Q else wb σ S1 E Q
theorem sim_ifExp (hc:SimT X G c ta) (ha:SimE X G a wa) (hb:SimE X G b wb):SimE X G (.IfExp c a b pos) (wIf ta wa wb):=
 (pe_ifExp hc ha hb).imp fun σV H Q hh1=>by obtain ⟨φ,σ,S,Q0,L,R,h,k⟩:=hh1; exact (⟨φ,σ,S,_,L,R,h,fun c S1 φ1 H1 q p1 m1 R1=>by
  cases c with
  | true=>exact ⟨φ1,σ,S1,_,L.mono m1 p1,R1,q,k.up p1 m1⟩
  | false=>exact ⟨φ1,σ,S1,_,L.mono m1 p1,R1,q,k.up p1 m1⟩⟩)
def wNeg (wa:WE):WE:=fun σ S E Q=>wa σ S E fun x S1=>match x with
 | .int i=>Q (.int (-i)) S1
 | _=>False
theorem q6v (ha:SimE X G a wa):SimE X G (.UnaryOp .USub a pos) (wNeg wa):=
 (pe_un un_neg ha).imp fun σV H Q hh1=>by obtain ⟨φ,σ,S,Q0,L,R,h,k⟩:=hh1; exact (⟨φ,σ,S,_,L,R,h,fun v S1 φ1 H1 x q p1 m1 R1 r1=>by
  cases v with
  | int c=>exact ⟨c,r1,k _ S1 φ1 H1 _ q p1 m1 R1 rfl⟩
  | _=>exact q.elim⟩)
def wNil:WA:=fun _ S _ Q=>Q [] S
def q0d (wa:WE) (wr:WA):WA:=fun σ S E Q=>wa σ S E fun x S1=>wr σ S1 E fun xs S2=>Q (x::xs) S2
theorem q0c:SimA X G [] wNil:=pa_nil.imp fun σV H Q hh1=>by obtain ⟨φ,σ,S,Q0,L,R,h,k⟩:=hh1; exact (k [] S φ H [] h (List.prefix_refl _) (.refl _) R rfl)
theorem q0a {e:Expr} {es:List Expr} {we:WE} {wr:WA} (ha:SimE X G e we) (hr:SimA X G es wr) (hs:starEach (e::es) X.env=(false,eval e X.env)::starEach es X.env:=by rfl):SimA X G (e::es) (q0d we wr):=
 (pa_cons ha hr hs).imp fun σV H Q hh1=>by obtain ⟨φ,σ,S,Q0,L,R,h,k⟩:=hh1; exact (⟨φ,σ,S,_,L,R,h,fun v S1 φ1 H1 x q p1 m1 R1 r1=>
  ⟨φ1,σ,S1,_,L.mono m1 p1,R1,q,fun vs S2 φ2 H2 xs q2 p2 m2 R2 r2=>k (v::vs) S2 φ2 H2 (x::xs) q2 (p1.trans p2) (m1.trans m2) R2 (.cons (RV.mono m2 p2 _ _ r1) r2)⟩⟩)
def wTup (w:WA):WE:=fun σ S E Q=>w σ S E fun xs S1=>xs.length≤sizeLine∧Q (.tup xs) S1
def wLst (w:WA):WE:=fun σ S E Q=>w σ S E fun xs S1=>xs.length≤sizeLine∧Q (.ref S1.length) (S1++[.lst xs])
variable {es:List Expr} {w:WA}
theorem KE.tup {K:PySem.W.Frag} {φ:List Addr} {H:Hp} {Q0:VC} {Q:VK} {S:q0l} {xs:List PV} {vs:List V} (k:KE K φ H Q0 Q) (q:Q0 (.tup xs) S) (R:Rel K φ S H) (r:RVs K H φ xs vs):∀p,H p=none→Q (.ref p) (upd H p (.tup vs)):=fun p hp=>
 k _ S φ _ _ q (List.prefix_refl _) (.new _ hp) (R.frame _ hp) ⟨p,vs,rfl,SqT.of q3p,RVs.mono (.new _ hp) (List.prefix_refl _) _ _ r⟩
theorem KE.lst {K:PySem.W.Frag} {φ:List Addr} {H:Hp} {Q0:VC} {Q:VK} {S:q0l} {xs:List PV} {vs:List V} (k:KE K φ H Q0 Q) (q:Q0 (.ref S.length) (S++[.lst xs])) (R:Rel K φ S H) (r:RVs K H φ xs vs):∀p,H p=none→Q (.ref p) (upd H p (.lst vs)):=fun p hp=>
 k _ (S++[.lst xs]) (φ++[p]) _ _ q (List.prefix_append _ _) (.new _ hp) (R.new (o:=.lst xs) hp ⟨vs,q3p,RVs.mono (.new _ hp) (List.prefix_append _ _) _ _ r⟩) (show RV K _ _ (.ref S.length) _ from ⟨p,rfl,by rw [←R.len]; simp⟩)
theorem q0x {x1} (h:SimA X G es w):SimE X G (.Tuple es x1 pos) (wTup w):=
 (pe_tup h).imp fun σV H Q hh1=>by obtain ⟨φ,σ,S,Q0,L,R,h,k⟩:=hh1; exact (⟨φ,σ,S,_,L,R,h,fun vs S1 φ1 H1 xs hh2 p1 m1 R1 r1=>by obtain ⟨hz,q⟩:=hh2; exact (⟨by rw [←r1.length]; exact hz,(k.up p1 m1).tup q R1 r1⟩)⟩)
theorem q1p (h:SimA X G es w):SimE X G (.List es pos) (wLst w):=
 (pe_lst h).imp fun σV H Q hh1=>by obtain ⟨φ,σ,S,Q0,L,R,h,k⟩:=hh1; exact (⟨φ,σ,S,_,L,R,h,fun vs S1 φ1 H1 xs hh2 p1 m1 R1 r1=>by obtain ⟨hz,q⟩:=hh2; exact (⟨by rw [←r1.length]; exact hz,(k.up p1 m1).lst q R1 r1⟩)⟩)
end
end Ev
namespace Ev
open PySem L2
def q7r (S:q0l) (n:Nat):Option (List PV):=match S[n]? with
 | some (.lst xs)=>some xs
 | _=>none
def q4s (S:q0l) (n:Nat):Option (List PV):=match S[n]? with
 | some (.lst xs)=>some xs
 | _=>none
section
variable {K:PySem.W.Frag} {H:Hp} {φ:List Addr} {S:q0l}
theorem lstOf_get {n:Nat} {xs:List PV} (e:q7r S n=some xs):S[n]?=some (.lst xs):=by
 unfold q7r at e
 split at e
 ·cases e; assumption
 ·cases e
theorem Rel.lst (R:Rel K φ S H) {n:Nat} {a:Addr} {xs:List PV} (q:φ[n]?=some a) (e:q7r S n=some xs):∃vs,H a=some (.lst vs)∧RVs K H φ xs vs:=R.obj n a _ q (lstOf_get e)
theorem Rel.seq (R:Rel K φ S H) {n:Nat} {a:Addr} {xs:List PV} (q:φ[n]?=some a) (e:q4s S n=some xs):∃vs,SqL K H a vs∧RVs K H φ xs vs:=by
 unfold q4s at e
 split at e
 ·rename_i ys es
  cases e
  obtain ⟨vs,e1,r⟩:=R.obj n a _ q es
  exact ⟨vs,SqL.of e1,r⟩
 ·cases e
end
def bAdd:F2:=fun x y S Q=>match x,y with
 | .int i,.int j=>Q (.int (i+j)) S
 | .str a,.str b=>a.length+b.length≤sizeLine∧Q (.str (a++b)) S
 | .tup xs,.tup ys=>xs.length+ys.length≤sizeLine∧Q (.tup (xs++ys)) S
 | .ref m,.ref n=>match q7r S m,q7r S n with
  | some xs,some ys=>xs.length+ys.length≤sizeLine∧Q (.ref S.length) (S++[.lst (xs++ys)])
  | _,_=>False
 | _,_=>False
def bI (C:Int→Int→Prop) (g:Int→Int→PV):F2:=fun x y S Q=>match x,y with
 | .int i,.int j=>C i j∧Q (g i j) S
 | _,_=>False
def bSub:F2:=bI (fun _ _=>True) fun i j=>.int (i - j)
def q5s:F2:=bI (fun _ j=>0<j∧j<2 ^ 100) fun i j=>.int (i / j)
def bMod:F2:=bI (fun _ j=>0<j) fun i j=>.int (i % j)
def bPow:F2:=bI CPow fun i j=>.int (i ^ j.toNat)
def cLt:F2:=bI (fun _ _=>True) fun i j=>.bl (decide (i<j))
def cGt:F2:=bI (fun _ _=>True) fun i j=>.bl (decide (j<i))
def cGe:F2:=bI (fun _ _=>True) fun i j=>.bl (decide (j≤i))
def bMul:F2:=fun x y S Q=>match x,y with
 | .int i,.int j=>CMul i j∧Q (.int (i*j)) S
 | .ref m,.int k=>match q7r S m with
  | some xs=>(-(2 ^ 63)≤k∧k<2 ^ 63∧xs.length*k.toNat≤sizeLine)∧Q (.ref S.length) (S++[.lst (List.replicate k.toNat xs).flatten])
  | none=>False
 | _,_=>False
section
variable {X:Cx}
theorem ops_I {f:Value→Value→Sem Value} {C D:Int→Int→Prop} {g:Int→Int→PV} {gV:Int→Int→V} (ho:OpR X f (rI D gV)) (hd:∀i j,C i j→D i j) (hg:∀i j H φ,RV X.K H φ (g i j) (gV i j)):OpR X f (q7f X.K (bI C g)):=by
 rintro pins s σ H x y v u Q I rx ry ⟨φ,S,px,py,Q0,R,hx,hy,h,k⟩
 unfold bI at h
 split at h
 ·rename_i i j
  exact ho pins s σ H x y v u Q I rx ry ⟨i,j,hx,hy,hd i j h.1,k _ S φ H _ h.2 (List.prefix_refl _) (.refl _) R (hg i j H φ)⟩
 ·exact h.elim
theorem OpR.of0 {f:Value→Value→Sem Value} {gV:Int→Int→V} (ho:OpR X f (rI0 gV)):OpR X f (rI (fun _ _=>True) gV):=fun pins s σ H x y v u Q I rx ry hh1=>by obtain ⟨i,j,a,b,_,q⟩:=hh1; exact (ho pins s σ H x y v u Q I rx ry ⟨i,j,a,b,q⟩)
theorem q3f:OpR X (binaryOp .Sub) (q7f X.K bSub):=ops_I (OpR.of0 op_sub) (fun _ _ h=>h) fun _ _ _ _=>rfl
theorem q3r:OpR X (binaryOp .FloorDiv) (q7f X.K q5s):=ops_I op_fdivB (fun _ _ h=>h) fun _ _ _ _=>rfl
theorem q2o:OpR X (binaryOp .Mod) (q7f X.K bMod):=ops_I op_mod (fun _ _ h=>h) fun _ _ _ _=>rfl
theorem ops_pow:OpR X (binaryOp .Pow) (q7f X.K bPow):=ops_I op_pow (fun _ _ h=>h) fun _ _ _ _=>rfl
theorem z0d:OpR X (compareOp .Lt) (q7f X.K cLt):=ops_I (OpR.of0 op_lt) (fun _ _ h=>h) fun _ _ _ _=>rfl
theorem q9m:OpR X (compareOp .Gt) (q7f X.K cGt):=ops_I (OpR.of0 op_gt) (fun _ _ h=>h) fun _ _ _ _=>rfl
theorem ops_ge:OpR X (compareOp .GtE) (q7f X.K cGe):=ops_I (OpR.of0 op_ge) (fun _ _ h=>h) fun _ _ _ _=>rfl
theorem ops_mul:OpR X (binaryOp .Mult) (q7f X.K bMul):=by
 rintro pins s σ H x y v u Q I rx ry ⟨φ,S,px,py,Q0,R,hx,hy,h,k⟩
 unfold bMul at h
 split at h
 ·rename_i i j
  exact op_mul pins s σ H x y v u Q I rx ry ⟨i,j,hx,hy,h.1,k _ S φ H _ h.2 (List.prefix_refl _) (.refl _) R rfl⟩
 ·rename_i m kk
  split at h
  ·rename_i xs e
   obtain ⟨a,rfl,qa⟩:=hx
   cases hy
   obtain ⟨vs,ea,r⟩:=R.lst qa e
   obtain ⟨⟨h1,h2,h3⟩,h⟩:=h
   exact op_rep pins s σ H _ _ v u Q I rx ry ⟨a,kk,vs,rfl,rfl,ea,h1,h2,by rw [←r.length]; exact h3,k.lst h R (r.rep _)⟩
  ·exact h.elim
 ·exact h.elim
theorem q1l:OpR X (binaryOp .Add) (q7f X.K bAdd):=by
 rintro pins s σ H x y v u Q I rx ry ⟨φ,S,px,py,Q0,R,hx,hy,h,k⟩
 unfold bAdd at h
 split at h
 ·rename_i i j
  exact op_add pins s σ H x y v u Q I rx ry ⟨i,j,hx,hy,k _ S φ H _ h (List.prefix_refl _) (.refl _) R rfl⟩
 ·rename_i a b
  exact op_add_str pins s σ H x y v u Q I rx ry ⟨a,b,hx,hy,h.1,k _ S φ H _ h.2 (List.prefix_refl _) (.refl _) R rfl⟩
 ·rename_i xs ys
  obtain ⟨a,vs,rfl,sa,ra⟩:=hx
  obtain ⟨b,ws,rfl,sb,rb⟩:=hy
  refine op_catT0 pins s σ H _ _ v u Q I rx ry ?_
  by_cases hv:vs=[]
  ·subst hv
   have:xs=[]:=List.length_eq_zero_iff.mp (by rw [ra.length]; rfl)
   subst this
   exact .inl ⟨a,b,ws,rfl,rfl,sa,sb,k _ S φ H _ h.2 (List.prefix_refl _) (.refl _) R ⟨b,ws,rfl,sb,rb⟩⟩
  ·refine .inr ⟨a,b,vs,ws,rfl,rfl,sa,sb,hv,by rw [←ra.length,←rb.length]; exact h.1,fun hw=>?_,fun _=>k.tup h.2 R (ra.append rb)⟩
   subst hw
   have:ys=[]:=List.length_eq_zero_iff.mp (by rw [rb.length]; rfl)
   subst this
   refine k _ S φ H _ h.2 (List.prefix_refl _) (.refl _) R ?_
   rw [List.append_nil]
   exact ⟨a,vs,rfl,sa,ra⟩
 ·rename_i m n
  split at h
  ·rename_i xs ys e1 e2
   obtain ⟨a,rfl,qa⟩:=hx
   obtain ⟨b,rfl,qb⟩:=hy
   obtain ⟨vs,ea,ra⟩:=R.lst qa e1
   obtain ⟨ws,eb,rb⟩:=R.lst qb e2
   exact op_cat pins s σ H _ _ v u Q I rx ry ⟨a,b,vs,ws,rfl,rfl,ea,eb,by rw [←ra.length,←rb.length]; exact h.1,k.lst h.2 R (ra.append rb)⟩
  ·exact h.elim
 ·exact h.elim
def bIAdd:F2:=fun x y S Q=>match x,y with
 | .int i,.int j=>Q (.int (i+j)) S
 | .str a,.str b=>a.length+b.length≤sizeLine∧Q (.str (a++b)) S
 | _,_=>False
end
mutual
def eqB:PV→PV→Bool
 | .non,y=>match y with
  | .non=>true
  | _=>false
 | .bl a,y=>match y with
  | .bl b=>a == b
  | .int b=>(if a then 1 else 0) == b
  | _=>false
 | .int a,y=>match y with
  | .bl b=>a == (if b then 1 else 0)
  | .int b=>a == b
  | _=>false
 | .str a,y=>match y with
  | .str b=>a == b
  | _=>false
 | .tup xs,y=>match y with
  | .tup ys=>eqBs xs ys
  | _=>false
 | .ty _,_=>false
 | .frl _,_=>false
 | .ref _,_=>false
 | .exc _,_=>false
def eqBs:List PV→List PV→Bool
 | [],ys=>ys.isEmpty
 | x::xs,ys=>match ys with
  | []=>false
  | y::r=>eqB x y && eqBs xs r
end
mutual
def nrf:PV→Bool
 | .ty _=>false
 | .frl _=>false
 | .ref _=>false
 | .exc _=>false
 | .tup xs=>nrfs xs
 | _=>true
def nrfs:List PV→Bool
 | []=>true
 | x::xs=>nrf x && nrfs xs
end
mutual
def dep:PV→Nat
 | .tup xs=>1+deps xs
 | _=>0
def deps:List PV→Nat
 | []=>0
 | x::xs=>max (dep x) (deps xs)
end
theorem eqBs_len:∀{xs ys:List PV},eqBs xs ys=true→xs.length=ys.length
 | [],ys,h=>by cases ys<;>simp_all [eqBs]
 | x::xs,ys,h=>by
  cases ys with
  | nil=>simp [eqBs] at h
  | cons y r=>
   simp only [eqBs,Bool.and_eq_true] at h
   simp [eqBs_len h.2]
theorem q6m:∀(xs ys:List PV),eqBs xs ys=((List.range (min xs.length ys.length)).all (fun j=>eqB (xs.getD j .non) (ys.getD j .non)) && xs.length == ys.length)
 | [],ys=>by cases ys<;>simp [eqBs]
 | x::xs,ys=>by
  cases ys with
  | nil=>simp [eqBs]
  | cons y r=>
   have e:min (x::xs).length (y::r).length=min xs.length r.length+1:=by simp only [List.length_cons]; omega
   rw [e,List.range_succ_eq_map,List.all_cons,List.all_map]
   simp only [eqBs,q6m xs r,List.length_cons,Function.comp]
   rw [Bool.and_assoc]
   congr 2
   by_cases h:xs.length=r.length
   ·simp [h]
   ·simp [h]
mutual
theorem eqB_self:∀x:PV,nrf x=true→eqB x x=true
 | .non,_=>rfl
 | .bl b,_=>by simp [eqB]
 | .int i,_=>by simp [eqB]
 | .str x,_=>by simp [eqB]
 | .tup xs,h=>by simp only [eqB]; exact eqBs_self xs (by simpa [nrf] using h)
 | .ty _,h=>by simp [nrf] at h
 | .frl _,h=>by simp [nrf] at h
 | .ref _,h=>by simp [nrf] at h
 | .exc _,h=>by simp [nrf] at h
theorem eqBs_self:∀xs:List PV,nrfs xs=true→eqBs xs xs=true
 | [],_=>rfl
 | x::xs,h=>by
  simp only [nrfs,Bool.and_eq_true] at h
  simp only [eqBs,eqB_self x h.1,eqBs_self xs h.2,Bool.and_self]
end
section
variable {X:Cx} {pins:List (Addr×Obj)} {s:Shared} {σ:St} {H:Hp} {φ:List Addr}
mutual
theorem RV.inj (I:Inv X pins σ H s):∀(x y:PV) (v:V),nrf x=true→nrf y=true→RV X.K H φ x v→RV X.K H φ y v→x=y
 | .non,y,v,_,hy,r,q=>by cases y<;>simp_all [RV,nrf]
 | .bl b,y,v,_,hy,r,q=>by cases y<;>simp_all [RV,nrf]
 | .int b,y,v,_,hy,r,q=>by cases y<;>simp_all [RV,nrf]
 | .str b,y,v,_,hy,r,q=>by cases y<;>simp_all [RV,nrf]
 | .ty _,y,v,h,hy,r,q=>by simp [nrf] at h
 | .frl _,y,v,h,hy,r,q=>by simp [nrf] at h
 | .ref _,y,v,h,hy,r,q=>by simp [nrf] at h
 | .exc _,y,v,h,hy,r,q=>by simp [nrf] at h
 | .tup xs,y,v,h,hy,r,q=>by
  obtain ⟨a,vs,rfl,sa,ra⟩:=r
  cases y with
  | tup ys=>
   obtain ⟨b,ws,e,sb,rb⟩:=q
   cases e
   have:=I.tuple_inj sa sb
   subst this
   rw [RVs.inj I xs ys vs (by simpa [nrf] using h) (by simpa [nrf] using hy) ra rb]
  | non=>cases q
  | bl _=>cases q
  | int _=>cases q
  | str _=>cases q
  | ty _=>simp [nrf] at hy
  | frl _=>simp [nrf] at hy
  | ref _=>simp [nrf] at hy
  | exc _=>simp [nrf] at hy
theorem RVs.inj (I:Inv X pins σ H s):∀(xs ys:List PV) (vs:List V),nrfs xs=true→nrfs ys=true→RVs X.K H φ xs vs→RVs X.K H φ ys vs→xs=ys
 | [],ys,vs,_,_,r,q=>by
  rw [show vs=[] from r] at q
  exact (List.length_eq_zero_iff.mp (by rw [RVs.length q]; rfl)).symm
 | x::xs,ys,vs,h,h',r,q=>by
  obtain ⟨v,ws,rfl,r1,r2⟩:=r
  cases ys with
  | nil=>cases (show v::ws=[] from q)
  | cons y ys=>
   obtain ⟨v',ws',e,q1,q2⟩:=q
   cases e
   simp only [nrfs,Bool.and_eq_true] at h h'
   rw [RV.inj I x y v h.1 h'.1 r1 q1,RVs.inj I xs ys ws h.2 h'.2 r2 q2]
end
theorem q6l (A:Around):A.in1.units=A.units+1:=rfl
theorem q5w {vs:List V} {its:List Value} (r:Vals vs its) {j:Nat} (h:j<its.toArray.size) {x:V} (e:vs[j]?=some x):RelV x its.toArray[j]:=by
 obtain ⟨u,e1,r1⟩:=r.get e
 have:its.toArray[j]=u:=by
  have h':j<its.length:=by simpa using h
  rw [List.getElem?_eq_getElem h'] at e1
  simpa using e1
 rw [this]
 exact r1
theorem q2y:∀{xs:List PV} {j:Nat} {x:PV},nrfs xs=true→xs[j]?=some x→nrf x=true
 | [],_,_,_,e=>by simp at e
 | x::xs,0,y,h,e=>by simp [nrfs] at h e; subst e; exact h.1
 | x::xs,j+1,y,h,e=>by simp [nrfs] at h e; exact q2y h.2 e
theorem q7g:∀{xs:List PV} {j:Nat} {x:PV},xs[j]?=some x→dep x≤deps xs
 | [],_,_,e=>by simp at e
 | x::xs,0,y,e=>by simp at e; subst e; simp only [deps]; omega
 | x::xs,j+1,y,e=>by simp at e; have:=q7g e; simp only [deps]; omega
theorem getD_some {xs:List PV} {j:Nat} {x:PV} (e:xs[j]?=some x):xs.getD j .non=x:=by rw [List.getD_eq_getElem?_getD,e]; rfl
theorem eqAt_P (I:Inv X pins σ H s):∀(d:Nat) (A:Around) (x y:PV) (x' y':V) (v u:Value),nrf x=true→nrf y=true→dep x≤d→A.units+d<cLine→RV X.K H φ x x'→RV X.K H φ y y'→RelV x' v→RelV y' u→SeqAt.EqAt A s v u (eqB x y):=by
 intro d
 induction d with
 | zero=>
  intro A x y x' y' v u hx hy hd hu rx ry qx qy
  cases x with
  | tup xs=>simp [dep] at hd
  | non=>
   cases rx; cases qx
   cases y with
   | non=>cases ry; cases qy; exact .same _
   | bl b=>cases ry; cases qy; exact .none_bool b
   | int b=>cases ry; obtain ⟨t,rfl⟩:=qy; exact .none_int b t
   | str b=>cases ry; obtain ⟨t,rfl⟩:=qy; exact .none_str b t
   | tup ys=>obtain ⟨b,ws,rfl,sb,rb⟩:=ry; cases qy; obtain ⟨_,_,p,_⟩:=I.tuple sb; exact .none_tuple p (by omega)
   | ty _=>simp [nrf] at hy
   | frl _=>simp [nrf] at hy
   | ref _=>simp [nrf] at hy
   | exc _=>simp [nrf] at hy
  | bl a=>
   cases rx; cases qx
   cases y with
   | non=>cases ry; cases qy; exact .bool_none a
   | bl b=>cases ry; cases qy; exact .bool_bool a b
   | int b=>cases ry; obtain ⟨t,rfl⟩:=qy; exact .bool_int a b t
   | str b=>cases ry; obtain ⟨t,rfl⟩:=qy; exact .bool_str a b t
   | tup ys=>obtain ⟨b,ws,rfl,sb,rb⟩:=ry; cases qy; obtain ⟨_,_,p,_⟩:=I.tuple sb; exact .bool_tuple a p (by omega)
   | ty _=>simp [nrf] at hy
   | frl _=>simp [nrf] at hy
   | ref _=>simp [nrf] at hy
   | exc _=>simp [nrf] at hy
  | int a=>
   cases rx; obtain ⟨t,rfl⟩:=qx
   cases y with
   | non=>cases ry; cases qy; exact .int_none a t
   | bl b=>cases ry; cases qy; exact .int_bool a t b
   | int b=>cases ry; obtain ⟨t',rfl⟩:=qy; exact .int_int a t b t'
   | str b=>cases ry; obtain ⟨t',rfl⟩:=qy; exact .int_str a t b t'
   | tup ys=>obtain ⟨b,ws,rfl,sb,rb⟩:=ry; cases qy; obtain ⟨_,_,p,_⟩:=I.tuple sb; exact .int_tuple a t p (by omega)
   | ty _=>simp [nrf] at hy
   | frl _=>simp [nrf] at hy
   | ref _=>simp [nrf] at hy
   | exc _=>simp [nrf] at hy
  | str a=>
   cases rx; obtain ⟨t,rfl⟩:=qx
   cases y with
   | non=>cases ry; cases qy; exact .str_none a t
   | bl b=>cases ry; cases qy; exact .str_bool a t b
   | int b=>cases ry; obtain ⟨t',rfl⟩:=qy; exact .str_int a t b t'
   | str b=>cases ry; obtain ⟨t',rfl⟩:=qy; exact .str_str a t b t'
   | tup ys=>obtain ⟨b,ws,rfl,sb,rb⟩:=ry; cases qy; obtain ⟨_,_,p,_⟩:=I.tuple sb; exact .str_tuple a t p (by omega)
   | ty _=>simp [nrf] at hy
   | frl _=>simp [nrf] at hy
   | ref _=>simp [nrf] at hy
   | exc _=>simp [nrf] at hy
  | ty _=>simp [nrf] at hx
  | frl _=>simp [nrf] at hx
  | ref _=>simp [nrf] at hx
  | exc _=>simp [nrf] at hx
 | succ d ih=>
  intro A x y x' y' v u hx hy hd hu rx ry qx qy
  cases x with
  | tup xs=>
   obtain ⟨a,vs,rfl,sa,ra⟩:=id rx
   cases qx
   obtain ⟨its,r1,p1,_⟩:=I.tuple sa
   cases y with
   | non=>cases ry; cases qy; exact .tuple_none p1 (by omega)
   | bl b=>cases ry; cases qy; exact .tuple_bool b p1 (by omega)
   | int b=>cases ry; obtain ⟨t,rfl⟩:=qy; exact .tuple_int b t p1 (by omega)
   | str b=>cases ry; obtain ⟨t,rfl⟩:=qy; exact .tuple_str b t p1 (by omega)
   | ty _=>simp [nrf] at hy
   | frl _=>simp [nrf] at hy
   | ref _=>simp [nrf] at hy
   | exc _=>simp [nrf] at hy
   | tup ys=>
    obtain ⟨b,ws,rfl,sb,rb⟩:=id ry
    cases qy
    obtain ⟨its2,r2,p2,_⟩:=I.tuple sb
    by_cases hab:a=b
    ·subst hab
     rw [RV.inj I _ _ _ hx hy rx ry,eqB_self _ hy]
     exact .same _
    ·refine .of_refs hab ?_
     have e:eqB (.tup xs) (.tup ys)=((List.range (min its.toArray.size its2.toArray.size)).all (fun j=>eqB (xs.getD j .non) (ys.getD j .non)) && its.toArray.size == its2.toArray.size):=by
      simp only [eqB]
      rw [q6m,List.size_toArray,List.size_toArray,←r1.length,←r2.length,ra.length,rb.length]
     rw [e]
     refine .tuples p1 p2 (by omega) fun j h1 h2=>?_
     have hj1:j<xs.length:=by rw [ra.length,r1.length]; simpa using h1
     have hj2:j<ys.length:=by rw [rb.length,r2.length]; simpa using h2
     have e1:xs[j]?=some xs[j]:=List.getElem?_eq_getElem hj1
     have e2:ys[j]?=some ys[j]:=List.getElem?_eq_getElem hj2
     obtain ⟨v1,g1,q1⟩:=ra.get e1
     obtain ⟨v2,g2,q2⟩:=rb.get e2
     rw [getD_some e1,getD_some e2]
     have hdd:=q7g e1
     simp only [dep] at hd
     exact ih A.in1 _ _ v1 v2 _ _ (q2y (by simpa [nrf] using hx) e1) (q2y (by simpa [nrf] using hy) e2) (by omega) (by rw [q6l]; omega) q1 q2 (q5w r1 h1 g1) (q5w r2 h2 g2)
  | non=>exact ih A _ _ x' y' v u hx hy (Nat.zero_le _) (by omega) rx ry qx qy
  | bl a=>exact ih A _ _ x' y' v u hx hy (Nat.zero_le _) (by omega) rx ry qx qy
  | int a=>exact ih A _ _ x' y' v u hx hy (Nat.zero_le _) (by omega) rx ry qx qy
  | str a=>exact ih A _ _ x' y' v u hx hy (Nat.zero_le _) (by omega) rx ry qx qy
  | ty _=>simp [nrf] at hx
  | frl _=>simp [nrf] at hx
  | ref _=>simp [nrf] at hx
  | exc _=>simp [nrf] at hx
end
end Ev
namespace Ev
open PySem L2
section
variable {X:Cx} {pins:List (Addr×Obj)} {s:Shared} {σ:St} {H:Hp} {φ:List Addr}
theorem rcAt_P (I:Inv X pins σ H s) (d:Nat) (A:Around) (x y:PV) (x' y':V) (v u:Value) (hx:nrf x=true) (hy:nrf y=true) (hd:∀xs ys,x=.tup xs→y=.tup ys→dep x≤d) (hu:A.units+d<cLine) (rx:RV X.K H φ x x') (ry:RV X.K H φ y y') (qx:RelV x' v) (qy:RelV y' u):SeqAt.RcAt A s v u (eqB x y):=by
 cases x with
 | non=>
  cases rx
  cases qx
  cases y with
  | non=>cases ry; cases qy; exact .none_none
  | bl b=>cases ry; cases qy; exact .none_bool b
  | int b=>cases ry; obtain ⟨t',rfl⟩:=qy; exact .none_int b t'
  | str b=>cases ry; obtain ⟨t',rfl⟩:=qy; exact .none_str b t'
  | tup ys=>obtain ⟨b,ws,rfl,sb,rb⟩:=ry; cases qy; obtain ⟨_,_,p,_⟩:=I.tuple sb; exact .none_tuple  p (by omega)
  | ty _=>simp [nrf] at hy
  | frl _=>simp [nrf] at hy
  | ref _=>simp [nrf] at hy
  | exc _=>simp [nrf] at hy
 | bl a=>
  cases rx
  cases qx
  cases y with
  | non=>cases ry; cases qy; exact .bool_none a
  | bl b=>cases ry; cases qy; exact .bool_bool a b
  | int b=>cases ry; obtain ⟨t',rfl⟩:=qy; exact .bool_int a b t'
  | str b=>cases ry; obtain ⟨t',rfl⟩:=qy; exact .bool_str a b t'
  | tup ys=>obtain ⟨b,ws,rfl,sb,rb⟩:=ry; cases qy; obtain ⟨_,_,p,_⟩:=I.tuple sb; exact .bool_tuple a p (by omega)
  | ty _=>simp [nrf] at hy
  | frl _=>simp [nrf] at hy
  | ref _=>simp [nrf] at hy
  | exc _=>simp [nrf] at hy
 | int a=>
  cases rx
  obtain ⟨t,rfl⟩:=qx
  cases y with
  | non=>cases ry; cases qy; exact .int_none a t
  | bl b=>cases ry; cases qy; exact .int_bool a t b
  | int b=>cases ry; obtain ⟨t',rfl⟩:=qy; exact .int_int a t b t'
  | str b=>cases ry; obtain ⟨t',rfl⟩:=qy; exact .int_str a t b t'
  | tup ys=>obtain ⟨b,ws,rfl,sb,rb⟩:=ry; cases qy; obtain ⟨_,_,p,_⟩:=I.tuple sb; exact .int_tuple a t p (by omega)
  | ty _=>simp [nrf] at hy
  | frl _=>simp [nrf] at hy
  | ref _=>simp [nrf] at hy
  | exc _=>simp [nrf] at hy
 | str a=>
  cases rx
  obtain ⟨t,rfl⟩:=qx
  cases y with
  | non=>cases ry; cases qy; exact .str_none a t
  | bl b=>cases ry; cases qy; exact .str_bool a t b
  | int b=>cases ry; obtain ⟨t',rfl⟩:=qy; exact .str_int a t b t'
  | str b=>cases ry; obtain ⟨t',rfl⟩:=qy; exact .str_str a t b t'
  | tup ys=>obtain ⟨b,ws,rfl,sb,rb⟩:=ry; cases qy; obtain ⟨_,_,p,_⟩:=I.tuple sb; exact .str_tuple a t p (by omega)
  | ty _=>simp [nrf] at hy
  | frl _=>simp [nrf] at hy
  | ref _=>simp [nrf] at hy
  | exc _=>simp [nrf] at hy
 | ty _=>simp [nrf] at hx
 | frl _=>simp [nrf] at hx
 | ref _=>simp [nrf] at hx
 | exc _=>simp [nrf] at hx
 | tup xs=>
  obtain ⟨a,vs,rfl,sa,ra⟩:=id rx
  cases qx
  obtain ⟨its,r1,p1,_⟩:=I.tuple sa
  cases y with
  | non=>cases ry; cases qy; exact .tuple_none p1 (by omega)
  | bl b=>cases ry; cases qy; exact .tuple_bool b p1 (by omega)
  | int b=>cases ry; obtain ⟨t,rfl⟩:=qy; exact .tuple_int b t p1 (by omega)
  | str b=>cases ry; obtain ⟨t,rfl⟩:=qy; exact .tuple_str b t p1 (by omega)
  | ty _=>simp [nrf] at hy
  | frl _=>simp [nrf] at hy
  | ref _=>simp [nrf] at hy
  | exc _=>simp [nrf] at hy
  | tup ys=>
   obtain ⟨b,ws,rfl,sb,rb⟩:=id ry
   cases qy
   obtain ⟨its2,r2,p2,_⟩:=I.tuple sb
   have e:eqB (.tup xs) (.tup ys)=((List.range (min its.toArray.size its2.toArray.size)).all (fun j=>eqB (xs.getD j .non) (ys.getD j .non)) && its.toArray.size == its2.toArray.size):=by
    simp only [eqB]
    rw [q6m,List.size_toArray,List.size_toArray,←r1.length,←r2.length,ra.length,rb.length]
   rw [e]
   have hd':=hd xs ys rfl rfl
   simp only [dep] at hd'
   refine .tuples p1 p2 (by omega) fun j h1 h2=>?_
   have hj1:j<xs.length:=by rw [ra.length,r1.length]; simpa using h1
   have hj2:j<ys.length:=by rw [rb.length,r2.length]; simpa using h2
   have e1:xs[j]?=some xs[j]:=List.getElem?_eq_getElem hj1
   have e2:ys[j]?=some ys[j]:=List.getElem?_eq_getElem hj2
   obtain ⟨v1,g1,q1⟩:=ra.get e1
   obtain ⟨v2,g2,q2⟩:=rb.get e2
   rw [getD_some e1,getD_some e2]
   have hdd:=q7g e1
   exact eqAt_P I (d - 1) A.in1 _ _ v1 v2 _ _ (q2y (by simpa [nrf] using hx) e1) (q2y (by simpa [nrf] using hy) e2) (by omega) (by rw [q6l]; omega) q1 q2 (q5w r1 h1 g1) (q5w r2 h2 g2)
theorem rcNeAt_P (I:Inv X pins σ H s) (d:Nat) (A:Around) (x y:PV) (x' y':V) (v u:Value) (hx:nrf x=true) (hy:nrf y=true) (hd:∀xs ys,x=.tup xs→y=.tup ys→dep x≤d) (hu:A.units+d<cLine) (rx:RV X.K H φ x x') (ry:RV X.K H φ y y') (qx:RelV x' v) (qy:RelV y' u):SeqAt.RcNeAt A s v u (!eqB x y):=by
 cases x with
 | non=>
  cases rx
  cases qx
  cases y with
  | non=>cases ry; cases qy; exact .none_none
  | bl b=>cases ry; cases qy; exact .none_bool b
  | int b=>cases ry; obtain ⟨t',rfl⟩:=qy; exact .none_int b t'
  | str b=>cases ry; obtain ⟨t',rfl⟩:=qy; exact .none_str b t'
  | tup ys=>obtain ⟨b,ws,rfl,sb,rb⟩:=ry; cases qy; obtain ⟨_,_,p,_⟩:=I.tuple sb; exact .none_tuple  p (by omega)
  | ty _=>simp [nrf] at hy
  | frl _=>simp [nrf] at hy
  | ref _=>simp [nrf] at hy
  | exc _=>simp [nrf] at hy
 | bl a=>
  cases rx
  cases qx
  cases y with
  | non=>cases ry; cases qy; exact .bool_none a
  | bl b=>cases ry; cases qy; exact .bool_bool a b
  | int b=>cases ry; obtain ⟨t',rfl⟩:=qy; exact .bool_int a b t'
  | str b=>cases ry; obtain ⟨t',rfl⟩:=qy; exact .bool_str a b t'
  | tup ys=>obtain ⟨b,ws,rfl,sb,rb⟩:=ry; cases qy; obtain ⟨_,_,p,_⟩:=I.tuple sb; exact .bool_tuple a p (by omega)
  | ty _=>simp [nrf] at hy
  | frl _=>simp [nrf] at hy
  | ref _=>simp [nrf] at hy
  | exc _=>simp [nrf] at hy
 | int a=>
  cases rx
  obtain ⟨t,rfl⟩:=qx
  cases y with
  | non=>cases ry; cases qy; exact .int_none a t
  | bl b=>cases ry; cases qy; exact .int_bool a t b
  | int b=>cases ry; obtain ⟨t',rfl⟩:=qy; exact .int_int a t b t'
  | str b=>cases ry; obtain ⟨t',rfl⟩:=qy; exact .int_str a t b t'
  | tup ys=>obtain ⟨b,ws,rfl,sb,rb⟩:=ry; cases qy; obtain ⟨_,_,p,_⟩:=I.tuple sb; exact .int_tuple a t p (by omega)
  | ty _=>simp [nrf] at hy
  | frl _=>simp [nrf] at hy
  | ref _=>simp [nrf] at hy
  | exc _=>simp [nrf] at hy
 | str a=>
  cases rx
  obtain ⟨t,rfl⟩:=qx
  cases y with
  | non=>cases ry; cases qy; exact .str_none a t
  | bl b=>cases ry; cases qy; exact .str_bool a t b
  | int b=>cases ry; obtain ⟨t',rfl⟩:=qy; exact .str_int a t b t'
  | str b=>cases ry; obtain ⟨t',rfl⟩:=qy; exact .str_str a t b t'
  | tup ys=>obtain ⟨b,ws,rfl,sb,rb⟩:=ry; cases qy; obtain ⟨_,_,p,_⟩:=I.tuple sb; exact .str_tuple a t p (by omega)
  | ty _=>simp [nrf] at hy
  | frl _=>simp [nrf] at hy
  | ref _=>simp [nrf] at hy
  | exc _=>simp [nrf] at hy
 | ty _=>simp [nrf] at hx
 | frl _=>simp [nrf] at hx
 | ref _=>simp [nrf] at hx
 | exc _=>simp [nrf] at hx
 | tup xs=>
  obtain ⟨a,vs,rfl,sa,ra⟩:=id rx
  cases qx
  obtain ⟨its,r1,p1,_⟩:=I.tuple sa
  cases y with
  | non=>cases ry; cases qy; exact .tuple_none p1 (by omega)
  | bl b=>cases ry; cases qy; exact .tuple_bool b p1 (by omega)
  | int b=>cases ry; obtain ⟨t,rfl⟩:=qy; exact .tuple_int b t p1 (by omega)
  | str b=>cases ry; obtain ⟨t,rfl⟩:=qy; exact .tuple_str b t p1 (by omega)
  | ty _=>simp [nrf] at hy
  | frl _=>simp [nrf] at hy
  | ref _=>simp [nrf] at hy
  | exc _=>simp [nrf] at hy
  | tup ys=>
   obtain ⟨b,ws,rfl,sb,rb⟩:=id ry
   cases qy
   obtain ⟨its2,r2,p2,_⟩:=I.tuple sb
   have e:eqB (.tup xs) (.tup ys)=((List.range (min its.toArray.size its2.toArray.size)).all (fun j=>eqB (xs.getD j .non) (ys.getD j .non)) && its.toArray.size == its2.toArray.size):=by
    simp only [eqB]
    rw [q6m,List.size_toArray,List.size_toArray,←r1.length,←r2.length,ra.length,rb.length]
   rw [e]
   have hd':=hd xs ys rfl rfl
   simp only [dep] at hd'
   refine .tuples p1 p2 (by omega) fun j h1 h2=>?_
   have hj1:j<xs.length:=by rw [ra.length,r1.length]; simpa using h1
   have hj2:j<ys.length:=by rw [rb.length,r2.length]; simpa using h2
   have e1:xs[j]?=some xs[j]:=List.getElem?_eq_getElem hj1
   have e2:ys[j]?=some ys[j]:=List.getElem?_eq_getElem hj2
   obtain ⟨v1,g1,q1⟩:=ra.get e1
   obtain ⟨v2,g2,q2⟩:=rb.get e2
   rw [getD_some e1,getD_some e2]
   have hdd:=q7g e1
   exact eqAt_P I (d - 1) A.in1 _ _ v1 v2 _ _ (q2y (by simpa [nrf] using hx) e1) (q2y (by simpa [nrf] using hy) e2) (by omega) (by rw [q6l]; omega) q1 q2 (q5w r1 h1 g1) (q5w r2 h2 g2)
theorem any_link {f:PV→Bool} {e:Value→Bool}:∀{its:List Value} {ys:List PV},its.length=ys.length→(∀(j:Nat) u y,its[j]?=some u→ys[j]?=some y→e u=f y)→its.any e=ys.any f
 | [],[],_,_=>rfl
 | u::its,y::ys,hl,he=>by
  rw [List.any_cons,List.any_cons,he 0 u y rfl rfl,any_link (by simpa using hl) fun j u y h1 h2=>he (j+1) u y (by simpa using h1) (by simpa using h2)]
 | [],_::_,hl,_=>by simp at hl
 | _::_,[],hl,_=>by simp at hl
end
def okEq (x:PV):Prop:=nrf x=true∧dep x≤190
def q8h (xs:List PV):Prop:=nrfs xs=true∧deps xs≤190
def cEqG (neg:Bool):F2:=fun x y S Q=>match x,y with
 | .tup xs,.tup ys=>(okEq (.tup xs)∧okEq (.tup ys))∧Q (.bl (neg ^^ eqBs xs ys)) S
 | .ref m,.ref n=>match q4s S m,q4s S n with
  | some xs,some ys=>(q8h xs∧q8h ys)∧Q (.bl (neg ^^ eqBs xs ys)) S
  | _,_=>False
 | .ref _,_=>False
 | _,.ref _=>False
 | x,y=>(nrf x=true∧nrf y=true)∧Q (.bl (neg ^^ eqB x y)) S
def cEq:F2:=cEqG false
def cNe:F2:=cEqG true
theorem eqBs_ne:∀{xs ys:List PV},xs.length≠ys.length→eqBs xs ys=false:=fun {xs ys} h=>by
 cases e:eqBs xs ys with
 | false=>rfl
 | true=>exact absurd (eqBs_len e) h
theorem eqBs_eq {xs ys:List PV} (h:xs.length=ys.length):eqBs xs ys=(List.range xs.length).all (fun j=>eqB (xs.getD j .non) (ys.getD j .non)):=by
 rw [q6m,←h,Nat.min_self]; simp
section
variable {X:Cx}
theorem q6a (b:Bool):(false ^^ b)=b:=by cases b<;>rfl
theorem q7j (b:Bool):(true ^^ b)=!b:=by cases b<;>rfl
theorem fin_b {pins:List (Addr×Obj)} {s:Shared} {σ:St} {H:Hp} {φ:List Addr} {S:q0l} {Q0:VC} {Q:VK} {b b':Bool} (I:Inv X pins σ H s) (k:KE X.K φ H Q0 Q) (R:Rel X.K φ S H) (q:Q0 (.bl b) S) (e:b=b'):EP X pins σ Q (.bool b') s:=by
 subst e
 exact ⟨.bl b,H,I,rfl,k _ S φ H _ q (List.prefix_refl _) (.refl _) R rfl⟩
theorem flatTup {x y:PV} (h:∀xs ys,x=.tup xs→y=.tup ys→False) (d:Nat):∀xs ys,x=.tup xs→y=.tup ys→dep x≤d:=fun xs ys a b=>(h xs ys a b).elim
theorem q1e (hu:X.A.units+200<cLine):OpR X (compareOp .Eq) (q7f X.K cEq):=by
 rintro pins s σ H x y v u Q I rx ry ⟨φ,S,px,py,Q0,R,hx,hy,h,k⟩
 unfold cEq cEqG at h
 split at h
 ·rename_i xs ys
  obtain ⟨⟨o1,o2⟩,h⟩:=h
  rw [q6a] at h
  exact rcAt_P I 190 X.A _ _ x y v u o1.1 o2.1 (fun _ _ _ _=>o1.2) (by omega) hx hy rx ry X.prog X.w X.xe _ (fin_b I k R h (by simp only [eqB]))
 ·rename_i m n
  split at h
  ·rename_i xs ys e1 e2
   obtain ⟨⟨o1,o2⟩,h⟩:=h
   rw [q6a] at h
   obtain ⟨a,rfl,qa⟩:=hx
   obtain ⟨b,rfl,qb⟩:=hy
   obtain ⟨vs,sa,ra⟩:=R.seq qa e1
   obtain ⟨ws,sb,rb⟩:=R.seq qb e2
   cases rx
   cases ry
   obtain ⟨its,r1,p1,_⟩:=I.list sa
   obtain ⟨its2,r2,p2,_⟩:=I.list sb
   by_cases hl:xs.length=ys.length
   ·rw [eqBs_eq hl] at h
    have hz:its.toArray.size=its2.toArray.size:=by rw [List.size_toArray,List.size_toArray,←r1.length,←r2.length,←ra.length,←rb.length,hl]
    refine SeqAt.eq_listAt (e:=fun j=>eqB (xs.getD j .non) (ys.getD j .non)) p1.isList p2.isList hz (by omega) (fun j h1 h2=>?_) (fin_b I k R h (by rw [List.size_toArray,←r1.length,←ra.length]))
    have hj1:j<xs.length:=by rw [ra.length,r1.length]; simpa using h1
    have hj2:j<ys.length:=by omega
    have e1:xs[j]?=some xs[j]:=List.getElem?_eq_getElem hj1
    have e2:ys[j]?=some ys[j]:=List.getElem?_eq_getElem hj2
    obtain ⟨v1,g1,q1⟩:=ra.get e1
    obtain ⟨v2,g2,q2⟩:=rb.get e2
    rw [getD_some e1,getD_some e2]
    have hdd:=q7g e1
    have:=o1.2
    exact eqAt_P I 190 X.A.in1 _ _ v1 v2 _ _ (q2y o1.1 e1) (q2y o2.1 e2) (by omega) (by rw [q6l]; omega) q1 q2 (q5w r1 h1 g1) (q5w r2 h2 g2)
   ·rw [eqBs_ne hl] at h
    have hz:(its.toArray.size != its2.toArray.size)=true:=by rw [List.size_toArray,List.size_toArray,←r1.length,←r2.length,←ra.length,←rb.length]; simpa using hl
    exact SeqAt.eq_list_lengthsAt p1.isList p2.isList hz (by omega) (fin_b I k R h rfl)
  ·exact h.elim
 ·exact h.elim
 ·exact h.elim
 ·rename_i h1 h2 h3 h4
  obtain ⟨⟨o1,o2⟩,h⟩:=h
  rw [q6a] at h
  exact rcAt_P I 0 X.A _ _ x y v u o1 o2 (flatTup (by assumption) _) (by omega) hx hy rx ry X.prog X.w X.xe _ (fin_b I k R h rfl)
theorem z1k (hu:X.A.units+200<cLine):OpR X (compareOp .NotEq) (q7f X.K cNe):=by
 rintro pins s σ H x y v u Q I rx ry ⟨φ,S,px,py,Q0,R,hx,hy,h,k⟩
 unfold cNe cEqG at h
 split at h
 ·rename_i xs ys
  obtain ⟨⟨o1,o2⟩,h⟩:=h
  rw [q7j] at h
  exact rcNeAt_P I 190 X.A _ _ x y v u o1.1 o2.1 (fun _ _ _ _=>o1.2) (by omega) hx hy rx ry X.prog X.w X.xe _ (fin_b I k R h (by simp only [eqB]))
 ·rename_i m n
  split at h
  ·rename_i xs ys e1 e2
   obtain ⟨⟨o1,o2⟩,h⟩:=h
   rw [q7j] at h
   obtain ⟨a,rfl,qa⟩:=hx
   obtain ⟨b,rfl,qb⟩:=hy
   obtain ⟨vs,sa,ra⟩:=R.seq qa e1
   obtain ⟨ws,sb,rb⟩:=R.seq qb e2
   cases rx
   cases ry
   obtain ⟨its,r1,p1,_⟩:=I.list sa
   obtain ⟨its2,r2,p2,_⟩:=I.list sb
   by_cases hl:xs.length=ys.length
   ·rw [eqBs_eq hl] at h
    have hz:its.toArray.size=its2.toArray.size:=by rw [List.size_toArray,List.size_toArray,←r1.length,←r2.length,←ra.length,←rb.length,hl]
    refine SeqAt.RcNeAt.lists (e:=fun j=>eqB (xs.getD j .non) (ys.getD j .non)) p1.isList p2.isList hz (by omega) (fun j h1 h2=>?_) X.prog X.w X.xe _ (fin_b I k R h (by rw [List.size_toArray,←r1.length,←ra.length]))
    have hj1:j<xs.length:=by rw [ra.length,r1.length]; simpa using h1
    have hj2:j<ys.length:=by omega
    have e1:xs[j]?=some xs[j]:=List.getElem?_eq_getElem hj1
    have e2:ys[j]?=some ys[j]:=List.getElem?_eq_getElem hj2
    obtain ⟨v1,g1,q1⟩:=ra.get e1
    obtain ⟨v2,g2,q2⟩:=rb.get e2
    rw [getD_some e1,getD_some e2]
    have hdd:=q7g e1
    have:=o1.2
    exact eqAt_P I 190 X.A.in1 _ _ v1 v2 _ _ (q2y o1.1 e1) (q2y o2.1 e2) (by omega) (by rw [q6l]; omega) q1 q2 (q5w r1 h1 g1) (q5w r2 h2 g2)
   ·rw [eqBs_ne hl] at h
    have hz:(its.toArray.size != its2.toArray.size)=true:=by rw [List.size_toArray,List.size_toArray,←r1.length,←r2.length,←ra.length,←rb.length]; simpa using hl
    exact SeqAt.RcNeAt.lists_lengths p1.isList p2.isList hz (by omega) X.prog X.w X.xe _ (fin_b I k R h rfl)
  ·exact h.elim
 ·exact h.elim
 ·exact h.elim
 ·rename_i h1 h2 h3 h4
  obtain ⟨⟨o1,o2⟩,h⟩:=h
  rw [q7j] at h
  exact rcNeAt_P I 0 X.A _ _ x y v u o1 o2 (flatTup (by assumption) _) (by omega) hx hy rx ry X.prog X.w X.xe _ (fin_b I k R h rfl)
def inS (i j:Str):Bool:=!(Builtin.Str.occurrences j i 0 j.length 1).isEmpty
def cInG (neg:Bool):F2:=fun x y S Q=>match x,y with
 | .str i,.str j=>Q (.bl (neg ^^ inS i j)) S
 | x,.tup ys=>(okEq x∧q8h ys)∧Q (.bl (neg ^^ ys.any fun y=>eqB y x)) S
 | x,.ref n=>match q4s S n with
  | some ys=>(okEq x∧q8h ys)∧Q (.bl (neg ^^ ys.any fun y=>eqB y x)) S
  | none=>False
 | _,_=>False
def cIn:F2:=cInG false
open Classical in
theorem in_items {pins:List (Addr×Obj)} {s:Shared} {σ:St} {H:Hp} {φ:List Addr} (hu:X.A.units+200<cLine) (I:Inv X pins σ H s) {x:PV} {x':V} {v:Value} {ys:List PV} {vs:List V} {its:List Value} (ox:okEq x) (oy:q8h ys) (rx:RV X.K H φ x x') (qx:RelV x' v) (ry:RVs X.K H φ ys vs) (r:Vals vs its) :
  ∃e:Value→Bool,(∀u,u∈its.toArray→SeqAt.EqAt X.A.in1 s u v (e u))∧its.toArray.any e=ys.any fun y=>eqB y x:=by
 have key:∀(j:Nat) u y,its[j]?=some u→ys[j]?=some y→∃y',RV X.K H φ y y'∧RelV y' u:=fun j u y h1 h2=>by
  obtain ⟨y',g,q⟩:=ry.get h2
  obtain ⟨u',g',q'⟩:=r.get g
  rw [h1] at g'
  cases g'
  exact ⟨y',q,q'⟩
 refine ⟨fun u=>decide (∃(j:Nat) (y:PV),its[j]?=some u∧ys[j]?=some y∧eqB y x=true),?_,?_⟩
 ·intro u hu'
  have hm:u∈its:=by simpa using hu'
  obtain ⟨j,hj,e⟩:=List.mem_iff_getElem.mp hm
  have hjy:j<ys.length:=by rw [ry.length,r.length]; exact hj
  have e1:its[j]?=some u:=by rw [List.getElem?_eq_getElem hj,e]
  have e2:ys[j]?=some ys[j]:=List.getElem?_eq_getElem hjy
  obtain ⟨y',q,q'⟩:=key j u _ e1 e2
  have hdd:=q7g e2
  have o2:=oy.2
  have base:=eqAt_P I 190 X.A.in1 _ x y' x' u v (q2y oy.1 e2) ox.1 (by omega) (by rw [q6l]; omega) q rx q' qx
  have:decide (∃(j:Nat) (y:PV),its[j]?=some u∧ys[j]?=some y∧eqB y x=true)=eqB ys[j] x:=by
   cases hb:eqB ys[j] x with
   | true=>exact decide_eq_true ⟨j,_,e1,e2,hb⟩
   | false=>
    refine decide_eq_false ?_
    rintro ⟨i,y,h1,h2,h3⟩
    obtain ⟨y2,g,g'⟩:=key i u y h1 h2
    have:=g'.inj q'
    subst this
    have:=RV.inj I _ _ _ (q2y oy.1 h2) (q2y oy.1 e2) g q
    rw [this,hb] at h3
    cases h3
  dsimp only
  rw [this]
  exact base
 ·rw [List.any_toArray]
  refine any_link (by rw [←r.length,ry.length]) fun j u y h1 h2=>?_
  obtain ⟨y',q,q'⟩:=key j u y h1 h2
  cases hb:eqB y x with
  | true=>exact decide_eq_true ⟨j,_,h1,h2,hb⟩
  | false=>
   refine decide_eq_false ?_
   rintro ⟨i,z,g1,g2,g3⟩
   obtain ⟨y2,g,g'⟩:=key i u z g1 g2
   have:=g'.inj q'
   subst this
   have:=RV.inj I _ _ _ (q2y oy.1 g2) (q2y oy.1 h2) g q
   rw [this,hb] at g3
   cases g3
theorem ops_in (hu:X.A.units+200<cLine):OpR X (compareOp .In) (q7f X.K cIn):=by
 rintro pins s σ H x y v u Q I rx ry ⟨φ,S,px,py,Q0,R,hx,hy,h,k⟩
 unfold cIn cInG at h
 split at h
 ·rename_i i j
  rw [q6a] at h
  exact op_in_str pins s σ H x y v u Q I rx ry ⟨i,j,hx,hy,k _ S φ H _ h (List.prefix_refl _) (.refl _) R rfl⟩
 ·rename_i ys _
  obtain ⟨⟨o1,o2⟩,h⟩:=h
  rw [q6a] at h
  obtain ⟨a,vs,rfl,sa,ra⟩:=hy
  cases ry
  obtain ⟨its,r1,p1,_⟩:=I.tuple sa
  obtain ⟨e,h1,h2⟩:=in_items hu I o1 o2 hx rx ra r1
  exact SeqAt.in_tupleAt e p1 h1 (fin_b I k R h (by rw [h2]))
 ·rename_i n _
  split at h
  ·rename_i ys es
   obtain ⟨⟨o1,o2⟩,h⟩:=h
   rw [q6a] at h
   obtain ⟨a,rfl,qa⟩:=hy
   cases ry
   obtain ⟨vs,sa,ra⟩:=R.seq qa es
   obtain ⟨its,r1,p1,_⟩:=I.list sa
   obtain ⟨e,h1,h2⟩:=in_items hu I o1 o2 hx rx ra r1
   exact SeqAt.in_listAt e p1.isList h1 (fin_b I k R h (by rw [h2]))
  ·exact h.elim
 ·exact h.elim
def isNon:PV→Bool
 | .non=>true
 | _=>false
def cIs:F2:=fun x y S Q=>match y with
 | .non=>Q (.bl (isNon x)) S
 | _=>False
theorem isNon_dec {K:PySem.W.Frag} {H:Hp} {φ:List Addr} {x:PV} {x':V} (r:RV K H φ x x'):decide (x'=.non)=isNon x:=by
 cases x with
 | non=>cases r; rfl
 | bl b=>cases r; exact decide_eq_false (fun z=>nomatch z)
 | int b=>cases r; exact decide_eq_false (fun z=>nomatch z)
 | str b=>cases r; exact decide_eq_false (fun z=>nomatch z)
 | ty b=>cases r; exact decide_eq_false (fun z=>nomatch z)
 | tup b=>obtain ⟨a,vs,rfl,_⟩:=r; exact decide_eq_false (fun z=>nomatch z)
 | frl b=>obtain ⟨a,vs,rfl,_⟩:=r; exact decide_eq_false (fun z=>nomatch z)
 | ref b=>obtain ⟨a,rfl,_⟩:=r; exact decide_eq_false (fun z=>nomatch z)
 | exc b=>obtain ⟨a,rfl,_⟩:=r; exact decide_eq_false (fun z=>nomatch z)
theorem ops_is:OpR X (compareOp .Is) (q7f X.K cIs):=by
 rintro pins s σ H x y v u Q I rx ry ⟨φ,S,px,py,Q0,R,hx,hy,h,k⟩
 unfold cIs at h
 split at h
 ·exact op_isN pins s σ H x y v u Q I rx ry ⟨hy,k _ S φ H _ h (List.prefix_refl _) (.refl _) R (by rw [isNon_dec hx]; rfl)⟩
 ·exact h.elim
end
end Ev
namespace Ev
open PySem L2
theorem atI_rel {K:PySem.W.Frag} {H:Hp} {φ:List Addr} {xs:List PV} {vs:List V} {i:Int} {v:PV} (r:RVs K H φ xs vs) (e:atI xs i=some v):∃x,atI vs i=some x∧RV K H φ v x:=by
 unfold atI at e ⊢
 rw [←r.length]
 cases h:ixN xs.length i with
 | none=>rw [h] at e; cases e
 | some j=>
  rw [h] at e
  obtain ⟨x,h1,h2⟩:=r.get (i:=j) e
  exact ⟨x,h1,h2⟩
def valP (kvs:List (Key×PV)) (k:Key):Option PV:=(kvs.find? fun kv=>decide (kv.1=k)).map (·.2)
def putP (kvs:List (Key×PV)) (k:Key) (v:PV):List (Key×PV):=
 if kvs.any (fun kv=>decide (kv.1=k)) then kvs.map fun kv=>if kv.1=k then (kv.1,v) else kv else kvs++[(k,v)]
def keyOf:PV→Option Key
 | .int i=>some (.inl i)
 | .str x=>some (.inr x)
 | _=>none
theorem key_rel {K:PySem.W.Frag} {H:Hp} {φ:List Addr} {y:PV} {y':V} {k:Key} (r:RV K H φ y y') (e:keyOf y=some k):y'=kV k:=by
 cases y with
 | int i=>cases e; exact r
 | str i=>cases e; exact r
 | _=>cases e
theorem RKs.val {K:PySem.W.Frag} {H:Hp} {φ:List Addr} {xs:List (Key×PV)} {ys:List (Key×V)} (h:RKs K H φ xs ys) (k:Key):(∀v,valP xs k=some v→∃x,valV ys k=some x∧RV K H φ v x)∧(valP xs k=none→valV ys k=none):=by
 unfold RKs at h
 induction h with
 | nil=>exact ⟨fun v e=>by simp [valP] at e,fun _=>rfl⟩
 | @cons p q ps qs hd t ih=>
  by_cases e:p.1=k
  ·have e1:valP (p::ps) k=some p.2:=by simp [valP,List.find?_cons,e]
   rw [e1,z0r (hd.1.symm.trans e)]
   exact ⟨fun v z=>by cases z; exact ⟨_,rfl,hd.2⟩,fun z=>by cases z⟩
  ·have e1:valP (p::ps) k=valP ps k:=by simp [valP,List.find?_cons,e]
   rw [e1,z0s (fun z=>e (hd.1.trans z))]
   exact ih
theorem RKs.any {K:PySem.W.Frag} {H:Hp} {φ:List Addr} {xs:List (Key×PV)} {ys:List (Key×V)} (h:RKs K H φ xs ys) (k:Key):(xs.any fun kv=>decide (kv.1=k))=ys.any fun kv=>decide (kv.1=k):=by
 unfold RKs at h
 induction h with
 | nil=>rfl
 | @cons p q ps qs hd t ih=>rw [List.any_cons,List.any_cons,ih,hd.1]
theorem RKs.repl {K:PySem.W.Frag} {H:Hp} {φ:List Addr} {xs:List (Key×PV)} {ys:List (Key×V)} (h:RKs K H φ xs ys) (k:Key) {v:PV} {x:V} (r:RV K H φ v x):RKs K H φ (xs.map fun kv=>if kv.1=k then (kv.1,v) else kv) (ys.map fun kv=>if kv.1=k then (kv.1,x) else kv):=by
 unfold RKs at h ⊢
 induction h with
 | nil=>exact .nil
 | @cons p q ps qs hd t ih=>
  rw [List.map_cons,List.map_cons]
  refine .cons ?_ ih
  by_cases e:p.1=k
  ·rw [if_pos e,if_pos (hd.1.symm.trans e)]
   exact ⟨hd.1,r⟩
  ·rw [if_neg e,if_neg (fun z=>e (hd.1.trans z))]
   exact hd
theorem RKs.snoc {K:PySem.W.Frag} {H:Hp} {φ:List Addr} {xs:List (Key×PV)} {ys:List (Key×V)} (h:RKs K H φ xs ys) (k:Key) {v:PV} {x:V} (r:RV K H φ v x):RKs K H φ (xs++[(k,v)]) (ys++[(k,x)]):=by
 unfold RKs at h ⊢
 induction h with
 | nil=>exact .cons ⟨rfl,r⟩ .nil
 | cons hd t ih=>exact .cons hd ih
theorem RKs.put {K:PySem.W.Frag} {H:Hp} {φ:List Addr} {xs:List (Key×PV)} {ys:List (Key×V)} (h:RKs K H φ xs ys) (k:Key) {v:PV} {x:V} (r:RV K H φ v x):RKs K H φ (putP xs k v) (putK ys k x):=by
 unfold putP putK
 rw [h.any]
 split
 ·exact h.repl k r
 ·exact h.snoc k r
theorem RKs.length {K:PySem.W.Frag} {H:Hp} {φ:List Addr} {xs:List (Key×PV)} {ys:List (Key×V)} (h:RKs K H φ xs ys):xs.length=ys.length:=Paired.length h
def bIx:F2:=fun x y S Q=>match x,y with
 | .tup xs,.int i=>match atI xs i with
  | some v=>Q v S
  | none=>False
 | .str z,.int i=>z.length≤sizeLine∧match atI z.cps.toList i with
  | some c=>Q (.str ⟨#[c]⟩) S
  | none=>False
 | .frl xs,.int i=>match atI xs i with
  | some v=>Q v S
  | none=>False
 | .ref n,y=>match S[n]? with
  | some (.lst xs)=>match y with
   | .int i=>match atI xs i with
    | some v=>Q v S
    | none=>False
   | _=>False
  | some (.dK kvs)=>match keyOf y with
   | some k=>match valP kvs k with
    | some v=>Q v S
    | none=>False
   | none=>False
  | _=>False
 | _,_=>False
theorem ix_dict {X:Cx} (hu:X.A.units+200<cLine):IxR X (fun x y H Q=>∃a v,x=.ref a∧DGet H a y (some v)∧Q v H):=by
 intro value slice pins s σ H x y v u Q I rx ry h hs
 obtain ⟨a,w,rfl,g,q⟩:=h
 cases rx
 exact PyProof.Rows.tail_any (dict_typeIs I g) PySem.F.slot_dict_getitem.lookup (d_getItem (by omega) I g ry fun w' s3 I3 rw'=>⟨w,H,I3,rw',q⟩) hs
section
variable {X:Cx} {G:GX} {pos:Pos}
theorem ixs_seq (hu:X.A.units+200<cLine):IxR X (q7f X.K bIx):=by
 rintro value slice pins s σ H x y v u Q I rx ry ⟨φ,S,px,py,Q0,R,hx,hy,h,k⟩ hs
 unfold bIx at h
 split at h
 ·rename_i xs i
  split at h
  ·rename_i w e
   obtain ⟨a,vs,rfl,sa,ra⟩:=hx
   cases hy
   obtain ⟨w',e',r'⟩:=atI_rel ra e
   exact ix_tup value slice pins s σ H _ _ v u Q I rx ry ⟨a,vs,i,w',rfl,rfl,sa,e',k _ S φ H _ h (List.prefix_refl _) (.refl _) R r'⟩ hs
  ·exact h.elim
 ·rename_i z i
  obtain ⟨hz,h⟩:=h
  split at h
  ·rename_i c e
   cases hx
   cases hy
   exact ix_str value slice pins s σ H _ _ v u Q I rx ry ⟨z,i,c,rfl,rfl,hz,e,k _ S φ H _ h (List.prefix_refl _) (.refl _) R rfl⟩ hs
  ·exact h.elim
 ·rename_i xs i
  split at h
  ·rename_i w e
   obtain ⟨a,vs,rfl,sa,ra⟩:=hx
   cases hy
   obtain ⟨w',e',r'⟩:=atI_rel ra e
   exact ix_list value slice pins s σ H _ _ v u Q I rx ry ⟨a,vs,i,w',rfl,rfl,sa.sq,e',k _ S φ H _ h (List.prefix_refl _) (.refl _) R r'⟩ hs
  ·exact h.elim
 ·rename_i n
  obtain ⟨a,rfl,qa⟩:=hx
  split at h
  ·rename_i xs es
   split at h
   ·rename_i i
    split at h
    ·rename_i w e
     cases hy
     obtain ⟨vs,sa,ra⟩:=R.obj n a _ qa es
     obtain ⟨w',e',r'⟩:=atI_rel ra e
     exact ix_list value slice pins s σ H _ _ v u Q I rx ry ⟨a,vs,i,w',rfl,rfl,SqL.of sa,e',k _ S φ H _ h (List.prefix_refl _) (.refl _) R r'⟩ hs
    ·exact h.elim
   ·exact h.elim
  ·rename_i kvs es
   split at h
   ·rename_i kk ek
    split at h
    ·rename_i w e
     have hk:=key_rel hy ek
     subst hk
     obtain ⟨ws,sa,ra⟩:=R.obj n a _ qa es
     obtain ⟨w',e',r'⟩:=(ra.val kk).1 w e
     refine ix_dict hu value slice pins s σ H _ _ v u Q I rx ry ⟨a,w',rfl,?_,k _ S φ H _ h (List.prefix_refl _) (.refl _) R r'⟩ hs
     rw [←e']
     exact DGet.k sa
    ·exact h.elim
   ·exact h.elim
  ·exact h.elim
 ·exact h.elim
variable {a b:Expr} {wa wb:WE}
theorem q0i (hu:X.A.units+200<cLine) (ha:SimE X G a wa) (hb:SimE X G b wb) (hs:PlainIx b:=by exact fun _ _=>rfl):SimE X G (.Subscript a b pos) (wBin bIx wa wb):=(pe_ix (ixs_seq hu) ha hb hs).imp fun _ _ _ h=>z0x h
def cutP {α:Type} (xs:List α) (lo hi:Option Int):List α:=(xs.drop (HT.sIx xs.length 0 lo)).take (HT.sIx xs.length xs.length hi - HT.sIx xs.length 0 lo)
theorem cut_rel {K:PySem.W.Frag} {H:Hp} {φ:List Addr} {xs:List PV} {vs:List V} (lo hi:Option Int) (r:RVs K H φ xs vs):RVs K H φ (cutP xs lo hi) (cutV vs lo hi):=by
 unfold cutP cutV
 rw [←r.length]
 exact (r.drop _).take _
abbrev F3:=PV→Option Int→Option Int→q0l→VC→Prop
def bSl:F3:=fun x lo hi S Q=>match x with
 | .str z=>z.length≤sizeLine∧Q (.str (Txt.slice z lo hi)) S
 | .tup xs=>¬(HT.sIx xs.length 0 lo=0∧HT.sIx xs.length xs.length hi=xs.length)∧Q (.tup (cutP xs lo hi)) S
 | .frl xs=>Q (.ref S.length) (S++[.lst (cutP xs lo hi)])
 | .ref n=>match q4s S n with
  | some xs=>Q (.ref S.length) (S++[.lst (cutP xs lo hi)])
  | none=>False
 | _=>False
def liftR3 (K:PySem.W.Frag) (f:F3):V→Option Int→Option Int→Hp→VK→Prop:=fun x' lo hi H Q=>∃φ S x Q0,Rel K φ S H∧RV K H φ x x'∧f x lo hi S Q0∧KE K φ H Q0 Q
theorem sls:SlR X (liftR3 X.K bSl):=by
 rintro pins s σ H x v vl vu lo hi sl Q I rx hs pl pu ⟨φ,S,px,Q0,R,hx,h,k⟩
 unfold bSl at h
 split at h
 ·rename_i z
  cases hx
  exact sl_str pins s σ H _ v vl vu lo hi sl Q I rx hs pl pu ⟨z,rfl,h.1,k _ S φ H _ h.2 (List.prefix_refl _) (.refl _) R rfl⟩
 ·rename_i xs
  obtain ⟨a,vs,rfl,sa,ra⟩:=hx
  exact sl_tup pins s σ H _ v vl vu lo hi sl Q I rx hs pl pu ⟨a,vs,rfl,sa,by rw [←ra.length]; exact h.1,k.tup h.2 R (cut_rel lo hi ra)⟩
 ·rename_i xs
  obtain ⟨a,vs,rfl,sa,ra⟩:=hx
  exact sl_list pins s σ H _ v vl vu lo hi sl Q I rx hs pl pu ⟨a,vs,rfl,sa.sq,k.lst h R (cut_rel lo hi ra)⟩
 ·rename_i n
  split at h
  ·rename_i xs es
   obtain ⟨a,rfl,qa⟩:=hx
   obtain ⟨vs,sa,ra⟩:=R.seq qa es
   exact sl_list pins s σ H _ v vl vu lo hi sl Q I rx hs pl pu ⟨a,vs,rfl,sa,k.lst h R (cut_rel lo hi ra)⟩
  ·exact h.elim
 ·exact h.elim
abbrev WO:=Loc→q0l→EK→(Option Int→q0l→Prop)→Prop
def KO (K:PySem.W.Frag) (φ:List Addr) (H:Hp) (Q0:Option Int→q0l→Prop) (Q:Option Int→Hp→Prop):Prop:=∀v S' φ' H',Q0 v S'→φ <+: φ'→Mono H H'→Rel K φ' S' H'→Q v H'
def liftO (K:PySem.W.Frag) (G:GX) (w:WO):TO:=fun σV H Q=>∃φ σ S Q0,LRel K G H φ σ σV∧Rel K φ S H∧w σ S G.ek Q0∧KO K φ H Q0 Q
def SimO (X:Cx) (G:GX) (e:Option Expr) (w:WO):Prop:=PO X e (liftO X.K G w)
theorem PO.imp {e:Option Expr} {t t':TO} (h:PO X e t) (i:∀σ H Q,t' σ H Q→t σ H Q):PO X e t':=fun pins s σ H Q I q=>h pins s σ H Q I (i σ H Q q)
def q6q:WO:=fun _ S _ Q=>Q none S
def wPart (w:WE):WO:=fun σ S E Q=>w σ S E fun x S1=>match x with
 | .int i=>Q (some i) S1
 | _=>False
theorem q6h:SimO X G none q6q:=PO.imp po_none fun σV H Q hh1=>by obtain ⟨φ,σ,S,Q0,L,R,h,k⟩:=hh1; exact (k none S φ H h (List.prefix_refl _) (.refl _) R)
theorem q6g {e:Expr} {w:WE} (h:SimE X G e w):SimO X G (some e) (wPart w):=
 PO.imp (po_some h) fun σV H Q hh1=>by obtain ⟨φ,σ,S,Q0,L,R,h,k⟩:=hh1; exact (⟨φ,σ,S,_,L,R,h,fun v S1 φ1 H1 x q p1 m1 R1 r1=>by
  cases v with
  | int i=>exact ⟨i,r1,k _ S1 φ1 H1 q p1 m1 R1⟩
  | _=>exact q.elim⟩)
def wSl (w:WE) (wl wh:WO):WE:=fun σ S E Q=>w σ S E fun x S1=>wl σ S1 E fun lo S2=>wh σ S2 E fun hi S3=>bSl x lo hi S3 Q
theorem q6f {e:Expr} {w:WE} {lo hi:Option Expr} {wl wh:WO} {p2:Pos} (he:SimE X G e w) (hl:SimO X G lo wl) (hh:SimO X G hi wh):SimE X G (.Subscript e (.Slice lo hi none p2) pos) (wSl w wl wh):=
 (pe_slice sls he hl hh).imp fun σV H Q hh1=>by obtain ⟨φ,σ,S,Q0,L,R,h,k⟩:=hh1; exact (⟨φ,σ,S,_,L,R,h,fun v S1 φ1 H1 x q p1 m1 R1 r1=>
  ⟨φ1,σ,S1,_,L.mono m1 p1,R1,q,fun l S2 φ2 H2 q2 p2 m2 R2=>
   ⟨φ2,σ,S2,_,(L.mono m1 p1).mono m2 p2,R2,q2,fun u S3 φ3 H3 q3 p3 m3 R3=>
    ⟨φ3,S3,v,Q0,R3,RV.mono m3 p3 _ _ (RV.mono m2 p2 _ _ r1),q3,k.up ((p1.trans p2).trans p3) ((m1.trans m2).trans m3)⟩⟩⟩⟩)
abbrev FL:=List PV→q0l→VC→Prop
def liftC (K:PySem.W.Frag) (f:FL):List V→Hp→VK→Prop:=fun xs' H Q=>∃φ S xs Q0,Rel K φ S H∧RVs K H φ xs xs'∧f xs S Q0∧KE K φ H Q0 Q
def wCB (f:FL) (wa:WA):WE:=fun σ S E Q=>wa σ S E fun xs S1=>f xs S1 Q
theorem lift_cb {f:FL} {wa:WA} {σV:St} {H:Hp} {Q:VK} (h:z0n X.K G (wCB f wa) σV H Q):tCB (liftC X.K f) (liftA X.K G wa) σV H Q:=by
 obtain ⟨φ,σ,S,Q0,L,R,h,k⟩:=h
 exact ⟨φ,σ,S,_,L,R,h,fun v S1 φ1 H1 x q p1 m1 R1 r1=>⟨φ1,S1,v,Q0,R1,r1,q,k.up p1 m1⟩⟩
theorem q0w {f:FL} {x:Str} {id:String} {p:Pos} {e:Expr} {es:List Expr} {wa:WA} (hc:q8k X (.builtin id) (liftC X.K f)) (hm:X.mg x=none) (hv:bootBuiltins x=some (.builtin id)) (ha:SimA X G (e::es) wa) (hg:Gl X x:=by rfl) (hn:x≠ "__name__" :=by decide) (hdb:(x == ("__debug__" : Str))=false:=by decide)
  (he:starEach (e::es) X.env=(false,eval e X.env)::starEach es X.env:=by rfl) (hpl:(backTo pos (starEach es X.env)).any (·.1)=false:=by rfl):SimE X G (.Call (.Name x p) (e::es) [] pos) (wCB f wa):=
 (pe_callB hc hg hm hv ha hn hdb he hpl).imp fun _ _ _ h=>lift_cb h
theorem sim_callTy {f:FL} {x:Str} {T:String} {p:Pos} {e:Expr} {es:List Expr} {wa:WA} (hc:q8k X (.type T) (liftC X.K f)) (hm:X.mg x=none) (hv:bootBuiltins x=some (.type T)) (ha:SimA X G (e::es) wa) (hg:Gl X x:=by rfl) (hn:x≠ "__name__" :=by decide) (hdb:(x == ("__debug__" : Str))=false:=by decide)
  (he:starEach (e::es) X.env=(false,eval e X.env)::starEach es X.env:=by rfl) (hpl:(backTo pos (starEach es X.env)).any (·.1)=false:=by rfl):SimE X G (.Call (.Name x p) (e::es) [] pos) (wCB f wa):=
 (pe_callTy hc hg hm hv ha hn hdb he hpl).imp fun _ _ _ h=>lift_cb h
theorem q3b {K:PySem.W.Frag} {H:Hp} {φ:List Addr} {x:PV} {vs:List V} (r:RVs K H φ [x] vs):∃v,vs=[v]∧RV K H φ x v:=by
 obtain ⟨y,ys,rfl,r1,r2⟩:=r
 rw [show ys=[] from r2]
 exact ⟨y,rfl,r1⟩
theorem two_rel {K:PySem.W.Frag} {H:Hp} {φ:List Addr} {x y:PV} {vs:List V} (r:RVs K H φ [x,y] vs):∃v w,vs=[v,w]∧RV K H φ x v∧RV K H φ y w:=by
 obtain ⟨a,as,rfl,r1,r2⟩:=r
 obtain ⟨b,rfl,r3⟩:=q3b r2
 exact ⟨a,b,rfl,r1,r3⟩
def fLen:FL:=fun xs S Q=>match xs with
 | [.str z]=>z.length≤sizeLine∧Q (.int z.length) S
 | [.tup xs]=>Q (.int xs.length) S
 | [.frl xs]=>Q (.int xs.length) S
 | [.ref n]=>match q4s S n with
  | some xs=>Q (.int xs.length) S
  | none=>False
 | _=>False
theorem q1r:q8k X (.builtin "len") (liftC X.K fLen):=by
 rintro pins s σ H xs us Q I r ⟨φ,S,pxs,Q0,R,hx,h,k⟩
 unfold fLen at h
 split at h
 ·rename_i z
  obtain ⟨v,rfl,r1⟩:=q3b hx
  cases r1
  exact call_len_str pins s σ H _ us Q I r ⟨z,rfl,h.1,k _ S φ H _ h.2 (List.prefix_refl _) (.refl _) R rfl⟩
 ·rename_i ys
  obtain ⟨v,rfl,a,vs,rfl,sa,ra⟩:=q3b hx
  exact q7w pins s σ H _ us Q I r ⟨a,vs,rfl,.inr sa,k _ S φ H _ h (List.prefix_refl _) (.refl _) R (by rw [←ra.length]; rfl)⟩
 ·rename_i ys
  obtain ⟨v,rfl,a,vs,rfl,sa,ra⟩:=q3b hx
  exact q7w pins s σ H _ us Q I r ⟨a,vs,rfl,.inl sa.sq,k _ S φ H _ h (List.prefix_refl _) (.refl _) R (by rw [←ra.length]; rfl)⟩
 ·rename_i n
  split at h
  ·rename_i ys es
   obtain ⟨v,rfl,a,rfl,qa⟩:=q3b hx
   obtain ⟨vs,sa,ra⟩:=R.seq qa es
   exact q7w pins s σ H _ us Q I r ⟨a,vs,rfl,.inl sa,k _ S φ H _ h (List.prefix_refl _) (.refl _) R (by rw [←ra.length]; rfl)⟩
  ·exact h.elim
 ·exact h.elim
def tyP (x:PV) (S:q0l):Option String:=match x with
 | .non=>some "NoneType"
 | .bl _=>some "bool"
 | .int _=>some "int"
 | .str _=>some "str"
 | .tup _=>some "tuple"
 | .ref n=>match S[n]? with
  | some (.lst _)=>some "list"
  | some (.dK _)=>some "dict"
  | _=>none
 | .frl _=>some "list"
 | .ty _=>none
 | .exc _=>none
def isT (T C:String):Bool:=T == C || (T == "bool" && C == "int")
def kinds:List String:=["NoneType", "bool", "int", "str", "tuple", "list", "dict"]
def q5q:List String:=["list", "tuple", "str", "int", "bool", "dict"]
theorem kit_tab (K:PySem.W.Frag):∀T∈kinds,∀C∈q5q,PySem.W.kitOne K (.type T) (.type C)=some (isT T C):=by
 intro T hT C hC
 simp only [kinds,List.mem_cons,List.not_mem_nil,or_false] at hT
 simp only [q5q,List.mem_cons,List.not_mem_nil,or_false] at hC
 rcases hT with rfl | rfl | rfl | rfl | rfl | rfl | rfl<;>rcases hC with rfl | rfl | rfl | rfl | rfl | rfl<;>kernel_rfl
theorem tyP_kind {x : PV} {S : q0l} {T : String} (h : tyP x S = some T) : T ∈ kinds := by
 unfold tyP at h
 split at h
 all_goals first
  | (cases h; simp [kinds])
  | (split at h <;> first | (cases h; simp [kinds]) | cases h)
  | cases h
end
end Ev
namespace Ev
open PySem L2
section
variable {X:Cx} {G:GX} {pos:Pos}
theorem isi_one {pins:List (Addr×Obj)} {s:Shared} {σ:St} {H:Hp} {φ:List Addr} {S:q0l} {x:PV} {x':V} {u c:Value} {T:String} {b:Bool} {A:Around} {E:Value→Shared→Prop} {Q:Value→Shared→Prop} (I:Inv X pins σ H s) (R:Rel X.K φ S H) (rx:RV X.K H φ x x') (q:RelV x' u)
  (ht:tyP x S=some T) (e:PySem.W.kitOne X.K (.type T) c=some b) (h:∀tk,Q (.bool b) { s with toks:=tk }):wpAny (model X.prog X.w) A (call (.builtin "isinstance") [u,c]) Q E s:=by
 unfold tyP at ht
 split at ht
 ·cases ht; cases rx; cases (show u=Value.none from q); exact PySem.W.kia_one PySem.W.kitx_none I.kIn True.intro e (fun z=>nomatch z) h
 ·rename_i y; cases ht; cases rx; cases (show u=Value.bool y from q); exact PySem.W.kia_one PySem.W.kitx_bool I.kIn True.intro e (fun z=>nomatch z) h
 ·rename_i y; cases ht; cases rx; obtain ⟨t,rfl⟩:=(show ∃t,u=Value.int y t from q); exact PySem.W.kia_one PySem.W.kitx_int I.kIn True.intro e (fun z=>nomatch z) h
 ·rename_i y; cases ht; cases rx; obtain ⟨t,rfl⟩:=(show ∃t,u=Value.str y t from q); exact PySem.W.kia_one PySem.W.kitx_str I.kIn True.intro e (fun z=>nomatch z) h
 ·cases ht
  obtain ⟨a,vs,rfl,sa,ra⟩:=rx
  cases q
  obtain ⟨its,_,⟨o,h1,h2,_⟩,_⟩:=I.tuple sa
  exact PySem.W.kia_one PySem.W.kitx_tuple I.kIn ⟨o,h1,h2⟩ e (fun z=>nomatch z) h
 ·rename_i n
  obtain ⟨a,rfl,qa⟩:=rx
  cases q
  split at ht
  ·rename_i xs es
   cases ht
   obtain ⟨vs,e1,_⟩:=R.obj n a _ qa es
   exact isinst_ok (x:=.ref a) I rfl (TyOf.lst (K:=X.K) e1) e h
  ·rename_i xs es
   cases ht
   obtain ⟨vs,e1,_⟩:=R.obj n a _ qa es
   exact isinst_ok (x:=.ref a) I rfl (TyOf.dK (K:=X.K) e1) e h
  ·cases ht
 ·cases ht
  obtain ⟨a,vs,rfl,sa,ra⟩:=rx
  cases q
  obtain ⟨its,_,p,_⟩:=I.list sa.sq
  obtain ⟨o,h1,h2,_⟩:=p.isList
  exact PySem.W.kia_one PySem.W.kitx_list I.kIn ⟨o,h1,h2⟩ e (fun z=>nomatch z) h
 ·cases ht
 ·cases ht
theorem isi_tup {pins:List (Addr×Obj)} {s:Shared} {σ:St} {H:Hp} {φ:List Addr} {S:q0l} {x:PV} {x':V} {u:Value} {T:String} {p:Addr} {its:List Value} {b:Bool} {A:Around} {E:Value→Shared→Prop} {Q:Value→Shared→Prop} (I:Inv X pins σ H s) (R:Rel X.K φ S H) (rx:RV X.K H φ x x') (q:RelV x' u)
  (ht:tyP x S=some T) (ho:PyProof.Rows.IsTup s.heap p its.toArray) (e:PySem.W.kitAny X.K (.type T) its=some b) (h:∀tk,Q (.bool b) { s with toks:=tk }):wpAny (model X.prog X.w) A (call (.builtin "isinstance") [u,.ref p]) Q E s:=by
 obtain ⟨⟨cls,dd,dat,sl⟩,ho,hc,n,hd⟩:=ho
 simp only at hc hd
 subst hc hd
 unfold tyP at ht
 split at ht
 ·cases ht; cases rx; cases (show u=Value.none from q); exact PySem.W.kia_tup PySem.W.kitx_none I.kIn True.intro ho e (fun z=>nomatch z) h
 ·rename_i y; cases ht; cases rx; cases (show u=Value.bool y from q); exact PySem.W.kia_tup PySem.W.kitx_bool I.kIn True.intro ho e (fun z=>nomatch z) h
 ·rename_i y; cases ht; cases rx; obtain ⟨t,rfl⟩:=(show ∃t,u=Value.int y t from q); exact PySem.W.kia_tup PySem.W.kitx_int I.kIn True.intro ho e (fun z=>nomatch z) h
 ·rename_i y; cases ht; cases rx; obtain ⟨t,rfl⟩:=(show ∃t,u=Value.str y t from q); exact PySem.W.kia_tup PySem.W.kitx_str I.kIn True.intro ho e (fun z=>nomatch z) h
 ·cases ht
  obtain ⟨a,vs,rfl,sa,ra⟩:=rx
  cases q
  obtain ⟨_,_,⟨o,h1,h2,_⟩,_⟩:=I.tuple sa
  exact PySem.W.kia_tup PySem.W.kitx_tuple I.kIn ⟨o,h1,h2⟩ ho e (fun z=>nomatch z) h
 ·rename_i m
  obtain ⟨a,rfl,qa⟩:=rx
  cases q
  split at ht
  ·rename_i xs es
   cases ht
   obtain ⟨vs,e1,_⟩:=R.obj m a _ qa es
   obtain ⟨_,_,n,_,h1⟩:=(show q3s X.prog X.w H s.heap a (.lst vs) from I.hok a _ e1)
   exact PySem.W.kia_tup PySem.W.kitx_list I.kIn ⟨_,h1,rfl⟩ ho e (fun z=>nomatch z) h
  ·rename_i xs es
   cases ht
   obtain ⟨vs,e1,_⟩:=R.obj m a _ qa es
   obtain ⟨_,_,_,_,p⟩:=(show q3s X.prog X.w H s.heap a (.dK vs) from I.hok a _ e1)
   obtain ⟨o,es,ep,h1,h2,_⟩:=p
   exact PySem.W.kia_tup PySem.W.kitx_dict I.kIn ⟨o,h1,h2.1⟩ ho e (fun z=>nomatch z) h
  ·cases ht
 ·cases ht
  obtain ⟨a,vs,rfl,sa,ra⟩:=rx
  cases q
  obtain ⟨_,_,p,_⟩:=I.list sa.sq
  obtain ⟨o,h1,h2,_⟩:=p.isList
  exact PySem.W.kia_tup PySem.W.kitx_list I.kIn ⟨o,h1,h2⟩ ho e (fun z=>nomatch z) h
 ·cases ht
 ·cases ht
def fIsi:FL:=fun xs S Q=>match xs with
 | [x,.ty D]=>match tyP x S with
  | some T=>D∈q5q∧Q (.bl (isT T D)) S
  | none=>False
 | [x,.tup [.ty D,.ty D']]=>match tyP x S with
  | some T=>(D∈q5q∧D'∈q5q)∧Q (.bl (isT T D || isT T D')) S
  | none=>False
 | _=>False
theorem q3h:q8k X (.builtin "isinstance") (liftC X.K fIsi):=by
 rintro pins s σ H xs us Q I r ⟨φ,S,pxs,Q0,R,hx,h,k⟩
 unfold fIsi at h
 split at h
 ·rename_i x D
  split at h
  ·rename_i T ht
   obtain ⟨v,w,rfl,r1,r2⟩:=two_rel hx
   cases r2
   obtain ⟨u,c,rfl,ru,rc⟩:=vals2 r
   cases (show c=Value.type D from rc)
   exact isi_one I R r1 ru ht (kit_tab X.K T (tyP_kind ht) D h.1) fun tk=>⟨.bl _,H,I.tok tk,rfl,k _ S φ H _ h.2 (List.prefix_refl _) (.refl _) R rfl⟩
  ·exact h.elim
 ·rename_i x D D'
  split at h
  ·rename_i T ht
   obtain ⟨v,w,rfl,r1,a,vs,rfl,sa,ra⟩:=two_rel hx
   obtain ⟨d1,d2,rfl,q1,q2⟩:=two_rel ra
   cases q1
   cases q2
   obtain ⟨u,c,rfl,ru,rc⟩:=vals2 r
   cases (show c=Value.ref a from rc)
   obtain ⟨its,rv,p,_⟩:=I.tuple sa
   obtain ⟨v1,v2,rfl,g1,g2⟩:=vals2 rv
   cases (show v1=Value.type D from g1)
   cases (show v2=Value.type D' from g2)
   exact isi_tup I R r1 ru ht p (kit_any2 (kit_tab X.K T (tyP_kind ht) D h.1.1) (kit_tab X.K T (tyP_kind ht) D' h.1.2)) fun tk=>⟨.bl _,H,I.tok tk,rfl,k _ S φ H _ h.2 (List.prefix_refl _) (.refl _) R rfl⟩
  ·exact h.elim
 ·exact h.elim
def q5u:List PV→Option (List Int)
 | []=>some []
 | .int i::r=>(q5u r).map (i::·)
 | _=>none
def blsOf:List PV→Option (List Bool)
 | []=>some []
 | .bl i::r=>(blsOf r).map (i::·)
 | _=>none
theorem q7s:∀{xs:List PV} {ns:List Int},q5u xs=some ns→xs=ns.map PV.int
 | [],ns,h=>by simp [q5u] at h; subst h; rfl
 | x::r,ns,h=>by
  cases x with
  | int i=>
   simp only [q5u,Option.map_eq_some_iff] at h
   obtain ⟨ms,h1,rfl⟩:=h
   rw [q7s h1]; rfl
  | _=>simp [q5u] at h
theorem blsOf_eq:∀{xs:List PV} {ns:List Bool},blsOf xs=some ns→xs=ns.map PV.bl
 | [],ns,h=>by simp [blsOf] at h; subst h; rfl
 | x::r,ns,h=>by
  cases x with
  | bl i=>
   simp only [blsOf,Option.map_eq_some_iff] at h
   obtain ⟨ms,h1,rfl⟩:=h
   rw [blsOf_eq h1]; rfl
  | _=>simp [blsOf] at h
theorem intsOf_map (ns:List Int):q5u (ns.map PV.int)=some ns:=by induction ns with
 | nil=>rfl
 | cons a r ih=>simp [q5u,ih]
def fSum:FL:=fun xs S Q=>match xs with
 | [.frl ys]=>match q5u ys with
  | some ns=>Q (.int ns.sum) S
  | none=>False
 | [.ref n]=>match (q4s S n).bind q5u with
  | some ns=>Q (.int ns.sum) S
  | none=>False
 | _=>False
def fAll:FL:=fun xs S Q=>match xs with
 | [.ref n]=>match (q4s S n).bind blsOf with
  | some ns=>Q (.bl (ns.all id)) S
  | none=>False
 | _=>False
theorem calls_sum (hc:X.calm=true):q8k X (.builtin "sum") (liftC X.K fSum):=by
 rintro pins s σ H xs us Q I r ⟨φ,S,pxs,Q0,R,hx,h,k⟩
 unfold fSum at h
 split at h
 ·split at h
  ·rename_i ns e
   have:=q7s e
   subst this
   obtain ⟨v,rfl,a,vs,rfl,sa,ra⟩:=q3b hx
   have sa:=sa.sq
   rw [ra.ints] at sa
   exact call_sum hc pins s σ H _ us Q I r ⟨a,ns,rfl,sa,k _ S φ H _ h (List.prefix_refl _) (.refl _) R rfl⟩
  ·exact h.elim
 ·rename_i n
  split at h
  ·rename_i ns e
   obtain ⟨ys,e1,e2⟩:=Option.bind_eq_some_iff.mp e
   have:=q7s e2
   subst this
   obtain ⟨v,rfl,a,rfl,qa⟩:=q3b hx
   obtain ⟨vs,sa,ra⟩:=R.seq qa e1
   rw [ra.ints] at sa
   exact call_sum hc pins s σ H _ us Q I r ⟨a,ns,rfl,sa,k _ S φ H _ h (List.prefix_refl _) (.refl _) R rfl⟩
  ·exact h.elim
 ·exact h.elim
theorem calls_all (hc:X.calm=true):q8k X (.builtin "all") (liftC X.K fAll):=by
 rintro pins s σ H xs us Q I r ⟨φ,S,pxs,Q0,R,hx,h,k⟩
 unfold fAll at h
 split at h
 ·rename_i n
  split at h
  ·rename_i ns e
   obtain ⟨ys,e1,e2⟩:=Option.bind_eq_some_iff.mp e
   have:=blsOf_eq e2
   subst this
   obtain ⟨v,rfl,a,rfl,qa⟩:=q3b hx
   obtain ⟨vs,sa,ra⟩:=R.seq qa e1
   rw [ra.bls] at sa
   exact call_all hc pins s σ H _ us Q I r ⟨a,ns,rfl,sa,k _ S φ H _ h (List.prefix_refl _) (.refl _) R rfl⟩
  ·exact h.elim
 ·exact h.elim
def fList:FL:=fun xs S Q=>match xs with
 | [.frl ys]=>Q (.ref S.length) (S++[.lst ys])
 | [.tup ys]=>Q (.ref S.length) (S++[.lst ys])
 | [.ref n]=>match q4s S n with
  | some ys=>Q (.ref S.length) (S++[.lst ys])
  | none=>False
 | _=>False
theorem calls_list:q8k X (.type "list") (liftC X.K fList):=by
 rintro pins s σ H xs us Q I r ⟨φ,S,pxs,Q0,R,hx,h,k⟩
 unfold fList at h
 split at h
 ·obtain ⟨v,rfl,a,vs,rfl,sa,ra⟩:=q3b hx
  exact q7v pins s σ H _ us Q I r ⟨a,vs,rfl,.inl sa.sq,k.lst h R ra⟩
 ·obtain ⟨v,rfl,a,vs,rfl,sa,ra⟩:=q3b hx
  exact q7v pins s σ H _ us Q I r ⟨a,vs,rfl,.inr sa,k.lst h R ra⟩
 ·rename_i n
  split at h
  ·rename_i ys e
   obtain ⟨v,rfl,a,rfl,qa⟩:=q3b hx
   obtain ⟨vs,sa,ra⟩:=R.seq qa e
   exact q7v pins s σ H _ us Q I r ⟨a,vs,rfl,.inl sa,k.lst h R ra⟩
  ·exact h.elim
 ·exact h.elim
def fStr:FL:=fun xs S Q=>match xs with
 | [.int i]=>i.natAbs.log2<1920∧Q (.str (toString i)) S
 | _=>False
abbrev FM:=PV→List PV→q0l→VC→Prop
def liftM (K:PySem.W.Frag) (f:FM):V→List V→Hp→VK→Prop:=fun x' xs' H Q=>∃φ S x xs Q0,Rel K φ S H∧RV K H φ x x'∧RVs K H φ xs xs'∧f x xs S Q0∧KE K φ H Q0 Q
def wBM (T:String) (f:FM) (wo:WE) (wa:WA):WE:=fun σ S E Q=>wo σ S E fun x S1=>tyP x S1=some T∧wa σ S1 E fun xs S2=>f x xs S2 Q
def wBM0 (T:String) (f:FM) (wo:WE):WE:=fun σ S E Q=>wo σ S E fun x S1=>tyP x S1=some T∧f x [] S1 Q
theorem ty_rel {K:PySem.W.Frag} {H:Hp} {φ:List Addr} {S:q0l} {x:PV} {x':V} {T:String} (R:Rel K φ S H) (r:RV K H φ x x') (h:tyP x S=some T) (hT:T = "str" ∨T = "list" ∨T = "dict"):tyV K T x' H:=by
 unfold tyP at h
 split at h
 ·cases h; simp at hT
 ·cases h; simp at hT
 ·cases h; simp at hT
 ·cases h; cases r; rfl
 ·cases h; simp at hT
 ·rename_i n
  obtain ⟨a,rfl,qa⟩:=r
  split at h
  ·rename_i xs es
   cases h
   obtain ⟨vs,e1,_⟩:=R.obj n a _ qa es
   exact .inl ⟨rfl,vs,SqL.of e1⟩
  ·rename_i xs es
   cases h
   obtain ⟨vs,e1,_⟩:=R.obj n a _ qa es
   exact .inr (.inr (.inl ⟨rfl,.inl ⟨vs,e1⟩⟩))
  ·cases h
 ·cases h
  obtain ⟨a,vs,rfl,sa,ra⟩:=r
  exact .inl ⟨rfl,vs,sa.sq⟩
 ·cases h
 ·cases h
theorem q4c {f:FM} {T id:String} {name:Str} {o e:Expr} {es:List Expr} {apos cpos:Pos} {wo:WE} {wa:WA} (pa:PlainAttrs T) (slot:Slot T name id) (hty:typeOf (.builtin id)=pure (.type "method_descriptor")) (hm:MtR X id (liftM X.K f)) (ho:SimE X G o wo) (ha:SimA X G (e::es) wa)
  (hT:T = "str" ∨T = "list" ∨T = "dict" :=by first | exact Or.inl rfl | exact Or.inr (Or.inl rfl) | exact Or.inr (Or.inr rfl))
  (hbase:attributeBase o name X.env (eval o X.env)=eval o X.env:=by rfl)
  (hfew:((backTo cpos (starEach (e::es) X.env)).all (fun x=>!x.1) && (backToKw cpos (keywordEach [] X.env)).all (fun x=>x.1.isSome)
   && decide ((e::es).length+([]:List Keyword).length+(if ([]:List Keyword).isEmpty then 0 else 1)<30))=true:=by rfl)
  (hline:(apos.endLine == cpos.line)=true:=by rfl) (hs:starEach (e::es) X.env=(false,eval e X.env)::starEach es X.env:=by rfl) (hplain:(backTo cpos (starEach es X.env)).any (·.1)=false:=by rfl) :
  SimE X G (.Call (.Attribute o name apos) (e::es) [] cpos) (wBM T f wo wa):=
 (pe_bm pa slot hty hm ho ha hbase hfew hline hs hplain).imp fun σV H Q hh1=>by obtain ⟨φ,σ,S,Q0,L,R,h,k⟩:=hh1; exact (⟨φ,σ,S,_,L,R,h,fun v S1 φ1 H1 x hh2 p1 m1 R1 r1=>by obtain ⟨ht,q⟩:=hh2; exact (⟨ty_rel R1 r1 ht hT,
  ⟨φ1,σ,S1,_,L.mono m1 p1,R1,q,fun vs S2 φ2 H2 xs q2 p2 m2 R2 r2=>⟨φ2,S2,v,vs,Q0,R2,RV.mono m2 p2 _ _ r1,r2,q2,k.up (p1.trans p2) (m1.trans m2)⟩⟩⟩)⟩)
theorem q5x {f:FM} {T id:String} {name:Str} {o:Expr} {apos cpos:Pos} {wo:WE} (pa:PlainAttrs T) (slot:Slot T name id) (hty:typeOf (.builtin id)=pure (.type "method_descriptor")) (hm:MtR X id (liftM X.K f)) (ho:SimE X G o wo)
  (hT:T = "str" ∨T = "list" ∨T = "dict" :=by first | exact Or.inl rfl | exact Or.inr (Or.inl rfl) | exact Or.inr (Or.inr rfl))
  (hbase:attributeBase o name X.env (eval o X.env)=eval o X.env:=by rfl) (hline:(apos.endLine == cpos.line)=true:=by rfl) :
  SimE X G (.Call (.Attribute o name apos) [] [] cpos) (wBM0 T f wo):=
 (pe_bm0 pa slot hty hm ho hbase hline).imp fun σV H Q hh1=>by obtain ⟨φ,σ,S,Q0,L,R,h,k⟩:=hh1; exact (⟨φ,σ,S,_,L,R,h,fun v S1 φ1 H1 x hh2 p1 m1 R1 r1=>by obtain ⟨ht,q⟩:=hh2; exact (⟨ty_rel R1 r1 ht hT,⟨φ1,S1,v,[],Q0,R1,r1,rfl,q,k.up p1 m1⟩⟩)⟩)
theorem KE.put {K:PySem.W.Frag} {φ:List Addr} {H:Hp} {Q0:VC} {Q:VK} {S:q0l} {n:Nat} {a:Addr} {old:List V} {xs:List PV} {vs:List V} {y:PV} {y':V} (k:KE K φ H Q0 Q) (R:Rel K φ S H) (qa:φ[n]?=some a) (e:H a=some (.lst old)) (r:RVs K H φ xs vs) (ry:RV K H φ y y') (q:Q0 y (S.set n (.lst xs))):Q y' (upd H a (.lst vs)):=
 k _ _ φ _ _ q (List.prefix_refl _) (.lst e) (R.put (o:=.lst xs) qa (.lst e) ⟨vs,q3p,RVs.mono (.lst e) (List.prefix_refl _) _ _ r⟩) (RV.mono (.lst e) (List.prefix_refl _) _ _ ry)
def q2f:FM:=fun x xs S Q=>match x,xs with
 | .ref n,[y]=>match q7r S n with
  | some ys=>ys.length<sizeLine∧Q .non (S.set n (.lst (ys++[y])))
  | none=>False
 | _,_=>False
theorem q2a:MtR X "list.append" (liftM X.K q2f):=by
 rintro pins s σ H x xs v us Q I rx rs ⟨φ,S,px,pxs,Q0,R,hx,hxs,h,k⟩
 unfold q2f at h
 split at h
 ·rename_i n y
  split at h
  ·rename_i ys e
   obtain ⟨a,rfl,qa⟩:=hx
   obtain ⟨y',rfl,ry⟩:=q3b hxs
   obtain ⟨vs,ea,ra⟩:=R.lst qa e
   exact mt_append pins s σ H _ _ v us Q I rx rs ⟨a,vs,y',rfl,rfl,ea,by rw [←ra.length]; exact h.1,k.put R qa ea (ra.append (.one ry)) (show RV X.K H φ .non .non from rfl) h.2⟩
  ·exact h.elim
 ·exact h.elim
def mPop:FM:=fun x xs S Q=>match x,xs with
 | .ref n,[]=>match q7r S n with
  | some ys=>match ys.getLast? with
   | some y=>Q y (S.set n (.lst ys.dropLast))
   | none=>False
  | none=>False
 | _,_=>False
theorem q7d:MtR X "list.pop" (liftM X.K mPop):=by
 rintro pins s σ H x xs v us Q I rx rs ⟨φ,S,px,pxs,Q0,R,hx,hxs,h,k⟩
 unfold mPop at h
 split at h
 ·rename_i n
  split at h
  ·rename_i ys e
   split at h
   ·rename_i y ey
    obtain ⟨a,rfl,qa⟩:=hx
    have hxs':xs=[]:=hxs
    subst hxs'
    obtain ⟨vs,ea,ra⟩:=R.lst qa e
    rw [List.getLast?_eq_getElem?] at ey
    obtain ⟨y',e',r'⟩:=ra.get ey
    rw [ra.length] at e'
    exact mt_pop pins s σ H _ _ v us Q I rx rs ⟨a,vs,y',rfl,rfl,ea,e',k.put R qa ea ra.dropLast r' h⟩
   ·exact h.elim
  ·exact h.elim
 ·exact h.elim
def mPopAt:FM:=fun x xs S Q=>match x,xs with
 | .ref n,[.int i]=>match q7r S n with
  | some ys=>match ixN ys.length i with
   | some j=>match ys[j]? with
    | some y=>(-(2 ^ 63)≤i∧i<2 ^ 63)∧Q y (S.set n (.lst (ys.eraseIdx j)))
    | none=>False
   | none=>False
  | none=>False
 | _,_=>False
def mClear:FM:=fun x xs S Q=>match x,xs with
 | .ref n,[]=>match q7r S n with
  | some _=>Q .non (S.set n (.lst []))
  | none=>False
 | _,_=>False
theorem mts_clear:MtR X "list.clear" (liftM X.K mClear):=by
 rintro pins s σ H x xs v us Q I rx rs ⟨φ,S,px,pxs,Q0,R,hx,hxs,h,k⟩
 unfold mClear at h
 split at h
 ·rename_i n
  split at h
  ·rename_i ys e
   obtain ⟨a,rfl,qa⟩:=hx
   have hxs':xs=[]:=hxs
   subst hxs'
   obtain ⟨vs,ea,ra⟩:=R.lst qa e
   exact mt_clear pins s σ H _ _ v us Q I rx rs ⟨a,vs,rfl,rfl,ea,k.put (xs:=[]) (vs:=[]) (y:=.non) R qa ea rfl rfl h⟩
  ·exact h.elim
 ·exact h.elim
def q8s:FM:=fun x xs S Q=>match x,xs with
 | .ref n,[.ref m]=>match q7r S n,q7r S m with
  | some ys,some zs=>ys.length+zs.length≤sizeLine∧Q .non (S.set n (.lst (ys++zs)))
  | _,_=>False
 | .ref n,[.tup zs]=>match q7r S n with
  | some ys=>ys.length+zs.length≤sizeLine∧Q .non (S.set n (.lst (ys++zs)))
  | none=>False
 | _,_=>False
theorem ext_tup:MtM X "list.extend" (fun x vs H Q=>∃l b xs zs,x=.ref l∧vs=[.ref b]∧H l=some (.lst xs)∧SqT X.K H b zs∧xs.length+zs.length≤sizeLine∧Q .non (upd H l (.lst (xs++zs)))):=by
 intro pins s σ H x vs v us Q I rx rv h
 obtain ⟨l,b,xs,zs,rfl,rfl,hH,hB,hz,q⟩:=h
 cases rx
 obtain ⟨u,rfl,ru⟩:=rv.one
 cases ru
 obtain ⟨z,its,n,r,hl,e⟩:=I.lstM hH
 obtain ⟨its2,r2,⟨⟨cls,dd,dat,sl⟩,h1,h2,n2,h3⟩,z2⟩:=I.tuple hB
 simp only at h2 h3
 subst h2 h3
 have hl2:=r2.length
 have hss:its.toArray.size+its2.toArray.size≤sizeLine:=by simp only [List.size_toArray]; omega
 have hlong:¬(!its.toArray.isEmpty && Builtin.List.listTooLong (its.toArray.size+its2.toArray.size))=true:=by rw [notLongL hss,Bool.and_false]; exact Bool.false_ne_true
 refine call_meets F.slot_list_extend ⟨_,e,rfl⟩ F.entry_list_extend (F.args_list_extend_2 _ _) (extT l its.toArray n b its2.toArray n2 dd sl hlong (by rw [List.size_toArray]; omega) (by omega)) ⟨e,h1,?_⟩
 exact ⟨.non,_,I.lset (its':=its++its2) hH e (by simp) (r.append r2) (by rw [List.length_append]; omega),rfl,q⟩
theorem mts_extend:MtR X "list.extend" (liftM X.K q8s):=by
 rintro pins s σ H x xs v us Q I rx rs ⟨φ,S,px,pxs,Q0,R,hx,hxs,h,k⟩
 unfold q8s at h
 split at h
 ·rename_i n m
  split at h
  ·rename_i ys zs e1 e2
   obtain ⟨a,rfl,qa⟩:=hx
   obtain ⟨y',rfl,b,rfl,qb⟩:=q3b hxs
   obtain ⟨vs,ea,ra⟩:=R.lst qa e1
   obtain ⟨ws,eb,rb⟩:=R.lst qb e2
   exact mt_extend pins s σ H _ _ v us Q I rx rs ⟨a,b,vs,ws,rfl,rfl,ea,eb,by rw [←ra.length,←rb.length]; exact h.1,k.put (y:=.non) R qa ea (ra.append rb) rfl h.2⟩
  ·exact h.elim
 ·rename_i n zs
  split at h
  ·rename_i ys e1
   obtain ⟨a,rfl,qa⟩:=hx
   obtain ⟨y',rfl,b,ws,rfl,sb,rb⟩:=q3b hxs
   obtain ⟨vs,ea,ra⟩:=R.lst qa e1
   exact ext_tup pins s σ H _ _ v us Q I rx rs ⟨a,b,vs,ws,rfl,rfl,ea,sb,by rw [←ra.length,←rb.length]; exact h.1,k.put (y:=.non) R qa ea (ra.append rb) rfl h.2⟩
  ·exact h.elim
 ·exact h.elim
theorem mts_popAt:MtR X "list.pop" (liftM X.K mPopAt):=by
 rintro pins s σ H x xs v us Q I rx rs ⟨φ,S,px,pxs,Q0,R,hx,hxs,h,k⟩
 unfold mPopAt at h
 split at h
 ·rename_i n i
  split at h
  ·rename_i ys e
   split at h
   ·rename_i j ej
    split at h
    ·rename_i y ey
     obtain ⟨a,rfl,qa⟩:=hx
     obtain ⟨y',rfl,ry⟩:=q3b hxs
     cases ry
     obtain ⟨vs,ea,ra⟩:=R.lst qa e
     obtain ⟨y',e',r'⟩:=ra.get ey
     rw [ra.length] at ej
     exact mt_popAt pins s σ H _ _ v us Q I rx rs ⟨a,vs,i,j,y',rfl,rfl,ea,h.1.1,h.1.2,(ixN_seq ej).1,e',k.put R qa ea (ra.eraseIdx _) r' h.2⟩
    ·exact h.elim
   ·exact h.elim
  ·exact h.elim
 ·exact h.elim
theorem PJ.imp {e:List Expr} {t t':TJ} (h:PJ X e t) (i:∀σ H a Q,t' σ H a Q→t σ H a Q):PJ X e t':=fun pins s σ H acc Q I q=>h pins s σ H acc Q I (i σ H acc Q q)
end
end Ev
namespace Ev
open PySem L2
structure PEnds where
 nx:Loc→q0l→Prop
 rt:VC
 bk:Loc→q0l→Prop:=fun _ _=>False
 ct:Loc→q0l→Prop:=fun _ _=>False
abbrev WS:=PEnds→EK→Loc→q0l→Prop
def KN (K:PySem.W.Frag) (G:GX) (φ:List Addr) (H:Hp) (Q0:Loc→q0l→Prop) (Q:St→Hp→Prop):Prop:=∀σ' S' φ' H' σV',Q0 σ' S'→φ <+: φ'→Mono H H'→Rel K φ' S' H'→LRel K G H' φ' σ' σV'→Q σV' H'
theorem KN.up {K:PySem.W.Frag} {G:GX} {φ φ1:List Addr} {H H1:Hp} {Q0:Loc→q0l→Prop} {Q:St→Hp→Prop} (k:KN K G φ H Q0 Q) (p:φ <+: φ1) (m:Mono H H1):KN K G φ1 H1 Q0 Q:=fun σ' S' φ' H' σV' q p' m'=>k σ' S' φ' H' σV' q (p.trans p') (m.trans m')
structure KS (K:PySem.W.Frag) (G:GX) (φ:List Addr) (H:Hp) (D0:PEnds) (D:Ends):Prop where
 nx:KN K G φ H D0.nx D.nx
 rt:KE K φ H D0.rt D.rt
 bk:KN K G φ H D0.bk D.bk
 ct:KN K G φ H D0.ct D.ct
theorem KS.up {K:PySem.W.Frag} {G:GX} {φ φ1:List Addr} {H H1:Hp} {D0:PEnds} {D:Ends} (k:KS K G φ H D0 D) (p:φ <+: φ1) (m:Mono H H1):KS K G φ1 H1 D0 D:=⟨k.nx.up p m,k.rt.up p m,k.bk.up p m,k.ct.up p m⟩
def liftS (K:PySem.W.Frag) (G:GX) (w:WS):TS:=fun D σV H=>∃φ σ S D0,LRel K G H φ σ σV∧Rel K φ S H∧w D0 G.ek σ S∧KS K G φ H D0 D
def SimS (X:Cx) (G:GX) (st:Stmt) (w:WS):Prop:=PS X st (liftS X.K G w)
def SimSs (X:Cx) (G:GX) (st:List Stmt) (w:WS):Prop:=PSs X st (liftS X.K G w)
theorem _root_.L2.PS.imp {X:Cx} {e:Stmt} {t t':TS} (h:PS X e t) (i:∀D σ H,t' D σ H→t D σ H):PS X e t':=fun pins s σ H D I q=>h pins s σ H D I (i D σ H q)
theorem _root_.L2.PSs.imp {X:Cx} {e:List Stmt} {t t':TS} (h:PSs X e t) (i:∀D σ H,t' D σ H→t D σ H):PSs X e t':=fun pins s σ H D I q=>h pins s σ H D I (i D σ H q)
section
variable {X:Cx} {G:GX} {pos:Pos}
def q1o:WS:=fun D _ σ S=>D.nx σ S
def wSeq (w1 w2:WS):WS:=fun D E σ S=>w1 { D with nx:=w2 D E } E σ S
theorem q0r:SimSs X G [] q1o:=pss_nil.imp fun D σV H hh1=>by obtain ⟨φ,σ,S,D0,L,R,h,k⟩:=hh1; exact (k.nx σ S φ H σV h (List.prefix_refl _) (.refl _) R L)
theorem q0h {st:Stmt} {w:WS} (h:SimS X G st w):SimSs X G [st] w:=pss_one h
theorem q0f {st:Stmt} {rest:List Stmt} {w1 w2:WS} (h1:SimS X G st w1) (h2:SimSs X G rest w2):SimSs X G (st::rest) (wSeq w1 w2):=
 (pss_cons h1 h2).imp fun D σV H hh1=>by obtain ⟨φ,σ,S,D0,L,R,h,k⟩:=hh1; exact (⟨φ,σ,S,_,L,R,h,⟨fun σ' S' φ' H' σV' q p m R' L'=>⟨φ',σ',S',D0,L',R',q,k.up p m⟩,k.rt,k.bk,k.ct⟩⟩)
def q4d (w:WE):WS:=fun D E σ S=>w σ S E fun _ S1=>D.nx σ S1
theorem q2e {e:Expr} {w:WE} (he:SimE X G e w) (hs:swapsWith e none pos.line X.env=pure false:=by rfl):SimS X G (.Expr e pos) (q4d w):=
 (ps_expr he hs).imp fun D σV H hh1=>by obtain ⟨φ,σ,S,D0,L,R,h,k⟩:=hh1; exact (⟨φ,σ,S,_,L,R,h,fun v S1 φ1 H1 x q p1 m1 R1 r1=>k.nx σ S1 φ1 H1 σV q p1 m1 R1 (L.mono m1 p1)⟩)
def wRet (w:WE):WS:=fun D E σ S=>w σ S E D.rt
theorem q0p {e:Expr} {w:WE} (he:SimE X G e w):SimS X G (.Return (some e) pos) (wRet w):=
 (ps_ret he).imp fun D σV H hh1=>by obtain ⟨φ,σ,S,D0,L,R,h,k⟩:=hh1; exact (⟨φ,σ,S,_,L,R,h,k.rt⟩)
def wIfS (c:WT) (t u:WS):WS:=fun D E σ S=>c σ S E fun b S1=>if b=true then t D E σ S1 else u D E σ S1
theorem q1a {c:Expr} {a b:List Stmt} {wc:WT} {t u:WS} (hc:SimT X G c wc) (ha:SimSs X G a t) (hb:SimSs X G b u):SimS X G (.If c a b pos) (wIfS wc t u):=
 (ps_if hc ha hb).imp fun D σV H hh1=>by obtain ⟨φ,σ,S,D0,L,R,h,k⟩:=hh1; exact (⟨φ,σ,S,_,L,R,h,fun c S1 φ1 H1 q p1 m1 R1=>by
  cases c with
  | true=>exact ⟨φ1,σ,S1,D0,L.mono m1 p1,R1,q,k.up p1 m1⟩
  | false=>exact ⟨φ1,σ,S1,D0,L.mono m1 p1,R1,q,k.up p1 m1⟩⟩)
abbrev WG:=PV→Loc→q0l→EK→(Loc→q0l→Prop)→Prop
abbrev WGs:=List PV→Loc→q0l→EK→(Loc→q0l→Prop)→Prop
def liftG (K:PySem.W.Frag) (G:GX) (w:WG):TG:=fun v' σV H Q=>∃φ v σ S Q0,LRel K G H φ σ σV∧Rel K φ S H∧RV K H φ v v'∧w v σ S G.ek Q0∧KN K G φ H Q0 Q
def liftGs (K:PySem.W.Frag) (G:GX) (w:WGs):TGs:=fun v' σV H Q=>∃φ v σ S Q0,LRel K G H φ σ σV∧Rel K φ S H∧RVs K H φ v v'∧w v σ S G.ek Q0∧KN K G φ H Q0 Q
def SimG (X:Cx) (G:GX) (tg:Expr) (w:WG):Prop:=PG X tg (liftG X.K G w)
def SimGs (X:Cx) (G:GX) (tg:List Expr) (w:WGs):Prop:=PGs X tg (liftGs X.K G w)
theorem PG.imp {e:Expr} {t t':TG} (h:PG X e t) (i:∀v σ H Q,t' v σ H Q→t v σ H Q):PG X e t':=fun pins s σ H v u Q I r q=>h pins s σ H v u Q I r (i v σ H Q q)
theorem PGs.imp {e:List Expr} {t t':TGs} (h:PGs X e t) (i:∀v σ H Q,t' v σ H Q→t v σ H Q):PGs X e t':=fun pins s σ H v u Q I r q=>h pins s σ H v u Q I r (i v σ H Q q)
def q1u (i:Nat):WG:=fun v σ S _ Q=>Q (σ.set i (some v)) S
theorem q1d {i:Nat} {x:Str} (hN:X.N.Nodup) (hi:X.N[i]?=some x:=by rfl) (hx:L2.Loc X.env.scope x:=by first | exact Or.inl rfl | exact Or.inr rfl) (hf:X.fn x=true∨X.env.scope.names.lookup x=some .local:=by first | exact .inl rfl | exact .inr rfl | assumption):SimG X G (.Name x pos) (q1u i):=
 PG.imp (pg_name (i:=i) hN hi hx hf) fun v' σV H Q hh1=>by obtain ⟨φ,v,σ,S,Q0,L,R,r,h,k⟩:=hh1; exact (k _ S φ H _ h (List.prefix_refl _) (.refl _) R (L.set i r))
def q8e:WGs:=fun vs σ S _ Q=>match vs with
 | []=>Q σ S
 | _=>False
def q2s (w:WG) (ws:WGs):WGs:=fun vs σ S E Q=>match vs with
 | v::r=>w v σ S E fun σ' S'=>ws r σ' S' E Q
 | _=>False
theorem q3w:SimGs X G [] q8e:=PGs.imp pgs_nil fun v' σV H Q hh1=>by
 obtain ⟨φ,v,σ,S,Q0,L,R,r,h,k⟩:=hh1
 cases v with
 | nil=>exact ⟨r,k _ S φ H _ h (List.prefix_refl _) (.refl _) R L⟩
 | cons _ _=>exact h.elim
theorem q1j {e:Expr} {es:List Expr} {w:WG} {ws:WGs} (h1:SimG X G e w) (h2:SimGs X G es ws) (hs:(assignEach (e::es) X.env).map (·.2)=assign e X.env::(assignEach es X.env).map (·.2):=by rfl):SimGs X G (e::es) (q2s w ws):=
 PGs.imp (pgs_cons h1 h2 hs) fun v' σV H Q hh1=>by
  obtain ⟨φ,v,σ,S,Q0,L,R,r,h,k⟩:=hh1
  cases v with
  | nil=>exact h.elim
  | cons a b=>
   obtain ⟨y,ys,rfl,r1,r2⟩:=r
   exact ⟨y,ys,rfl,φ,a,σ,S,_,L,R,r1,h,fun σ' S' φ' H' σV' q p m R' L'=>⟨φ',b,σ',S',Q0,L',R',RVs.mono m p _ _ r2,q,k.up p m⟩⟩
def q8d (n:Nat) (ws:WGs):WG:=fun v σ S E Q=>match v with
 | .tup xs=>xs.length=n∧ws xs σ S E Q
 | _=>False
theorem q4z {es:List Expr} {kk:Nat} {ws:WGs} (n:Nat) (hc:X.calm=true) (h:SimGs X G es ws) (hn:(assignEach es X.env).length=n:=by rfl) (hst:(assignEach es X.env).findIdx? (·.1)=none:=by rfl):SimG X G (.Tuple es kk pos) (q8d n ws):=
 PG.imp (pg_tup hc h hn hst) fun v' σV H Q hh1=>by
  obtain ⟨φ,v,σ,S,Q0,L,R,r,h,k⟩:=hh1
  cases v with
  | tup xs=>
   obtain ⟨a,vs,rfl,sa,ra⟩:=r
   exact ⟨a,vs,rfl,sa,by rw [←ra.length]; exact h.1,φ,xs,σ,S,Q0,L,R,ra,h.2,k⟩
  | _=>exact h.elim
def wAsg (w:WE) (g:WG):WS:=fun D E σ S=>w σ S E fun v S1=>g v σ S1 E D.nx
theorem q5p {tg e:Expr} {w:WE} {g:WG} (he:SimE X G e w) (hg:SimG X G tg g) (hs:swapsWithSole [tg] e pos.line X.env=pure false:=by rfl) (hw:swappedStores [tg] e X.env=pure none:=by rfl)
  (h1:(assignEach [tg] X.env).map (·.2)=[assign tg X.env]:=by rfl):SimS X G (.Assign [tg] e pos) (wAsg w g):=
 (ps_asg he hg hs hw h1).imp fun D σV H hh1=>by obtain ⟨φ,σ,S,D0,L,R,h,k⟩:=hh1; exact (⟨φ,σ,S,_,L,R,h,fun v S1 φ1 H1 x q p1 m1 R1 r1=>⟨φ1,v,σ,S1,D0.nx,L.mono m1 p1,R1,r1,q,k.nx.up p1 m1⟩⟩)
def wSet (i:Nat) (w:WE):WS:=fun D E σ S=>w σ S E fun v S1=>D.nx (σ.set i (some v)) S1
theorem q0s (i:Nat) {x:Str} {e:Expr} {w:WE} {pos':Pos} (hN:X.N.Nodup) (he:SimE X G e w) (hi:X.N[i]?=some x:=by rfl) (hx:L2.Loc X.env.scope x:=by first | exact Or.inl rfl | exact Or.inr rfl) (hs:swapsWith e (some (.Name x pos')) pos.line X.env=pure false:=by rfl) (hf:X.fn x=true∨X.env.scope.names.lookup x=some .local:=by first | exact .inl rfl | exact .inr rfl | assumption) :
  SimS X G (.Assign [.Name x pos'] e pos) (wSet i w):=
 (ps_set (i:=i) hN hi hx he hs hf).imp fun D σV H hh1=>by obtain ⟨φ,σ,S,D0,L,R,h,k⟩:=hh1; exact (⟨φ,σ,S,_,L,R,h,fun v S1 φ1 H1 x q p1 m1 R1 r1=>k.nx _ S1 φ1 H1 _ q p1 m1 R1 ((L.mono m1 p1).set i r1)⟩)
abbrev FS:=PV→PV→PV→q0l→(q0l→Prop)→Prop
def liftSet (K:PySem.W.Frag) (f:FS):TSet:=fun o' i' v' H Q=>∃φ S o i v Q0,Rel K φ S H∧RV K H φ o o'∧RV K H φ i i'∧RV K H φ v v'∧f o i v S Q0∧∀S' H',Q0 S'→Mono H H'→Rel K φ S' H'→Q H'
def sSet:FS:=fun o i v S Q=>match o with
 | .ref n=>match S[n]? with
  | some (.lst xs)=>match i with
   | .int k=>match ixN xs.length k with
    | some j=>Q (S.set n (.lst (xs.set j v)))
    | none=>False
   | _=>False
  | some (.dK kvs)=>match keyOf i with
   | some k=>kvs.length<sizeLine∧Q (S.set n (.dK (putP kvs k v)))
   | none=>False
  | _=>False
 | _=>False
theorem sets (hu:X.A.units+200<cLine):PSet X (liftSet X.K sSet):=by
 rintro pins s σ H o i v ov iv u Q I ro ri rv ⟨φ,S,po,pi,pv,Q0,R,ho,hi,hv,h,k⟩
 unfold sSet at h
 split at h
 ·rename_i n
  obtain ⟨a,rfl,qa⟩:=ho
  split at h
  ·rename_i xs e
   split at h
   ·rename_i kk
    split at h
    ·rename_i j ej
     cases hi
     obtain ⟨vs,ea,ra⟩:=R.obj n a _ qa e
     rw [ra.length] at ej
     refine set_list pins s σ H _ _ v ov iv u Q I ro ri rv ⟨a,vs,kk,j,rfl,rfl,ea,ej,k _ _ h (.lst ea) (R.put (o:=.lst (xs.set j pv)) qa (.lst ea) ⟨vs.set j v,q3p,RVs.mono (.lst ea) (List.prefix_refl _) _ _ (ra.set hv j)⟩)⟩
    ·exact h.elim
   ·exact h.elim
  ·rename_i kvs e
   split at h
   ·rename_i kk ek
    have hk:=key_rel hi ek
    subst hk
    obtain ⟨ws,ea,ra⟩:=R.obj n a _ qa e
    cases ro
    refine d_setItem (by omega) I (DPut.k ea (by rw [←ra.length]; exact h.1)) ri rv fun s' I'=>⟨_,I',k _ _ h.2 (.dict ea) (R.put (o:=.dK (putP kvs kk pv)) qa (.dict ea) ⟨_,q3p,RKs.mono (.dict ea) (List.prefix_refl _) (ra.put kk hv)⟩)⟩
   ·exact h.elim
  ·exact h.elim
 ·exact h.elim
def q9u (wo wi:WE) (f:FS):WG:=fun v σ S E Q=>wo σ S E fun o S1=>wi σ S1 E fun i S2=>f o i v S2 fun S3=>Q σ S3
theorem q5j {o i:Expr} {wo wi:WE} {f:FS} (hf:PSet X (liftSet X.K f)) (ho:SimE X G o wo) (hi:SimE X G i wi)
  (ha:∀v,assign (.Subscript o i pos) X.env v=(do
   let ov ←holding [v] (eval o X.env)
   let iv ←holding [v,ov] (eval i X.env)
   standAt pos
   holding [v,ov,iv] (setItem ov iv v)
   release [v,ov,iv] []):=by intro _; rfl):SimG X G (.Subscript o i pos) (q9u wo wi f):=
 PG.imp (pg_sub ho hi hf ha) fun v' σV H Q hh1=>by obtain ⟨φ,v,σ,S,Q0,L,R,r,h,k⟩:=hh1; exact (⟨φ,σ,S,_,L,R,h,fun ov S1 φ1 H1 x q p1 m1 R1 r1=>⟨φ1,σ,S1,_,L.mono m1 p1,R1,q,fun iv S2 φ2 H2 y q2 p2 m2 R2 r2=>
  ⟨φ2,S2,ov,iv,v,_,R2,RV.mono m2 p2 _ _ r1,r2,RV.mono m2 p2 _ _ (RV.mono m1 p1 _ _ r),q2,fun S3 H3 q3 m3 R3=>k σ S3 φ2 H3 σV q3 (p1.trans p2) ((m1.trans m2).trans m3) R3 (((L.mono m1 p1).mono m2 p2).mono m3 (List.prefix_refl _))⟩⟩⟩)
def z0c (c:WT) (b:WS):WS:=fun D E σ S=>∃W:Nat→Loc→q0l→Prop,(∃m,W m σ S)∧∀m σ S,W m σ S→
 c σ S E fun bo S1=>if bo=true then ∃N:Loc→q0l→Prop,(∀σ' S',N σ' S'→∃m',m'<m∧W m' σ' S')∧b { D with nx:=N,ct:=N,bk:=D.nx } E σ S1 else D.nx σ S1
theorem q7m {c:Expr} {body:List Stmt} {wc:WT} {wb:WS} (hp:PassesOwn (model X.prog X.w) X.A X.env X.xe) (hc:SimT X G c wc) (hb:SimSs X G body wb):SimS X G (.While c body [] pos) (z0c wc wb):=
 (ps_while hp hc hb).imp fun D σV H hh1=>by
  obtain ⟨φ,σ,S,D0,L,R,h,k⟩:=hh1
  obtain ⟨W,⟨m0,w0⟩,st⟩:=h
  refine ⟨fun m σV' H'=>∃φ' σ' S',φ <+: φ'∧Mono H H'∧LRel X.K G H' φ' σ' σV'∧Rel X.K φ' S' H'∧W m σ' S',⟨m0,φ,σ,S,List.prefix_refl _,.refl _,L,R,w0⟩,?_⟩
  rintro m σV' H' ⟨φ',σ',S',p,mo,L',R',hw⟩
  refine ⟨φ',σ',S',_,L',R',st m σ' S' hw,fun bo S1 φ1 H1 q p1 m1 R1=>?_⟩
  cases bo with
  | true=>
   obtain ⟨N,hN,hb⟩:=q
   refine ⟨fun σ2V H2=>∃φ2 σ2 S2,φ1 <+: φ2∧Mono H1 H2∧LRel X.K G H2 φ2 σ2 σ2V∧Rel X.K φ2 S2 H2∧N σ2 S2,?_,?_⟩
   ·rintro σ2V H2 ⟨φ2,σ2,S2,p2,m2,L2,R2,hn⟩
    obtain ⟨m',hm,hw'⟩:=hN σ2 S2 hn
    exact ⟨m',hm,φ2,σ2,S2,(p.trans p1).trans p2,(mo.trans m1).trans m2,L2,R2,hw'⟩
   ·exact ⟨φ1,σ',S1,_,L'.mono m1 p1,R1,hb,⟨fun σ2 S2 φ2 H2 σ2V q p2 m2 R2 L2=>⟨φ2,σ2,S2,p2,m2,L2,R2,q⟩,k.rt.up (p.trans p1) (mo.trans m1),k.nx.up (p.trans p1) (mo.trans m1),fun σ2 S2 φ2 H2 σ2V q p2 m2 R2 L2=>⟨φ2,σ2,S2,p2,m2,L2,R2,q⟩⟩⟩
  | false=>exact k.nx σ' S1 φ1 H1 σV' q (p.trans p1) (mo.trans m1) R1 (L'.mono m1 p1)
structure PIt where
 xs:List PV
 chk:q0l→Prop
structure ItR (K:PySem.W.Frag) (φ0:List Addr) (H0:Hp) (J:It) (it:PIt):Prop where
 go:∀φ H S,φ0 <+: φ→Mono H0 H→Rel K φ S H→it.chk S→∀(i:Nat) x,it.xs[i]?=some x→J.go i H∧∀y H',J.yld i H y H'→∃φ',φ <+: φ'∧Mono H H'∧Rel K φ' S H'∧RV K H' φ' x y
 stop:∀φ H S,φ0 <+: φ→Mono H0 H→Rel K φ S H→it.chk S→∀i:Nat,it.xs.length≤i→J.stop i H
abbrev WI:=Loc→q0l→EK→(PIt→q0l→Prop)→Prop
def KI (K:PySem.W.Frag) (φ:List Addr) (H:Hp) (Q0:PIt→q0l→Prop) (R:It→Hp→Prop):Prop:=∀it S' φ' H' J,Q0 it S'→φ <+: φ'→Mono H H'→Rel K φ' S' H'→ItR K φ' H' J it→R J H'
def liftI (K:PySem.W.Frag) (G:GX) (w:WI):TI:=fun σV H R=>∃φ σ S Q0,LRel K G H φ σ σV∧Rel K φ S H∧w σ S G.ek Q0∧KI K φ H Q0 R
def SimI (X:Cx) (G:GX) (tg iter:Expr) (w:WI):Prop:=PI X tg iter (liftI X.K G w)
theorem PI.imp {tg e:Expr} {t t':TI} (h:PI X tg e t) (i:∀σ H Q,t' σ H Q→t σ H Q):PI X tg e t':=fun pins s σ H R I q=>h pins s σ H R I (i σ H R q)
def iAny (K:PySem.W.Frag) (tl:TE):TI:=fun σ H R=>tl σ H fun x H1=>(∃a,x=.ref a∧(∃xs,SqL K H1 a xs)∧R (Itl K a) H1)∨(∃a,x=.ref a∧(∃xs,SqT K H1 a xs)∧R (Itt K a) H1)∨∃z,x=.str z∧R (Its z) H1
theorem pi_any {tg l:Expr} {tl:TE} (hl:PE X l tl):PI X tg l (iAny X.K tl):=by
 intro pins s σ H R I h
 refine thn (hl pins s σ H _ I h) fun v s1 hh1=>?_
 obtain ⟨x,H1,I1,r1,q1⟩:=hh1
 rcases q1 with ⟨a,e,⟨xs,hq⟩,q⟩ | ⟨a,e,⟨xs,hq⟩,q⟩ | ⟨z,rfl,q⟩
 ·subst e
  cases r1
  obtain ⟨its,rv,p,hz⟩:=I1.list hq
  refine wpAny_pyIter_list p.isList ?_
  refine ⟨s1.heap.objs.size,[s1.heap.objs.size],_,_,H1,rfl,I1.kept (t':=s1.toks) fun b o e=>Heap.get?_push_of_some _ e,turn_list a _,⟨_,Heap.get?_push_size _ rfl,rfl,rfl⟩,fun b hb=>?_,q⟩
  have e:b=s1.heap.objs.size:=by simpa using hb
  subst e
  exact I1.fpOk (Nat.le_refl _) (I1.hok.fresh (Nat.le_refl _))
 ·subst e
  cases r1
  obtain ⟨its,rv,p,hz⟩:=I1.tuple hq
  refine wpAny_pyIter_tuple (show s1.heap.IsTuple a its.toArray from p) ?_
  refine ⟨s1.heap.objs.size,[s1.heap.objs.size],_,_,H1,rfl,I1.kept (t':=s1.toks) fun b o e=>Heap.get?_push_of_some _ e,turn_tuple a _,⟨_,Heap.get?_push_size _ rfl,rfl,rfl⟩,fun b hb=>?_,q⟩
  have e:b=s1.heap.objs.size:=by simpa using hb
  subst e
  exact I1.fpOk (Nat.le_refl _) (I1.hok.fresh (Nat.le_refl _))
 ·obtain ⟨t,rfl⟩:=r1
  refine wpAny_pyIter_strU ?_
  refine ⟨s1.heap.objs.size,[s1.heap.objs.size],_,_,H1,rfl,I1.kept (t':=s1.toks) fun b o e=>Heap.get?_push_of_some _ e,turn_str _ z t,⟨Nat.zero_le _,_,Heap.get?_push_size _ rfl,rfl,rfl⟩,fun b hb=>?_,q⟩
  obtain rfl:=List.mem_singleton.mp hb
  exact I1.fpOk (Nat.le_refl _) I1.fresh
def chr1 (c:Nat):PV:=.str ⟨#[c]⟩
def q8m (w:WE):WI:=fun σ S E Q=>w σ S E fun x S1=>match x with
 | .ref n=>match q4s S1 n with
  | some xs=>Q ⟨xs,fun S=>q4s S n=some xs⟩ S1
  | none=>False
 | .tup xs=>Q ⟨xs,fun _=>True⟩ S1
 | .frl xs=>Q ⟨xs,fun _=>True⟩ S1
 | .str z=>Q ⟨z.cps.toList.map chr1,fun _=>True⟩ S1
 | _=>False
theorem itr_list {K:PySem.W.Frag} {φ:List Addr} {H:Hp} {n:Nat} {a:Addr} {xs:List PV} (qa:φ[n]?=some a):ItR K φ H (Itl K a) ⟨xs,fun S=>q4s S n=some xs⟩ where
 go:=fun φ1 H1 S1 p m R e i x hx=>by
  obtain ⟨vs,sa,ra⟩:=R.seq (z1i p qa) e
  obtain ⟨y,ey,ry⟩:=ra.get hx
  refine ⟨⟨vs,y,sa,ey⟩,fun y' H' hh1=>?_⟩
  obtain ⟨e1,e2⟩:=hh1
  subst e1
  have:=e2 vs sa
  rw [ey] at this
  cases this
  exact ⟨φ1,List.prefix_refl _,.refl _,R,ry⟩
 stop:=fun φ1 H1 S1 p m R e i hi=>by
  obtain ⟨vs,sa,ra⟩:=R.seq (z1i p qa) e
  exact ⟨vs,sa,by rw [←ra.length]; exact hi⟩
theorem itr_tup {K:PySem.W.Frag} {φ:List Addr} {H:Hp} {a:Addr} {xs:List PV} {vs:List V} (sa:SqT K H a vs) (ra:RVs K H φ xs vs):ItR K φ H (Itt K a) ⟨xs,fun _=>True⟩ where
 go:=fun φ1 H1 S1 p m R e i x hx=>by
  have sa1:=m.sqT sa
  obtain ⟨y,ey,ry⟩:=(RVs.mono m p _ _ ra).get hx
  refine ⟨⟨vs,y,sa1,ey⟩,fun y' H' hh1=>?_⟩
  obtain ⟨e1,e2⟩:=hh1
  subst e1
  have:=e2 vs sa1
  rw [ey] at this
  cases this
  exact ⟨φ1,List.prefix_refl _,.refl _,R,ry⟩
 stop:=fun φ1 H1 S1 p m R e i hi=>⟨vs,m.sqT sa,by rw [←ra.length]; exact hi⟩
theorem itr_frl {K:PySem.W.Frag} {φ:List Addr} {H:Hp} {a:Addr} {xs:List PV} {vs:List V} (sa:SqF K H a vs) (ra:RVs K H φ xs vs):ItR K φ H (Itl K a) ⟨xs,fun _=>True⟩ where
 go:=fun φ1 H1 S1 p m R e i x hx=>by
  have sa1:=(m.sqF sa).sq
  obtain ⟨y,ey,ry⟩:=(RVs.mono m p _ _ ra).get hx
  refine ⟨⟨vs,y,sa1,ey⟩,fun y' H' hh1=>?_⟩
  obtain ⟨e1,e2⟩:=hh1
  subst e1
  have:=e2 vs sa1
  rw [ey] at this
  cases this
  exact ⟨φ1,List.prefix_refl _,.refl _,R,ry⟩
 stop:=fun φ1 H1 S1 p m R e i hi=>⟨vs,(m.sqF sa).sq,by rw [←ra.length]; exact hi⟩
theorem itr_str {K:PySem.W.Frag} {φ:List Addr} {H:Hp} {z:Str}:ItR K φ H (Its z) ⟨z.cps.toList.map chr1,fun _=>True⟩ where
 go:=fun φ1 H1 S1 p m R e i x hx=>by
  have hx':(z.cps.toList.map chr1)[i]?=some x:=hx
  rw [List.getElem?_map] at hx'
  obtain ⟨c,hc,rfl⟩:=Option.map_eq_some_iff.mp hx'
  have hc':z.cps[i]?=some c:=by simpa using hc
  refine ⟨(Array.getElem?_eq_some_iff.mp hc').1,fun y' H' ⟨e1,c',e2,e3⟩=>?_⟩
  subst e1
  rw [hc'] at e2
  cases e2
  exact ⟨φ1,List.prefix_refl _,.refl _,R,e3⟩
 stop:=fun φ1 H1 S1 p m R e i hi=>by
  have:(z.cps.toList.map chr1).length≤i:=hi
  show z.cps.size≤i
  simpa using this
theorem q4y {tg l:Expr} {w:WE} (hl:SimE X G l w):SimI X G tg l (q8m w):=
 PI.imp (pi_any hl) fun σV H Q hh1=>by obtain ⟨φ,σ,S,Q0,L,R,h,k⟩:=hh1; exact (⟨φ,σ,S,_,L,R,h,fun v S1 φ1 H1 x q p1 m1 R1 r1=>by
  split at q
  ·rename_i n
   split at q
   ·rename_i xs e
    obtain ⟨a,rfl,qa⟩:=r1
    obtain ⟨vs,sa,ra⟩:=R1.seq qa e
    exact .inl ⟨a,rfl,⟨vs,sa⟩,k _ S1 φ1 H1 _ q p1 m1 R1 (itr_list qa)⟩
   ·exact q.elim
  ·rename_i xs
   obtain ⟨a,vs,rfl,sa,ra⟩:=r1
   exact .inr (.inl ⟨a,rfl,⟨vs,sa⟩,k _ S1 φ1 H1 _ q p1 m1 R1 (itr_tup sa ra)⟩)
  ·rename_i xs
   obtain ⟨a,vs,rfl,sa,ra⟩:=r1
   exact .inl ⟨a,rfl,⟨vs,sa.sq⟩,k _ S1 φ1 H1 _ q p1 m1 R1 (itr_frl sa ra)⟩
  ·rename_i z
   cases r1
   exact .inr (.inr ⟨z,rfl,k _ S1 φ1 H1 _ q p1 m1 R1 itr_str⟩)
  ·exact q.elim⟩)
def rngP (lo:Int) (n:Nat):List PV:=(List.range n).map fun i=>.int (lo+(i:Nat))
def q7k (wa:WA):WI:=fun σ S E Q=>wa σ S E fun xs S1=>match xs with
 | [.int j]=>(-(2 ^ 62)≤j∧j<2 ^ 62)∧Q ⟨rngP 0 j.toNat,fun _=>True⟩ S1
 | _=>False
theorem itr_range {K:PySem.W.Frag} {φ:List Addr} {H:Hp} {lo:Int} {n:Nat}:ItR K φ H (Itr lo n) ⟨rngP lo n,fun _=>True⟩ where
 go:=fun φ1 H1 S1 p m R e i x hx=>by
  have hx':(rngP lo n)[i]?=some x:=hx
  unfold rngP at hx'
  rw [List.getElem?_map] at hx'
  obtain ⟨c,hc,rfl⟩:=Option.map_eq_some_iff.mp hx'
  obtain ⟨hl,rfl⟩:=List.getElem?_eq_some_iff.mp hc
  rw [List.getElem_range]
  refine ⟨by show i<n; simpa using hl,fun y' H' hh1=>?_⟩
  obtain ⟨e1,e2⟩:=hh1
  subst e1
  exact ⟨φ1,List.prefix_refl _,.refl _,R,e2⟩
 stop:=fun φ1 H1 S1 p m R e i hi=>by
  have:(rngP lo n).length≤i:=hi
  unfold rngP at this
  show n≤i
  simpa using this
theorem q7x {tg a:Expr} {wa:WA} {p:Pos} (hm:X.mg "range" = none) (ha:SimA X G [a] wa) (hg:Gl X "range" :=by rfl) (hs:starEach [a] X.env=[(false,eval a X.env)]:=by rfl):SimI X G tg (.Call (.Name "range" p) [a] [] pos) (q7k wa):=
 PI.imp (pi_range1 hg hm ha hs) fun σV H Q hh1=>by obtain ⟨φ,σ,S,Q0,L,R,h,k⟩:=hh1; exact (⟨φ,σ,S,_,L,R,h,fun v S1 φ1 H1 x q p1 m1 R1 r1=>by
  split at q
  ·rename_i j
   obtain ⟨y,rfl,r⟩:=q3b r1
   cases r
   exact ⟨j,rfl,q.1.1,q.1.2,k _ S1 φ1 H1 _ q.2 p1 m1 R1 itr_range⟩
  ·exact q.elim⟩)
def forGo (chk:q0l→Prop) (g:WG) (wb:WS) (D:PEnds) (E:EK):List PV→Loc→q0l→Prop
 | [],σ,S=>chk S∧D.nx σ S
 | x::r,σ,S=>chk S∧∃N:Loc→q0l→Prop,(∀σ' S',N σ' S'→forGo chk g wb D E r σ' S')∧g x σ S E fun σ2 S2=>wb { nx:=N,rt:=D.rt,ct:=N,bk:=D.nx } E σ2 S2
def wFor (wi:WI) (g:WG) (wb:WS):WS:=fun D E σ S=>wi σ S E fun it S1=>forGo it.chk g wb D E it.xs σ S1
theorem q8o {tg iter:Expr} {body:List Stmt} {wi:WI} {g:WG} {wb:WS} (hp:PassesOwn (model X.prog X.w) X.A X.env X.xe) (hc:X.calm=true) (hi:SimI X G tg iter wi) (hg:SimG X G tg g) (hb:SimSs X G body wb) (hs:∀x,foldedSetIterable iter X.env x=pure x:=by intro _; rfl):SimS X G (.For tg iter body [] pos) (wFor wi g wb):=
 (ps_for hp hc hi hg hb hs).imp fun D σV H hh1=>by obtain ⟨φ,σ,S,D0,L,R,h,k⟩:=hh1; exact (⟨φ,σ,S,_,L,R,h,fun it S1 φ1 H1 J q p1 m1 R1 hj=>by
  refine ⟨fun i m σV' H'=>m=it.xs.length - i∧i≤it.xs.length∧∃φ' σ' S',φ1 <+: φ'∧Mono H1 H'∧LRel X.K G H' φ' σ' σV'∧Rel X.K φ' S' H'∧forGo it.chk g wb D0 G.ek (it.xs.drop i) σ' S',⟨it.xs.length,by simp,Nat.zero_le _,φ1,σ,S1,List.prefix_refl _,.refl _,L.mono m1 p1,R1,by simpa using q⟩,?_⟩
  rintro i m σV' H' ⟨rfl,hi,φ',σ',S',p',m',L',R',hf⟩
  by_cases hlt:i<it.xs.length
  ·rw [List.drop_eq_getElem_cons hlt] at hf
   obtain ⟨hch,N,hN,hb⟩:=hf
   obtain ⟨jg,jy⟩:=hj.go φ' H' S' p' m' R' hch i _ (List.getElem?_eq_getElem hlt)
   refine .inr ⟨jg,fun σ2V H2=>∃φ2 σ2 S2,φ' <+: φ2∧Mono H' H2∧LRel X.K G H2 φ2 σ2 σ2V∧Rel X.K φ2 S2 H2∧N σ2 S2,?_,?_⟩
   ·rintro σ2V H2 ⟨φ2,σ2,S2,p2,m2,L2,R2,hn⟩
    exact ⟨it.xs.length - (i+1),by omega,rfl,hlt,φ2,σ2,S2,p'.trans p2,m'.trans m2,L2,R2,hN σ2 S2 hn⟩
   ·intro y H2 hy
    obtain ⟨φ2,p2,m2,R2,r2⟩:=jy y H2 hy
    refine ⟨φ2,_,σ',S',_,L'.mono m2 p2,R2,r2,hb,fun σ3 S3 φ3 H3 σ3V q3 p3 m3 R3 L3=>?_⟩
    refine ⟨φ3,σ3,S3,_,L3,R3,q3,⟨?_,k.rt.up (((p1.trans p').trans p2).trans p3) (((m1.trans m').trans m2).trans m3),k.nx.up (((p1.trans p').trans p2).trans p3) (((m1.trans m').trans m2).trans m3),?_⟩⟩
    ·exact fun σ4 S4 φ4 H4 σ4V q4 p4 m4 R4 L4=>⟨φ4,σ4,S4,(p2.trans p3).trans p4,(m2.trans m3).trans m4,L4,R4,q4⟩
    ·exact fun σ4 S4 φ4 H4 σ4V q4 p4 m4 R4 L4=>⟨φ4,σ4,S4,(p2.trans p3).trans p4,(m2.trans m3).trans m4,L4,R4,q4⟩
  ·have e:i=it.xs.length:=by omega
   subst e
   rw [List.drop_length] at hf
   exact .inl ⟨hj.stop φ' H' S' p' m' R' hf.1 _ (Nat.le_refl _),k.nx σ' S' φ' H' σV' hf.2 (p1.trans p') (m1.trans m') R' L'⟩⟩)
def innerP (ix:List (Option Nat)) (σ:Loc):Loc:=ix.map fun o=>match o with
 | none=>none
 | some j=>match σ[j]? with
  | some v=>v
  | none=>none
abbrev NoX:EK:=fun _ _=>False
abbrev NoG:GX:=⟨NoX,fun _ _=>False⟩
def z0g (chk:q0l→Prop) (g:WG) (wc:WT) (we:WE) (Q:VC):List PV→List PV→Loc→q0l→Prop
 | [],ys,_,S=>chk S∧Q (.ref S.length) (S++[.lst ys])
 | x::r,ys,σ,S=>chk S∧∃N:List PV→Loc→q0l→Prop,(∀ys' σ' S',N ys' σ' S'→z0g chk g wc we Q r ys' σ' S')∧g x σ S NoX fun σ2 S2=>wc σ2 S2 NoX fun b S3=>if b=true then we σ2 S3 NoX (fun y S4=>N (ys++[y]) σ2 S4) else N ys σ2 S3
def q4t:WT:=fun _ S _ Q=>Q true S
def q7i (wi:WI) (ix:List (Option Nat)) (g:WG) (wc:WT) (we:WE):WE:=fun σ S E Q=>wi σ S E fun it S1=>it.xs.length≤sizeLine∧z0g it.chk g wc we Q it.xs [] (innerP ix σ) S1
theorem inner_rel {K:PySem.W.Frag} {H:Hp} {φ:List Addr} {σ:Loc} {σV:St} (ix:List (Option Nat)) (L:LRel K G H φ σ σV):LRel K NoG H φ (innerP ix σ) (q5h ix σV):=by
 refine ⟨by simp [innerP,q5h],fun i v e=>?_,fun _ _ _ _ q=>q.elim⟩
 unfold innerP at e
 rw [List.getElem?_map] at e
 obtain ⟨o,ho,e'⟩:=Option.map_eq_some_iff.mp e
 cases o with
 | none=>cases e'
 | some j=>
  dsimp only at e'
  cases hj:σ[j]? with
  | none=>rw [hj] at e'; cases e'
  | some w=>
   rw [hj] at e'
   dsimp only at e'
   subst e'
   obtain ⟨x,hx,r⟩:=L.at' j v hj
   refine ⟨x,?_,r⟩
   unfold q5h
   rw [List.getElem?_map,ho]
   simp [hx]
end
end Ev
namespace Ev
open PySem L2 PySem.Spec PyProof.Rows
section
variable {X:Cx} {G:GX} {pos:Pos}
def sqOf (x:PV) (S:q0l):Option (Bool×List PV):=match x with
 | .tup xs=>some (true,xs)
 | .frl xs=>some (false,xs)
 | .ref n=>(q7r S n).map fun xs=>(false,xs)
 | _=>none
theorem sq_rel {K:PySem.W.Frag} {φ:List Addr} {H:Hp} {S:q0l} {x:PV} {x':V} {tp:Bool} {xs:List PV} (R:Rel K φ S H) (r:RV K H φ x x') (e:sqOf x S=some (tp,xs)):∃a vs,x'=.ref a∧Sq tp K H a vs∧RVs K H φ xs vs:=by
 unfold sqOf at e
 split at e
 ·cases e
  obtain ⟨a,vs,rfl,sa,ra⟩:=r
  exact ⟨a,vs,rfl,sa,ra⟩
 ·cases e
  obtain ⟨a,vs,rfl,sa,ra⟩:=r
  exact ⟨a,vs,rfl,sa.sq,ra⟩
 ·obtain ⟨ys,e1,e2⟩:=Option.map_eq_some_iff.mp e
  cases e2
  obtain ⟨a,rfl,qa⟩:=r
  obtain ⟨vs,ea,ra⟩:=R.lst qa e1
  exact ⟨a,vs,rfl,SqL.of ea,ra⟩
 ·cases e
def zipP (xs ys:List PV):List PV:=(xs.zip ys).map fun p=>.tup [p.1,p.2]
def wiZip (wa:WA):WI:=fun σ S E Q=>wa σ S E fun vs S1=>match vs with
 | [x,y]=>match sqOf x S1,sqOf y S1 with
  | some (tp,xs),some (tq,ys)=>Q ⟨zipP xs ys,fun S=>sqOf x S=some (tp,xs)∧sqOf y S=some (tq,ys)⟩ S1
  | _,_=>False
 | _=>False
theorem sq_same {K:PySem.W.Frag} {φ φ1:List Addr} {H H1:Hp} {x:PV} {x':V} (m:Mono H H1) (p:φ <+: φ1) (r:RV K H φ x x'):RV K H1 φ1 x x':=RV.mono m p _ _ r
theorem itr_zip {K:PySem.W.Frag} {φ:List Addr} {H:Hp} {x y:PV} {a b:Addr} {tp tq:Bool} {xs ys:List PV} (rx:RV K H φ x (.ref a)) (ry:RV K H φ y (.ref b)):ItR K φ H (Itz tp tq K a b) ⟨zipP xs ys,fun S=>sqOf x S=some (tp,xs)∧sqOf y S=some (tq,ys)⟩ where
 go:=fun φ1 H1 S1 p m R hh1 i z hz=>by
  obtain ⟨e1,e2⟩:=hh1
  obtain ⟨a',vs,ea,sa,ra⟩:=sq_rel R (sq_same m p rx) e1
  obtain ⟨b',ws,eb,sb,rb⟩:=sq_rel R (sq_same m p ry) e2
  cases ea
  cases eb
  have hz':(zipP xs ys)[i]?=some z:=hz
  unfold zipP at hz'
  rw [List.getElem?_map] at hz'
  obtain ⟨⟨u,v⟩,hu,rfl⟩:=Option.map_eq_some_iff.mp hz'
  obtain ⟨h1,h2⟩:=List.getElem?_zip_eq_some.mp hu
  obtain ⟨u',g1,q1⟩:=ra.get h1
  obtain ⟨v',g2,q2⟩:=rb.get h2
  refine ⟨⟨vs,ws,u',v',sa,sb,g1,g2⟩,fun y' H' hh2=>?_⟩
  obtain ⟨p',x1,x2,e1,hp,e2,h3,h4⟩:=hh2
  subst e1 e2
  have:=h3 vs sa
  rw [g1] at this
  cases this
  have:=h4 ws sb
  rw [g2] at this
  cases this
  exact ⟨φ1,List.prefix_refl _,.new _ hp,R.frame _ hp,p',_,rfl,SqT.of q3p,RVs.mono (.new _ hp) (List.prefix_refl _) _ _ (.cons q1 (.one q2))⟩
 stop:=fun φ1 H1 S1 p m R hh3 i hi=>by
  obtain ⟨e1,e2⟩:=hh3
  obtain ⟨a',vs,ea,sa,ra⟩:=sq_rel R (sq_same m p rx) e1
  obtain ⟨b',ws,eb,sb,rb⟩:=sq_rel R (sq_same m p ry) e2
  cases ea
  cases eb
  refine ⟨vs,ws,sa,sb,?_⟩
  have:(zipP xs ys).length≤i:=hi
  unfold zipP at this
  rw [List.length_map,List.length_zip,ra.length,rb.length] at this
  omega
theorem simI_zip {es:List Expr} {kk:Nat} {ps:Pos} {a b:Expr} {wa:WA} {p:Pos} (hm:X.mg "zip" = none) (ha:SimA X G [a,b] wa) (hg:Gl X "zip" :=by rfl) (hs:starEach [a,b] X.env=[(false,eval a X.env),(false,eval b X.env)]:=by rfl) (hs2:starEach [b] X.env=[(false,eval b X.env)]:=by rfl):SimI X G (.Tuple es kk ps) (.Call (.Name "zip" p) [a,b] [] pos) (wiZip wa):=
 PI.imp (pi_zip hg hm ha hs hs2) fun σV H Q hh1=>by obtain ⟨φ,σ,S,Q0,L,R,h,k⟩:=hh1; exact (⟨φ,σ,S,_,L,R,h,fun v S1 φ1 H1 x q p1 m1 R1 r1=>by
  split at q
  ·rename_i x1 x2
   split at q
   ·rename_i tp xs tq ys e1 e2
    obtain ⟨y1,y2,rfl,g1,g2⟩:=two_rel r1
    obtain ⟨a',vs,rfl,sa,ra⟩:=sq_rel R1 g1 e1
    obtain ⟨b',ws,rfl,sb,rb⟩:=sq_rel R1 g2 e2
    exact ⟨tp,tq,a',b',vs,ws,rfl,sa,sb,k _ S1 φ1 H1 _ q p1 m1 R1 (itr_zip g1 g2)⟩
   ·exact q.elim
  ·exact q.elim⟩)
end
abbrev Den:=List PV→q0l→EK→VC→Prop
def ClsP (K:PySem.W.Frag) (v:PV) (cls:Value):Prop:=∃c C,v=.exc c∧cls=.ref C∧PySem.W.nsIn K mainGlobals (Str.ofString c)=some (some (.ref C))
def xkOf (K:PySem.W.Frag) (f:PV→Hp→Prop):XK:=fun cls _ H'=>∃v,ClsP K v cls∧f v H'
def KX (K:PySem.W.Frag) (φ:List Addr) (H:Hp) (E0:EK) (f:PV→Hp→Prop):Prop:=∀v S' φ' H',E0 v S'→φ <+: φ'→Mono H H'→Rel K φ' S' H'→f v H'
theorem passNo {P:Program} {w:World} {X:Cx} {K:PySem.W.Frag}:q6o (CXE P w) X (xkOf K NoG.xh):=passE0.imp fun _ _ _ hh1=>by obtain ⟨_,_,q⟩:=hh1; exact (q)
def q0q (K:PySem.W.Frag) (sp:Den):Sp:=fun vs H Q E=>∃φ args S Q0 E0 f,RVs K H φ args vs∧Rel K φ S H∧sp args S E0 Q0∧KE K φ H Q0 Q∧KX K φ H E0 f∧∀cls d H',xkOf K f cls d H'→E cls d H'
def q0v (sp:Den) (wa:WA):WE:=fun σ S E Q=>wa σ S E fun xs S1=>sp xs S1 E Q
theorem q0k {X:Cx} {G:GX} {pos:Pos} {k:Nat} {f:Addr} {fd:FuncData} {ps:List Str} {sp:Den} {x:Str} {p:Pos} {e:Expr} {es:List Expr} {wa:WA} (C:Cal X.prog X.w X.K X.mg X.base k x ps (q0q X.K sp) f fd) (hr:Room k X.A) (hx:q6o (CXE X.prog X.w) X (xkOf X.K G.xh)) (ha:SimA X G (e::es) wa) (hg:Gl X x:=by rfl)
  (hdb:(x == ("__debug__" : Str))=false:=by decide) (he:starEach (e::es) X.env=(false,eval e X.env)::starEach es X.env:=by rfl) (hpl:(backTo pos (starEach es X.env)).any (·.1)=false:=by rfl) :
  SimE X G (.Call (.Name x p) (e::es) [] pos) (q0v sp wa):=
 (pe_call C.G hr hg C.m C.kp C.b .nil hx ha hdb he hpl).imp fun σV H Q hh1=>by obtain ⟨φ,σ,S,Q0,L,R,h,k⟩:=hh1; exact (⟨φ,σ,S,_,L,R,h,fun v S1 φ1 H1 x q p1 m1 R1 r1=>
  ⟨φ1,v,S1,Q0,G.ek,G.xh,by rw [List.append_nil]; exact r1,R1,q,k.up p1 m1,(L.mono m1 p1).kx,fun _ _ _ z=>z⟩⟩)
def fnP (np nl:Nat) (w:WS):Den:=fun args S E Q=>args.length=np∧w { nx:=fun _ S'=>Q .non S',rt:=Q } E (args.map some++List.replicate (nl - np) none) S
theorem start_rel {K:PySem.W.Frag} {G:GX} {H:Hp} {φ:List Addr} {args:List PV} {vs:List V} (N:List Str) (r:RVs K H φ args vs) (kx:KX K φ H G.ek G.xh):LRel K G H φ (args.map some++List.replicate (N.length - args.length) none) (L2.z1a N vs):=by
 refine ⟨by unfold L2.z1a; simp [r.length],fun i v e=>?_,kx⟩
 by_cases hi:i<args.length
 ·rw [List.getElem?_append_left (by simpa using hi),List.getElem?_map] at e
  obtain ⟨u,hu,e'⟩:=Option.map_eq_some_iff.mp e
  cases e'
  obtain ⟨x,hx,rx⟩:=r.get hu
  refine ⟨x,?_,rx⟩
  unfold L2.z1a
  rw [List.getElem?_append_left (by simpa [←r.length] using hi),List.getElem?_map,hx]
  rfl
 ·rw [List.getElem?_append_right (by simpa using hi),List.getElem?_replicate] at e
  split at e<;>cases e
theorem q1q {P:Program} {w:World} {K:PySem.W.Frag} {mg:Str→Option Value} {base:Heap} {x qual:Str} {st:Stmt} {f:Addr} {fd:FuncData} {N ps:List Str} {k:Nat} {wb:WS} (F:Fun K x qual st f fd) (Sc:FnScope N ps (q0j st))
  (sim:∀(cdv:Value) (A:Around) (outer:List Env) (s:Shared) (H:Hp) (E:XK) (G:GX),Room k (A.deeper (envOfC qual (q0j st) s.heap.objs.size f cdv))→q6o (CXE P w) (cxOf (CXE P w) P w K mg base N qual (q0j st) f cdv A outer s H E) (xkOf K G.xh)→
   SimSs (cxOf (CXE P w) P w K mg base N qual (q0j st) f cdv A outer s H E) G (q0y st) wb) :
  FnOk P w K mg base (CXE P w) (k+1) f fd ps (q0q K (fnP ps.length N.length wb)):=by
 refine F.okX Sc (fun vs H Q E h=>?_) (fun cdv A outer s H vs Q E hr h=>?_)
 ·obtain ⟨φ,args,S,Q0,E0,g,r,_,⟨h,_⟩,_⟩:=h
  rw [←r.length,h]
 ·obtain ⟨φ,args,S,Q0,E0,g,r,R,⟨hl,h⟩,kk,kx,hE⟩:=h
  refine ⟨_,sim cdv A outer s H E ⟨E0,g⟩ hr (passX.imp hE),φ,_,S,{ nx:=fun _ S'=>Q0 .non S',rt:=Q0 },?_,R,h,⟨fun σ' S' φ' H' σV' q p m R' L'=>kk _ S' φ' H' _ q p m R' rfl,kk,fun _ _ _ _ _ q=>q.elim,fun _ _ _ _ _ q=>q.elim⟩⟩
  have:=start_rel (G:=⟨E0,g⟩) N r kx
  rw [hl] at this
  exact this
theorem q2x {P:Program} {w:World} {K:PySem.W.Frag} {mg:Str→Option Value} {base:Heap} {k:Nat} {f:Addr} {fd:FuncData} {ps:List Str}:FnOk P w K mg base (CXE P w) k f fd ps (q0q K fun _ _ _ _=>False):=
 ⟨fun vs H Q E hh1=>by obtain ⟨_,_,_,_,_,_,_,_,h,_⟩:=hh1; exact (h.elim),fun A outer s H args us vs Q E _ _ _ _ hh2=>by obtain ⟨_,_,_,_,_,_,_,_,h,_⟩:=hh2; exact (h.elim)⟩
def LawP (sp:Den):Prop:=∀ns:List Int,ns.length≤63→sp [.frl (ns.map .int)] [] NoX fun v _=>v=.bl true
theorem law_sp {K:PySem.W.Frag} {sp:Den} (h:LawP sp):∀(H:Hp) (a:Addr) (ns:List Int),ns.length≤63→Only H→SqL K H a (ns.map V.int)→q0q K sp [.ref a] H (fun v _=>v=.bl true) fun _ _ _=>False:=by
 intro H a ns hl hO hS
 refine ⟨[],[.frl (ns.map .int)],[],_,NoX,fun _ _=>False,⟨_,_,rfl,⟨a,_,rfl,?_,RVs.of_ints ns⟩,rfl⟩,⟨rfl,by simp,fun n a o e=>by simp at e⟩,h ns hl,fun v S' φ' H' x q p m R r=>?_,fun _ _ _ _ q=>q.elim,fun _ _ _ hh1=>by obtain ⟨_,_,q⟩:=hh1; exact (q)⟩
 ·rcases hS with hS | hS
  ·rcases hS with z | ⟨o,z⟩
   ·rcases hO a with w | ⟨o,xs,w⟩
    ·rw [z] at w; cases w
    ·rw [z] at w; cases w
   ·exact .inl ⟨o,z⟩
  ·exact .inr hS
 ·subst q
  exact r
end Ev
namespace L2
open PySem PySem.Spec PyProof.Rows
theorem boot_max:bootBuiltins "max" = some (.builtin "max"):=by kernel_rfl
section
variable {prog:Program} {w:World} {A:Around} {E:Value→Shared→Prop} {s:Shared}
end
end L2
namespace Ev
open PySem L2
section
variable {X:Cx} {G:GX} {pos:Pos}
abbrev WD:=Loc→q0l→EK→(List (Key×PV)→q0l→Prop)→Prop
def KD (K:PySem.W.Frag) (φ:List Addr) (H:Hp) (Q0:List (Key×PV)→q0l→Prop) (Q:List (V×V)→Hp→Prop):Prop:=∀kvs S' φ' H' ws,Q0 kvs S'→φ <+: φ'→Mono H H'→Rel K φ' S' H'→RKs K H' φ' kvs ws→Q (ws.map fun kv=>(kV kv.1,kv.2)) H'
def liftD (K:PySem.W.Frag) (G:GX) (w:WD) (σV:St) (H:Hp) (Q:List (V×V)→Hp→Prop):Prop:=∃φ σ S Q0,LRel K G H φ σ σV∧Rel K φ S H∧w σ S G.ek Q0∧KD K φ H Q0 Q
def SimD (X:Cx) (G:GX) (pos:Pos) (ks:List (Option Expr)) (vs:List Expr) (w:WD):Prop:=∃trs,PPs X pos ks vs trs∧∀σV H Q,liftD X.K G w σV H Q→tPairs trs σV H Q
def wdNil:WD:=fun _ S _ Q=>Q [] S
def q4u (wk wv:WE) (w:WD):WD:=fun σ S E Q=>wk σ S E fun k S1=>wv σ S1 E fun v S2=>match keyOf k with
 | some kk=>w σ S2 E fun kvs S3=>Q ((kk,v)::kvs) S3
 | none=>False
theorem simD_nil:SimD X G pos [] [] wdNil:=⟨[],pps_nil,fun σV H Q hh1=>by obtain ⟨φ,σ,S,Q0,L,R,h,k⟩:=hh1; exact (k [] S φ H [] h (List.prefix_refl _) (.refl _) R .nil)⟩
theorem q3x {k v:Expr} {ks:List (Option Expr)} {vs:List Expr} {wk wv:WE} {w:WD} (hk:SimE X G k wk) (hv:SimE X G v wv) (hr:SimD X G pos ks vs w):SimD X G pos (some k::ks) (v::vs) (q4u wk wv w):=by
 obtain ⟨trs,hp,hi⟩:=hr
 refine ⟨_,pps_cons hk hv hp,fun σV H Q hh1=>?_⟩
 obtain ⟨φ,σ,S,Q0,L,R,h,kk⟩:=hh1
 refine ⟨φ,σ,S,_,L,R,h,fun pk S1 φ1 H1 x q p1 m1 R1 r1=>⟨φ1,σ,S1,_,L.mono m1 p1,R1,q,fun pv S2 φ2 H2 y q2 p2 m2 R2 r2=>?_⟩⟩
 refine hi _ _ _ ?_
 split at q2
 ·rename_i key ek
  refine ⟨φ2,σ,S2,_,(L.mono m1 p1).mono m2 p2,R2,q2,fun kvs S3 φ3 H3 ws q3 p3 m3 R3 r3=>?_⟩
  have:=kk ((key,pv)::kvs) S3 φ3 H3 ((key,y)::ws) q3 ((p1.trans p2).trans p3) ((m1.trans m2).trans m3) R3 (.cons ⟨rfl,RV.mono m3 p3 _ _ r2⟩ r3)
  rw [key_rel r1 ek]
  exact this
 ·exact q2.elim
def mergeP (kvs more:List (Key×PV)):List (Key×PV):=more.foldl (fun acc kv=>putP acc kv.1 kv.2) kvs
theorem RKs.merge {K:PySem.W.Frag} {H:Hp} {φ:List Addr} {more:List (Key×PV)} {rs:List (Key×V)} (r:RKs K H φ more rs):∀{kvs:List (Key×PV)} {vs:List (Key×V)},RKs K H φ kvs vs→RKs K H φ (mergeP kvs more) (mergeK vs rs):=by
 unfold RKs at r
 induction r with
 | nil=>intro kvs vs q; exact q
 | @cons p q ps qs h t ih=>
  intro kvs vs r0
  have e:RKs K H φ (putP kvs p.1 p.2) (putK vs q.1 q.2):=by
   have:=r0.put p.1 h.2
   rw [←h.1]; exact this
  exact ih e
def wDisp (w:WD):WE:=fun σ S E Q=>w σ (S++[.dK []]) E fun kvs S1=>(S1[S.length]?=some (.dK [])∧kvs.length≤15)∧Q (.ref S.length) (S1.set S.length (.dK (mergeP [] kvs)))
theorem sim_disp {keys:List (Option Expr)} {values:List Expr} {w:WD} (h:SimD X G pos keys values w) (hall:keys.all (·.isSome)=true:=by rfl) (hl:keys.length=values.length:=by rfl) (h0:keys≠[]:=by simp) (h15:keys.length≤15:=by decide):SimE X G (.Dict keys values pos) (wDisp w):=by
 obtain ⟨trs,hp,hi⟩:=h
 refine (pe_disp hp hall hl h0 h15).imp fun σV H Q hh1=>?_
 obtain ⟨φ,σ,S,Q0,L,R,h,k⟩:=hh1
 intro p hp
 refine hi _ _ _ ?_
 have R1:Rel X.K (φ++[p]) (S++[.dK []]) (upd H p (.dK [])):=R.new (o:=.dK []) hp ⟨[],q3p,.nil⟩
 refine ⟨φ++[p],σ,_,_,L.mono (.new _ hp) (List.prefix_append _ _),R1,h,fun kvs S' φ' H' ws q p' m' R' r'=>?_⟩
 obtain ⟨⟨e,hl⟩,q⟩:=q
 have ep:φ'[S.length]?=some p:=z1i p' (by rw [←R.len]; simp)
 obtain ⟨vs,ev,rv⟩:=R'.obj _ _ _ ep e
 have:vs=[]:=List.length_eq_zero_iff.mp (by rw [←RKs.length rv]; rfl)
 subst this
 refine ⟨ev,ws,rfl,by rw [←RKs.length r']; exact hl,?_⟩
 refine k _ _ φ' _ _ q ((List.prefix_append _ _).trans p') (((Mono.new _ hp).trans m').trans (.dict ev)) (R'.put (o:=.dK (mergeP [] kvs)) ep (.dict ev) ⟨_,q3p,?_⟩) ⟨p,rfl,ep⟩
 exact RKs.mono (.dict ev) (List.prefix_refl _) (RKs.merge r' .nil)
end
end Ev
namespace Ev
open PySem L2
section
variable {X:Cx} {G:GX} {pos:Pos}
theorem q9x {K:PySem.W.Frag} {w:WI} (σ:St) (H:Hp) (R R':It→Hp→Prop) (h:∀J H1,R J H1→R' J H1) (q:liftI K G w σ H R):liftI K G w σ H R':=by
 obtain ⟨φ,σ,S,Q0,L,R,hw,k⟩:=q
 exact ⟨φ,σ,S,Q0,L,R,hw,fun it S' φ' H' J q p m R hj=>h _ _ (k it S' φ' H' J q p m R hj)⟩
theorem z1x {tg iter elt c:Expr} {scope:Scope} {wi:WI} {g:WG} {wc:WT} {we:WE} {ix:List (Option Nat)} {σV:St} {H:Hp} {Q:VK} (h:z0n X.K G (q7i wi ix g wc we) σV H Q):tCompIf (liftI X.K G wi) ix (liftG X.K NoG g) (liftT X.K NoG wc) (z0n X.K NoG we) σV H Q:=by
 obtain ⟨φ,σ,S,Q0,L,R,h,k⟩:=h
 refine ⟨φ,σ,S,_,L,R,h,fun it S1 φ1 H1 J hh1 p1 m1 R1 hj=>?_⟩
 obtain ⟨hz,q⟩:=hh1
 refine ⟨fun i ys σV' H'=>∃φ' σ' S' pys,φ1 <+: φ'∧Mono H1 H'∧LRel X.K NoG H' φ' σ' σV'∧Rel X.K φ' S' H'∧RVs X.K H' φ' pys ys∧z0g it.chk g wc we Q0 (it.xs.drop i) pys σ' S',it.xs.length,hz,⟨φ1,_,S1,[],List.prefix_refl _,.refl _,inner_rel ix (L.mono m1 p1),R1,rfl,by simpa using q⟩,?_⟩
 rintro i ys σV' H' hi ⟨φ',σ',S',pys,p',m',L',R',rys,hf⟩
 by_cases hlt:i<it.xs.length
 ·rw [List.drop_eq_getElem_cons hlt] at hf
  obtain ⟨hch,N,hN,hb⟩:=hf
  obtain ⟨jg,jy⟩:=hj.go φ' H' S' p' m' R' hch i _ (List.getElem?_eq_getElem hlt)
  refine .inr ⟨hlt,jg,fun y H2 hy=>?_⟩
  obtain ⟨φ2,p2,m2,R2,r2⟩:=jy y H2 hy
  refine ⟨φ2,_,σ',S',_,L'.mono m2 p2,R2,r2,hb,fun σ3 S3 φ3 H3 σ3V q3 p3 m3 R3 L3=>?_⟩
  refine ⟨φ3,σ3,S3,_,L3,R3,q3,fun b S4 φ4 H4 q4 p4 m4 R4=>?_⟩
  cases b with
  | true=>
   have hw:we σ3 S4 NoX (fun y S4=>N (pys++[y]) σ3 S4):=q4
   refine ⟨φ4,σ3,S4,_,L3.mono m4 p4,R4,hw,fun z S5 φ5 H5 z' q5 p5 m5 R5 r5=>?_⟩
   exact ⟨φ5,σ3,S5,pys++[z],(((p'.trans p2).trans p3).trans p4).trans p5,(((m'.trans m2).trans m3).trans m4).trans m5,(L3.mono m4 p4).mono m5 p5,R5,(RVs.mono (((m2.trans m3).trans m4).trans m5) (((p2.trans p3).trans p4).trans p5) _ _ rys).append (.one r5),hN _ _ _ q5⟩
  | false=>exact ⟨φ4,σ3,S4,pys,((p'.trans p2).trans p3).trans p4,((m'.trans m2).trans m3).trans m4,L3.mono m4 p4,R4,RVs.mono ((m2.trans m3).trans m4) ((p2.trans p3).trans p4) _ _ rys,hN _ _ _ q4⟩
 ·have e:i=it.xs.length:=by omega
  subst e
  rw [List.drop_length] at hf
  exact .inl ⟨hj.stop φ' H' S' p' m' R' hf.1 _ (Nat.le_refl _),(k.up (p1.trans p') (m1.trans m')).lst hf.2 R' rys⟩
theorem set_lift {D:Ends} {σV:St} {H:Hp} {i:Nat} {w:WE} (h:liftS X.K G (wSet i w) D σV H):z0n X.K G w σV H fun v H1=>D.nx (σV.set i (some v)) H1:=by
 obtain ⟨φ,σ,S,D0,L,R,h,k⟩:=h
 exact ⟨φ,σ,S,_,L,R,h,fun v S1 φ1 H1 x q p1 m1 R1 r1=>k.nx _ S1 φ1 H1 _ q p1 m1 R1 ((L.mono m1 p1).set i r1)⟩
theorem true_lift {K:PySem.W.Frag} (σ:St) (H:Hp) (Q:Bool→Hp→Prop) (h:liftT K NoG q4t σ H Q):Q true H:=by
 obtain ⟨φ,σ,S,Q0,L,R,h,k⟩:=h
 exact k true S φ H h (List.prefix_refl _) (.refl _) R
theorem q5t {tg iter elt:Expr} {scope:Scope} {wi:WI} {g:WG} {we:WE} (N':List Str) (ix:List (Option Nat)) (hc:X.calm=true) (co:CompOk X scope N' ix) (hi:SimI X G tg iter wi) (hg:∀cl C s H fp,SimG (X.comp scope N' cl C s H fp) NoG tg g) (he:∀cl C s H fp,SimE (X.comp scope N' cl C s H fp) NoG elt we)
  (hs:∀x,foldedSetIterable iter X.env x=pure x:=by intro _; rfl):SimE X G (.ListComp elt [⟨tg,iter,[],0⟩] scope pos) (q7i wi ix g q4t we):=
 (pe_compG (g:=liftG X.K NoG g) (tc:=liftT X.K NoG q4t) (te:=z0n X.K NoG we) hc co hi q9x hg (fun _ _ _ _ _=>pts_nil true_lift) he hs).imp fun σV H Q h=>z1x (tg:=tg) (iter:=iter) (elt:=elt) (c:=elt) (scope:=scope) h
theorem sim_compIf {tg iter elt c:Expr} {scope:Scope} {wi:WI} {g:WG} {wc:WT} {we:WE} (N':List Str) (ix:List (Option Nat)) (hc:X.calm=true) (co:CompOk X scope N' ix) (hi:SimI X G tg iter wi) (hg:∀cl C s H fp,SimG (X.comp scope N' cl C s H fp) NoG tg g) (ht:∀cl C s H fp,SimT (X.comp scope N' cl C s H fp) NoG c wc) (he:∀cl C s H fp,SimE (X.comp scope N' cl C s H fp) NoG elt we)
  (hs:∀x,foldedSetIterable iter X.env x=pure x:=by intro _; rfl):SimE X G (.ListComp elt [⟨tg,iter,[c],0⟩] scope pos) (q7i wi ix g wc we):=
 (pe_compG (g:=liftG X.K NoG g) (tc:=liftT X.K NoG wc) (te:=z0n X.K NoG we) hc co hi q9x hg (fun cl C s H fp=>pts_one (ht cl C s H fp)) he hs).imp fun σV H Q h=>z1x (tg:=tg) (iter:=iter) (elt:=elt) (c:=c) (scope:=scope) h
theorem sim_setCompIf (i:Nat) {x:Str} {px sp:Pos} {tg iter elt c:Expr} {scope:Scope} {wi:WI} {g:WG} {wc:WT} {we:WE} (N':List Str) (ix:List (Option Nat)) (hN:X.N.Nodup) (hc:X.calm=true) (co:CompOk X scope N' ix) (hi:SimI X G tg iter wi) (hg:∀cl C s H fp,SimG (X.comp scope N' cl C s H fp) NoG tg g) (ht:∀cl C s H fp,SimT (X.comp scope N' cl C s H fp) NoG c wc) (he:∀cl C s H fp,SimE (X.comp scope N' cl C s H fp) NoG elt we)
  (hsw:swapsWith (.ListComp elt [⟨tg,iter,[c],0⟩] scope pos) (some (.Name x px)) sp.line X.env=pure true:=by rfl) (hii:X.N[i]?=some x:=by rfl) (hx:L2.Loc X.env.scope x:=by first | exact Or.inl rfl | exact Or.inr rfl)
  (hs:∀x,foldedSetIterable iter X.env x=pure x:=by intro _; rfl) (hf:X.fn x=true∨X.env.scope.names.lookup x=some .local:=by first | exact .inl rfl | exact .inr rfl | assumption) :
  SimS X G (.Assign [.Name x px] (.ListComp elt [⟨tg,iter,[c],0⟩] scope pos) sp) (wSet i (q7i wi ix g wc we)):=
 (ps_setCompG (g:=liftG X.K NoG g) (tc:=liftT X.K NoG wc) (te:=z0n X.K NoG we) hsw hN hii hx hc co hi q9x hg (fun cl C s H fp=>pts_one (ht cl C s H fp)) he hs hf).imp fun D σV H h=>z1x (tg:=tg) (iter:=iter) (elt:=elt) (c:=c) (scope:=scope) (set_lift h)
end
end Ev
namespace My
open PySem L2 Ev
def Ex (D:List Nat) (S S':q0l):Prop:=S.length≤S'.length∧∀i,i<S.length→i∉D→S'[i]?=S[i]?
theorem Ex.refl (D:List Nat) (S:q0l):Ex D S S:=⟨Nat.le_refl _,fun _ _ _=>rfl⟩
theorem Ex.trans {D:List Nat} {S S1 S2:q0l} (a:Ex D S S1) (b:Ex D S1 S2):Ex D S S2:=⟨Nat.le_trans a.1 b.1,fun i h n=>(b.2 i (Nat.lt_of_lt_of_le h a.1) n).trans (a.2 i h n)⟩
theorem Ex.weak {D D':List Nat} {S S':q0l} (a:Ex D S S') (h:∀i∈D,i∈D'):Ex D' S S':=⟨a.1,fun i l n=>a.2 i l fun z=>n (h i z)⟩
theorem Ex.nil {D:List Nat} {S S':q0l} (a:Ex [] S S'):Ex D S S':=a.weak fun i h=>by cases h
theorem Ex.app {D:List Nat} {S S':q0l} (a:Ex D S S') (xs:List SO):Ex D S (S'++xs):=⟨by rw [List.length_append]; exact Nat.le_trans a.1 (Nat.le_add_right _ _),fun i h n=>by rw [List.getElem?_append_left (Nat.lt_of_lt_of_le h a.1)]; exact a.2 i h n⟩
theorem Ex.set {D:List Nat} {S S':q0l} (a:Ex D S S') {i:Nat} {o:SO} (hi:i∈D∨S.length≤i):Ex D S (S'.set i o):=⟨by rw [List.length_set]; exact a.1,fun j h n=>by
 rw [List.getElem?_set_ne]
 ·exact a.2 j h n
 ·rintro rfl
  rcases hi with z | z
  ·exact n z
  ·omega⟩
theorem Ex.get {D:List Nat} {S S':q0l} (a:Ex D S S') {i:Nat} {o:SO} (e:S[i]?=some o) (n:i∉D):S'[i]?=some o:=by
 rw [a.2 i (List.getElem?_eq_some_iff.mp e).1 n]; exact e
theorem Ex.new (D:List Nat) (S:q0l) (xs:List SO):Ex D S (S++xs):=(Ex.refl D S).app xs
theorem q1f (S:q0l) (o:SO):(S++[o])[S.length]?=some o:=by simp
theorem q1m {S:q0l} {i:Nat} {o:SO} (e:S[i]?=some o) (xs:List SO):(S++xs)[i]?=some o:=by
 rw [List.getElem?_append_left (List.getElem?_eq_some_iff.mp e).1]; exact e
theorem q1v {S:q0l} {i:Nat} {o:SO} (u:SO) (e:S[i]?=some o):(S.set i u)[i]?=some u:=List.getElem?_set_self (List.getElem?_eq_some_iff.mp e).1
theorem q2r {S:q0l} {i j:Nat} {o:SO} (u:SO) (e:S[i]?=some o) (h:j≠i):(S.set j u)[i]?=some o:=by rw [List.getElem?_set_ne h]; exact e
theorem q2k {S:q0l} {i:Nat} {o:SO} (e:S[i]?=some o):i<S.length:=(List.getElem?_eq_some_iff.mp e).1
theorem q1g {S:q0l} {n:Nat} {xs:List PV} (e:S[n]?=some (.lst xs)):q7r S n=some xs:=by unfold q7r; rw [e]
theorem q1c {S:q0l} {n:Nat} {xs:List PV} (e:S[n]?=some (.lst xs)):q4s S n=some xs:=by unfold q4s; rw [e]
theorem seq_new (S:q0l) (xs:List PV):q4s (S++[.lst xs]) S.length=some xs:=q1c (q1f _ _)
theorem lst_new (S:q0l) (xs:List PV):q7r (S++[.lst xs]) S.length=some xs:=q1g (q1f _ _)
theorem seqI {a b:WS} {D:PEnds} {E:EK} {σ:Ev.Loc} {S:q0l} (h:∀K:Ev.Loc→q0l→Prop,(∀σ S,b D E σ S→K σ S)→a { D with nx:=K } E σ S):wSeq a b D E σ S:=h _ fun _ _ z=>z
theorem forI {chk:q0l→Prop} {g:WG} {wb:WS} {D:PEnds} {E:EK} (P:List PV→Ev.Loc→q0l→Prop) (hn:∀σ S,P [] σ S→chk S∧D.nx σ S)
  (hc:∀x r σ S,P (x::r) σ S→∀N:Ev.Loc→q0l→Prop,(∀σ S,P r σ S→N σ S)→chk S∧g x σ S E fun σ2 S2=>wb { nx:=N,rt:=D.rt,ct:=N,bk:=D.nx } E σ2 S2):∀(xs:List PV) (σ:Ev.Loc) (S:q0l),P xs σ S→forGo chk g wb D E xs σ S
 | [],σ,S,h=>hn σ S h
 | x::r,σ,S,h=>⟨(hc x r σ S h (P r) fun _ _ z=>z).1,P r,fun σ' S' q=>forI P hn hc r σ' S' q,(hc x r σ S h (P r) fun _ _ z=>z).2⟩
theorem compI {chk:q0l→Prop} {g:WG} {wc:WT} {we:WE} {Q:VC} (P:List PV→List PV→Ev.Loc→q0l→Prop) (hn:∀ys σ S,P [] ys σ S→chk S∧Q (.ref S.length) (S++[.lst ys]))
  (hc:∀x r ys σ S,P (x::r) ys σ S→∀N:List PV→Ev.Loc→q0l→Prop,(∀ys σ S,P r ys σ S→N ys σ S)→chk S∧g x σ S NoX fun σ2 S2=>wc σ2 S2 NoX fun b S3=>if b=true then we σ2 S3 NoX (fun y S4=>N (ys++[y]) σ2 S4) else N ys σ2 S3):∀(xs ys:List PV) (σ:Ev.Loc) (S:q0l),P xs ys σ S→z0g chk g wc we Q xs ys σ S
 | [],ys,σ,S,h=>hn ys σ S h
 | x::r,ys,σ,S,h=>⟨(hc x r ys σ S h (P r) fun _ _ _ z=>z).1,P r,fun ys' σ' S' q=>compI P hn hc r ys' σ' S' q,(hc x r ys σ S h (P r) fun _ _ _ z=>z).2⟩
theorem whileI {c:WT} {b:WS} {D:PEnds} {E:EK} {σ:Ev.Loc} {S:q0l} (P:Nat→Ev.Loc→q0l→Prop) (m:Nat) (h0:P m σ S)
  (hs:∀m σ S,P m σ S→∀T F:Ev.Loc→q0l→Prop,(∀S1,(∀N:Ev.Loc→q0l→Prop,(∀m' σ' S',m'<m→P m' σ' S'→N σ' S')→b { D with nx:=N,ct:=N,bk:=D.nx } E σ S1)→T σ S1)→(∀S1,D.nx σ S1→F σ S1)→c σ S E fun bo S1=>if bo=true then T σ S1 else F σ S1):z0c c b D E σ S:=by
 refine ⟨P,⟨m,h0⟩,fun m σ S p=>?_⟩
 exact hs m σ S p (fun σ S1=>∃N:Ev.Loc→q0l→Prop,(∀σ' S',N σ' S'→∃m',m'<m∧P m' σ' S')∧b { D with nx:=N,ct:=N,bk:=D.nx } E σ S1) D.nx (fun S1 h=>⟨fun σ' S'=>∃m',m'<m∧P m' σ' S',fun σ' S' n=>n,h _ fun m' σ' S' a b=>⟨m',a,b⟩⟩) fun S1 h=>h
theorem kc_list:("list" ∈q5q)=True:=by simp [q5q]
theorem kc_tuple:("tuple" ∈q5q)=True:=by simp [q5q]
theorem kc_str:("str" ∈q5q)=True:=by simp [q5q]
theorem kc_int:("int" ∈q5q)=True:=by simp [q5q]
theorem kc_bool:("bool" ∈q5q)=True:=by simp [q5q]
theorem z0o:isT "NoneType" "list" = false:=rfl
theorem q9y:isT "NoneType" "tuple" = false:=rfl
theorem z1r:isT "NoneType" "str" = false:=rfl
theorem z1s:isT "NoneType" "int" = false:=rfl
theorem z0p:isT "NoneType" "bool" = false:=rfl
theorem it_bool_list:isT "bool" "list" = false:=rfl
theorem it_bool_tuple:isT "bool" "tuple" = false:=rfl
theorem it_bool_str:isT "bool" "str" = false:=rfl
theorem it_bool_int:isT "bool" "int" = true:=rfl
theorem it_bool_bool:isT "bool" "bool" = true:=rfl
theorem it_int_list:isT "int" "list" = false:=rfl
theorem it_int_tuple:isT "int" "tuple" = false:=rfl
theorem it_int_str:isT "int" "str" = false:=rfl
theorem it_int_int:isT "int" "int" = true:=rfl
theorem it_int_bool:isT "int" "bool" = false:=rfl
theorem it_str_list:isT "str" "list" = false:=rfl
theorem it_str_tuple:isT "str" "tuple" = false:=rfl
theorem it_str_str:isT "str" "str" = true:=rfl
theorem it_str_int:isT "str" "int" = false:=rfl
theorem it_str_bool:isT "str" "bool" = false:=rfl
theorem it_tuple_list:isT "tuple" "list" = false:=rfl
theorem it_tuple_tuple:isT "tuple" "tuple" = true:=rfl
theorem it_tuple_str:isT "tuple" "str" = false:=rfl
theorem it_tuple_int:isT "tuple" "int" = false:=rfl
theorem it_tuple_bool:isT "tuple" "bool" = false:=rfl
theorem it_list_list:isT "list" "list" = true:=rfl
theorem it_list_tuple:isT "list" "tuple" = false:=rfl
theorem it_list_str:isT "list" "str" = false:=rfl
theorem it_list_int:isT "list" "int" = false:=rfl
theorem it_list_bool:isT "list" "bool" = false:=rfl
theorem nrf_non:nrf .non=true:=rfl
theorem nrf_bl (b:Bool):nrf (.bl b)=true:=rfl
theorem nrf_int (b:Int):nrf (.int b)=true:=rfl
theorem nrf_str (b:Str):nrf (.str b)=true:=rfl
theorem z1m (b:List PV):nrf (.tup b)=nrfs b:=by simp only [nrf]
theorem eqB_ii (a b:Int):eqB (.int a) (.int b)=decide (a=b):=by simp only [eqB]; exact Bool.beq_eq_decide_eq a b
theorem eqB_bb (a b:Bool):eqB (.bl a) (.bl b)=decide (a=b):=by simp only [eqB]; exact Bool.beq_eq_decide_eq a b
theorem q6n (a b:Str):eqB (.str a) (.str b)=decide (a=b):=by
 simp only [eqB]
 by_cases h:a=b
 ·subst h; simp
 ·rw [decide_eq_false h]; exact beq_eq_false_iff_ne.mpr h
theorem eqB_st (a:Str) (b:List PV):eqB (.str a) (.tup b)=false:=by simp only [eqB]
theorem eqB_ts (a:List PV) (b:Str):eqB (.tup a) (.str b)=false:=by simp only [eqB]
theorem eqB_tt (a b:List PV):eqB (.tup a) (.tup b)=eqBs a b:=by simp only [eqB]
theorem okEq_str (a:Str):okEq (.str a)=True:=by simp [okEq,nrf,dep]
theorem okEqs_strs (l:List Str):q8h (l.map PV.str):=by
 refine ⟨?_,?_⟩
 ·induction l with
  | nil=>rfl
  | cons a r ih=>simp only [List.map_cons,nrfs,nrf,ih,Bool.and_self]
 ·induction l with
  | nil=>simp [deps]
  | cons a r ih=>simp only [List.map_cons,deps,dep]; omega
theorem q9o:q8h []=True:=by simp [q8h,nrfs,deps]
theorem cEq_ii (a b:Int) (S:q0l) (Q:VC):cEq (.int a) (.int b) S Q=(Q (.bl (decide (a=b))) S):=by simp only [cEq,cEqG,nrf,eqB_ii,q6a,q7j,true_and,and_self]
theorem cEq_ss (a b:Str) (S:q0l) (Q:VC):cEq (.str a) (.str b) S Q=(Q (.bl (decide (a=b))) S):=by simp only [cEq,cEqG,nrf,q6n,q6a,q7j,true_and,and_self]
theorem cEq_st (a:Str) (b:List PV) (S:q0l) (Q:VC):cEq (.str a) (.tup b) S Q=(nrfs b=true∧Q (.bl false) S):=by simp only [cEq,cEqG,nrf,eqB,q6a,q7j,true_and,and_true,Bool.not_false]
theorem cEq_bb (a b:Bool) (S:q0l) (Q:VC):cEq (.bl a) (.bl b) S Q=(Q (.bl (decide (a=b))) S):=by simp only [cEq,cEqG,nrf,eqB_bb,q6a,q7j,true_and,and_self]
theorem cEq_ts (a:List PV) (b:Str) (S:q0l) (Q:VC):cEq (.tup a) (.str b) S Q=(nrfs a=true∧Q (.bl false) S):=by simp only [cEq,cEqG,nrf,eqB,q6a,q7j,true_and,and_true,Bool.not_false]
theorem cEq_tt (a b:List PV) (S:q0l) (Q:VC):cEq (.tup a) (.tup b) S Q=((okEq (.tup a)∧okEq (.tup b))∧Q (.bl (eqBs a b)) S):=by simp only [cEq,cEqG,q6a,q7j]
theorem cEq_rr (m n:Nat) (S:q0l) (Q:VC):cEq (.ref m) (.ref n) S Q=(match q4s S m,q4s S n with
  | some xs,some ys=>(q8h xs∧q8h ys)∧Q (.bl (eqBs xs ys)) S
  | _,_=>False):=by simp only [cEq,cEqG,q6a,q7j]; try rfl
theorem cNe_ii (a b:Int) (S:q0l) (Q:VC):cNe (.int a) (.int b) S Q=(Q (.bl (!decide (a=b))) S):=by simp only [cNe,cEqG,nrf,eqB_ii,q6a,q7j,true_and,and_self]
theorem cNe_ss (a b:Str) (S:q0l) (Q:VC):cNe (.str a) (.str b) S Q=(Q (.bl (!decide (a=b))) S):=by simp only [cNe,cEqG,nrf,q6n,q6a,q7j,true_and,and_self]
theorem cNe_bb (a b:Bool) (S:q0l) (Q:VC):cNe (.bl a) (.bl b) S Q=(Q (.bl (!decide (a=b))) S):=by simp only [cNe,cEqG,nrf,eqB_bb,q6a,q7j,true_and,and_self]
theorem cNe_tt (a b:List PV) (S:q0l) (Q:VC):cNe (.tup a) (.tup b) S Q=((okEq (.tup a)∧okEq (.tup b))∧Q (.bl (!eqBs a b)) S):=by simp only [cNe,cEqG,q6a,q7j]
theorem cNe_rr (m n:Nat) (S:q0l) (Q:VC):cNe (.ref m) (.ref n) S Q=(match q4s S m,q4s S n with
  | some xs,some ys=>(q8h xs∧q8h ys)∧Q (.bl (!eqBs xs ys)) S
  | _,_=>False):=by simp only [cNe,cEqG,q6a,q7j]; try rfl
theorem cIn_r (x:PV) (n:Nat) (S:q0l) (Q:VC):cIn x (.ref n) S Q=(match q4s S n with
  | some ys=>(okEq x∧q8h ys)∧Q (.bl (ys.any fun y=>eqB y x)) S
  | none=>False):=by cases x<;>(simp only [cIn,cInG,q6a,q7j]; try rfl)
theorem big {n:Nat} (h:n≤1000000):n≤sizeLine:=Nat.le_trans h (by decide)
theorem bigl {n:Nat} (h:n≤1000000):n<sizeLine:=Nat.lt_of_le_of_lt h (by decide)
end My
namespace Ev
open PySem PySem.Spec PyProof.Rows L2
section
variable {X:Cx} {G:GX} {pos:Pos}
def fMaxL:FL:=fun xs S Q=>match xs with
 | [.ref n]=>match (q4s S n).bind q5u with
  | some ns=>0<ns.length∧∀M:Int,M∈ns→(∀a∈ns,a≤M)→Q (.int M) S
  | none=>False
 | _=>False
theorem call_maxL (hc:X.calm=true):q8k X (.builtin "max") (fun xs H Q=>∃(p:Addr) (ns:List Int),xs=[.ref p]∧SqL X.K H p (ns.map V.int)∧0<ns.length∧∀M:Int,M∈ns→(∀a∈ns,a≤M)→Q (.int M) H):=by
 intro pins s σ H xs us Q I r h
 obtain ⟨p,ns,rfl,hp,hz,q⟩:=h
 obtain ⟨u,rfl,ru⟩:=vals1 r
 cases ru
 obtain ⟨is,r1,p1,_⟩:=I.list hp
 have hi:=q9z r1
 obtain ⟨xs,e⟩:=hi.allInts.items
 have hns:ns=xs.toList.map (·.1):=by
  rw [←hi.numsOf,←nums_intItems xs,←e]
 have hsz:0<xs.size:=by
  have:=congrArg List.length hns
  simp at this; omega
 refine max_intList (I.ok.hd hc) (e▸p1.isList) hsz fun v h' tk hv hk=>?_
 obtain ⟨t,rfl⟩:=intItems_at hv
 obtain ⟨h1,h2⟩:=argBest_gt (numAt xs) (xs.size - 1)
 refine ⟨.int _,H,I.kept hk,⟨t,rfl⟩,q _ ?_ fun a ha=>?_⟩
 ·rw [hns,numAt_eq]; exact getD_mem (by rw [List.length_map,Array.length_toList]; omega)
 ·rw [hns] at ha
  obtain ⟨j,hj,rfl⟩:=mem_getD ha
  rw [←numAt_eq]
  exact h2 j (by simp at hj; omega)
theorem calls_maxL (hc:X.calm=true):q8k X (.builtin "max") (liftC X.K fMaxL):=by
 rintro pins s σ H xs us Q I r ⟨φ,S,pxs,Q0,R,hx,h,k⟩
 unfold fMaxL at h
 split at h
 ·rename_i n
  split at h
  ·rename_i ns e
   obtain ⟨ys,e1,e2⟩:=Option.bind_eq_some_iff.mp e
   have:=q7s e2
   subst this
   obtain ⟨v,rfl,a,rfl,qa⟩:=q3b hx
   obtain ⟨vs,sa,ra⟩:=R.seq qa e1
   rw [ra.ints] at sa
   exact call_maxL hc pins s σ H _ us Q I r ⟨a,ns,rfl,sa,h.1,fun M h1 h2=>k _ S φ H _ (h.2 M h1 h2) (List.prefix_refl _) (.refl _) R rfl⟩
  ·exact h.elim
 ·exact h.elim
end
end Ev
namespace Ev
open PySem PySem.Spec PyProof.Rows L2
section
variable {X:Cx} {G:GX} {pos:Pos}
def Itv (K:PySem.W.Frag) (a:Addr) (n:Nat):It:=
 ⟨fun i H=>∃xs x,SqL K H a xs∧i<n∧xs[n - 1 - i]?=some x,fun i H x H'=>H'=H∧∀xs,SqL K H a xs→xs[n - 1 - i]?=some x,fun i _=>n≤i⟩
theorem turn_rev {P:Program} {w:World} {K:PySem.W.Frag} {tg:Expr} (a it:Addr) (n:Nat):Turn P w K tg (Itv K a n) [it] it (fun i h=>i≤n∧h.IsRevIter it a ((n:Int) - 1 - i)) where
 mem:=by simp
 obj:=fun i h st b hb=>by
  have e:b=it:=by simpa using hb
  subst e
  obtain ⟨_,o,e,c,d⟩:=st
  exact ⟨o,e,fun v z=>by rw [d] at z; cases z⟩
 keep:=fun i h h' st k=>⟨st.1,st.2.at fun o e=>k it (by simp) o e⟩
 item:=by
  intro X hP hw hK hc i pins s σ H E I hf st hg
  subst hP hw hK
  obtain ⟨xs,x,hq,hi,hx⟩:=hg
  obtain ⟨its,rv,p,hz⟩:=I.list hq
  obtain ⟨u,hu,ru⟩:=rv.get hx
  obtain ⟨f0,f1,f2,f3,f4,f5⟩:=hf it (by simp)
  have st2:=st.2
  rw [show (n:Int) - 1 - i=((n - 1 - i:Nat):Int) by omega] at st2
  refine wpAny_pyNext_rev_item st2 p.isList (x:=u) (by simpa using hu) fun h' st' sb=>?_
  have I1:Inv X pins σ H { s with heap:=h' }:=I.turned (t':=s.toks) (fun b o hb e=>(sb.2 b hb).trans e) f0 f1 f3 f4 f5
  rw [show ((n - 1 - i:Nat):Int) - 1=(n:Int) - 1 - ((i+1:Nat):Int) by omega] at st'
  obtain ⟨o,e,c,d⟩:=id st'
  exact ⟨u,rfl,go_of (s:={ s with heap:=h' }) e c d (by decide) ⟨x,H,I1,ru,⟨rfl,fun ys hy=>by rw [I.list_inj hy hq]; exact hx⟩,⟨hi,st'⟩,fun b hb=>(hf b hb).1⟩⟩
 done:=by
  intro X hP hw hK hc i pins s σ H E I hf st hg
  subst hP hw hK
  obtain ⟨f0,f1,f2,f3,f4,f5⟩:=hf it (by simp)
  have hg:n≤i:=hg
  have st2:=st.2
  have h1:=st.1
  rw [show (n:Int) - 1 - i=-1 by omega] at st2
  exact wpAny_pyNext_rev_end (I.ok.hd hc) st2 fun h' eb=>⟨rfl,I.turned (t':=s.toks) (fun b o hb e=>eb b o hb e) f0 f1 f3 f4 f5⟩
 self:=fun _ _ _ _ _ st h=>wpAny_pyIter_revIter st.2 h
def iRev (K:PySem.W.Frag) (tl:TE):TI:=fun σ H R=>tl σ H fun x H1=>∃a xs,x=.ref a∧SqL K H1 a xs∧R (Itv K a xs.length) H1
theorem boot_rev:bootBuiltins (Str.ofString "reversed")=some (.type "reversed"):=by with_unfolding_all rfl
theorem pi_rev {tg l:Expr} {tl:TE} {p:Pos} (hl:PE X l tl) (hm:X.mg "reversed" = none) (hg:Gl X "reversed" :=by rfl) (he:starEach [l] X.env=(false,eval l X.env)::starEach [] X.env:=by rfl):PI X tg (.Call (.Name "reversed" p) [l] [] pos) (iRev X.K tl):=by
 intro pins s σ H R I h
 refine wpAny_Call_Name_kw (z0f I hg hm boot_rev ?_)
 refine PyProof.Rows.callWith_type1 ?_ he rfl
 rw [he]
 show wpAny _ _ (spliced ((false,eval l X.env)::backTo pos (starEach [] X.env))) _ _ s
 refine Calls.spliced_cons (thn (hl pins s σ H _ I h) ?_)
 rintro v s1 ⟨x,H1,I1,r1,a,xs,rfl,hq,q⟩
 refine Calls.spliced_nil ?_
 cases r1
 obtain ⟨its,rv,p,hz⟩:=I1.list hq
 refine call_reversed_list p.isList ?_
 have e0:(its.toArray.size:Int) - 1=(xs.length:Int) - 1 - ((0:Nat):Int):=by have:=rv.length; simp; omega
 refine wpAny_pyIter_revIter (l:=a) (i:=(its.toArray.size:Int) - 1) ⟨_,Heap.get?_push_size _ rfl,rfl,rfl⟩ ?_
 refine ⟨s1.heap.objs.size,[s1.heap.objs.size],_,_,H1,rfl,I1.kept (t':=s1.toks) fun b o e=>Heap.get?_push_of_some _ e,turn_rev a _ xs.length,⟨Nat.zero_le _,_,Heap.get?_push_size _ rfl,rfl,by rw [e0]; rfl⟩,fun b hb=>?_,q⟩
 have e:b=s1.heap.objs.size:=by simpa using hb
 subst e
 exact I1.fpOk (Nat.le_refl _) (I1.hok.fresh (Nat.le_refl _))
theorem itr_rev {K:PySem.W.Frag} {φ:List Addr} {H:Hp} {n k:Nat} {a:Addr} {xs:List PV} (qa:φ[n]?=some a) (hk:k=xs.length):ItR K φ H (Itv K a k) ⟨xs.reverse,fun S=>q4s S n=some xs⟩ where
 go:=fun φ1 H1 S1 p m R e i x hx=>by
  subst hk
  obtain ⟨vs,sa,ra⟩:=R.seq (z1i p qa) e
  have hi:i<xs.length:=by have:=(List.getElem?_eq_some_iff.mp hx).1; simpa using this
  have hx':xs[xs.length - 1 - i]?=some x:=by rw [←List.getElem?_reverse hi]; exact hx
  obtain ⟨y,ey,ry⟩:=ra.get hx'
  refine ⟨⟨vs,y,sa,hi,ey⟩,fun y' H' hh1=>?_⟩
  obtain ⟨e1,e2⟩:=hh1
  subst e1
  have:=e2 vs sa
  rw [ey] at this
  cases this
  exact ⟨φ1,List.prefix_refl _,.refl _,R,ry⟩
 stop:=fun φ1 H1 S1 p m R e i hi=>by
  subst hk
  have:xs.reverse.length≤i:=hi
  rw [List.length_reverse] at this
  exact this
def wiRev (w:WE):WI:=fun σ S E Q=>w σ S E fun x S1=>match x with
 | .ref n=>match q4s S1 n with
  | some xs=>Q ⟨xs.reverse,fun S=>q4s S n=some xs⟩ S1
  | none=>False
 | _=>False
theorem simI_rev {tg l:Expr} {w:WE} {p:Pos} (hm:X.mg "reversed" = none) (hl:SimE X G l w) (hg:Gl X "reversed" :=by rfl) (he:starEach [l] X.env=(false,eval l X.env)::starEach [] X.env:=by rfl):SimI X G tg (.Call (.Name "reversed" p) [l] [] pos) (wiRev w):=
 PI.imp (pi_rev hl hm hg he) fun σV H Q hh1=>by obtain ⟨φ,σ,S,Q0,L,R,h,k⟩:=hh1; exact (⟨φ,σ,S,_,L,R,h,fun v S1 φ1 H1 x q p1 m1 R1 r1=>by
  split at q
  ·rename_i n
   split at q
   ·rename_i xs e
    obtain ⟨a,rfl,qa⟩:=r1
    obtain ⟨vs,sa,ra⟩:=R1.seq qa e
    exact ⟨a,vs,rfl,sa,k _ S1 φ1 H1 _ q p1 m1 R1 (itr_rev qa ra.length.symm)⟩
   ·exact q.elim
  ·exact q.elim⟩)
theorem lay_all:∀ns:List Int,(∀y∈ns,0≤y∧y<1000000)→PyData.canLayAll0 (ns.map PyData.int)=true∧PyData.depthAll (ns.map PyData.int)=0∧PyData.weightAll (ns.map PyData.int)≤22*ns.length
 | [],_=>by simp [PyData.canLayAll0,PyData.depthAll,PyData.weightAll]
 | x::r,h=>by
  obtain ⟨h1,h2,h3⟩:=lay_all r fun y hy=>h y (List.mem_cons_of_mem _ hy)
  obtain ⟨x0,x1⟩:=h x (by simp)
  have hw:(PyData.int x).weight≤20:=by
   simp only [PyData.weight]
   split
   ·omega
   ·rename_i hx
    have hx:x≠0:=by simpa using hx
    have:x.natAbs.log2<20:=(Nat.log2_lt (by omega)).mpr (by omega)
    omega
  refine ⟨by simp [PyData.canLayAll0,PyData.canLay0,h1],by simp only [List.map_cons,PyData.depthAll,PyData.depth,h2]; rfl,?_⟩
  simp only [List.map_cons,PyData.weightAll,List.length_cons]
  omega
theorem lay_ints (ns:List Int) (h:ns.length≤10000) (hs:∀y∈ns,0≤y∧y<1000000):(PyData.list (ns.map PyData.int)).layable0=true:=by
 obtain ⟨h1,h2,h3⟩:=lay_all ns hs
 unfold PyData.layable0
 simp only [PyData.canLay0,PyData.depth,PyData.weight,h1,h2,Bool.true_and,Bool.and_eq_true,decide_eq_true_eq]
 exact ⟨by decide,decide_eq_true (Nat.le_trans (show PyData.weightAll (ns.map PyData.int)≤220000 by omega) (by decide))⟩
def mIndexL:FM:=fun x xs S Q=>match x,xs with
 | .ref n,[.int i]=>match (q4s S n).bind q5u with
  | some ns=>(ns.length≤10000∧(∀y∈ns,0≤y∧y<1000000)∧i∈ns)∧Q (.int (ns.idxOf i)) S
  | none=>False
 | _,_=>False
theorem mts_indexL:MtR X "list.index" (liftM X.K mIndexL):=by
 rintro pins s σ H x xs v us Q I rx rs ⟨φ,S,px,pxs,Q0,R,hx,hxs,h,k⟩
 unfold mIndexL at h
 split at h
 ·rename_i n i
  split at h
  ·rename_i ns e
   obtain ⟨ys,e1,e2⟩:=Option.bind_eq_some_iff.mp e
   have:=q7s e2
   subst this
   obtain ⟨a,rfl,qa⟩:=hx
   obtain ⟨vs,sa,ra⟩:=R.seq qa e1
   rw [ra.ints] at sa
   obtain ⟨y',rfl,ry⟩:=q3b hxs
   cases ry
   cases rx
   obtain ⟨u,rfl,t,rfl⟩:=vals1 rs
   obtain ⟨is,r3,p3,_⟩:=I.list sa
   have hi:=q9z r3
   exact index_list_ints p3.isList hi (lay_ints ns h.1.1 h.1.2.1) h.1.2.2 ⟨.int _,H,I.tok _,⟨_,rfl⟩,k _ S φ H _ h.2 (List.prefix_refl _) (.refl _) R rfl⟩
  ·exact h.elim
 ·exact h.elim
end
end Ev
namespace Ev
open PySem PySem.Spec PyProof.Rows L2
section
variable {X:Cx} {G:GX} {pos:Pos}
end
end Ev
namespace My
open PySem L2 Ev
theorem ix_t (xs:List PV) (i:Int) (S:q0l) (Q:VC):bIx (.tup xs) (.int i) S Q=match atI xs i with
  | some v=>Q v S
  | none=>False:=rfl
theorem ix_s (z:Str) (i:Int) (S:q0l) (Q:VC):bIx (.str z) (.int i) S Q=(z.length≤sizeLine∧match atI z.cps.toList i with
  | some c=>Q (.str ⟨#[c]⟩) S
  | none=>False):=rfl
theorem ix_f (xs:List PV) (i:Int) (S:q0l) (Q:VC):bIx (.frl xs) (.int i) S Q=match atI xs i with
  | some v=>Q v S
  | none=>False:=rfl
theorem ix_r (n:Nat) (y:PV) (S:q0l) (Q:VC):bIx (.ref n) y S Q=match S[n]? with
  | some (.lst xs)=>match y with
   | .int i=>match atI xs i with
    | some v=>Q v S
    | none=>False
   | _=>False
  | some (.dK kvs)=>match keyOf y with
   | some k=>match valP kvs k with
    | some v=>Q v S
    | none=>False
   | none=>False
  | _=>False:=rfl
theorem compEnd {chk:q0l→Prop} {g:WG} {wc:WT} {we:WE} {Q:VC} {ys:List PV} {σ:Ev.Loc} {S:q0l} (h1:chk S) (h:Q (.ref S.length) (S++[.lst ys])):z0g chk g wc we Q [] ys σ S:=⟨h1,h⟩
theorem z1y {chk:q0l→Prop} {g:WG} {we:WE} {Q:VC} {x:PV} {r ys:List PV} {σ:Ev.Loc} {S:q0l} (h1:chk S)
  (h:∀N:List PV→Ev.Loc→q0l→Prop,(∀ys σ S,z0g chk g q4t we Q r ys σ S→N ys σ S)→g x σ S NoX fun σ2 S2=>we σ2 S2 NoX (fun y S4=>N (ys++[y]) σ2 S4)):z0g chk g q4t we Q (x::r) ys σ S:=
 ⟨h1,_,fun _ _ _ z=>z,h _ fun _ _ _ z=>z⟩
end My
namespace L2
open PySem PySem.Spec PyProof.Rows
def Cx.nx (X:Cx):Cx:={ X with xe:=fun _ _=>False }
def Cx.hd (X:Cx) (e:Addr):Cx:={ X with A:=X.A.mark (some (.ref e)),calm:=false,xe:=fun _ _=>False }
section
variable {X:Cx} {pins:List (Addr×Obj)} {σ:St} {H H':Hp} {s:Shared}
theorem Inv.nx (I:Inv X pins σ H s):Inv X.nx pins σ H s:=
 ⟨⟨I.ok.mod,I.ok.kind,I.ok.glob,I.ok.blt,I.ok.above,I.ok.inj,I.ok.has,I.ok.cab,I.ok.hd,I.ok.frames,I.ok.stk,I.ok.exf,I.ok.bs,I.ok.bsz,I.ok.noex,I.ok.exfs,I.ok.funs,I.ok.frf⟩,I.os,I.bare,I.base,I.loc,I.cell,I.free,I.freeC,I.pin,I.hok,I.len⟩
theorem Inv.hd {e:Addr} (I:Inv X pins σ H s):Inv (X.hd e) pins σ H s:=
 ⟨⟨I.ok.mod,I.ok.kind,I.ok.glob,I.ok.blt,I.ok.above,I.ok.inj,I.ok.has,I.ok.cab,fun z=>(Bool.false_ne_true z).elim,I.ok.frames,I.ok.stk,I.ok.exf,I.ok.bs,I.ok.bsz,I.ok.noex,I.ok.exfs,I.ok.funs,I.ok.frf⟩,I.os,I.bare,I.base,I.loc,I.cell,I.free,I.freeC,I.pin,I.hok,I.len⟩
theorem SP.imp {Y:Cx} {D:Ends} {f:Flow} (i:∀σ H s,Inv Y pins σ H s→Inv X pins σ H s) (h:SP Y pins D f s):SP X pins D f s:=by
 unfold SP at *
 cases f with
 | next=>obtain ⟨a,b,c,d⟩:=h; exact ⟨a,b,i _ _ _ c,d⟩
 | brk=>obtain ⟨a,b,c,d⟩:=h; exact ⟨a,b,i _ _ _ c,d⟩
 | cont=>obtain ⟨a,b,c,d⟩:=h; exact ⟨a,b,i _ _ _ c,d⟩
 | ret u=>obtain ⟨v,a,b,c,d⟩:=h; exact ⟨v,a,b,i _ _ _ c,d⟩
end
def EXE (X:Cx) (pins:List (Addr×Obj)) (σ:St) (E:XK):Value→Shared→Prop:=fun e s'=>∃H1 s1,Inv X pins σ H1 s1∧CXE X.prog X.w X.stack H1 s1 E e s'
abbrev TEX:=St→Hp→VK→XK→Prop
def PEX (X:Cx) (e:Expr) (t:TEX):Prop:=
 ∀(pins:List (Addr×Obj)) (s:Shared) (σ:St) (H:Hp) (Q:VK) (E:XK),Inv X pins σ H s→t σ H Q E→wpAny (model X.prog X.w) X.A (eval e X.env) (EP X pins σ Q) (EXE X pins σ E) s
abbrev XC:=Value→St→Hp→Prop
abbrev TSX:=Ends→XC→St→Hp→Prop
def XEnd (X:Cx) (pins:List (Addr×Obj)) (E:XC):Value→Shared→Prop:=fun e s'=>∃σ,EXE X pins σ (fun cls _ H'=>E cls σ H') e s'
def PSX (X:Cx) (st:Stmt) (t:TSX):Prop:=
 ∀(pins:List (Addr×Obj)) (s:Shared) (σ:St) (H:Hp) (D:Ends) (E:XC),Inv X pins σ H s→t D E σ H→wpAny (model X.prog X.w) X.A (exec st X.env) (SP X pins D) (XEnd X pins E) s
def PSXs (X:Cx) (st:List Stmt) (t:TSX):Prop:=
 ∀(pins:List (Addr×Obj)) (s:Shared) (σ:St) (H:Hp) (D:Ends) (E:XC),Inv X pins σ H s→t D E σ H→wpAny (model X.prog X.w) X.A (execs st X.env) (SP X pins D) (XEnd X pins E) s
section
variable {X:Cx} {k:Nat} {f:Addr} {fd:FuncData} {ps:List Str} {sp:Sp} {dvs:List V} {ds:List Value} {x:Str} {p pos:Pos} {e:Expr} {es:List Expr} {t:TA}
end
section
variable {X:Cx} {e:Expr} {te:TEX} {pos:Pos}
end
end L2
namespace L2
open PySem PySem.Spec PyProof.Rows
section
variable {X:Cx} {pins:List (Addr×Obj)} {σ:St} {H H':Hp} {s:Shared}
theorem Inv.gone {i:Nat} {x:Str} {h':Heap} {t':Nat} {m:Str→Option Value} {v:Option Value} (I:Inv X pins σ H s) (hN:X.N.Nodup) (hi:X.N[i]?=some x) (hm:s.heap.Ns X.env.locals m) (hn':h'.Ns X.env.locals (fun y=>if y=x then v else m y)) (hs:Heap.SameBut X.env.locals s.heap h') :
  Inv X pins (σ.set i none) H { s with heap:=h',toks:=t' }:=by
 obtain ⟨m0,hn,hl⟩:=id I.loc
 have em:m0=m:=by rw [hn.eq_nsMap,hm.eq_nsMap]
 subst em
 have cne:=I.cne
 have tracked:HOk X.prog X.w H h':=fun b ob e=>by
  refine (I.hok b ob e).stay (fun c w' hc q=>(hs.2 c ?_).trans q) (fun _ q=>q) fun _ _ q=>q
  rintro rfl
  rcases hc with rfl | hc
  ·rw [I.free] at e; cases e
  ·rw [I.free] at hc; cases hc
 refine ⟨I.ok,I.os,I.bare,⟨fun b o e n hb hx=>?_,fun b o e n hb hx=>?_,I.base.free,fun b o e hx=>?_,I.base.tups,I.base.frzs,I.base.tbls⟩,⟨_,hn',fun j y v' e1 e2 e3=>?_⟩,fun y c e=>?_,I.free,I.freeC,fun p hp=>?_,tracked,by simpa using I.len⟩
 ·exact (hs.2 b (Nat.ne_of_lt (Nat.lt_of_lt_of_le (Heap.lt_size e) I.ok.above))).trans (I.base.keep b o e n hb hx)
 ·obtain ⟨sl,e1⟩:=I.base.slot b o e n hb hx
  exact ⟨sl,(hs.2 b (Nat.ne_of_lt (Nat.lt_of_lt_of_le (Heap.lt_size e) I.ok.above))).trans e1⟩
 ·obtain ⟨o',e1⟩:=I.base.there b o e hx
  exact ⟨o',(hs.2 b (Nat.ne_of_lt (Nat.lt_of_lt_of_le (Heap.lt_size e) I.ok.above))).trans e1⟩
 ·have hj:j≠i:=by
   rintro rfl
   by_cases hlt:j<σ.length
   ·rw [List.getElem?_set_self hlt] at e2; cases e2
   ·rw [List.getElem?_eq_none (by simpa using hlt)] at e2; cases e2
  rw [List.getElem?_set_ne (Ne.symm hj)] at e2
  obtain ⟨u',r',q⟩:=hl j y v' e1 e2 e3
  refine ⟨u',r',?_⟩
  rcases q with ⟨k,e⟩ | ⟨k,c,e,z⟩
  ·refine .inl ⟨k,?_⟩
   have:y≠x:=fun e=>hj (nodup_ix hN e1 (e▸hi))
   simp [this,e]
  ·exact .inr ⟨k,c,e,z.sameBut hs (cne y c e)⟩
 ·obtain ⟨w',z⟩:=I.cell y c e
  exact ⟨w',z.sameBut hs (cne y c e)⟩
 ·obtain ⟨e,n,ne,nf,d⟩:=I.pin p hp
  exact ⟨(hs.2 p.1 ne).trans e,n,ne,nf,d⟩
theorem Inv.news {b:Addr} (I:Inv X pins σ H s) (n:s.heap.get? b=none):(b∈X.ex∨X.s₀.heap.get? b=none)∧b≠X.env.locals∧(∀x c,X.env.cells.lookup x=some c→c≠b)∧∀p∈X.pn++pins,p.1≠b:=by
 refine ⟨?_,?_,fun x c e z=>?_,fun p hp z=>?_⟩
 ·by_cases hb:b∈X.ex
  ·exact .inl hb
  ·refine .inr ?_
   cases q:X.s₀.heap.get? b with
   | none=>rfl
   | some o=>
    obtain ⟨o',e1⟩:=I.base.there b o q hb
    rw [n] at e1; cases e1
 ·rintro rfl
  obtain ⟨m,⟨o,_,_,ho,_⟩,_⟩:=I.loc
  rw [n] at ho; cases ho
 ·subst z
  obtain ⟨v,o,ho,_⟩:=I.cell x c e
  rw [n] at ho; cases ho
 ·subst z
  obtain ⟨e,_⟩:=I.pin p hp
  rw [n] at e; cases e
theorem ns_slots {h h':Heap} {L:Addr} {m:Str→Option Value} (hn:h.Ns L m) (k:∀o,h.get? L=some o→∃sl,h'.get? L=some { o with slots:=sl }):h'.Ns L m:=by
 obtain ⟨o,es,ep,ho,r⟩:=hn
 obtain ⟨sl,e⟩:=k o ho
 exact ⟨_,es,ep,e,r⟩
theorem Inv.past {h':Heap} {own:List Addr} (I:Inv X pins σ H s) (hst:X.stack=X.env::X.outer) (hf:X.env.frame=some X.env.locals) (nw:∀b∈own,((b∈X.ex∨X.s₀.heap.get? b=none)∧b≠X.env.locals∧(∀x c,X.env.cells.lookup x=some c→c≠b)∧∀p∈X.pn++pins,p.1≠b)∧H b=none)
  (p:Past (frs X.stack) own s.heap h'):Inv X pins σ H { s with heap:=h' }:=by
 have efs:frs X.stack=X.env.locals::X.fs:=by rw [hst]; show frs (X.env::X.outer)=_; unfold frs; rw [List.filterMap_cons,hf]; rfl
 refine I.stepX (ch:=own) (g':=s.gens) (d':=s.drawn) (t':=s.toks) (fun b hb=>(nw b hb).1) (fun b o n1 n2 n3 e _=>?_) (fun b o n1 n2 n3 e _=>?_) (fun b o _ _ z=>z) (fun b o _ e=>p.there b o e) (fun b xs z=>z) (fun b o u z=>z) (fun b ps z=>⟨#[],by rw [Array.append_empty]; exact z⟩) (fun m hn=>?_) (HOk.past I.hok p I.stkFree fun b hb=>(nw b hb).2) I.bare
 ·exact p.keep b o e n3 (by rw [efs]; exact fun z=>(List.mem_cons.mp z).elim n1 n2)
 ·exact p.slot b o e n3 (by rw [efs]; exact List.mem_cons_of_mem _ n2)
 ·refine ns_slots hn fun o ho=>p.slot _ o ho (fun z=>(nw _ z).1.2.1 rfl) (by rw [efs]; exact List.mem_cons_self)
end
def ExcRec (a:Addr) (cls:Value) (h:Heap):Prop:=∃o vs,h.get? a=some o∧o.cls=cls∧o.data=.fields vs
theorem ExcRec.ok {P:Program} {w:World} {H:Hp} {a T:Addr} {cls:Value} {h:Heap} (F:Fly a cls [T] h):q3s P w H h a (.ext (ExcRec a cls)):=by
 obtain ⟨oe,vs,hd,he,hc,hdt,h1,hh⟩:=F.is
 refine ⟨⟨oe,vs,he,hc,hdt⟩,⟨oe,he⟩,fun h1 h2 hh1 k=>by obtain ⟨o,vs,q,c,d⟩:=hh1; exact (⟨o,vs,k o q,c,d⟩)⟩
section
variable {X:Cx} {i:Nat} {y n:Str} {yp hpos pos:Pos} {cv:Value} {body suite:List Stmt} {b₀:Stmt} {tb:TSX} {ts:TS}
end
end L2
namespace L2
open PySem PySem.Spec PyProof.Rows
end L2
namespace L2
open PySem PySem.Spec PySem.W PySem.Calls PyProof.Rows Builtin Builtin.ObjectAttr Builtin.Getset_descriptor
structure ExcK (K:Frag) (D:Addr):Prop where
 c:(clsIn K D).isSome=true
 ga:findIn K (.ref D) "__getattribute__" = some (some (.builtin "BaseException.__getattribute__"))
 nga:findIn K (.ref D) "__getattr__" = some none
 cl:findIn K (.ref D) "__class__" = some (some (.builtin "object.__class__"))
 gt:specialIn K (.builtin "object.__class__") "__get__" = some (some (.builtin "getset_descriptor.__get__"))
 tk:takesIn K (.builtin "object.__class__")=some true
 mo:mroIn K D (.type "object")=some true
 mb:mroIn K D (.type "BaseException")=some true
section
variable {K:Frag} {D x:Addr} {prog:Program} {w:World} {A:Around} {E:Value→Shared→Prop} {s:Shared}
end
end L2
namespace Ev
open PySem L2 PySem.Spec PyProof.Rows
structure ExcC (K:PySem.W.Frag) (mg:Str→Option Value) (c:String):Prop where
 is:∃C,PySem.W.nsIn K mainGlobals (Str.ofString c)=some (some (.ref C))∧mg (Str.ofString c)=some (.ref C)∧PySem.W.excIn K C vErr "ValueError.__new__" = true
def wRaise (c:String) (wa:WA):WS:=fun _ E σ S=>wa σ S E fun xs S1=>xs.length≤sizeLine∧E (.exc c) S1
section
variable {X:Cx} {G:GX} {pos:Pos}
theorem sim_raise {c:String} {x:Str} {np cpos:Pos} {e0:Expr} {wa:WA} (C:ExcC X.K X.mg c) (hx:q6o (CXE X.prog X.w) X (xkOf X.K G.xh)) (hc:X.calm=true) (ha:SimA X G [e0] wa) (ex:x=Str.ofString c:=by rfl) (hg:Gl X x:=by rfl)
  (hd:(x == ("__debug__" : Str))=false:=by decide) (he:starEach [e0] X.env=(false,eval e0 X.env)::starEach [] X.env:=by rfl):SimS X G (.Raise (some (.Call (.Name x np) [e0] [] cpos)) none pos) (wRaise c wa):=by
 obtain ⟨C,h1,h2,h3⟩:=C.is
 subst ex
 exact (ps_raise hx hc hg h2 h3 ha hd he).imp fun D σV H hh1=>by obtain ⟨φ,σ,S,D0,L,R,h,k⟩:=hh1; exact (⟨φ,σ,S,_,L,R,h,fun v S1 φ1 H1 x hh2 p1 m1 R1 r1=>by obtain ⟨hl,q⟩:=hh2; exact (⟨by rw [←r1.length]; exact hl,.exc c,⟨c,C,rfl,rfl,h1⟩,(L.mono m1 p1).kx _ S1 φ1 H1 q (List.prefix_refl _) (.refl _) R1⟩)⟩)
end
abbrev XEK:=PV→Loc→q0l→Prop
def KXS (K:PySem.W.Frag) (G:GX) (φ:List Addr) (H:Hp) (E0:XEK) (E:XC):Prop:=∀v σ' S' φ' H' σV' cls,E0 v σ' S'→φ <+: φ'→Mono H H'→Rel K φ' S' H'→LRel K G H' φ' σ' σV'→ClsP K v cls→E cls σV' H'
theorem KXS.up {K:PySem.W.Frag} {G:GX} {φ φ1:List Addr} {H H1:Hp} {E0:XEK} {E:XC} (k:KXS K G φ H E0 E) (p:φ <+: φ1) (m:Mono H H1):KXS K G φ1 H1 E0 E:=fun v σ' S' φ' H' σV' cls q p' m'=>k v σ' S' φ' H' σV' cls q (p.trans p') (m.trans m')
theorem _root_.L2.PEX.imp {X:Cx} {e:Expr} {t t':TEX} (h:PEX X e t) (i:∀σ H Q E,t' σ H Q E→t σ H Q E):PEX X e t':=fun pins s σ H Q E I q=>h pins s σ H Q E I (i σ H Q E q)
theorem _root_.L2.PSX.imp {X:Cx} {e:Stmt} {t t':TSX} (h:PSX X e t) (i:∀D E σ H,t' D E σ H→t D E σ H):PSX X e t':=fun pins s σ H D E I q=>h pins s σ H D E I (i D E σ H q)
theorem _root_.L2.PSXs.imp {X:Cx} {e:List Stmt} {t t':TSX} (h:PSXs X e t) (i:∀D E σ H,t' D E σ H→t D E σ H):PSXs X e t':=fun pins s σ H D E I q=>h pins s σ H D E I (i D E σ H q)
section
variable {X:Cx} {G:GX} {pos:Pos}
end
structure Cau (K:PySem.W.Frag) (mg:Str→Option Value) (y:Str) (cs:List String):Prop where
 is:∃cv,mg y=some cv∧∀c∈cs,∃C,PySem.W.nsIn K mainGlobals (Str.ofString c)=some (some (.ref C))∧PySem.W.exmOne K (.ref C) cv=some true
section
variable {X:Cx} {G:GX} {pos:Pos}
end
end Ev
namespace Ev
open PySem L2 PySem.Spec PyProof.Rows
def cV:V→Value
 | .ref a=>.ref a
 | .ty T=>.type T
 | _=>.none
def IsCV (v:V):Prop:=(∃a,v=.ref a)∨∃T,v=.ty T
theorem IsCV.eq {v:V} {u:Value} (h:IsCV v) (r:RelV v u):u=cV v:=by
 rcases h with ⟨a,rfl⟩ | ⟨T,rfl⟩
 ·exact r
 ·exact r
def NameV (X:Cx) (y:Str) (v:V):Prop:=IsCV v∧∃u,RelV v u∧((X.mg y=some u)∨(X.mg y=none∧bootBuiltins y=some u∧y≠ "__name__"))
section
variable {X:Cx} {G:GX} {pos:Pos}
theorem pe_cls {y:Str} {v:V} (h:NameV X y v) (hg:Gl X y) (hd:(y == ("__debug__" : Str))=false):PE X (.Name y pos) (tC v):=by
 obtain ⟨_,u,r,h | ⟨h1,h2,h3⟩⟩:=h
 ·exact pe_glob hg h r hd
 ·exact pe_bltn hg h1 h2 r h3 hd
def tList (vs:List V):TA:=fun _ H Q=>Q vs H
inductive Names (X:Cx):List Expr→List V→Prop
 | nil:Names X [] []
 | cons {y:Str} {p:Pos} {v:V} {es:List Expr} {vs:List V} (h:NameV X y v) (hg:Gl X y) (hd:(y == ("__debug__" : Str))=false) (r:Names X es vs):Names X (.Name y p::es) (v::vs)
theorem Names.pa {es:List Expr} {vs:List V} (h:Names X es vs):PA X es (tList vs):=by
 induction h with
 | nil=>exact pa_nil
 | cons h hg hd r ih=>exact pa_cons (pe_cls h hg hd) ih
theorem Names.cv {es:List Expr} {vs:List V} (h:Names X es vs):∀v∈vs,IsCV v:=by
 induction h with
 | nil=>simp
 | cons h hg hd r ih=>intro v hv; rcases List.mem_cons.mp hv with rfl | hv; exact h.1; exact ih v hv
def ExcH (H:Hp) (a C:Addr):Prop:=∃f:Heap→Prop,H a=some (.ext f)∧∀h,f h→∃o,h.get? a=some o∧o.cls=.ref C
structure TabX1 (K:PySem.W.Frag) (cv:Value) (tab:List (String×Bool)):Prop where
 is:∀c b,tab.lookup c=some b→∃C,PySem.W.nsIn K mainGlobals (Str.ofString c)=some (some (.ref C))∧ExcK K C∧PySem.W.kitOne K (.ref C) cv=some b
structure TabXT (K:PySem.W.Frag) (cvs:List Value) (tab:List (String×Bool)):Prop where
 is:∀c b,tab.lookup c=some b→∃C,PySem.W.nsIn K mainGlobals (Str.ofString c)=some (some (.ref C))∧ExcK K C∧PySem.W.kitAny K (.ref C) cvs=some b
theorem ExcH.upd {H:Hp} {a C p:Addr} {o:HO} (x:ExcH H a C) (hp:H p=none):ExcH (upd H p o) a C:=by
 obtain ⟨f,e,k⟩:=x
 exact ⟨f,by rw [q1h (fun z=>by subst z; rw [hp] at e; cases e)]; exact e,k⟩
end
def YV (mg:Str→Option Value) (y:Str) (v:V):Prop:=IsCV v∧∃u,RelV v u∧((mg y=some u)∨(mg y=none∧bootBuiltins y=some u∧y≠ "__name__"))
theorem YV.own {mg:Str→Option Value} {y:Str} {C:Addr} (h:mg y=some (.ref C)):YV mg y (.ref C):=⟨.inl ⟨C,rfl⟩,_,rfl,.inl h⟩
theorem YV.ty {mg:Str→Option Value} {y:Str} {T:String} (h:mg y=none) (b:bootBuiltins y=some (.type T)) (n:y≠ "__name__" :=by decide):YV mg y (.ty T):=⟨.inr ⟨T,rfl⟩,_,rfl,.inr ⟨h,b,n⟩⟩
structure HIs1 (K:PySem.W.Frag) (mg:Str→Option Value) (y:Str) (tab:List (String×Bool)):Prop where
 is:∃v,YV mg y v∧TabX1 K (cV v) tab
def NamesM (mg:Str→Option Value):List Str→List V→Prop
 | [],[]=>True
 | y::ys,v::vs=>YV mg y v∧NamesM mg ys vs
 | _,_=>False
structure HIsT (K:PySem.W.Frag) (mg:Str→Option Value) (ys:List Str) (tab:List (String×Bool)):Prop where
 is:∃vs,NamesM mg ys vs∧TabXT K (vs.map cV) tab
theorem TabX1.nil {K:PySem.W.Frag} {cv:Value}:TabX1 K cv []:=⟨fun _ _ h=>by cases h⟩
theorem TabX1.cons {K:PySem.W.Frag} {cv:Value} {c:String} {C:Addr} {b:Bool} {tab:List (String×Bool)} (h:PySem.W.nsIn K mainGlobals (Str.ofString c)=some (some (.ref C))) (k:ExcK K C) (e:PySem.W.kitOne K (.ref C) cv=some b) (r:TabX1 K cv tab):TabX1 K cv ((c,b)::tab):=⟨fun c' b' q=>by
 rw [List.lookup_cons] at q
 split at q
 ·rename_i z
  have z:=eq_of_beq z
  subst z
  cases q
  exact ⟨C,h,k,e⟩
 ·exact r.is c' b' q⟩
theorem TabXT.nil {K:PySem.W.Frag} {cv:List Value}:TabXT K cv []:=⟨fun _ _ h=>by cases h⟩
theorem TabXT.cons {K:PySem.W.Frag} {cv:List Value} {c:String} {C:Addr} {b:Bool} {tab:List (String×Bool)} (h:PySem.W.nsIn K mainGlobals (Str.ofString c)=some (some (.ref C))) (k:ExcK K C) (e:PySem.W.kitAny K (.ref C) cv=some b) (r:TabXT K cv tab):TabXT K cv ((c,b)::tab):=⟨fun c' b' q=>by
 rw [List.lookup_cons] at q
 split at q
 ·rename_i z
  have z:=eq_of_beq z
  subst z
  cases q
  exact ⟨C,h,k,e⟩
 ·exact r.is c' b' q⟩
def CauL (K:PySem.W.Frag) (cv:Value) (cs:List String):Prop:=∀c∈cs,∃C,PySem.W.nsIn K mainGlobals (Str.ofString c)=some (some (.ref C))∧PySem.W.exmOne K (.ref C) cv=some true
theorem CauL.nil {K:PySem.W.Frag} {cv:Value}:CauL K cv []:=fun _ h=>by cases h
theorem CauL.cons {K:PySem.W.Frag} {cv:Value} {c:String} {C:Addr} {cs:List String} (h:PySem.W.nsIn K mainGlobals (Str.ofString c)=some (some (.ref C))) (e:PySem.W.exmOne K (.ref C) cv=some true) (r:CauL K cv cs):CauL K cv (c::cs):=fun c' hc=>by
 rcases List.mem_cons.mp hc with rfl | hc
 ·exact ⟨C,h,e⟩
 ·exact r c' hc
section
variable {X:Cx} {G:GX} {pos:Pos}
end
end Ev
namespace Ev
open PySem L2 PySem.Spec PyProof.Rows
section
variable {X:Cx} {G:GX} {pos:Pos}
end
end Ev
namespace Ev
open PySem L2 PySem.Spec PyProof.Rows
end Ev
namespace Ev
open PySem PySem.Spec PyProof.Rows L2
open PySem.AutoSeq1 (wpAny_loadPart')
section
variable {X:Cx}
end
end Ev
namespace Ev
open PySem PySem.Spec PyProof.Rows L2
theorem range_revW (r:Addr) (n:Int) (t u v:Tok) (h0:0≤n) (h1:n<2 ^ 62) :
  Meets (Builtin.«range.__reversed__» ⟨[.ref r],[]⟩)
   (fun _ R s=>s.heap.get? r=some { cls:=.type "range",data:=.fields #[.int 0 t,.int n u,.int 1 v] }∧
    R (.ok (.ret (.ref s.heap.objs.size))) { s with heap:=s.heap.push { cls:=.type "range_iterator",data:=.fields #[rawInt (n - 1),rawInt n,rawInt (-1)] } }):=
 .of_wp fun prog w A R s h=>by
  obtain ⟨hp,g,d,tk,os⟩:=s; obtain ⟨hl,h⟩:=h
  have e0:Builtin.Range.rangeSize 0 n 1=n:=by rw [rangeSize_one]; split<;>omega
  have fl:∀i:Int,-(2 ^ 63)≤i→i<2 ^ 63→Builtin.Range.rangeFitsLong i=true:=fun i a b=>by
   unfold Builtin.Range.rangeFitsLong
   rw [decide_eq_true a,decide_eq_true b]; rfl
  have sm:(Builtin.Range.rangeFitsLong 0 && Builtin.Range.rangeFitsLong n && Builtin.Range.rangeFitsLong 1 && Builtin.Range.rangeFitsLong (-1) && Builtin.Range.rangeFitsLong (0 - 1) && Builtin.Range.rangeFitsLong (Builtin.Range.rangeSize 0 n 1))=true:=by
   rw [e0,fl 0 (by omega) (by omega),fl n (by omega) (by omega),fl 1 (by omega) (by omega),fl (-1) (by omega) (by omega),fl (0 - 1) (by omega) (by omega)]; rfl
  have e1:(0:Int)+(n - 1)*1=n - 1:=by omega
  wp_walk
  rw [sm,e0,e1]
  simp only [Bool.not_true,Bool.false_eq_true,if_false,if_true]
  wp_walk
  exact ⟨_,rfl,h⟩
section
variable {prog:Program} {w:World} {A:Around} {E:Value→Shared→Prop} {s:Shared} {r:Addr} {n:Int} {t u v:Tok} {Q:Value→Shared→Prop}
theorem q8w (hr:IsRange s.heap r 0 n 1 t u v) (h0:0≤n) (h1:n<2 ^ 62) (h:Q (.ref s.heap.objs.size) { s with heap:=s.heap.push { cls:=.type "range_iterator",data:=.fields #[rawInt (n - 1),rawInt n,rawInt (-1)] } }):wpAny (model prog w) A (call (.builtin "range.__reversed__") [.ref r]) Q E s:=
 call_meets PySem.F.slot_range_reversed ⟨_,hr,rfl⟩ PySem.F.entry_range_reversed (PySem.F.args_range_reversed_1 _) (range_revW r n t u v h0 h1) ⟨hr,h⟩
theorem q8u (hr:IsRange s.heap r 0 n 1 t u v) (h0:0≤n) (h1:n<2 ^ 62) (h:Q (.ref s.heap.objs.size) { s with heap:=s.heap.push { cls:=.type "range_iterator",data:=.fields #[rawInt (n - 1),rawInt n,rawInt (-1)] } }) :
  codeAny (model prog w) A (Code.call (.builtin "reversed.__new__") { pos:=[.type "reversed",.ref r] }) (wants Q E) s:=by
 refine codeAny_of_tree (wpAny_bind (wpAny_of_eq (PySem.F.newCall_reversed_1 (.ref r)) (wpAny_pure ⟨plainId_quiet PySem.F.plain_reversed_new _,codeAny_builtin PySem.F.entry_reversed_new ?_⟩)))
 rw [Around.under_plainId PySem.F.plain_reversed_new]
 refine wpAny_bind (wpAny_of_eq (newClass_reversed (.ref r)) ?_)
 refine wpAny_bind (wpAny_of_eq rfl ?_)
 refine wpAny_bind (wpAny_of_eq rfl ?_)
 refine wpAny_bind (wpAny_specialOf (T:= "range") ⟨_,hr,rfl⟩ PySem.F.slot_range_reversed.lookup ?_)
 refine wpAny_bind (wpAny_of_eq (PySem.F.slot_range_reversed.bind (.ref r)) ?_)
 show wpAny _ _ (if _ then _ else _) _ _ _
 rw [if_neg (by intro q; cases q)]
 exact wpAny_bind (wpAny_rule (wpAny_bind (q8w hr h0 h1 (wpAny_pure h))))
theorem z0z:isSubtype (Value.type "range_iterator") (Value.type "reversed")=pure false:=by
 rw [isSubtype_type]; rfl
theorem q8v (hr:IsRange s.heap r 0 n 1 t u v) (h0:0≤n) (h1:n<2 ^ 62) (h:Q (.ref s.heap.objs.size) { s with heap:=s.heap.push { cls:=.type "range_iterator",data:=.fields #[rawInt (n - 1),rawInt n,rawInt (-1)] } }):wpAny (model prog w) A (call (.type "reversed") [.ref r]) Q E s:=by
 refine callType_other (U:= "range_iterator") (by decide) PySem.F.create_reversed ⟨_,_,PySem.F.mro_reversed⟩ PySem.F.made_reversed z0z (PySem.F.typeCall_reversed_1 _) (q8u (Q:=fun o s'=>o=.ref s.heap.objs.size∧s'=_) hr h0 h1 ⟨rfl,rfl⟩) ?_
 rintro o s1 ⟨rfl,rfl⟩
 exact ⟨⟨_,Heap.get?_push_size _ rfl,rfl⟩,h⟩
end
section
variable {X:Cx} {G:GX} {pos:Pos}
def Itrv (n:Nat):It:=⟨fun i _=>i<n,fun i H x H'=>H'=H∧x=.int ((n:Int) - 1 - i),fun i _=>n≤i⟩
theorem turn_rngrev {P:Program} {w:World} {K:PySem.W.Frag} {tg:Expr} (it:Addr) (n:Nat):Turn P w K tg (Itrv n) [it] it (fun i h=>IsRangeIter h it (((n:Int) - 1)+(i:Nat)*(-1)) ((n:Int) - (i:Nat)) (-1)) where
 mem:=by simp
 obj:=fun i h st b hb=>by
  have e:b=it:=by simpa using hb
  subst e
  exact ⟨_,st,fun v z=>by
   have z':Data.fields _=Data.cell v:=z
   cases z'⟩
 keep:=fun i h h' st k=>k it (by simp) _ st
 item:=by
  intro X hP hw hK hc i pins s σ H E I hf st hg
  subst hP hw hK
  obtain ⟨f0,f1,f2,f3,f4,f5⟩:=hf it (by simp)
  have W:=Walks.range (prog:=X.prog) (w:=X.w) (I.ok.hd hc) it ((n:Int) - 1) (-1) n
  refine W.item i s _ _ hg st fun v h' tk hv st' kk=>?_
  obtain ⟨t,rfl⟩:=hv
  have I1:Inv X pins σ H { s with heap:=h',toks:=tk }:=I.turned (fun b o hb e=>kk b o (by simpa using hb) e) f0 f1 f3 f4 f5
  refine ⟨_,rfl,go_of (s:={ s with heap:=h',toks:=tk }) (n:= "range_iterator") st' rfl rfl (by decide) ⟨.int ((n:Int) - 1 - i),H,I1,⟨t,?_⟩,⟨rfl,rfl⟩,st',fun b hb=>(hf b hb).1⟩⟩
  rw [show (n:Int) - 1+(i:Nat)*(-1)=(n:Int) - 1 - i by omega]
 done:=by
  intro X hP hw hK hc i pins s σ H E I hf st hg
  subst hP hw hK
  obtain ⟨f0,f1,f2,f3,f4,f5⟩:=hf it (by simp)
  exact wpAny_pyNext_range_end (I.ok.hd hc) st (by have:n≤i:=hg; omega) fun h' eb=>⟨rfl,I.turned (t':=s.toks) (fun b o hb e=>eb b o hb e) f0 f1 f3 f4 f5⟩
 self:=fun _ _ _ _ _ st h=>wpAny_pyIter_rangeiter st h
def iRngRev (ta:TA):TI:=fun σ H R=>ta σ H fun vs H1=>∃j:Int,vs=[.int j]∧0≤j∧j<2 ^ 62∧R (Itrv j.toNat) H1
theorem pi_rngrev {tg a:Expr} {ta:TA} {p p2 pos2:Pos} (ha:PA X [a] ta) (hm:X.mg "reversed" = none) (hm2:X.mg "range" = none) (hg:Gl X "reversed" :=by rfl) (hg2:Gl X "range" :=by rfl)
  (he:starEach [.Call (.Name "range" p2) [a] [] pos2] X.env=(false,eval (.Call (.Name "range" p2) [a] [] pos2) X.env)::starEach [] X.env:=by rfl) (hs:starEach [a] X.env=[(false,eval a X.env)]:=by rfl) :
  PI X tg (.Call (.Name "reversed" p) [.Call (.Name "range" p2) [a] [] pos2] [] pos) (iRngRev ta):=by
 intro pins s σ H R I h
 refine wpAny_Call_Name_kw (z0f I hg hm boot_rev ?_)
 refine PyProof.Rows.callWith_type1 ?_ he rfl
 rw [he]
 show wpAny _ _ (spliced ((false,eval (.Call (.Name "range" p2) [a] [] pos2) X.env)::backTo pos (starEach [] X.env))) _ _ s
 refine Calls.spliced_cons (Call_ (z0f I hg2 hm2 boot_range (PyProof.Rows.callWith_type1 (thn (ha pos2 pins s σ H _ I h) fun us s1 ⟨vs,H1,I1,r1,q1⟩=>?_) hs rfl)))
 obtain ⟨j,e,q1,q2,q⟩:=q1
 subst e
 cases r1 with
 | cons r rr=>
  cases rr
  obtain ⟨t,rfl⟩:=r
  refine call_range_1 (Calls.spliced_nil ?_)
  refine q8v (IsRange.new ..) q1 q2 ?_
  have I2:Inv X pins σ H1 { s1 with heap:=s1.heap.push { cls:=.type "range",data:=.fields #[.int 0 s1.toks,.int j t,.int 1 (s1.toks+1)] },toks:=s1.toks+1+1 }:=I1.kept fun b o e=>Heap.get?_push_of_some _ e
  generalize hS:s1.heap.push { cls:=.type "range",data:=.fields #[.int 0 s1.toks,.int j t,.int 1 (s1.toks+1)] }=hp2 at I2 ⊢
  refine wpAny_pyIter_rangeiter (x:=j - 1) (left:=j) (step:=-1) (Heap.get?_push_size _ rfl) ?_
  refine ⟨hp2.objs.size,[hp2.objs.size],_,_,H1,rfl,I2.kept (t':=s1.toks+1+1) fun b o e=>Heap.get?_push_of_some _ e,turn_rngrev _ j.toNat,?_,fun b hb=>?_,q⟩
  ·have e1:((j.toNat:Nat):Int) - 1+((0:Nat):Int)*(-1)=j - 1:=by omega
   have e2:((j.toNat:Nat):Int) - ((0:Nat):Int)=j:=by omega
   show IsRangeIter _ _ (((j.toNat:Nat):Int) - 1+((0:Nat):Int)*(-1)) (((j.toNat:Nat):Int) - ((0:Nat):Int)) (-1)
   rw [e1,e2]
   exact Heap.get?_push_size _ rfl
  ·have e:b=hp2.objs.size:=by simpa using hb
   subst e
   exact I2.fpOk (Nat.le_refl _) (I2.hok.fresh (Nat.le_refl _))
def q6b (wa:WA):WI:=fun σ S E Q=>wa σ S E fun xs S1=>match xs with
 | [.int j]=>(0≤j∧j<2 ^ 62)∧Q ⟨(rngP 0 j.toNat).reverse,fun _=>True⟩ S1
 | _=>False
theorem itr_rngrev {K:PySem.W.Frag} {φ:List Addr} {H:Hp} {n:Nat}:ItR K φ H (Itrv n) ⟨(rngP 0 n).reverse,fun _=>True⟩ where
 go:=fun φ1 H1 S1 p m R e i x hx=>by
  have hx':(rngP 0 n).reverse[i]?=some x:=hx
  have hl:i<n:=by have:=(List.getElem?_eq_some_iff.mp hx').1; unfold rngP at this; simpa using this
  have hlr:i<(rngP 0 n).length:=by unfold rngP; simpa using hl
  rw [List.getElem?_reverse hlr] at hx'
  unfold rngP at hx'
  rw [List.getElem?_map,List.length_map,List.length_range,List.getElem?_range (by omega)] at hx'
  cases hx'
  refine ⟨hl,fun y' H' hh1=>?_⟩
  obtain ⟨e1,e2⟩:=hh1
  subst e1
  refine ⟨φ1,List.prefix_refl _,.refl _,R,?_⟩
  have:(0:Int)+((n - 1 - i:Nat):Int)=(n:Int) - 1 - i:=by omega
  show RV K H' φ1 (PV.int (0+((n - 1 - i:Nat):Int))) y'
  rw [this]
  exact e2
 stop:=fun φ1 H1 S1 p m R e i hi=>by
  have:(rngP 0 n).reverse.length≤i:=hi
  unfold rngP at this
  show n≤i
  simpa using this
theorem simI_rngrev {tg a:Expr} {wa:WA} {p p2 pos2:Pos} (hm:X.mg "reversed" = none) (hm2:X.mg "range" = none) (ha:SimA X G [a] wa) (hg:Gl X "reversed" :=by rfl) (hg2:Gl X "range" :=by rfl)
  (he:starEach [.Call (.Name "range" p2) [a] [] pos2] X.env=(false,eval (.Call (.Name "range" p2) [a] [] pos2) X.env)::starEach [] X.env:=by rfl) (hs:starEach [a] X.env=[(false,eval a X.env)]:=by rfl):SimI X G tg (.Call (.Name "reversed" p) [.Call (.Name "range" p2) [a] [] pos2] [] pos) (q6b wa):=
 PI.imp (pi_rngrev ha hm hm2 hg hg2 he hs) fun σV H Q hh1=>by obtain ⟨φ,σ,S,Q0,L,R,h,k⟩:=hh1; exact (⟨φ,σ,S,_,L,R,h,fun v S1 φ1 H1 x q p1 m1 R1 r1=>by
  split at q
  ·rename_i j
   obtain ⟨y,rfl,r⟩:=q3b r1
   cases r
   exact ⟨j,rfl,q.1.1,q.1.2,k _ S1 φ1 H1 _ q.2 p1 m1 R1 itr_rngrev⟩
  ·exact q.elim⟩)
end
end Ev
namespace Ev
open PySem PySem.Spec PyProof.Rows L2
section
variable {X:Cx} {G:GX} {pos:Pos} {a:Expr} {ta:TE} {wa:WE}
theorem pe_notT (ha:PE X a ta):PE X (.UnaryOp .Not a pos) (fun σ H Q=>ta σ H fun x H1=>∃k,TruV X.K x H1 k∧Q (.bl (!k)) H1):=by
 intro pins s σ H Q I h
 refine UnaryOp_ (thn (ha pins s σ H _ I h) fun v s1 hh=>?_)
 obtain ⟨x,H1,I1,r1,q1⟩:=hh
 refine not_of (thn (tru_ok pins s1 σ H1 x v (fun k H'=>Q (.bl (!k)) H') I1 r1 q1) fun b s2 hb=>?_)
 obtain ⟨H2,I2,q2⟩:=hb
 exact ⟨.bl (!b),H2,I2,rfl,q2⟩
def wNotT (wa:WE):WE:=fun σ S E Q=>wa σ S E fun x S1=>truK x S1 fun b S2=>Q (.bl (!b)) S2
theorem sim_notT (ha:SimE X G a wa):SimE X G (.UnaryOp .Not a pos) (wNotT wa):=
 (pe_notT ha).imp fun σV H Q hh=>by
  obtain ⟨φ,σ,S,Q0,L,R,h,k⟩:=hh
  exact ⟨φ,σ,S,_,L,R,h,fun v S1 φ1 H1 x q p1 m1 R1 r1=>tru_rel R1 r1 q fun b q=>k _ S1 φ1 H1 _ q p1 m1 R1 rfl⟩
end
end Ev
namespace Ev
open PySem PySem.Spec PyProof.Rows L2
section
variable {X:Cx}
end
end Ev
namespace Ev
open PySem PySem.Spec PyProof.Rows L2
section
variable {X:Cx}
end
end Ev
namespace Ev
open PySem PySem.Spec PyProof.Rows L2
section
variable {X:Cx} {G:GX} {pos:Pos}
structure EAt (e it a:Addr) (i:Nat) (h:Heap):Prop where
 ge:∃old,IsEnum h e it i old
 gi:h.IsListIter it a i
end
end Ev
namespace L2
open PySem PySem.Spec PyProof.Rows
section
variable {X:Cx} {tg iter kx vx:Expr} {scope:Scope} {pos:Pos} {N':List Str} {ix:List (Option Nat)} {wi:TI}
end
end L2
namespace Ev
open PySem PySem.Spec PyProof.Rows L2
section
variable {X:Cx} {G:GX} {pos:Pos}
end
end Ev
namespace Ev
open PySem PySem.Spec PyProof.Rows L2
section
variable {X:Cx}
end
end Ev
namespace Ev
open PySem PySem.Spec PyProof.Rows L2
section
variable {X:Cx} {G:GX} {pos:Pos} {pins:List (Addr×Obj)} {σ:L2.St} {H:Hp} {s:Shared} {φ:List Addr}
theorem Paired.app {α β:Type} {F:α→β→Prop} {l:List α} {m:List β} {a:α} {b:β} (h:Paired F l m) (r:F a b):Paired F (l++[a]) (m++[b]):=by
 induction h with
 | nil=>exact .cons r .nil
 | cons r' _ ih=>exact .cons r' ih
end
end Ev
namespace L2
open PySem PySem.Spec PyProof.Rows
section
variable {X:Cx} {tg iter kx vx:Expr} {scope:Scope} {pos:Pos} {N':List Str} {ix:List (Option Nat)} {wi:TI} {g:TG} {tk tv:TE}
end
end L2
namespace Ev
open PySem PySem.Spec PyProof.Rows L2
section
variable {X:Cx} {G:GX} {pos:Pos}
end
end Ev
namespace Ev
open PySem PySem.Spec PyProof.Rows L2
section
variable {X:Cx} {G:GX} {pos:Pos}
def wDNew:WE:=fun _ S _ Q=>Q (.ref S.length) (S++[.dK []])
theorem sim_dnew:SimE X G (.Dict [] [] pos) wDNew:=
 (pe_dnewK (X:=X) (pos:=pos)).imp fun σV H Q hh1=>by obtain ⟨φ,σ,S,Q0,L,R,h,k⟩:=hh1; exact (fun p hp=>
  have R2:Rel X.K (φ++[p]) (S++[.dK []]) (upd H p (.dK [])):=R.new (o:=.dK []) hp ⟨[],q3p,.nil⟩
  k _ _ _ _ _ h (List.prefix_append _ _) (.new _ hp) R2 ⟨p,rfl,by rw [←R.len,List.getElem?_append_right (Nat.le_refl _)]; simp⟩)
end
end Ev
namespace L2
open PySem PySem.Spec PyProof.Rows
section
variable {X:Cx} {tg iter kx vx:Expr} {scope:Scope} {pos:Pos} {N':List Str} {ix:List (Option Nat)} {wi:TI} {g:TG} {tk tv:TE}
end
end L2
namespace Ev
open PySem PySem.Spec PyProof.Rows L2
section
variable {X:Cx} {G:GX} {pos:Pos}
end
end Ev
namespace Ev
open PySem PySem.Spec PyProof.Rows L2
section
variable {X:Cx} {G:GX} {pos:Pos}
theorem dk_get {K:PySem.W.Frag} {H:Hp} {φ:List Addr} {S:q0l} {n:Nat} {a:Addr} {kvs:List (Key×PV)} {k:Key} (R:Rel K φ S H) (qa:φ[n]?=some a) (es:S[n]?=some (.dK kvs)):∃o:Option V,DGet H a (kV k) o∧o.isSome=(valP kvs k).isSome∧RV K H φ ((valP kvs k).getD .non) (o.getD .non):=by
 obtain ⟨ws,sa,ra⟩:=R.obj n a _ qa es
 refine ⟨valV ws k,DGet.k sa,?_⟩
 cases e:valP kvs k with
 | none=>rw [(ra.val k).2 e]; exact ⟨rfl,rfl⟩
 | some v=>
  obtain ⟨w',e',r'⟩:=(ra.val k).1 v e
  rw [e']
  exact ⟨rfl,r'⟩
def mGet:FM:=fun x xs S Q=>match x,xs with
 | .ref n,[y]=>match S[n]? with
  | some (.dK kvs)=>match keyOf y with
   | some k=>Q ((valP kvs k).getD .non) S
   | none=>False
  | _=>False
 | _,_=>False
theorem mts_get (hu:X.A.units+200<cLine):MtR X "dict.get" (liftM X.K mGet):=by
 rintro pins s σ H x xs v us Q I rx rs ⟨φ,S,px,pxs,Q0,R,hx,hxs,h,k⟩
 unfold mGet at h
 split at h
 ·rename_i n y
  split at h
  ·rename_i kvs es
   split at h
   ·rename_i kk ek
    obtain ⟨a,rfl,qa⟩:=hx
    obtain ⟨y',rfl,ry⟩:=q3b hxs
    have hk:=key_rel ry ek
    subst hk
    obtain ⟨o,g,_,r'⟩:=dk_get (k:=kk) R qa es
    cases rx
    cases rs with
    | cons r1 r2=>
     cases r2
     exact d_get1 (by omega) I g r1 fun w' s' I' rw'=>⟨_,H,I',rw',k _ S φ H _ h (List.prefix_refl _) (.refl _) R r'⟩
   ·exact h.elim
  ·exact h.elim
 ·exact h.elim
end
end Ev
namespace My
open PySem L2 Ev
def q5g:WS:=
 (wSeq (wSet 1 (wBin bAdd (wSl (wVar 0) q6q (wPart (wC (.int 63)))) (wLst (q0d (wC (.int 0)) wNil))))
 (wSeq (wSet 2 (wBin cEq (wBin bMod (wBin bIx (wVar 1) (wC (.int 0))) (wC (.int 2))) (wC (.int 1))))
 (wSeq (wAsg (wBin q5s (wBin bIx (wVar 1) (wC (.int 0))) (wC (.int 2))) (q9u (wVar 1) (wC (.int 0)) sSet))
 (wRet (wDisp (q4u (wC (.str (Str.ofString "cells"))) (wVar 1) (q4u (wC (.str (Str.ofString "left"))) (wC (.int 12)) (q4u (wC (.str (Str.ofString "at"))) (wC (.int 0)) (q4u (wC (.str (Str.ofString "seed"))) (wBin bAdd (wC (.int 1)) (wBin bMod (wCB fSum (q0d (wVar 1) wNil)) (wC (.int 2147483646)))) (q4u (wC (.str (Str.ofString "mixed"))) (wVar 2) wdNil))))))))))
def q5d:WS:=
 (wSeq (wSet 1 (wBin bIx (wVar 0) (wC (.str (Str.ofString "cells")))))
 (wSeq (wIfS (wTru (wBin bIx (wVar 0) (wC (.str (Str.ofString "mixed")))))
 (wSeq (wAsg (wBin bAdd (wBin bIx (wVar 0) (wC (.str (Str.ofString "at")))) (wC (.int 1))) (q9u (wVar 0) (wC (.str (Str.ofString "at"))) sSet))
 (wSeq (wSet 2 (wBin bIx (wVar 1) (wBin bMod (wBin bIx (wVar 0) (wC (.str (Str.ofString "at")))) (wCB fLen (q0d (wVar 1) wNil)))))
 (wSeq (wAsg (wBin bMod (wBin bAdd (wBin bAdd (wBin bMul (wBin bIx (wVar 0) (wC (.str (Str.ofString "seed")))) (wC (.int 48271))) (wVar 2)) (wBin bIx (wVar 0) (wC (.str (Str.ofString "at"))))) (wC (.int 2147483647))) (q9u (wVar 0) (wC (.str (Str.ofString "seed"))) sSet))
 (wSeq (wSet 3 (wBin bMod (wBin bAdd (wBin bMul (wBin bIx (wVar 0) (wC (.str (Str.ofString "seed")))) (wBin bIx (wVar 0) (wC (.str (Str.ofString "seed"))))) (wBin bMul (wC (.int 7919)) (wBin bIx (wVar 0) (wC (.str (Str.ofString "at")))))) (wC (.int 2147483629))))
 (wRet (wBin bMod (wBin bMul (wVar 3) (wBin bAdd (wVar 3) (wC (.int 69621)))) (wC (.int 999999999989))))))))
 q1o)
 (wSeq (wSet 3 (wBin bMod (wBin bIx (wVar 1) (wC (.int 0))) (wBin bPow (wC (.int 10)) (wC (.int 12)))))
 (wSeq (wAsg (wBin q5s (wBin bIx (wVar 1) (wC (.int 0))) (wBin bPow (wC (.int 10)) (wC (.int 12)))) (q9u (wVar 1) (wC (.int 0)) sSet))
 (wSeq (wAsg (wBin bSub (wBin bIx (wVar 0) (wC (.str (Str.ofString "left")))) (wC (.int 1))) (q9u (wVar 0) (wC (.str (Str.ofString "left"))) sSet))
 (wSeq (wIfS (wAnd (q1b (wBin cEq (wBin bIx (wVar 0) (wC (.str (Str.ofString "left")))) (wC (.int 0)))) (q1b (wBin cGt (wCB fLen (q0d (wVar 1) wNil)) (wC (.int 1)))))
 (wSeq (q4d (wBM "list" mPopAt (wVar 1) (q0d (wC (.int 0)) wNil)))
 (wAsg (wC (.int 12)) (q9u (wVar 0) (wC (.str (Str.ofString "left"))) sSet)))
 q1o)
 (wRet (wVar 3))))))))
def q7l:WS:=
 (wSeq (wSet 2 (wC (.str (Str.ofString ""))))
 (wSeq (wFor (q7k (q0d (wVar 1) wNil)) (q1u 3) (wSeq (wSet 2 (wBin bAdd (wVar 2) (wBin bIx (wC (.str (Str.ofString "abcdefghijklmnopqrstuvwxyz"))) (wBin bMod (wVar 0) (wC (.int 26))))))
 (wSet 0 (wBin q5s (wVar 0) (wC (.int 26))))))
 (wRet (wVar 2))))
def q4i (spLword:Den):WS:=
 (wSeq (wSet 2 (wLst wNil))
 (wSeq (wFor (q7k (q0d (wVar 1) wNil)) (q1u 3) (q4d (wBM "list" q2f (wVar 2) (q0d (q0v spLword (q0d (wVar 0) (q0d (wVar 2) wNil))) wNil))))
 (wRet (wVar 2))))
def q5c (spLsame:Den):WS:=
 (wSeq (wIfS (wTru (wCB fIsi (q0d (wVar 0) (q0d (wC (.ty "str")) wNil))))
 (wRet (wAndV (wCB fIsi (q0d (wVar 1) (q0d (wC (.ty "str")) wNil))) (wBin cEq (wVar 0) (wVar 1))))
 q1o)
 (wSeq (wIfS (wNot (wTru (wCB fIsi (q0d (wVar 0) (q0d (wC (.ty "tuple")) wNil)))))
 (wRet (wAndV (wCB fIsi (q0d (wVar 1) (q0d (wC (.ty "int")) wNil))) (wAndV (wNotV (wCB fIsi (q0d (wVar 1) (q0d (wC (.ty "bool")) wNil)))) (wBin cEq (wVar 0) (wVar 1)))))
 q1o)
 (wSeq (wIfS (wOr (wNot (wTru (wCB fIsi (q0d (wVar 1) (q0d (wC (.ty "tuple")) wNil))))) (q1b (wBin cNe (wCB fLen (q0d (wVar 0) wNil)) (wCB fLen (q0d (wVar 1) wNil)))))
 (wRet (wC (.bl false)))
 q1o)
 (wRet (wCB fAll (q0d (q7i (wiZip (q0d (wVar 0) (q0d (wVar 1) wNil))) [none,none] (q8d 2 (q2s (q1u 0) (q2s (q1u 1) q8e))) q4t (q0v spLsame (q0d (wVar 0) (q0d (wVar 1) wNil)))) wNil))))))
local macro_rules | `(tactic| dsimp! [$xs,*]) => do
 let ns := (("wSet wAsg q1u q9u q8d q2s q8e sSet wIfS q1b wTru truK wAnd wOr wNot wAndV wNotV wIf wNeg wBin wVar wC wCB q0d wNil wTup wLst wRet q4d q0v wBM wBM0 wSl bSl wPart q6q q1o wFor q8m q7k q6b wiRev wDNew wiZip q7i q4t innerP bIAdd bAdd bI bSub q5s bMod bPow bMul cLt cGt cGe cEq_ii cEq_ss cEq_st cEq_bb cEq_ts cEq_tt cEq_rr cNe_ii cNe_ss cNe_bb cNe_tt cNe_rr cIn_r cIs isNon wRaise ix_t ix_s ix_f ix_r q1f keyOf fLen fIsi tyP fSum fAll fList fStr q2f mPop mPopAt mClear q8s wDisp q4u wdNil List.getElem?_cons_zero List.getElem?_cons_succ List.set_cons_zero List.set_cons_succ List.map_cons List.map_nil List.replicate List.cons_append List.nil_append List.length_cons List.length_nil q6a q7j seq_new lst_new true_and if_true Bool.false_eq_true if_false Bool.not_true Bool.not_false kc_list kc_tuple kc_str kc_int kc_bool z0o q9y z1r z1s z0p it_bool_list it_bool_tuple it_bool_str it_bool_int it_bool_bool it_int_list it_int_tuple it_int_str it_int_int it_int_bool it_str_list it_str_tuple it_str_str it_str_int it_str_bool it_tuple_list it_tuple_tuple it_tuple_str it_tuple_int it_tuple_bool it_list_list it_list_tuple it_list_str it_list_int it_list_bool nrf_non nrf_bl nrf_int nrf_str z1m eqB_ii eqB_bb q6n eqB_st eqB_ts eqB_tt okEq_str q9o decide_eq_true_eq and_self and_true decide_true decide_false not_true_eq_false not_false_eq_true Int.cast_ofNat_Int Int.reduceEq Int.reduceNeg Nat.reduceSub Nat.sub_self Bool.not_eq_true' decide_eq_false_iff_not Nat.reduceAdd wNotT mGet".splitOn " ").map fun z => Lean.mkIdent z.toName).toArray
 let ds := (("wSet wAsg q1u q9u q8d q2s q8e sSet wIfS q1b wTru truK wAnd wOr wNot wAndV wNotV wIf wNeg wBin wVar wC wCB q0d wNil wTup wLst wRet q4d q0v wBM wBM0 wSl bSl wPart q6q q1o wFor q8m q7k q6b wiRev wDNew wiZip q7i q4t innerP bIAdd bAdd bI bSub q5s bMod bPow bMul cLt cGt cGe cIs wRaise ix_t ix_s ix_f ix_r keyOf fLen fIsi tyP fSum fAll fList fStr q2f mPop mPopAt mClear q8s wDisp q4u wdNil true_and wNotT mGet List.getElem?_cons_zero List.getElem?_cons_succ List.set_cons_zero List.set_cons_succ List.map_cons List.map_nil List.cons_append List.nil_append".splitOn " ").map fun z => Lean.mkIdent z.toName).toArray
 `(tactic| first | (dsimp only [$[$ds:ident],*]; first | simp only [$[$ns:ident],*, $xs,*] | skip) | simp only [$[$ns:ident],*, $xs,*])
def mk (l:List Nat):Str:=⟨l.toArray⟩
theorem q7e (l:List Nat):(mk l).cps.toList=l:=rfl
theorem z0e (l:List Nat):(mk l).length=l.length:=by simp [mk,Str.length]
theorem mk_app (a b:List Nat):mk a++mk b=mk (a++b):=by
 apply str_ext
 rw [app_list,q7e,q7e,q7e]
theorem mk_inj {a b:List Nat} (h:mk a=mk b):a=b:=by rw [←q7e a,h,q7e]
theorem len_list (z:Str):z.cps.toList.length=z.length:=by simp [Str.length]
theorem empty_mk:Str.ofString "" = mk []:=by decide +kernel
theorem chr_mk (c:Nat):(⟨#[c]⟩:Str)=mk [c]:=rfl
def isL (c:Nat):Bool:=inS ⟨#[c]⟩ (Str.ofString "abcdefghijklmnopqrstuvwxyz")
def q8i (z:Str):Bool:=!decide (z.length=0) && !decide (8<z.length) && z.cps.toList.all isL
inductive Kd where
 | a (s:Str) | p (f t:Kd)
def Kd.pv:Kd→PV
 | .a s=>.str s
 | .p f t=>.tup [f.pv,t.pv]
def Kd.lv:Kd→Nat
 | .a _=>1
 | .p f t=>f.lv+t.lv
def Kd.dp:Kd→Nat
 | .a _=>0
 | .p f t=>max f.dp t.dp+1
def Kd.ok:Kd→Prop
 | .a s=>q8i s=true
 | .p f t=>f.ok∧t.ok
theorem nameB_len {s:Str} (h:q8i s=true):1≤s.length∧s.length≤8∧s.cps.toList.all isL=true:=by
 unfold q8i at h
 simp only [Bool.and_eq_true,Bool.not_eq_true',decide_eq_false_iff_not] at h
 exact ⟨by omega,by omega,h.2⟩
theorem nrf_pv:∀k:Kd,nrf k.pv=true
 | .a _=>rfl
 | .p f t=>by simp only [Kd.pv,nrf,nrfs,nrf_pv f,nrf_pv t,Bool.and_self]
theorem dep_pv:∀k:Kd,dep k.pv=k.dp
 | .a _=>rfl
 | .p f t=>by simp only [Kd.pv,dep,deps,dep_pv f,dep_pv t,Kd.dp]; omega
theorem okEq_pv {k:Kd} (h:k.dp≤190):okEq k.pv:=⟨nrf_pv k,by rw [dep_pv]; exact h⟩
structure ReadAt (S0:q0l) (z:Str) (np ns:Nat) (pcs:List Str) (st:List Kd) (σ:Ev.Loc) (S:q0l):Prop where
 loc:∃j,σ=[some (.str z),some (.ref np),some (.ref ns),j]
 pcs:S[np]?=some (.lst (pcs.map PV.str))
 stk:S[ns]?=some (.lst (st.map Kd.pv))
 ext:Ex [] S0 S
section
variable {spc spi:Den} {S0:q0l} {z:Str} {np ns:Nat} {pcs:List Str} {D:PEnds} {E:EK}
end
def q5r (c:Nat) (l a s:Int) (m:Bool):List (Key×PV):=[(.inr (Str.ofString "cells"),.ref c),(.inr (Str.ofString "left"),.int l),(.inr (Str.ofString "at"),.int a),(.inr (Str.ofString "seed"),.int s),(.inr (Str.ofString "mixed"),.bl m)]
theorem dk_cells (c:Nat) (l a s:Int) (m:Bool):valP (q5r c l a s m) (.inr (Str.ofString "cells"))=some (.ref c):=rfl
theorem dk_left (c:Nat) (l a s:Int) (m:Bool):valP (q5r c l a s m) (.inr (Str.ofString "left"))=some (.int l):=rfl
theorem dk_at (c:Nat) (l a s:Int) (m:Bool):valP (q5r c l a s m) (.inr (Str.ofString "at"))=some (.int a):=rfl
theorem dk_seed (c:Nat) (l a s:Int) (m:Bool):valP (q5r c l a s m) (.inr (Str.ofString "seed"))=some (.int s):=rfl
theorem dk_mixed (c:Nat) (l a s:Int) (m:Bool):valP (q5r c l a s m) (.inr (Str.ofString "mixed"))=some (.bl m):=rfl
theorem dp_left (c:Nat) (l a s:Int) (m:Bool) (x:Int):putP (q5r c l a s m) (.inr (Str.ofString "left")) (.int x)=q5r c x a s m:=rfl
theorem dp_at (c:Nat) (l a s:Int) (m:Bool) (x:Int):putP (q5r c l a s m) (.inr (Str.ofString "at")) (.int x)=q5r c l x s m:=rfl
theorem dp_seed (c:Nat) (l a s:Int) (m:Bool) (x:Int):putP (q5r c l a s m) (.inr (Str.ofString "seed")) (.int x)=q5r c l a x m:=rfl
theorem dk_len (c:Nat) (l a s:Int) (m:Bool):(q5r c l a s m).length<sizeLine:=bigl (by show 5≤1000000; decide)
structure Deck (d c:Nat) (S:q0l):Prop where
 is:∃(l a s:Int) (m:Bool) (x:Int) (xs:List Int),S[d]?=some (.dK (q5r c l a s m))∧S[c]?=some (.lst ((x::xs).map PV.int))∧xs.length≤100∧0≤s∧s<2147483647
 ne:d≠c
theorem Deck.ex {d c:Nat} {S S':q0l} (h:Deck d c S) {D:List Nat} (e:Ex D S S') (h1:d∉D) (h2:c∉D):Deck d c S':=by
 obtain ⟨⟨l,a,s,m,x,xs,g1,g2,r⟩,ne⟩:=h
 exact ⟨⟨l,a,s,m,x,xs,e.get g1 h1,e.get g2 h2,r⟩,ne⟩
def NextD (sp:Den):Prop:=∀(d c:Nat) (S:q0l) (E:EK) (Q:VC),Deck d c S→(∀(n:Int) S',0≤n→n<1000000000000→Deck d c S'→Ex [d,c] S S'→Q (.int n) S')→sp [.ref d] S E Q
theorem z0y (n:Nat):ixN (n+1) 0=some 0:=by
 unfold ixN
 rw [if_pos (by decide),if_pos (by omega)]
 rfl
theorem q0g (x:PV) (xs:List PV):atI (x::xs) 0=some x:=by
 unfold atI ixN
 simp only [List.length_cons]
 rw [if_pos (by decide),if_pos (by omega)]
 rfl
theorem atI_mod {xs:List Int} {i:Int} (h:xs≠[]):∃y,atI (xs.map PV.int) (i % (xs.length:Int))=some (.int y):=by
 have hp:0<xs.length:=List.length_pos_iff.mpr h
 have h0:0≤i % (xs.length:Int):=Int.emod_nonneg _ (by omega)
 have h1:i % (xs.length:Int)<xs.length:=Int.emod_lt_of_pos _ (by omega)
 unfold atI ixN
 rw [List.length_map,if_pos h0,if_pos h1]
 have:(i % (xs.length:Int)).toNat<xs.length:=by omega
 exact ⟨xs[(i % (xs.length:Int)).toNat],by simp [this]⟩
theorem cmul_r {i j:Int} (h:-(2 ^ 64)<j) (h':j<2 ^ 64):CMul i j:=.inr ⟨h,h'⟩
theorem cmul_l {i j:Int} (h:-(2 ^ 64)<i) (h':i<2 ^ 64):CMul i j:=.inl ⟨h,h'⟩
theorem next_ok:NextD (fnP 1 4 q5d):=by
 rintro d c S E Q ⟨⟨l,a,s,m,x,xs,g1,g2,hl,s0,s1⟩,ne⟩ h
 refine ⟨rfl,?_⟩
 unfold q5d
 refine seqI fun K hK=>?_
 dsimp! [g1,dk_cells]
 refine hK _ _ ?_
 refine seqI fun K hK=>?_
 dsimp! [g1,dk_mixed]
 refine ite2 (fun hm=>?_) (fun hm=>?_)
 ·refine seqI fun K2 hK2=>?_
  dsimp! [g1,dk_at,dp_at]
  refine ⟨dk_len _ _ _ _ _,hK2 _ _ ?_⟩
  have a1:=q1v (.dK (q5r c l (a+1) s m)) g1
  have b1:=q2r (j:=d) (.dK (q5r c l (a+1) s m)) g2 ne
  refine seqI fun K2 hK2=>?_
  obtain ⟨y,hy⟩:=atI_mod (xs:=x::xs) (i:=a+1) (by simp)
  dsimp! [a1,b1,dk_at,q1c b1,List.length_map]
  simp only [List.map_cons,List.length_cons] at hy
  rw [show ((xs.length+1:Nat):Int)=((xs.length:Int)+1) by omega] at hy ⊢
  refine ⟨by omega,?_⟩
  rw [hy]
  refine hK2 _ _ ?_
  refine seqI fun K2 hK2=>?_
  dsimp! [a1,dk_at,dk_seed,dp_seed]
  refine ⟨cmul_r (by decide) (by decide),by decide,dk_len _ _ _ _ _,hK2 _ _ ?_⟩
  have s2:∀z:Int,0≤z % 2147483647∧z % 2147483647<2147483647:=fun z=>⟨Int.emod_nonneg _ (by decide),Int.emod_lt_of_pos _ (by decide)⟩
  obtain ⟨t0,t1⟩:=s2 (s*48271+y+(a+1))
  generalize hs':(s*48271+y+(a+1)) % 2147483647=s' at t0 t1 ⊢
  have a2:=q1v (.dK (q5r c l (a+1) s' m)) a1
  have b2:=q2r (j:=d) (.dK (q5r c l (a+1) s' m)) b1 ne
  refine seqI fun K2 hK2=>?_
  dsimp! [a2,dk_at,dk_seed]
  refine ⟨cmul_r (by omega) (by omega),cmul_l (by decide) (by decide),by decide,hK2 _ _ ?_⟩
  have n0:0≤(s'*s'+7919*(a+1)) % 2147483629:=Int.emod_nonneg _ (by decide)
  have n1:(s'*s'+7919*(a+1)) % 2147483629<2147483629:=Int.emod_lt_of_pos _ (by decide)
  generalize (s'*s'+7919*(a+1)) % 2147483629=nn at n0 n1 ⊢
  dsimp! [true_and]
  refine ⟨cmul_r (by omega) (by omega),by decide,?_⟩
  refine h _ _ (Int.emod_nonneg _ (by decide)) (Int.lt_trans (Int.emod_lt_of_pos _ (by decide)) (by decide)) ⟨⟨l,a+1,s',m,x,xs,a2,b2,hl,t0,t1⟩,ne⟩ (((Ex.refl _ _).set (.inl (by simp))).set (.inl (by simp)))
 ·refine hK _ _ ?_
  refine seqI fun K hK=>?_
  dsimp! [g2,q0g]
  refine ⟨⟨by decide,by decide,by decide⟩,by decide,hK _ _ ?_⟩
  rw [show ((10:Int) ^ (12:Int).toNat)=1000000000000 by decide]
  refine seqI fun K hK=>?_
  simp only [List.map_cons] at g2
  dsimp! [g2,q0g,z0y]
  rw [show ((10:Int) ^ (12:Int).toNat)=1000000000000 by decide]
  refine ⟨⟨by decide,by decide,by decide⟩,⟨by decide,by decide⟩,hK _ _ ?_⟩
  have b1:=q1v (.lst (PV.int (x / 1000000000000)::xs.map PV.int)) g2
  have a1:=q2r (j:=c) (.lst (PV.int (x / 1000000000000)::xs.map PV.int)) g1 (Ne.symm ne)
  refine seqI fun K hK=>?_
  dsimp! [a1,dk_left,dp_left]
  refine ⟨dk_len _ _ _ _ _,hK _ _ ?_⟩
  have a2:=q1v (.dK (q5r c (l - 1) a s m)) a1
  have b2:=q2r (j:=d) (.dK (q5r c (l - 1) a s m)) b1 ne
  have n0:0≤x % 1000000000000:=Int.emod_nonneg _ (by decide)
  have n1:x % 1000000000000<1000000000000:=Int.emod_lt_of_pos _ (by decide)
  have exx:Ex [d,c] S ((S.set c (.lst (PV.int (x / 1000000000000)::xs.map PV.int))).set d (.dK (q5r c (l - 1) a s m))):=((Ex.refl _ _).set (.inl (by simp))).set (.inl (by simp))
  refine seqI fun K hK=>?_
  dsimp! [a2,dk_left,q1c b2,List.length_map]
  have fin0:K [some (.ref d),some (.ref c),none,some (.int (x % 1000000000000))] ((S.set c (.lst (PV.int (x / 1000000000000)::xs.map PV.int))).set d (.dK (q5r c (l - 1) a s m))):=by
   refine hK _ _ ?_
   dsimp! [true_and]
   exact h _ _ n0 n1 ⟨⟨l - 1,a,s,m,x / 1000000000000,xs,a2,b2,hl,s0,s1⟩,ne⟩ exx
  refine ite2 (fun z=>ite2 (fun z2=>?_) (fun z2=>fin0)) (fun z=>fin0)
  refine seqI fun K2 hK2=>?_
  dsimp! [b2,q1g b2,z0y,List.eraseIdx_zero,List.tail_cons]
  refine ⟨⟨by decide,by decide⟩,hK2 _ _ ?_⟩
  have b3:=q1v (.lst (xs.map PV.int)) b2
  have a3:=q2r (j:=c) (.lst (xs.map PV.int)) a2 (Ne.symm ne)
  dsimp! [a3,dp_left]
  refine ⟨dk_len _ _ _ _ _,hK _ _ ?_⟩
  dsimp! [true_and]
  obtain ⟨x',xs',rfl⟩:∃x' xs',xs=x'::xs':=by
   cases xs with
   | nil=>simp at z2
   | cons a b=>exact ⟨a,b,rfl⟩
  refine h _ _ n0 n1 ⟨⟨12,a,s,m,x',xs',q1v _ a3,q2r _ b3 ne,by simp at hl; omega,s0,s1⟩,ne⟩ ((exx.set (.inl (by simp))).set (.inl (by simp)))
def DeckD (sp:Den):Prop:=∀(ns:List Int) (S:q0l) (E:EK) (Q:VC),ns.length≤63→(∀d c S',Deck d c S'→Ex [] S S'→S.length≤c→S.length≤d→Q (.ref d) S')→sp [.frl (ns.map .int)] S E Q
theorem cut63 (ns:List Int) (h:ns.length≤63):cutP (ns.map PV.int) none (some 63)=ns.map PV.int:=by
 unfold cutP
 have:HT.sIx (ns.map PV.int).length (ns.map PV.int).length (some 63)=(ns.map PV.int).length:=by
  rw [show (63:Int)=((63:Nat):Int) from rfl,HT.sIx_nat,List.length_map]
  omega
 rw [this,HT.sIx_none,List.drop_zero,Nat.sub_zero,List.take_length]
theorem deck_ok:DeckD (fnP 1 3 q5g):=by
 intro ns S E Q hl h
 refine ⟨rfl,?_⟩
 unfold q5g
 refine seqI fun K hK=>?_
 obtain ⟨x,xs,hxs,hxl⟩:∃x xs,ns++[0]=x::xs∧xs.length≤100:=by
  cases ns with
  | nil=>exact ⟨0,[],rfl,by simp⟩
  | cons a r=>exact ⟨a,r++[0],rfl,by simp at hl ⊢; omega⟩
 have e0:(S++[SO.lst (ns.map PV.int)])[S.length]?=some (.lst (ns.map PV.int)):=q1f _ _
 have e1:=q1m e0 [SO.lst [PV.int 0]]
 have e2:=q1f (S++[SO.lst (ns.map PV.int)]) (.lst [PV.int 0])
 dsimp! [cut63 ns hl,q1g e1]
 refine ⟨big (by decide),⟨by rw [List.length_map]; exact big (by omega),hK _ _ ?_⟩⟩
 have ecat:ns.map PV.int++[PV.int 0]=(x::xs).map PV.int:=by rw [←hxs]; simp
 rw [ecat]
 generalize hS3:S++[SO.lst (ns.map PV.int)]++[SO.lst [PV.int 0]]=S3
 have hx3:Ex [] S S3:=by rw [←hS3]; exact (Ex.new _ _ _).app _
 have g:=q1f S3 (.lst ((x::xs).map PV.int))
 refine seqI fun K hK=>?_
 simp only [List.map_cons] at g
 dsimp! [g,q0g]
 refine ⟨by decide,hK _ _ ?_⟩
 refine seqI fun K hK=>?_
 dsimp! [g,q0g,z0y]
 refine ⟨⟨by decide,by decide⟩,hK _ _ ?_⟩
 have g2:=q1v (.lst (PV.int (x / 2)::xs.map PV.int)) g
 have hx4:Ex [] S ((S3++[SO.lst (PV.int x::xs.map PV.int)]).set S3.length (.lst (PV.int (x / 2)::xs.map PV.int))):=(hx3.app _).set (.inr hx3.1)
 generalize hS4:(S3++[SO.lst (PV.int x::xs.map PV.int)]).set S3.length (.lst (PV.int (x / 2)::xs.map PV.int))=S4 at g2 hx4 ⊢
 have g3:=q1m g2 [SO.dK []]
 have eI:q5u (PV.int (x / 2)::xs.map PV.int)=some ((x / 2)::xs):=intsOf_map ((x / 2)::xs)
 dsimp! [q1c g3,Option.bind_some,eI]
 refine ⟨by decide,by first | exact ⟨q1f _ _,by decide⟩ | decide,?_⟩
 have em:∀(b:Bool) (s:Int),mergeP [] [(Sum.inr (Str.ofString "cells"),PV.ref S3.length),(Sum.inr (Str.ofString "left"),PV.int 12),(Sum.inr (Str.ofString "at"),PV.int 0),(Sum.inr (Str.ofString "seed"),PV.int s),(Sum.inr (Str.ofString "mixed"),PV.bl b)]=q5r S3.length 12 0 s b:=fun b s=>rfl
 rw [em]
 have hlt:S3.length<S4.length:=q2k g2
 have n0:0≤((x / 2)::xs).sum % 2147483646:=Int.emod_nonneg _ (by decide)
 have n1:((x / 2)::xs).sum % 2147483646<2147483646:=Int.emod_lt_of_pos _ (by decide)
 refine h S4.length S3.length _ ⟨⟨12,0,_,_,x / 2,xs,q1v _ (q1f S4 (SO.dK [])),q2r _ g3 (by omega),hxl,?_,?_⟩,by omega⟩ ((hx4.app _).set (.inr hx4.1)) hx3.1 hx4.1
 ·generalize ((x / 2)::xs).sum % 2147483646=y at n0 n1 ⊢; omega
 ·generalize ((x / 2)::xs).sum % 2147483646=y at n0 n1 ⊢; omega
def spl:Int→Nat→List Nat
 | _,0=>[]
 | n,k+1=>(97+(n % 26).toNat)::spl (n / 26) k
theorem q8n:∀(k:Nat) (n:Int),(spl n k).length=k
 | 0,_=>rfl
 | k+1,n=>by rw [spl,List.length_cons,q8n k]
def SpelledD (sp:Den):Prop:=∀(n:Int) (k:Nat) (S:q0l) (E:EK) (Q:VC),k≤8→Q (.str (mk (spl n k))) S→sp [.int n,.int k] S E Q
theorem rng_len (lo:Int) (n:Nat):(rngP lo n).length=n:=by simp [rngP]
theorem spelled_ok:SpelledD (fnP 2 4 q7l):=by
 intro n k S E Q hk h
 refine ⟨rfl,?_⟩
 unfold q7l
 refine seqI fun K hK=>?_
 dsimp! [true_and]
 refine hK _ _ ?_
 refine seqI fun K hK=>?_
 dsimp! [true_and]
 refine ⟨⟨by omega,by omega⟩,?_⟩
 rw [Int.toNat_natCast]
 refine forI (fun rest σ S1=>∃(num:Int) (w:List Nat) (j:Option PV),σ=[some (.int num),some (.int k),some (.str (mk w)),j]∧S1=S∧w++spl num rest.length=spl n k) ?_ ?_ _ _ _ ⟨n,[],none,by rw [empty_mk],rfl,by rw [rng_len]; rfl⟩
 ·rintro σ S1 ⟨num,w,j,rfl,rfl,hw⟩
  refine ⟨trivial,hK _ _ ?_⟩
  dsimp! [true_and]
  rw [List.length_nil,spl,List.append_nil] at hw
  rw [hw]
  exact h
 ·rintro x r σ S1 ⟨num,w,j,rfl,rfl,hw⟩ N hN
  rw [List.length_cons,spl] at hw
  refine ⟨trivial,?_⟩
  have hwl:w.length≤8:=by
   have:=congrArg List.length hw
   rw [List.length_append,q8n] at this
   omega
  have m0:0≤num % 26:=Int.emod_nonneg _ (by decide)
  have m1:num % 26<26:=Int.emod_lt_of_pos _ (by decide)
  dsimp! [true_and]
  refine seqI fun K2 hK2=>?_
  dsimp! [letters_at m0 m1]
  refine ⟨by decide,letters_len,?_⟩
  rw [chr_mk,mk_app,z0e,z0e]
  refine ⟨big (by simp; omega),hK2 _ _ ?_⟩
  dsimp! [true_and]
  refine ⟨⟨by decide,by decide⟩,hN _ _ ⟨num / 26,w++[97+(num % 26).toNat],_,rfl,rfl,by rw [←hw]; simp⟩⟩
theorem isL_low:∀m:Nat,m<26→isL (97+m)=true:=by decide +kernel
theorem spl_isL:∀(k:Nat) (n:Int),(spl n k).all isL=true
 | 0,_=>rfl
 | k+1,n=>by
  have m0:0≤n % 26:=Int.emod_nonneg _ (by decide)
  have m1:n % 26<26:=Int.emod_lt_of_pos _ (by decide)
  rw [spl,List.all_cons,spl_isL k,Bool.and_true]
  exact isL_low _ (by omega)
theorem nameB_mk {l:List Nat} (h1:1≤l.length) (h8:l.length≤8) (h:l.all isL=true):q8i (mk l)=true:=by
 unfold q8i
 rw [z0e,q7e,h,decide_eq_false (by omega),decide_eq_false (by omega)]
 rfl
theorem nodup_le {α:Type} [DecidableEq α]:∀{l F:List α},l.Nodup→(∀x∈l,x∈F)→l.length≤F.length
 | [],_,_,_=>Nat.zero_le _
 | a::l,F,nd,h=>by
  obtain ⟨h1,h2⟩:=List.nodup_cons.mp nd
  have ha:a∈F:=h a (by simp)
  have:=nodup_le (l:=l) (F:=F.erase a) h2 fun x hx=>(List.mem_erase_of_ne (by rintro rfl; exact h1 hx)).mpr (h x (List.mem_cons_of_mem _ hx))
  rw [List.length_erase_of_mem ha] at this
  have:0<F.length:=List.length_pos_of_mem ha
  simp only [List.length_cons]
  omega
def sAny:Str:=Str.ofString "any"
def szn (k i:Nat):Nat:=(k - 1+i) % 8+1
theorem szn_step (k i:Nat):szn (szn k 1) i=szn k (i+1):=by unfold szn; omega
def Bad (ws:List Str) (w:Str):Prop:=w∈ws∨w=sAny
def GoodAt (ws:List Str) (num:Int) (k i:Nat):Prop:=¬Bad ws (mk (spl (num+(i:Nat)) (szn k i)))
def WordD (sp:Den):Prop:=∀(d c n:Nat) (ws:List Str) (S:q0l) (E:EK) (Q:VC),Deck d c S→S[n]?=some (.lst (ws.map PV.str))→ws.length≤12→(∀w∈ws,q8i w=true)→n≠d→n≠c→
 (∀w S',q8i w=true→w∉ws→w≠sAny→Deck d c S'→Ex [d,c] S S'→Q (.str w) S')→sp [.ref d,.ref n] S E Q
theorem sl_take (z:Str) (k:Nat) (h:k≤z.length):Txt.slice z none (some (k:Int))=mk (z.cps.toList.take k):=by
 apply str_ext
 rw [slice_list,q7e,HT.sIx_none,HT.sIx_nat,List.drop_zero,Nat.sub_zero,Nat.min_eq_left h]
theorem sl_drop (z:Str) (k:Nat) (h:k≤z.length):Txt.slice z (some (k:Int)) none=mk (z.cps.toList.drop k):=by
 apply str_ext
 rw [slice_list,q7e,HT.sIx_none,HT.sIx_nat,Nat.min_eq_left h,List.take_of_length_le]
 rw [List.length_drop,len_list]
 exact Nat.le_refl _
theorem eqBs_nil (ws:List Str):eqBs (ws.map PV.str) []=ws.isEmpty:=by cases ws<;>simp [eqBs]
theorem any_eq (ws:List Str) (w:Str):((ws.map PV.str).any fun y=>eqB y (.str w))=decide (w∈ws):=by
 rw [List.any_map,Bool.eq_iff_iff,List.any_eq_true,decide_eq_true_eq]
 constructor
 ·rintro ⟨x,hx,e⟩
  have e':eqB (.str x) (.str w)=true:=e
  rw [q6n,decide_eq_true_eq] at e'
  rw [←e']; exact hx
 ·intro h
  exact ⟨w,h,by show eqB (.str w) (.str w)=true; rw [q6n]; simp⟩
theorem all_take {p:Nat→Bool} {l:List Nat} (k:Nat) (h:l.all p=true):(l.take k).all p=true:=List.all_eq_true.mpr fun x hx=>List.all_eq_true.mp h x (List.mem_of_mem_take hx)
theorem all_drop {p:Nat→Bool} {l:List Nat} (k:Nat) (h:l.all p=true):(l.drop k).all p=true:=List.all_eq_true.mpr fun x hx=>List.all_eq_true.mp h x (List.mem_of_mem_drop hx)
def WordsD (sp:Den):Prop:=∀(d c m:Nat) (S:q0l) (E:EK) (Q:VC),Deck d c S→m≤12→
 (∀(n:Nat) (ws:List Str) S',S'[n]?=some (.lst (ws.map PV.str))→ws.length=m→(∀w∈ws,q8i w=true)→S.length≤n→Deck d c S'→Ex [d,c] S S'→Q (.ref n) S')→sp [.ref d,.int m] S E Q
theorem words_ok {spw:Den} (hw:WordD spw):WordsD (fnP 2 4 (q4i spw)):=by
 intro d c m S E Q hd hm h
 refine ⟨rfl,?_⟩
 unfold q4i
 refine seqI fun K hK=>?_
 dsimp! [true_and]
 refine ⟨big (by decide),hK _ _ ?_⟩
 refine seqI fun K hK=>?_
 dsimp! [true_and]
 refine ⟨⟨by omega,by omega⟩,?_⟩
 rw [Int.toNat_natCast]
 have hdl:d<S.length:=by obtain ⟨⟨_,_,_,_,_,_,g,_⟩,_⟩:=hd; exact q2k g
 have hcl:c<S.length:=by obtain ⟨⟨_,_,_,_,_,_,_,g,_⟩,_⟩:=hd; exact q2k g
 refine forI (fun rest σ S1=>∃(ws:List Str) (j:Option PV),σ=[some (.ref d),some (.int m),some (.ref S.length),j]∧S1[S.length]?=some (.lst (ws.map PV.str))∧ws.length+rest.length=m∧(∀w∈ws,q8i w=true)∧Deck d c S1∧Ex [d,c] S S1) ?_ ?_ _ _ _ ⟨[],none,rfl,q1f _ _,by rw [rng_len]; simp,by simp,hd.ex (Ex.new [] _ _) (by simp) (by simp),Ex.new _ _ _⟩
 ·rintro σ S1 ⟨ws,j,rfl,hs,hl,hn,hd1,hx⟩
  refine ⟨trivial,hK _ _ ?_⟩
  dsimp! [true_and]
  exact h _ ws _ hs (by simpa using hl) hn (Nat.le_refl _) hd1 hx
 ·rintro x r σ S1 ⟨ws,j,rfl,hs,hl,hn,hd1,hx⟩ N hN
  rw [List.length_cons] at hl
  refine ⟨trivial,?_⟩
  dsimp! [hs]
  refine hw d c S.length ws _ _ _ hd1 hs (by omega) hn (by omega) (by omega) fun w S2 nw _ _ hd2 hx2=>?_
  have hs2:S2[S.length]?=some (.lst (ws.map PV.str)):=hx2.get hs (by simp; omega)
  dsimp! [q1g hs2]
  refine ⟨by rw [List.length_map]; exact bigl (by omega),hN _ _ ⟨ws++[w],_,rfl,?_,?_,?_,hd2.ex (D:=[S.length]) ((Ex.refl _ _).set (.inl (by simp))) (by simp; omega) (by simp; omega),(hx.trans hx2).set (.inr (Nat.le_refl _))⟩⟩
  ·rw [q1v _ hs2]; simp
  ·simp; omega
  ·intro y hy
   rcases List.mem_append.mp hy with z | z
   ·exact hn y z
   ·simp at z; subst z; exact nw
theorem q5v {α:Type} (xs:List α) (j:Nat) (h:j<xs.length):atI xs (j:Int)=some xs[j]:=by
 unfold atI ixN
 rw [if_pos (by omega),if_pos (by omega)]
 simp [h]
theorem cut_suf (xs:List PV) (k:Nat) (h:k≤xs.length):cutP xs (some (k:Int)) none=xs.drop k:=by
 unfold cutP
 rw [HT.sIx_none,HT.sIx_nat,Nat.min_eq_left h,List.take_of_length_le]
 rw [List.length_drop]
 exact Nat.le_refl _
def q5n:WS:=
 (wSeq (wSet 2 (wC (.str (Str.ofString ""))))
 (wSeq (wFor (q7k (q0d (wVar 1) wNil)) (q1u 3) (wSeq (wSet 2 (wBin bAdd (wVar 2) (wBin bIx (wC (.str (Str.ofString "abcdefghijklmnopqrstuvwxyz"))) (wBin bMod (wVar 0) (wC (.int 26))))))
 (wSet 0 (wBin q5s (wVar 0) (wC (.int 26))))))
 (wRet (wVar 2))))
def q5a (spLnext:Den) (spLspelled:Den):WS:=
 (wSeq (wSet 2 (q0v spLnext (q0d (wVar 0) wNil)))
 (wSeq (wSet 3 (q0v spLnext (q0d (wVar 0) wNil)))
 (wSeq (wSet 4 (wBin bAdd (wC (.int 1)) (wBin bMod (wVar 2) (wC (.int 8)))))
 (wSeq (wSet 5 (q0v spLspelled (q0d (wVar 3) (q0d (wVar 4) wNil))))
 (wSeq (wIfS (wAnd (q1b (wBin cNe (wVar 1) (wLst wNil))) (q1b (wBin cEq (wBin bMod (wBin q5s (wVar 2) (wC (.int 8))) (wC (.int 2))) (wC (.int 1)))))
 (wSeq (wSet 6 (wBin bMod (wBin q5s (wVar 2) (wC (.int 16))) (wCB fLen (q0d (wBin bIx (wVar 1) (wC (.int 0))) wNil))))
 (wSet 5 (wBin bAdd (wBin bAdd (wSl (wBin bIx (wVar 1) (wC (.int 0))) q6q (wPart (wVar 6))) (wBin bIx (wVar 5) (wC (.int 0)))) (wSl (wBin bIx (wVar 1) (wC (.int 0))) (wPart (wBin bAdd (wVar 6) (wC (.int 1)))) q6q))))
 q1o)
 (wSeq (z0c (wOr (q1b (wBin cIn (wVar 5) (wVar 1))) (q1b (wBin cEq (wVar 5) (wC (.str (Str.ofString "any")))))) (wSeq (wSet 3 (wBin bAdd (wVar 3) (wC (.int 1))))
 (wSeq (wSet 4 (wBin bAdd (wBin bMod (wVar 4) (wC (.int 8))) (wC (.int 1))))
 (wSet 5 (q0v spLspelled (q0d (wVar 3) (q0d (wVar 4) wNil)))))))
 (wRet (wVar 5))))))))
def q6p (spLwords:Den):WS:=
 (wSeq (wSet 3 (q0v spLwords (q0d (wVar 0) (q0d (wC (.int 3)) wNil))))
 (wRet (wDisp (q4u (wC (.str (Str.ofString "basics"))) (wVar 3) (q4u (wC (.str (Str.ofString "names"))) (wLst wNil) (q4u (wC (.str (Str.ofString "deck"))) (wVar 0) (q4u (wC (.str (Str.ofString "uses"))) (wVar 1) (q4u (wC (.str (Str.ofString "leaves"))) (wVar 2) wdNil))))))))
def q4a (spLnext:Den) (spLkind:Den):WS:=
 (wSeq (wSet 3 (q0v spLnext (q0d (wVar 0) wNil)))
 (wSeq (wIfS (wOr (q1b (wBin cEq (wVar 2) (wC (.int 0)))) (q1b (wBin cEq (wBin bMod (wVar 3) (wC (.int 3))) (wC (.int 0)))))
 (wRet (wBin bIx (wVar 1) (wBin bMod (wBin q5s (wVar 3) (wC (.int 3))) (wCB fLen (q0d (wVar 1) wNil)))))
 q1o)
 (wRet (wTup (q0d (q0v spLkind (q0d (wVar 0) (q0d (wVar 1) (q0d (wBin bSub (wVar 2) (wC (.int 1))) wNil)))) (q0d (q0v spLkind (q0d (wVar 0) (q0d (wVar 1) (q0d (wBin bSub (wVar 2) (wC (.int 1))) wNil)))) wNil))))))
def q6e (spLterm:Den):WS:=
 (wSeq (q4d (wBM "list" q2f (wVar 3) (q0d (wLst (q0d (wBin bIx (wVar 2) (wC (.int 0))) (q0d (wBin bIx (wVar 1) (wC (.str (Str.ofString "uses")))) wNil))) wNil)))
 (wSeq (wSet 5 (q0v spLterm (q0d (wVar 0) (q0d (wVar 1) (q0d (wBin bIx (wVar 2) (wC (.int 1))) (q0d (wVar 3) (q0d (wBin bSub (wVar 4) (wC (.int 1))) wNil)))))))
 (wSeq (q4d (wBM0 "list" mPop (wVar 3)))
 (wRet (wTup (q0d (wC (.str (Str.ofString "fn"))) (q0d (wBin bIx (wVar 2) (wC (.int 0))) (q0d (wVar 5) wNil))))))))
def q6d (spLkind:Den) (spLnext:Den) (spLfn:Den) (spLterm:Den):WS:=
 (wSeq (wSet 5 (q0v spLkind (q0d (wVar 0) (q0d (wBin bIx (wVar 1) (wC (.str (Str.ofString "basics")))) (q0d (wC (.int 2)) wNil)))))
 (wSeq (wSet 6 (q0v spLnext (q0d (wVar 0) wNil)))
 (wSeq (wIfS (q1b (wBin cGt (wBin bMod (wVar 6) (wC (.int 3))) (wC (.int 0))))
 (wSet 7 (q0v spLfn (q0d (wVar 0) (q0d (wVar 1) (q0d (wTup (q0d (wVar 5) (q0d (wVar 2) wNil))) (q0d (wVar 3) (q0d (wVar 4) wNil)))))))
 (wSet 7 (q0v spLterm (q0d (wVar 0) (q0d (wVar 1) (q0d (wTup (q0d (wVar 5) (q0d (wVar 2) wNil))) (q0d (wVar 3) (q0d (wBin bSub (wVar 4) (wC (.int 1))) wNil))))))))
 (wRet (wTup (q0d (wC (.str (Str.ofString "of"))) (q0d (wVar 7) (q0d (q0v spLterm (q0d (wVar 0) (q0d (wVar 1) (q0d (wVar 5) (q0d (wVar 3) (q0d (wBin bSub (wVar 4) (wC (.int 1))) wNil)))))) wNil))))))))
def q3o (spLwidth:Den):WS:=
 (wSeq (wIfS (wTru (wCB fIsi (q0d (wVar 0) (q0d (wC (.ty "str")) wNil))))
 (wRet (wC (.int 1)))
 q1o)
 (wRet (wBin bAdd (q0v spLwidth (q0d (wBin bIx (wVar 0) (wC (.int 0))) wNil)) (q0v spLwidth (q0d (wBin bIx (wVar 0) (wC (.int 1))) wNil)))))
def q4b (spLform:Den):WS:=
 (wSeq (wIfS (wTru (wCB fIsi (q0d (wVar 0) (q0d (wC (.ty "str")) wNil))))
 (wRet (wTup (q0d (wC (.str (Str.ofString "basic"))) (q0d (wVar 0) wNil))))
 q1o)
 (wRet (wTup (q0d (wBin bIx (wLst (q0d (wC (.str (Str.ofString "/"))) (q0d (wC (.str (Str.ofString "\\"))) wNil))) (wBin bMod (wVar 1) (wC (.int 2)))) (q0d (q0v spLform (q0d (wBin bIx (wVar 0) (wC (.int 1))) (q0d (wBin q5s (wVar 1) (wC (.int 2))) wNil))) (q0d (q0v spLform (q0d (wBin bIx (wVar 0) (wC (.int 0))) (q0d (wBin q5s (wVar 1) (wC (.int 5))) wNil))) wNil))))))
def q5e (spLwidth:Den) (spLform:Den) (spLword:Den):WS:=
 (wSeq (wIfS (wAnd (wTru (wBin bIx (wVar 0) (wC (.str (Str.ofString "leaves"))))) (wAnd (q1b (wBin cEq (wBin bMod (wVar 2) (wC (.int 2))) (wC (.int 1)))) (q1b (wBin cLt (q0v spLwidth (q0d (wVar 1) wNil)) (wC (.int 13))))))
 (wRet (wTup (q0d (wC (.str (Str.ofString "leaf"))) (q0d (wBin bMod (wBin q5s (wVar 2) (wC (.int 2))) (wC (.int 10))) (q0d (q0v spLform (q0d (wVar 1) (q0d (wBin q5s (wVar 2) (wC (.int 20))) wNil))) wNil)))))
 q1o)
 (wSeq (wFor (q8m (wBin bIx (wVar 0) (wC (.str (Str.ofString "names"))))) (q8d 2 (q2s (q1u 3) (q2s (q1u 4) q8e))) (wIfS (wAnd (q1b (wBin cEq (wVar 4) (wVar 1))) (q1b (wBin cGt (wBin bMod (wBin q5s (wVar 2) (wC (.int 2))) (wC (.int 4))) (wC (.int 0)))))
 (wRet (wTup (q0d (wC (.str (Str.ofString "name"))) (q0d (wVar 3) wNil))))
 q1o))
 (wSeq (wSet 5 (q0v spLword (q0d (wBin bIx (wVar 0) (wC (.str (Str.ofString "deck")))) (q0d (q7i (q8m (wBin bIx (wVar 0) (wC (.str (Str.ofString "names"))))) [none,none] (q8d 2 (q2s (q1u 0) (q2s (q1u 1) q8e))) q4t (wVar 0)) wNil))))
 (wSeq (q4d (wBM "list" q2f (wBin bIx (wVar 0) (wC (.str (Str.ofString "names")))) (q0d (wTup (q0d (wVar 5) (q0d (wVar 1) wNil))) wNil)))
 (wRet (wTup (q0d (wC (.str (Str.ofString "name"))) (q0d (wVar 5) wNil))))))))
def q5b (spLnext:Den) (spLfn:Den) (spLof:Den) (spLlone:Den):WS:=
 (wSeq (wSet 5 (q0v spLnext (q0d (wVar 0) wNil)))
 (wSeq (wSet 6 (q7i (q7k (q0d (wCB fLen (q0d (wVar 3) wNil)) wNil)) [none,some 2,some 3] (q1u 0) (wAnd (q1b (wBin cEq (wBin bIx (wBin bIx (wVar 2) (wVar 0)) (wC (.int 0))) (wVar 1))) (q1b (wBin cGt (wBin bIx (wBin bIx (wVar 2) (wVar 0)) (wC (.int 1))) (wC (.int 0))))) (wVar 0)))
 (wSeq (wIfS (wAnd (q1b (wBin cNe (wVar 6) (wLst wNil))) (wOr (q1b (wBin cLt (wBin bMod (wVar 5) (wC (.int 8))) (wC (.int 4)))) (q1b (wBin cLt (wVar 4) (wC (.int 1))))))
 (wSeq (wSet 7 (wBin bIx (wVar 6) (wBin bMod (wBin q5s (wVar 5) (wC (.int 8))) (wCB fLen (q0d (wVar 6) wNil)))))
 (wSeq (wAsg (wBin bSub (wBin bIx (wBin bIx (wVar 3) (wVar 7)) (wC (.int 1))) (wC (.int 1))) (q9u (wBin bIx (wVar 3) (wVar 7)) (wC (.int 1)) sSet))
 (wRet (wTup (q0d (wC (.str (Str.ofString "bound"))) (q0d (wBin bSub (wBin bSub (wCB fLen (q0d (wVar 3) wNil)) (wC (.int 1))) (wVar 7)) wNil))))))
 q1o)
 (wSeq (wIfS (wAnd (q1b (wBin cGt (wVar 4) (wC (.int 0)))) (wAnd (wTru (wCB fIsi (q0d (wVar 2) (q0d (wC (.ty "tuple")) wNil)))) (q1b (wBin cGt (wBin bMod (wVar 5) (wC (.int 8))) (wC (.int 4))))))
 (wRet (q0v spLfn (q0d (wVar 0) (q0d (wVar 1) (q0d (wVar 2) (q0d (wVar 3) (q0d (wVar 4) wNil)))))))
 q1o)
 (wSeq (wIfS (wAnd (q1b (wBin cGt (wVar 4) (wC (.int 0)))) (q1b (wBin cGt (wBin bMod (wVar 5) (wC (.int 8))) (wC (.int 0)))))
 (wRet (q0v spLof (q0d (wVar 0) (q0d (wVar 1) (q0d (wVar 2) (q0d (wVar 3) (q0d (wVar 4) wNil)))))))
 q1o)
 (wRet (q0v spLlone (q0d (wVar 1) (q0d (wVar 2) (q0d (wBin q5s (wVar 5) (wC (.int 8))) wNil))))))))))
def q2t (spLuses:Den):WS:=
 (wSeq (wIfS (wAnd (q1b (wBin cEq (wBin bIx (wVar 0) (wC (.int 0))) (wC (.str (Str.ofString "bound"))))) (q1b (wBin cLt (wBin bIx (wVar 0) (wC (.int 1))) (wCB fLen (q0d (wVar 1) wNil)))))
 (wAsg (wBin bAdd (wBin bIx (wVar 2) (wBin bIx (wVar 1) (wBin bSub (wNeg (wC (.int 1))) (wBin bIx (wVar 0) (wC (.int 1)))))) (wC (.int 1))) (q9u (wVar 2) (wBin bIx (wVar 1) (wBin bSub (wNeg (wC (.int 1))) (wBin bIx (wVar 0) (wC (.int 1))))) sSet))
 (wIfS (q1b (wBin cEq (wBin bIx (wVar 0) (wC (.int 0))) (wC (.str (Str.ofString "bound")))))
 (wRet (wC (.bl false)))
 q1o))
 (wSeq (wIfS (q1b (wBin cEq (wBin bIx (wVar 0) (wC (.int 0))) (wC (.str (Str.ofString "fn")))))
 (wSeq (q4d (wBM "list" q2f (wVar 2) (q0d (wC (.int 0)) wNil)))
 (wRet (q0v spLuses (q0d (wBin bIx (wVar 0) (wC (.int 2))) (q0d (wBin bAdd (wVar 1) (wLst (q0d (wBin bSub (wCB fLen (q0d (wVar 2) wNil)) (wC (.int 1))) wNil))) (q0d (wVar 2) wNil))))))
 q1o)
 (wSeq (wIfS (q1b (wBin cEq (wBin bIx (wVar 0) (wC (.int 0))) (wC (.str (Str.ofString "of")))))
 (wSeq (wSet 3 (q0v spLuses (q0d (wBin bIx (wVar 0) (wC (.int 1))) (q0d (wVar 1) (q0d (wVar 2) wNil)))))
 (wRet (wAndV (q0v spLuses (q0d (wBin bIx (wVar 0) (wC (.int 2))) (q0d (wVar 1) (q0d (wVar 2) wNil)))) (wVar 3))))
 q1o)
 (wRet (wC (.bl true))))))
def q4j:WS:=
 (wRet (wAndV (wCB fIsi (q0d (wVar 0) (q0d (wC (.ty "bool")) wNil))) (wBin cEq (wVar 0) (wVar 1))))
def q2h:WS:=
 (wSeq (wSet 1 (wLst wNil))
 (wSeq (wSet 2 (wLst (q0d (wTup (q0d (wVar 0) (q0d (wTup wNil) wNil))) wNil)))
 (wSeq (z0c (wTru (wVar 2)) (wSeq (wAsg (wBM0 "list" mPop (wVar 2)) (q8d 2 (q2s (q1u 3) (q2s (q1u 4) q8e))))
 (wSeq (wIfS (q1b (wBin cEq (wBin bIx (wVar 3) (wC (.int 0))) (wC (.str (Str.ofString "fn")))))
 (q4d (wBM "list" q2f (wVar 2) (q0d (wTup (q0d (wBin bIx (wVar 3) (wC (.int 2))) (q0d (wBin bAdd (wVar 4) (wTup (q0d (wCB fLen (q0d (wVar 1) wNil)) wNil))) wNil))) wNil)))
 (wIfS (q1b (wBin cEq (wBin bIx (wVar 3) (wC (.int 0))) (wC (.str (Str.ofString "of")))))
 (q4d (wBM "list" q8s (wVar 2) (q0d (wLst (q0d (wTup (q0d (wBin bIx (wVar 3) (wC (.int 2))) (q0d (wVar 4) wNil))) (q0d (wTup (q0d (wBin bIx (wVar 3) (wC (.int 1))) (q0d (wVar 4) wNil))) wNil))) wNil)))
 q1o))
 (q4d (wBM "list" q2f (wVar 1) (q0d (wTup (q0d (wVar 3) (q0d (wVar 4) wNil))) wNil))))))
 (wRet (wVar 1)))))
def q2u (spLsize:Den):WS:=
 (wSeq (wIfS (q1b (wBin cEq (wBin bIx (wVar 0) (wC (.int 0))) (wC (.str (Str.ofString "fn")))))
 (wRet (wBin bAdd (wC (.int 1)) (q0v spLsize (q0d (wBin bIx (wVar 0) (wC (.int 2))) wNil))))
 q1o)
 (wSeq (wIfS (q1b (wBin cEq (wBin bIx (wVar 0) (wC (.int 0))) (wC (.str (Str.ofString "of")))))
 (wRet (wBin bAdd (wBin bAdd (wC (.int 1)) (q0v spLsize (q0d (wBin bIx (wVar 0) (wC (.int 1))) wNil))) (q0v spLsize (q0d (wBin bIx (wVar 0) (wC (.int 2))) wNil))))
 q1o)
 (wRet (wC (.int 1)))))
inductive Tm where
 | nm (w:Str) | lf (n:Int) (f:PV) | bd (k:Nat) | fn (k:PV) (t:Tm) | ap (f a:Tm)
def Tm.pv:Tm→PV
 | .nm w=>.tup [.str (Str.ofString "name"),.str w]
 | .lf n f=>.tup [.str (Str.ofString "leaf"),.int n,f]
 | .bd k=>.tup [.str (Str.ofString "bound"),.int k]
 | .fn k t=>.tup [.str (Str.ofString "fn"),k,t.pv]
 | .ap f a=>.tup [.str (Str.ofString "of"),f.pv,a.pv]
def Tm.sz:Tm→Nat
 | .fn _ t=>1+t.sz
 | .ap f a=>1+f.sz+a.sz
 | _=>1
def Tm.dp:Tm→Nat
 | .fn _ t=>t.dp+1
 | .ap f a=>max f.dp a.dp+1
 | _=>0
theorem tg1:(Str.ofString "name" = Str.ofString "fn")=False:=eq_false (by decide +kernel)
theorem tg2:(Str.ofString "name" = Str.ofString "of")=False:=eq_false (by decide +kernel)
theorem tg3:(Str.ofString "name" = Str.ofString "bound")=False:=eq_false (by decide +kernel)
theorem tg4:(Str.ofString "leaf" = Str.ofString "fn")=False:=eq_false (by decide +kernel)
theorem tg5:(Str.ofString "leaf" = Str.ofString "of")=False:=eq_false (by decide +kernel)
theorem tg6:(Str.ofString "leaf" = Str.ofString "bound")=False:=eq_false (by decide +kernel)
theorem tg7:(Str.ofString "bound" = Str.ofString "fn")=False:=eq_false (by decide +kernel)
theorem tg8:(Str.ofString "bound" = Str.ofString "of")=False:=eq_false (by decide +kernel)
theorem tg9:(Str.ofString "fn" = Str.ofString "of")=False:=eq_false (by decide +kernel)
theorem tga:(Str.ofString "fn" = Str.ofString "bound")=False:=eq_false (by decide +kernel)
theorem tgb:(Str.ofString "of" = Str.ofString "fn")=False:=eq_false (by decide +kernel)
theorem tgc:(Str.ofString "of" = Str.ofString "bound")=False:=eq_false (by decide +kernel)
theorem q2q (x y:PV) (xs:List PV):atI (x::y::xs) 1=some y:=q5v (x::y::xs) 1 (by simp)
theorem q3z (x y z:PV) (xs:List PV):atI (x::y::z::xs) 2=some z:=q5v (x::y::z::xs) 2 (by simp)
theorem size_ok {T:Nat→Den} (hT:∀n,T (n+1)=fnP 1 1 (q2u (T n))):∀(t:Tm) (n:Nat),t.dp<n→∀(S:q0l) (E:EK) (Q:VC),Q (.int t.sz) S→T n [t.pv] S E Q:=by
 intro t
 induction t with
 | nm w=>
  intro n hn S E Q h
  obtain ⟨m,rfl⟩:∃m,n=m+1:=⟨n - 1,by omega⟩
  rw [hT]
  refine ⟨rfl,?_⟩
  unfold q2u
  refine seqI fun K hK=>?_
  dsimp! [Tm.pv,q0g,tg1,tg2]
  refine hK _ _ ?_
  refine seqI fun K hK=>?_
  dsimp! [Tm.pv,q0g,tg1,tg2]
  refine hK _ _ ?_
  dsimp! [true_and]
  exact h
 | lf k f=>
  intro n hn S E Q h
  obtain ⟨m,rfl⟩:∃m,n=m+1:=⟨n - 1,by omega⟩
  rw [hT]
  refine ⟨rfl,?_⟩
  unfold q2u
  refine seqI fun K hK=>?_
  dsimp! [Tm.pv,q0g,tg4,tg5]
  refine hK _ _ ?_
  refine seqI fun K hK=>?_
  dsimp! [Tm.pv,q0g,tg4,tg5]
  refine hK _ _ ?_
  dsimp! [true_and]
  exact h
 | bd k=>
  intro n hn S E Q h
  obtain ⟨m,rfl⟩:∃m,n=m+1:=⟨n - 1,by omega⟩
  rw [hT]
  refine ⟨rfl,?_⟩
  unfold q2u
  refine seqI fun K hK=>?_
  dsimp! [Tm.pv,q0g,tg7,tg8]
  refine hK _ _ ?_
  refine seqI fun K hK=>?_
  dsimp! [Tm.pv,q0g,tg7,tg8]
  refine hK _ _ ?_
  dsimp! [true_and]
  exact h
 | fn k t ih=>
  intro n hn S E Q h
  obtain ⟨m,rfl⟩:∃m,n=m+1:=⟨n - 1,by omega⟩
  rw [hT]
  refine ⟨rfl,?_⟩
  unfold q2u
  refine seqI fun K hK=>?_
  simp only [Tm.dp] at hn
  dsimp! [Tm.pv,q0g,q3z]
  refine ih m (by omega) _ _ _ ?_
  dsimp! [true_and]
  rw [show (1:Int)+t.sz=((Tm.fn k t).sz:Nat) by simp only [Tm.sz]; omega]
  exact h
 | ap f a ihf iha=>
  intro n hn S E Q h
  obtain ⟨m,rfl⟩:∃m,n=m+1:=⟨n - 1,by omega⟩
  rw [hT]
  refine ⟨rfl,?_⟩
  unfold q2u
  refine seqI fun K hK=>?_
  simp only [Tm.dp] at hn
  dsimp! [Tm.pv,q0g,q3z,tgb]
  refine hK _ _ ?_
  refine seqI fun K hK=>?_
  dsimp! [q0g,q2q,q3z]
  refine ihf m (by omega) _ _ _ ?_
  refine iha m (by omega) _ _ _ ?_
  dsimp! [true_and]
  rw [show (1:Int)+f.sz+a.sz=((Tm.ap f a).sz:Nat) by simp only [Tm.sz]; omega]
  exact h
theorem truth_ok (a b:Bool) (S:q0l) (E:EK) (Q:VC) (h:Q (.bl (decide (a=b))) S):fnP 2 2 q4j [.bl a,.bl b] S E Q:=by
 refine ⟨rfl,?_⟩
 unfold q4j
 dsimp! [true_and]
 exact h
def encI (fs:List Nat):List PV:=fs.map fun x:Nat=>PV.int x
def enc (p:Tm×List Nat):PV:=.tup [p.1.pv,.tup (encI p.2)]
def q3n:Tm→List Nat→Nat→List (Tm×List Nat)
 | .fn k b,fs,i=>(.fn k b,fs)::q3n b (fs++[i]) (i+1)
 | .ap f a,fs,i=>(.ap f a,fs)::(q3n f fs (i+1)++q3n a fs (i+1+f.sz))
 | t,fs,_=>[(t,fs)]
def flat : List (Tm × List Nat) → Nat → List (Tm × List Nat)
 | [], _ => []
 | (t, fs) :: r, i => q3n t fs i ++ flat r (i + t.sz)
def szT : List (Tm × List Nat) → Nat
 | [] => 0
 | (t, _) :: r => t.sz + szT r
theorem sz_pos:∀t:Tm,1≤t.sz
 | .nm _=>Nat.le_refl _
 | .lf _ _=>Nat.le_refl _
 | .bd _=>Nat.le_refl _
 | .fn _ _=>by simp only [Tm.sz]; omega
 | .ap _ _=>by simp only [Tm.sz]; omega
theorem szT_len : ∀ st : List (Tm × List Nat), st.length ≤ szT st
 | [] => Nat.le_refl _
 | (t, _) :: r => by have := szT_len r; have := sz_pos t; simp only [List.length_cons, szT]; omega
theorem z0v:∀(t:Tm) (fs:List Nat) (i:Nat),(q3n t fs i).length=t.sz
 | .nm _,_,_=>rfl
 | .lf _ _,_,_=>rfl
 | .bd _,_,_=>rfl
 | .fn _ b,fs,i=>by simp only [q3n,List.length_cons,z0v b,Tm.sz]; omega
 | .ap f a,fs,i=>by simp only [q3n,List.length_cons,List.length_append,z0v f,z0v a,Tm.sz]; omega
def PartsD (sp:Den):Prop:=∀(t:Tm) (S:q0l) (E:EK) (Q:VC),t.sz≤1000→(∀(r:Nat) S',S'[r]?=some (.lst ((q3n t [] 0).map enc))→S.length≤r→Ex [] S S'→Q (.ref r) S')→sp [t.pv] S E Q
theorem tm3:∀x:Tm,(∃z rs,x.pv=.tup (.str z::rs)∧(z=Str.ofString "fn")=False∧(z=Str.ofString "of")=False∧x.sz=1∧∀fs i,q3n x fs i=[(x,fs)])∨(∃k b,x=.fn k b)∨∃f a,x=.ap f a
 | .nm _=>.inl ⟨_,_,rfl,tg1,tg2,rfl,fun _ _=>rfl⟩
 | .lf _ _=>.inl ⟨_,_,rfl,tg4,tg5,rfl,fun _ _=>rfl⟩
 | .bd _=>.inl ⟨_,_,rfl,tg7,tg8,rfl,fun _ _=>rfl⟩
 | .fn k b=>.inr (.inl ⟨k,b,rfl⟩)
 | .ap f a=>.inr (.inr ⟨f,a,rfl⟩)
theorem parts_ok:PartsD (fnP 1 5 q2h):=by
 intro t S E Q hz h
 refine ⟨rfl,?_⟩
 unfold q2h
 refine seqI fun K hK=>?_
 dsimp! [true_and]
 refine ⟨big (by decide),hK _ _ ?_⟩
 refine seqI fun K hK=>?_
 dsimp! [true_and]
 refine ⟨big (by decide),big (by decide),big (by decide),hK _ _ ?_⟩
 refine seqI fun K hK=>?_
 have hl1:(S++[SO.lst []]).length=S.length+1:=by simp
 refine whileI (fun m σ S1=>∃(st dn:List (Tm×List Nat)) (j1 j2:Option PV),σ=[some t.pv,some (.ref S.length),some (.ref (S.length+1)),j1,j2]∧S1[S.length]?=some (.lst (dn.map enc))∧S1[S.length+1]?=some (.lst (st.reverse.map enc))∧Ex [] S S1∧
  dn++flat st dn.length=q3n t [] 0∧dn.length+szT st=t.sz∧(∀p∈st,p.2.length≤dn.length)∧m=szT st) (szT [(t,[])]) ?_ ?_
 ·exact ⟨[(t,[])],[],none,none,by rw [hl1],q1m (q1f _ _) _,by rw [←hl1]; exact q1f _ _,(Ex.new _ _ _).app _,by simp [flat],by simp [szT],by simp,rfl⟩
 ·rintro m σ S1 ⟨st,dn,j1,j2,rfl,h1,h2,hx,hf,hb,hfl,rfl⟩ T F hT hF
  have hlen:=szT_len st
  dsimp! [h2]
  refine ite2 (fun c=>?_) (fun c=>?_)
  ·obtain ⟨⟨x,fs⟩,r,rfl⟩:∃x r,st=x::r:=by
    cases st with
    | nil=>simp at c
    | cons a b=>exact ⟨a,b,rfl⟩
   refine hT _ fun N hN=>?_
   refine seqI fun K2 hK2=>?_
   have hfs:fs.length≤dn.length:=hfl (x,fs) (by simp)
   dsimp! [h2,q1g h2,List.reverse_cons,List.map_append,List.getLast?_append,List.getLast?_singleton,Option.or,Option.some_or,List.dropLast_concat,enc]
   refine hK2 _ _ ?_
   have g2:=q1v (.lst (r.reverse.map enc)) h2
   have g1:=q2r (j:=S.length+1) (.lst (r.reverse.map enc)) h1 (by omega)
   have hx1:Ex [] S (S1.set (S.length+1) (.lst (r.reverse.map enc))):=hx.set (.inr (by omega))
   generalize S1.set (S.length+1) (.lst (r.reverse.map enc))=S2 at g1 g2 hx1 ⊢
   simp only [szT,List.length_cons] at hb hlen
   have fin:∀(S3:q0l) (st':List (Tm×List Nat)),S3[S.length]?=some (.lst (dn.map enc))→S3[S.length+1]?=some (.lst (st'.reverse.map enc))→Ex [] S S3→q3n x fs dn.length++flat r (dn.length+x.sz)=(x,fs)::flat st' (dn.length+1)→szT st'+1=x.sz+szT r→(∀p∈st',p.2.length≤dn.length+1)→
     q4d (wBM "list" q2f (wVar 1) (q0d (wTup (q0d (wVar 3) (q0d (wVar 4) wNil))) wNil)) { nx:=N,rt:=Q,ct:=N,bk:=K } E [some t.pv,some (.ref S.length),some (.ref (S.length+1)),some x.pv,some (.tup (encI fs))] S3:=by
    intro S3 st' e1 e2 ex e3 e4 e5
    dsimp! [e1,q1g e1]
    refine ⟨big (by decide),by rw [List.length_map]; exact bigl (by omega),hN (szT st') _ _ (by simp only [szT]; omega) ?_⟩
    refine ⟨st',dn++[(x,fs)],_,_,rfl,?_,q2r _ e2 (by omega),ex.set (.inr (Nat.le_refl _)),?_,?_,?_,rfl⟩
    ·rw [q1v _ e1]; simp [enc]
    ·rw [←hf]; simp only [flat,List.length_append,List.length_singleton,List.append_assoc,e3,List.singleton_append]
    ·simp only [List.length_append,List.length_singleton]; omega
    ·intro p hp; simp only [List.length_append,List.length_singleton]; exact e5 p hp
   have keep:∀p∈r,p.2.length≤dn.length+1:=fun p hp=>Nat.le_succ_of_le (hfl p (by simp [hp]))
   refine seqI fun K3 hK3=>?_
   rcases tm3 x with ⟨z,rs,ex,z1,z2,hs,hro⟩ | ⟨k,b,rfl⟩ | ⟨f,a,rfl⟩
   ·have f2:=fin _ r g1 g2 hx1 (by rw [hro,hs]; simp) (by omega) keep
    rw [ex] at f2 ⊢
    dsimp! [q0g,z1,z2]
    exact hK3 _ _ f2
   ·simp only [Tm.sz] at hb hlen
    dsimp! [Tm.pv,q0g,q3z,g1,g2,q1c g1,q1g g2]
    refine ⟨big (by decide),by rw [encI,List.length_map]; exact big (by simp; omega),big (by decide),by rw [List.length_map,List.length_reverse]; exact bigl (by omega),hK3 _ _ ?_⟩
    refine fin _ ((b,fs++[dn.length])::r) (q2r _ g1 (by omega)) ?_ (hx1.set (.inr (by omega))) ?_ ?_ ?_
    ·rw [q1v _ g2]; simp [enc,encI]
    ·simp only [q3n,flat,Tm.sz,List.cons_append]
     rw [show dn.length+(1+b.sz)=dn.length+1+b.sz by omega]
    ·simp only [szT,Tm.sz]; omega
    ·intro p hp
     rcases List.mem_cons.mp hp with rfl | z
     ·simp; exact hfs
     ·exact keep p z
   ·simp only [Tm.sz] at hb hlen
    dsimp! [Tm.pv,q0g,q2q,q3z,g1,g2,tgb]
    have g3:=q1m g2 [SO.lst [PV.tup [a.pv,PV.tup (encI fs)],PV.tup [f.pv,PV.tup (encI fs)]]]
    refine ⟨big (by decide),big (by decide),big (by decide),?_⟩
    dsimp! [q1g g3]
    refine ⟨by rw [List.length_map,List.length_reverse]; exact big (by omega),hK3 _ _ ?_⟩
    refine fin _ ((f,fs)::(a,fs)::r) (q2r _ (q1m g1 _) (by omega)) ?_ ((hx1.app _).set (.inr (by omega))) ?_ ?_ ?_
    ·rw [q1v _ g3]; simp [enc]
    ·simp only [q3n,flat,Tm.sz,List.cons_append,List.append_assoc]
     rw [show dn.length+(1+f.sz+a.sz)=dn.length+1+f.sz+a.sz by omega]
    ·simp only [szT,Tm.sz]; omega
    ·intro p hp
     rcases List.mem_cons.mp hp with rfl | z
     ·exact Nat.le_succ_of_le hfs
     ·rcases List.mem_cons.mp z with rfl | z
      ·exact Nat.le_succ_of_le hfs
      ·exact keep p z
  ·obtain rfl:st=[]:=by
    cases st with
    | nil=>rfl
    | cons a b=>simp at c
   refine hF _ (hK _ _ ?_)
   dsimp! [true_and]
   refine h _ _ ?_ (Nat.le_refl _) hx
   rw [h1,←hf]; simp [flat]
def own (fs:List Nat) (k:Nat):Option Nat:=if k<fs.length then fs[fs.length - 1 - k]? else none
def ow:Tm→List Nat→Nat→List (Option Nat)
 | .bd k,fs,_=>[own fs k]
 | .fn _ b,fs,i=>ow b (fs++[i]) (i+1)
 | .ap f a,fs,i=>ow f fs (i+1)++ow a fs (i+1+f.sz)
 | _,_,_=>[]
def idx:Tm→Nat→List Nat
 | .fn _ b,i=>i::idx b (i+1)
 | .ap f a,i=>idx f (i+1)++idx a (i+1+f.sz)
 | _,_=>[]
theorem q5z:∀(t:Tm) (i x:Nat),x∈idx t i→i≤x∧x<i+t.sz
 | .nm _,_,_,h=>by simp [idx] at h
 | .lf _ _,_,_,h=>by simp [idx] at h
 | .bd _,_,_,h=>by simp [idx] at h
 | .fn _ b,i,x,h=>by
  simp only [idx,List.mem_cons] at h
  simp only [Tm.sz]
  rcases h with rfl | h
  ·omega
  ·have:=q5z b (i+1) x h; omega
 | .ap f a,i,x,h=>by
  simp only [idx,List.mem_append] at h
  simp only [Tm.sz]
  rcases h with h | h
  ·have:=q5z f _ x h; omega
  ·have:=q5z a _ x h; omega
theorem q9s:∀(t:Tm) (i:Nat),(idx t i).Nodup
 | .nm _,_=>by simp [idx]
 | .lf _ _,_=>by simp [idx]
 | .bd _,_=>by simp [idx]
 | .fn _ b,i=>by
  simp only [idx,List.nodup_cons]
  exact ⟨fun h=>by have:=q5z b _ _ h; omega,q9s b _⟩
 | .ap f a,i=>by
  simp only [idx,List.nodup_append]
  exact ⟨q9s f _,q9s a _,fun x hx y hy e=>by have:=q5z f _ _ hx; have:=q5z a _ _ hy; omega⟩
theorem z1v:∀(t:Tm) (i:Nat),(idx t i).length≤t.sz
 | .nm _,_=>by simp [idx]
 | .lf _ _,_=>by simp [idx]
 | .bd _,_=>by simp [idx]
 | .fn _ b,i=>by have:=z1v b (i+1); simp only [idx,List.length_cons,Tm.sz]; omega
 | .ap f a,i=>by have:=z1v f (i+1); have:=z1v a (i+1+f.sz); simp only [idx,List.length_append,Tm.sz]; omega
theorem own_mem {fs:List Nat} {k x:Nat} (h:own fs k=some x):x∈fs:=by
 unfold own at h
 split at h
 ·exact List.mem_of_getElem? h
 ·cases h
theorem ow_mem:∀(t:Tm) (fs:List Nat) (i x:Nat),some x∈ow t fs i→x∈fs∨x∈idx t i
 | .nm _,_,_,_,h=>by simp [ow] at h
 | .lf _ _,_,_,_,h=>by simp [ow] at h
 | .bd k,fs,i,x,h=>by
  simp only [ow,List.mem_singleton] at h
  exact .inl (own_mem h.symm)
 | .fn _ b,fs,i,x,h=>by
  have:=ow_mem b _ _ x h
  simp only [List.mem_append,idx,List.mem_cons,List.not_mem_nil,or_false] at this ⊢
  rcases this with (h | h) | h
  ·exact .inl h
  ·exact .inr (.inl h)
  ·exact .inr (.inr h)
 | .ap f a,fs,i,x,h=>by
  simp only [ow,List.mem_append] at h
  simp only [idx,List.mem_append]
  rcases h with h | h
  ·rcases ow_mem f _ _ x h with h | h
   ·exact .inl h
   ·exact .inr (.inl h)
  ·rcases ow_mem a _ _ x h with h | h
   ·exact .inl h
   ·exact .inr (.inr h)
def cnt (t:Tm) (fs:List Nat) (i x:Nat):Int:=(((ow t fs i).count (some x):Nat):Int)
def gI (g:Nat→Int) (Ls:List Nat):List PV:=Ls.map fun x=>PV.int (g x)
theorem atI_neg (xs:List PV) (k:Nat) (h:k<xs.length):atI xs (-1 - (k:Int))=xs[xs.length - 1 - k]?:=by
 unfold atI ixN
 rw [if_neg (by omega),if_pos (by omega)]
 rw [Option.bind_some]
 congr 1
 omega
theorem ixN_nat (n j:Nat) (h:j<n):ixN n (j:Int)=some j:=by
 unfold ixN
 rw [if_pos (by omega),if_pos (by omega)]
 simp
theorem set_count {Ls:List Nat} {g:Nat→Int} {j x:Nat} (nd:Ls.Nodup) (hj:Ls[j]?=some x):(gI g Ls).set j (.int (g x+1))=gI (fun y=>g y+(([some x].count (some y):Nat):Int)) Ls:=by
 obtain ⟨hl,hx⟩:=List.getElem?_eq_some_iff.mp hj
 apply List.ext_getElem
 ·simp [gI]
 ·intro n h1 h2
  simp only [gI,List.length_set,List.length_map] at h1
  rw [List.getElem_set]
  simp only [gI,List.getElem_map]
  by_cases e:j=n
  ·subst e
   rw [if_pos rfl,hx]; simp
  ·rw [if_neg e]
   have:Ls[n]≠x:=fun z=>e ((List.getElem_inj nd).mp (hx.trans z.symm))
   rw [List.count_singleton]
   have:(some x == some Ls[n])=false:=by simp; exact fun z=>this z.symm
   rw [this]; simp
theorem uses_ok {T:Nat→Den} (hT:∀n,T (n+1)=fnP 3 4 (q2t (T n))) (q:Nat):∀(t:Tm) (n:Nat),t.dp<n→∀(i:Nat) (fs ar Ls:List Nat) (g:Nat→Int) (p:Nat) (S:q0l) (E:EK) (Q:VC),
  S[p]?=some (.lst (encI ar))→S[q]?=some (.lst (gI g Ls))→p≠q→Ls.Nodup→(∀x∈Ls,x<i)→ar.map (fun j=>Ls[j]?)=fs.map some→fs.length+t.sz≤1000→Ls.length+t.sz≤1000→(∀x,i≤x→g x=0)→
  (∀S',S'[q]?=some (.lst (gI (fun x=>g x+cnt t fs i x) (Ls++idx t i)))→Ex [q] S S'→Q (.bl (!decide (none∈ow t fs i))) S')→T n [t.pv,.ref p,.ref q] S E Q:=by
 intro t
 induction t with
 | nm w=>
  intro n hn i fs ar Ls g p S E Q hp hq ne nd hL hf z1 z2 h0 h
  obtain ⟨m,rfl⟩:∃m,n=m+1:=⟨n - 1,by omega⟩
  rw [hT]
  refine ⟨rfl,?_⟩
  unfold q2t
  refine seqI fun K hK=>?_
  dsimp! [Tm.pv,q0g,tg3]
  refine hK _ _ ?_
  refine seqI fun K hK=>?_
  dsimp! [q0g,tg1]
  refine hK _ _ ?_
  refine seqI fun K hK=>?_
  dsimp! [q0g,tg2]
  refine hK _ _ ?_
  dsimp! [true_and]
  refine h S ?_ (Ex.refl _ _)
  rw [hq]; simp [cnt,ow,idx]
 | lf a b=>
  intro n hn i fs ar Ls g p S E Q hp hq ne nd hL hf z1 z2 h0 h
  obtain ⟨m,rfl⟩:∃m,n=m+1:=⟨n - 1,by omega⟩
  rw [hT]
  refine ⟨rfl,?_⟩
  unfold q2t
  refine seqI fun K hK=>?_
  dsimp! [Tm.pv,q0g,tg6]
  refine hK _ _ ?_
  refine seqI fun K hK=>?_
  dsimp! [q0g,tg4]
  refine hK _ _ ?_
  refine seqI fun K hK=>?_
  dsimp! [q0g,tg5]
  refine hK _ _ ?_
  dsimp! [true_and]
  refine h S ?_ (Ex.refl _ _)
  rw [hq]; simp [cnt,ow,idx]
 | bd k=>
  intro n hn i fs ar Ls g p S E Q hp hq ne nd hL hf z1 z2 h0 h
  obtain ⟨m,rfl⟩:∃m,n=m+1:=⟨n - 1,by omega⟩
  rw [hT]
  refine ⟨rfl,?_⟩
  unfold q2t
  have hlf:ar.length=fs.length:=by have:=congrArg List.length hf; simpa using this
  have hla:(encI ar).length=ar.length:=by simp [encI]
  refine seqI fun K hK=>?_
  dsimp! [Tm.pv,q0g,q2q,q1c hp,hla]
  by_cases c:k<ar.length
  ·rw [if_pos (by omega)]
   have e1:=atI_neg (encI ar) k (by omega)
   rw [hla] at e1
   have e2:(encI ar)[ar.length - 1 - k]?=some (.int ((ar[ar.length - 1 - k]'(by omega):Nat):Int)):=by
    unfold encI; rw [List.getElem?_map,List.getElem?_eq_getElem (by omega)]; rfl
   rw [e2] at e1
   generalize hj:ar[ar.length - 1 - k]'(by omega)=j at e1 e2
   have hown:own fs k=Ls[j]?:=by
    unfold own
    rw [if_pos (by omega),←hj]
    have:=congrArg (fun l=>l[ar.length - 1 - k]?) hf
    simp only [List.getElem?_map] at this
    rw [List.getElem?_eq_getElem (by omega),Option.map_some] at this
    rw [←hlf]
    have h3:fs[ar.length - 1 - k]?=some (fs[ar.length - 1 - k]'(by omega)):=List.getElem?_eq_getElem (by omega)
    rw [h3] at this ⊢
    simpa using this.symm
   obtain ⟨x,hx⟩:∃x,Ls[j]?=some x:=by
    have h3:own fs k=some (fs[fs.length - 1 - k]'(by omega)):=by
     unfold own; rw [if_pos (by omega)]; exact List.getElem?_eq_getElem (by omega)
    exact ⟨_,hown.symm.trans h3⟩
   obtain ⟨hjl,hjx⟩:=List.getElem?_eq_some_iff.mp hx
   have e3:atI (gI g Ls) (j:Int)=some (.int (g x)):=by
    rw [q5v _ j (by simp [gI]; exact hjl)]; simp [gI,hjx]
   have hlg:(gI g Ls).length=Ls.length:=by simp [gI]
   dsimp! [hp,hq,e1,e3,ixN_nat _ j (hlg▸hjl)]
   refine hK _ _ ?_
   rw [set_count nd hx]
   have g1:=q1v (.lst (gI (fun y=>g y+(([some x].count (some y):Nat):Int)) Ls)) hq
   refine seqI fun K hK=>?_
   dsimp! [q0g,tg7]
   refine hK _ _ ?_
   refine seqI fun K hK=>?_
   dsimp! [q0g,tg8]
   refine hK _ _ ?_
   dsimp! [true_and]
   have:=h _ (by rw [g1]; simp only [cnt,ow,idx,hown,hx,List.append_nil]) ((Ex.refl _ _).set (.inl (by simp)))
   simp only [ow,hown,hx] at this
   simpa using this
  ·rw [if_neg (by omega)]
   have hown:own fs k=none:=by unfold own; rw [if_neg (by omega)]
   have:=h S (by rw [hq]; simp [cnt,ow,idx,hown]) (Ex.refl _ _)
   simp only [ow,hown] at this
   simpa using this
 | fn kk b ih=>
  intro n hn i fs ar Ls g p S E Q hp hq ne nd hL hf z1 z2 h0 h
  obtain ⟨m,rfl⟩:∃m,n=m+1:=⟨n - 1,by omega⟩
  rw [hT]
  refine ⟨rfl,?_⟩
  unfold q2t
  simp only [Tm.dp] at hn
  simp only [Tm.sz] at z1 z2
  have hla:(encI ar).length=ar.length:=by simp [encI]
  have hlf:ar.length=fs.length:=by have:=congrArg List.length hf; simpa using this
  have hlg:(gI g Ls).length=Ls.length:=by simp [gI]
  refine seqI fun K hK=>?_
  dsimp! [Tm.pv,q0g,tga]
  refine hK _ _ ?_
  refine seqI fun K hK=>?_
  dsimp! [q0g]
  refine seqI fun K2 hK2=>?_
  dsimp! [hq,q1g hq]
  refine ⟨by rw [hlg]; exact bigl (by omega),hK2 _ _ ?_⟩
  have g0:gI g Ls++[PV.int 0]=gI g (Ls++[i]):=by simp [gI,h0 i (Nat.le_refl _)]
  rw [g0]
  have g1:=q1v (.lst (gI g (Ls++[i]))) hq
  have g2:=q2r (j:=q) (.lst (gI g (Ls++[i]))) hp (Ne.symm ne)
  have hlg2:(gI g (Ls++[i])).length=Ls.length+1:=by simp [gI]
  generalize hS2:S.set q (.lst (gI g (Ls++[i])))=S2 at g1 g2 ⊢
  have hx2:Ex [q] S S2:=by rw [←hS2]; exact (Ex.refl _ _).set (.inl (by simp))
  have g3:=q1m g2 [SO.lst [PV.int (((Ls.length+1:Nat):Int) - 1)]]
  have g4:=q1f S2 (SO.lst [PV.int (((Ls.length+1:Nat):Int) - 1)])
  dsimp! [q3z,q1c g1,hlg2]
  refine ⟨big (by decide),?_⟩
  dsimp! [q1g g3,q1g g4,hla]
  refine ⟨big (by omega),?_⟩
  have ql:q<S2.length:=q2k g1
  have e5:encI ar++[PV.int (((Ls.length+1:Nat):Int) - 1)]=encI (ar++[Ls.length]):=by
   simp only [encI,List.map_append,List.map_cons,List.map_nil]
   rw [show ((Ls.length+1:Nat):Int) - 1=(Ls.length:Int) by omega]
  rw [e5]
  refine ih m (by omega) (i+1) (fs++[i]) (ar++[Ls.length]) (Ls++[i]) g _ _ _ _ (q1f _ _) (q1m (q1m g1 _) _) (by simp; omega) ?_ ?_ ?_ ?_ ?_ (fun x hx=>h0 x (by omega)) fun S' k1 k2=>?_
  ·rw [List.nodup_append]; exact ⟨nd,by simp,fun a ha b hb e=>by simp at hb; subst hb; have:=hL a ha; omega⟩
  ·intro x hx; rcases List.mem_append.mp hx with z | z
   ·have:=hL x z; omega
   ·simp at z; omega
  ·rw [List.map_append,List.map_append,←hf]
   congr 1
   ·apply List.map_congr_left
    intro j hj
    have:∃y,Ls[j]?=some y:=by
     have h3:Ls[j]?∈fs.map some:=by rw [←hf]; exact List.mem_map.mpr ⟨j,hj,rfl⟩
     obtain ⟨y,_,hy⟩:=List.mem_map.mp h3
     exact ⟨y,hy.symm⟩
    obtain ⟨y,hy⟩:=this
    rw [hy,List.getElem?_append_left (List.getElem?_eq_some_iff.mp hy).1,hy]
   ·simp
  ·simp; omega
  ·simp; omega
  ·refine h S' ?_ ((hx2.app _).app _ |>.trans k2)
   rw [k1]
   simp only [idx,List.append_assoc,List.singleton_append]
   rfl
 | ap f a ihf iha=>
  intro n hn i fs ar Ls g p S E Q hp hq ne nd hL hf z1 z2 h0 h
  obtain ⟨m,rfl⟩:∃m,n=m+1:=⟨n - 1,by omega⟩
  rw [hT]
  refine ⟨rfl,?_⟩
  unfold q2t
  simp only [Tm.dp] at hn
  simp only [Tm.sz] at z1 z2
  refine seqI fun K hK=>?_
  dsimp! [Tm.pv,q0g,tgc]
  refine hK _ _ ?_
  refine seqI fun K hK=>?_
  dsimp! [q0g,tgb]
  refine hK _ _ ?_
  refine seqI fun K hK=>?_
  dsimp! [q0g]
  refine seqI fun K2 hK2=>?_
  dsimp! [q2q]
  have hfL:∀x∈fs,x∈Ls:=fun x hx=>by
   have h3:some x∈ar.map (fun j=>Ls[j]?):=by rw [hf]; exact List.mem_map.mpr ⟨x,hx,rfl⟩
   obtain ⟨j,_,hj⟩:=List.mem_map.mp h3
   exact List.mem_of_getElem? hj
  have hil:=z1v f (i+1)
  refine ihf m (by omega) (i+1) fs ar Ls g p _ _ _ hp hq ne nd (fun x hx=>Nat.lt_succ_of_lt (hL x hx)) hf (by omega) (by omega) (fun x hx=>h0 x (by omega)) fun S1 k1 k2=>hK2 _ _ ?_
  dsimp! [q3z]
  refine iha m (by omega) (i+1+f.sz) fs ar (Ls++idx f (i+1)) _ p _ _ _ (k2.get hp (by simp; exact ne)) k1 ne ?_ ?_ ?_ (by omega) (by rw [List.length_append]; omega) ?_ fun S2 r1 r2=>?_
  ·rw [List.nodup_append]; exact ⟨nd,q9s _ _,fun x hx y hy e=>by have:=hL x hx; have:=q5z f _ _ hy; omega⟩
  ·intro x hx; rcases List.mem_append.mp hx with z | z
   ·have:=hL x z; omega
   ·have:=q5z f _ _ z; omega
  ·rw [←hf]
   apply List.map_congr_left
   intro j hj
   have:∃y,Ls[j]?=some y:=by
    have h3:Ls[j]?∈fs.map some:=by rw [←hf]; exact List.mem_map.mpr ⟨j,hj,rfl⟩
    obtain ⟨y,_,hy⟩:=List.mem_map.mp h3
    exact ⟨y,hy.symm⟩
   obtain ⟨y,hy⟩:=this
   rw [hy,List.getElem?_append_left (List.getElem?_eq_some_iff.mp hy).1,hy]
  ·intro x hx
   have:(ow f fs (i+1)).count (some x)=0:=by
    rw [List.count_eq_zero]
    intro z
    rcases ow_mem f _ _ x z with z | z
    ·have:=hL x (hfL x z); omega
    ·have:=q5z f _ _ z; omega
   simp only [cnt,this,h0 x (by omega)]; simp
  ·have:=h S2 (by
    rw [r1]
    simp only [idx,List.append_assoc,cnt,ow,List.count_append]
    congr 3
    funext x
    simp only [Int.natCast_add]; omega) (k2.trans r2)
   simp only [ow,List.mem_append,Bool.decide_or,Bool.not_or] at this
   dsimp! [true_and]
   by_cases c:none∈ow a fs (i+1+f.sz)
   ·rw [if_neg (fun z=>z c)]
    rw [decide_eq_true c,Bool.not_true,Bool.and_false] at this
    exact this
   ·rw [if_pos c]
    rw [decide_eq_false c,Bool.not_false,Bool.and_true] at this
    exact this
theorem spl_ne2 {n m:Int} (h:spl n 8=spl m 8) (h1:0<n - m) (h2:n - m≤640):False:=by
 simp only [spl,List.cons.injEq] at h
 obtain ⟨a,b,-⟩:=h
 have a':n % 26=m % 26:=by have:=Int.emod_nonneg n (show (26:Int)≠0 by decide); have:=Int.emod_nonneg m (show (26:Int)≠0 by decide); omega
 have b':n / 26 % 26=m / 26 % 26:=by have:=Int.emod_nonneg (n / 26) (show (26:Int)≠0 by decide); have:=Int.emod_nonneg (m / 26) (show (26:Int)≠0 by decide); omega
 clear a b
 omega
theorem row_free2 (n:Int) (F:List Str) (hF:F.length≤80):∃j:Nat,j≤80∧mk (spl (n+8*j) 8)∉F:=by
 refine Classical.byContradiction fun hc=>?_
 have hall:∀j:Nat,j≤80→mk (spl (n+8*j) 8)∈F:=fun j hj=>Classical.byContradiction fun hz=>hc ⟨j,hj,hz⟩
 have nd:((List.range 81).map fun j:Nat=>mk (spl (n+8*j) 8)).Nodup:=by
  refine List.pairwise_map.mpr (List.Pairwise.imp_of_mem ?_ (List.nodup_range (n:=81)))
  intro a b ha hb hab e
  have e:=mk_inj e
  rw [List.mem_range] at ha hb
  refine hab ?_
  rcases Nat.lt_trichotomy a b with z | z | z
  ·exact (spl_ne2 e.symm (by omega) (by omega)).elim
  ·exact z
  ·exact (spl_ne2 e (by omega) (by omega)).elim
 have:=nodup_le nd (F:=F) fun x hx=>by
  obtain ⟨j,hj,rfl⟩:=List.mem_map.mp hx
  rw [List.mem_range] at hj
  exact hall j (by omega)
 rw [List.length_map,List.length_range] at this
 omega
theorem good_some2 (ws:List Str) (num:Int) (k:Nat) (h:ws.length≤79):∃i:Nat,GoodAt ws num k (i+1):=by
 have h1:∃r:Nat,r<8∧szn k (r+1)=8:=⟨(15 - (k - 1) % 8 - 1) % 8,by omega,by unfold szn; omega⟩
 obtain ⟨r,hr,hs⟩:=h1
 obtain ⟨j,hj,hf⟩:=row_free2 (num+((r+1:Nat):Int)) (sAny::ws) (by simp; omega)
 refine ⟨r+8*j,?_⟩
 have e1:szn k (r+8*j+1)=8:=by unfold szn at hs ⊢; omega
 have e2:num+((r+8*j+1:Nat):Int)=num+((r+1:Nat):Int)+8*j:=by omega
 unfold GoodAt Bad
 rw [e1,e2]
 rintro (z | z)
 ·exact hf (List.mem_cons_of_mem _ z)
 ·exact hf (by rw [z]; exact List.mem_cons_self)
def WordD2 (sp:Den):Prop:=∀(d c n:Nat) (ws:List Str) (S:q0l) (E:EK) (Q:VC),Deck d c S→S[n]?=some (.lst (ws.map PV.str))→ws.length≤79→(∀w∈ws,q8i w=true)→n≠d→n≠c→
 (∀w S',q8i w=true→w∉ws→w≠sAny→Deck d c S'→Ex [d,c] S S'→Q (.str w) S')→sp [.ref d,.ref n] S E Q
theorem word_ok2 {spn sps:Den} (hn:NextD spn) (hs:SpelledD sps):WordD2 (fnP 2 7 (q5a spn sps)):=by
 intro d c n ws S E Q hd hw hl hna nd nc h
 refine ⟨rfl,?_⟩
 unfold q5a
 refine seqI fun K hK=>?_
 dsimp! [true_and]
 refine hn d c _ _ _ hd fun way S1 w0 w1 hd1 hx1=>hK _ _ ?_
 refine seqI fun K hK=>?_
 dsimp! [true_and]
 refine hn d c _ _ _ hd1 fun num S2 n0 n1 hd2 hx2=>hK _ _ ?_
 have hx12:=hx1.trans hx2
 have hw2:S2[n]?=some (.lst (ws.map PV.str)):=hx12.get hw (by simp; exact ⟨nd,nc⟩)
 obtain ⟨k,hk,hk1,hk8⟩:∃k:Nat,1+way % 8=(k:Int)∧1≤k∧k≤8:=⟨(1+way % 8).toNat,by omega,by omega,by omega⟩
 refine seqI fun K hK=>?_
 dsimp! [true_and]
 refine ⟨by decide,hK _ _ ?_⟩
 rw [hk]
 refine seqI fun K hK=>?_
 dsimp! [true_and]
 refine hs num k _ _ _ hk8 (hK _ _ ?_)
 have spn1:q8i (mk (spl num k))=true:=nameB_mk (by rw [q8n]; exact hk1) (by rw [q8n]; exact hk8) (spl_isL _ _)
 have rest:∀(w:Str) (S':q0l) (j:Option PV),q8i w=true→Ex [] S2 S'→wSeq (z0c (wOr (q1b (wBin cIn (wVar 5) (wVar 1))) (q1b (wBin cEq (wVar 5) (wC (.str (Str.ofString "any")))))) (wSeq (wSet 3 (wBin bAdd (wVar 3) (wC (.int 1))))
   (wSeq (wSet 4 (wBin bAdd (wBin bMod (wVar 4) (wC (.int 8))) (wC (.int 1))))
   (wSet 5 (q0v sps (q0d (wVar 3) (q0d (wVar 4) wNil)))))))
   (wRet (wVar 5)) { nx:=fun _ S'=>Q .non S',rt:=Q } E [some (.ref d),some (.ref n),some (.int way),some (.int num),some (.int (k:Nat)),some (.str w),j] S':=by
  intro w S' j hwn hx'
  refine seqI fun K hK=>?_
  obtain ⟨i0,hi0⟩:=good_some2 ws num k hl
  refine whileI (fun m σ S3=>∃(nu:Int) (kk:Nat) (ww:Str),σ=[some (.ref d),some (.ref n),some (.int way),some (.int nu),some (.int (kk:Nat)),some (.str ww),j]∧S3=S'∧1≤kk∧kk≤8∧q8i ww=true∧((m=0∧¬Bad ws ww)∨∃i,m=i+1∧GoodAt ws nu kk (i+1))) (i0+1) ⟨num,k,w,rfl,rfl,hk1,hk8,hwn,.inr ⟨i0,rfl,hi0⟩⟩ ?_
  rintro m σ S3 ⟨nu,kk,ww,rfl,rfl,k1,k8,nw,hm⟩ T F hT hF
  have hw3:=hx'.get hw2 (by simp)
  dsimp! [q1c hw3,any_eq]
  refine ⟨okEqs_strs ws,?_⟩
  have bad:Bad ws ww→T [some (.ref d),some (.ref n),some (.int way),some (.int nu),some (.int (kk:Nat)),some (.str ww),j] S3:=fun hb=>by
   obtain ⟨i,rfl,hg⟩:∃i,m=i+1∧GoodAt ws nu kk (i+1):=by
    rcases hm with ⟨_,z⟩ | z
    ·exact absurd hb z
    ·exact z
   refine hT _ fun N hN=>?_
   refine seqI fun K2 hK2=>?_
   dsimp! [true_and]
   refine hK2 _ _ ?_
   refine seqI fun K2 hK2=>?_
   dsimp! [true_and]
   refine ⟨by decide,hK2 _ _ ?_⟩
   have ek:((kk:Nat):Int) % 8+1=((szn kk 1:Nat):Int):=by unfold szn; omega
   have hz1:1≤szn kk 1:=by unfold szn; omega
   have hz8:szn kk 1≤8:=by unfold szn; omega
   rw [ek]
   dsimp! [true_and]
   refine hs (nu+1) (szn kk 1) _ _ _ hz8 ?_
   refine hN i _ _ (by omega) ⟨nu+1,szn kk 1,mk (spl (nu+1) (szn kk 1)),rfl,rfl,hz1,hz8,nameB_mk (by rw [q8n]; exact hz1) (by rw [q8n]; exact hz8) (spl_isL _ _),?_⟩
   cases i with
   | zero=>exact .inl ⟨rfl,hg⟩
   | succ i=>
    refine .inr ⟨i,rfl,?_⟩
    unfold GoodAt at hg ⊢
    rw [szn_step,show nu+1+((i+1:Nat):Int)=nu+((i+1+1:Nat):Int) by omega]
    exact hg
  refine ite2 (fun z=>bad (.inl z)) (fun z=>ite2 (fun z2=>bad (.inr z2)) (fun z2=>?_))
  refine hF _ (hK _ _ ?_)
  dsimp! [true_and]
  have hx3:Ex [d,c] S S3:=hx12.trans hx'.nil
  exact h ww S3 nw z z2 (hd2.ex hx' (by simp) (by simp)) hx3
 refine seqI fun K hK=>?_
 have g1:=q1m hw2 [SO.lst []]
 have hx3:Ex [] S2 (S2++[SO.lst []]):=Ex.new _ _ _
 dsimp! [q1c g1,eqBs_nil]
 refine ⟨big (by decide),okEqs_strs ws,ite2 (fun z=>?_) (fun z=>hK _ _ (rest _ _ _ spn1 hx3))⟩
 refine ⟨by decide,by decide,ite2 (fun z2=>?_) (fun z2=>hK _ _ (rest _ _ _ spn1 hx3))⟩
 obtain ⟨v,vs,rfl⟩:∃v vs,ws=v::vs:=by
  cases ws with
  | nil=>simp at z
  | cons a b=>exact ⟨a,b,rfl⟩
 have hv:=nameB_len (hna v (by simp))
 simp only [List.map_cons] at g1
 refine seqI fun K2 hK2=>?_
 dsimp! [g1,q0g]
 refine ⟨⟨by decide,by decide⟩,big (by omega),by omega,hK2 _ _ ?_⟩
 obtain ⟨at',hat,hat1⟩:∃a:Nat,way / 16 % (v.length:Int)=(a:Int)∧a<v.length:=⟨(way / 16 % (v.length:Int)).toNat,by have:=Int.emod_nonneg (way / 16) (show (v.length:Int)≠0 by omega); omega,by have:=Int.emod_lt_of_pos (way / 16) (show (0:Int)<v.length by omega); have:=Int.emod_nonneg (way / 16) (show (v.length:Int)≠0 by omega); omega⟩
 rw [hat]
 obtain ⟨c0,cs,hc0⟩:∃c0 cs,spl num k=c0::cs:=by
  obtain ⟨k',rfl⟩:∃k',k=k'+1:=⟨k - 1,by omega⟩
  exact ⟨_,_,rfl⟩
 have hc0':atI (mk (spl num k)).cps.toList 0=some c0:=by
  rw [q7e,hc0]
  unfold atI
  rw [List.length_cons,z0y]
  rfl
 have hcl:isL c0=true:=by
  have:=spl_isL k num
  rw [hc0,List.all_cons,Bool.and_eq_true] at this
  exact this.1
 dsimp! [g1,q0g,hc0']
 rw [show ((at':Nat):Int)+1=((at'+1:Nat):Int) by omega,sl_take v at' (by omega),sl_drop v (at'+1) (by omega),chr_mk]
 have hvl:=len_list v
 refine ⟨big (by omega),big (by rw [z0e,q8n]; omega),big (by rw [z0e,z0e]; simp; omega),big (by omega),?_⟩
 rw [mk_app,mk_app,z0e,z0e]
 refine ⟨big (by simp only [List.length_append,List.length_take,List.length_drop,List.length_singleton]; omega),hK _ _ (rest _ _ _ ?_ hx3)⟩
 refine nameB_mk ?_ ?_ ?_
 ·simp only [List.length_append,List.length_take,List.length_drop,List.length_singleton]; omega
 ·simp only [List.length_append,List.length_take,List.length_drop,List.length_singleton]; omega
 ·simp only [List.all_append,all_take _ hv.2.2,all_drop _ hv.2.2,List.all_cons,List.all_nil,hcl,Bool.and_self]
theorem word_of2 {sp:Den} (h:WordD2 sp):WordD sp:=fun d c n ws S E Q h1 h2 h3=>h d c n ws S E Q h1 h2 (Nat.le_trans h3 (by decide))
mutual
def q1i:PV→Bool
 | .str _=>true
 | .int _=>true
 | .tup xs=>q2w xs && decide (xs.length≤10)
 | _=>false
def q2w:List PV→Bool
 | []=>true
 | x::xs=>q1i x && q2w xs
end
theorem plain_pv:∀k:Kd,q1i k.pv=true
 | .a s=>by simp only [Kd.pv,q1i]
 | .p f t=>by simp only [Kd.pv,q1i,q2w,List.length_cons,List.length_nil,Nat.reduceAdd,Nat.reduceLeDiff,decide_true,Bool.and_true,plain_pv f,plain_pv t,Bool.and_self]
def Tm.gd:Tm→Nat→Prop
 | .nm _,_=>True
 | .lf _ f,_=>q1i f=true∧dep f≤30
 | .bd k,n=>k<n
 | .fn k t,n=>(q1i k=true∧dep k≤30)∧t.gd (n+1)
 | .ap f a,n=>f.gd n∧a.gd n
theorem atI_modS {ws:List Str} {i:Int} (h:ws≠[]):∃y,atI (ws.map PV.str) (i % (ws.length:Int))=some (.str y):=by
 have hp:0<ws.length:=List.length_pos_iff.mpr h
 have h0:0≤i % (ws.length:Int):=Int.emod_nonneg _ (by omega)
 have h1:i % (ws.length:Int)<ws.length:=Int.emod_lt_of_pos _ (by omega)
 unfold atI ixN
 rw [List.length_map,if_pos h0,if_pos h1]
 have:(i % (ws.length:Int)).toNat<ws.length:=by omega
 exact ⟨ws[(i % (ws.length:Int)).toNat],by simp [this]⟩
theorem kind_ok {T N:Nat→Den} (hT:∀n,T (n+1)=fnP 3 4 (q4a (N n) (T n))) (hN:∀n,NextD (N (n+1))):∀(deep n:Nat),deep+2≤n→∀(d c b:Nat) (ws:List Str) (S:q0l) (E:EK) (Q:VC),Deck d c S→S[b]?=some (.lst (ws.map PV.str))→ws≠[]→b≠d→b≠c→
  (∀(k:Kd) S',k.dp≤deep→Deck d c S'→Ex [d,c] S S'→Q k.pv S')→T n [.ref d,.ref b,.int deep] S E Q:=by
 intro deep
 induction deep with
 | zero=>
  intro n hn d c b ws S E Q hd hb hw n1 n2 h
  obtain ⟨m,rfl⟩:∃m,n=m+1+1:=⟨n - 2,by omega⟩
  rw [hT]
  refine ⟨rfl,?_⟩
  unfold q4a
  refine seqI fun K hK=>?_
  dsimp! [true_and]
  refine hN m d c _ _ _ hd fun way S1 w0 w1 hd1 hx1=>hK _ _ ?_
  have hb1:=hx1.get hb (by simp; exact ⟨n1,n2⟩)
  refine seqI fun K hK=>?_
  obtain ⟨y,hy⟩:=atI_modS (i:=way / 3) hw
  dsimp! [q1c hb1,hb1,List.length_map,Int.ofNat_eq_natCast,Int.natCast_zero]
  rw [hy]
  have:0<ws.length:=List.length_pos_iff.mpr hw
  refine ⟨by decide,by omega,h (.a y) _ (Nat.le_refl _) hd1 hx1⟩
 | succ deep ih=>
  intro n hn d c b ws S E Q hd hb hw n1 n2 h
  obtain ⟨m,rfl⟩:∃m,n=m+1+1:=⟨n - 2,by omega⟩
  rw [hT]
  refine ⟨rfl,?_⟩
  unfold q4a
  refine seqI fun K hK=>?_
  dsimp! [true_and]
  refine hN m d c _ _ _ hd fun way S1 w0 w1 hd1 hx1=>hK _ _ ?_
  have hb1:=hx1.get hb (by simp; exact ⟨n1,n2⟩)
  have:0<ws.length:=List.length_pos_iff.mpr hw
  refine seqI fun K hK=>?_
  obtain ⟨y,hy⟩:=atI_modS (i:=way / 3) hw
  have e0:(((deep+1:Nat):Int)=0)=False:=eq_false (by omega)
  dsimp! [q1c hb1,hb1,List.length_map,e0]
  rw [hy]
  refine ⟨by decide,ite2 (fun z=>⟨by decide,by omega,h (.a y) _ (Nat.zero_le _) hd1 hx1⟩) (fun z=>hK _ _ ?_)⟩
  dsimp! [true_and]
  rw [show ((deep+1:Nat):Int) - 1=(deep:Int) by omega]
  refine ih (m+1) (by omega) d c b ws _ _ _ hd1 hb1 hw n1 n2 fun k1 S2 l1 hd2 hx2=>?_
  have hb2:=hx2.get hb1 (by simp; exact ⟨n1,n2⟩)
  refine ih (m+1) (by omega) d c b ws _ _ _ hd2 hb2 hw n1 n2 fun k2 S3 l2 hd3 hx3=>?_
  exact ⟨big (by decide),h (.p k1 k2) S3 (by simp only [Kd.dp]; omega) hd3 ((hx1.trans hx2).trans hx3)⟩
theorem width_ok {T:Nat→Den} (hT:∀n,T (n+1)=fnP 1 1 (q3o (T n))):∀(k:Kd) (n:Nat),k.dp<n→∀(S:q0l) (E:EK) (Q:VC),Q (.int k.lv) S→T n [k.pv] S E Q:=by
 intro k
 induction k with
 | a s=>
  intro n hn S E Q h
  obtain ⟨m,rfl⟩:∃m,n=m+1:=⟨n - 1,by omega⟩
  rw [hT]
  refine ⟨rfl,?_⟩
  unfold q3o
  refine seqI fun K hK=>?_
  dsimp! [Kd.pv]
  exact h
 | p f t ihf iht=>
  intro n hn S E Q h
  simp only [Kd.dp] at hn
  obtain ⟨m,rfl⟩:∃m,n=m+1:=⟨n - 1,by omega⟩
  rw [hT]
  refine ⟨rfl,?_⟩
  unfold q3o
  refine seqI fun K hK=>?_
  dsimp! [Kd.pv]
  refine hK _ _ ?_
  dsimp! [q0g,q2q]
  refine ihf m (by omega) _ _ _ ?_
  refine iht m (by omega) _ _ _ ?_
  dsimp! [true_and]
  rw [show (f.lv:Int)+t.lv=((Kd.p f t).lv:Nat) by simp only [Kd.lv]; omega]
  exact h
def z0b (b m d:Nat) (u:Int):List (Key×PV):=[(.inr (Str.ofString "basics"),.ref b),(.inr (Str.ofString "names"),.ref m),(.inr (Str.ofString "deck"),.ref d),(.inr (Str.ofString "uses"),.int u),(.inr (Str.ofString "leaves"),.bl true)]
theorem wk_basics (b m d:Nat) (u:Int):valP (z0b b m d u) (.inr (Str.ofString "basics"))=some (.ref b):=rfl
theorem z0q (b m d:Nat) (u:Int):valP (z0b b m d u) (.inr (Str.ofString "names"))=some (.ref m):=rfl
theorem wk_deck (b m d:Nat) (u:Int):valP (z0b b m d u) (.inr (Str.ofString "deck"))=some (.ref d):=rfl
theorem wk_uses (b m d:Nat) (u:Int):valP (z0b b m d u) (.inr (Str.ofString "uses"))=some (.int u):=rfl
theorem wk_leaves (b m d:Nat) (u:Int):valP (z0b b m d u) (.inr (Str.ofString "leaves"))=some (.bl true):=rfl
def encN (p:Str×Kd):PV:=.tup [.str p.1,p.2.pv]
structure Wd (w b m d c N:Nat) (S:q0l):Prop where
 dk:Deck d c S
 wd:∃u,S[w]?=some (.dK (z0b b m d u))
 bs:∃ws:List Str,S[b]?=some (.lst (ws.map PV.str))∧ws≠[]
 nm:∃ps:List (Str×Kd),S[m]?=some (.lst (ps.map encN))∧ps.length≤N∧∀p∈ps,q8i p.1=true∧p.2.dp≤20
 ne:(w≠d∧w≠c)∧(b≠d∧b≠c)∧(m≠d∧m≠c)∧w≠m∧b≠m
theorem Wd.ex {w b m d c N:Nat} {S S':q0l} (h:Wd w b m d c N S) {D:List Nat} (e:Ex D S S') (hw:w∉D) (hb:b∉D) (hm:m∉D) (hd:d∉D) (hc:c∉D):Wd w b m d c N S':=by
 obtain ⟨dk,⟨u,wd⟩,⟨ws,b1,b2⟩,⟨ps,p1,p2⟩,ne⟩:=h
 exact ⟨dk.ex e hd hc,⟨u,e.get wd hw⟩,⟨ws,e.get b1 hb,b2⟩,⟨ps,e.get p1 hm,p2⟩,ne⟩
theorem Wd.nx {w b m d c N:Nat} {S S':q0l} (h:Wd w b m d c N S) (hd:Deck d c S') (e:Ex [d,c] S S'):Wd w b m d c N S':=by
 obtain ⟨dk,⟨u,wd⟩,⟨ws,b1,b2⟩,⟨ps,p1,p2⟩,ne⟩:=h
 exact ⟨hd,⟨u,e.get wd (by simp; exact ne.1)⟩,⟨ws,e.get b1 (by simp; exact ne.2.1),b2⟩,⟨ps,e.get p1 (by simp; exact ne.2.2.1),p2⟩,ne⟩
structure Ar (w b m d c a:Nat) (rs:List Nat) (S:q0l):Prop where
 at':S[a]?=some (.lst (rs.map PV.ref))
 rw':∀r∈rs,∃(k:Kd) (u:Int),S[r]?=some (.lst [k.pv,.int u])∧k.dp≤20
 ne:∀r∈a::rs,r≠w∧r≠b∧r≠m∧r≠d∧r≠c
 na:a∉rs
theorem Ar.ex {w b m d c a:Nat} {rs:List Nat} {S S':q0l} (h:Ar w b m d c a rs S) (e:Ex [m,d,c] S S'):Ar w b m d c a rs S':=by
 have g:∀r∈a::rs,r∉[m,d,c]:=fun r hr=>by have:=h.ne r hr; simp; exact ⟨this.2.2.1,this.2.2.2.1,this.2.2.2.2⟩
 exact ⟨e.get h.at' (g a (by simp)),fun r hr=>by obtain ⟨k,u,h1,h2⟩:=h.rw' r hr; exact ⟨k,u,e.get h1 (g r (by simp [hr])),h2⟩,h.ne,h.na⟩
theorem Ar.nx {w b m d c a:Nat} {rs:List Nat} {S S':q0l} (h:Ar w b m d c a rs S) (e:Ex [d,c] S S'):Ar w b m d c a rs S':=h.ex (e.weak (by simp))
def KindP (sp:Den):Prop:=∀(d c b:Nat) (ws:List Str) (S:q0l) (E:EK) (Q:VC),Deck d c S→S[b]?=some (.lst (ws.map PV.str))→ws≠[]→b≠d→b≠c→(∀(k:Kd) S',k.dp≤2→Deck d c S'→Ex [d,c] S S'→Q k.pv S')→sp [.ref d,.ref b,.int 2] S E Q
theorem q6k:∀l:List Nat,q8h (encI l)
 | []=>by rw [encI,List.map_nil,q9o]; trivial
 | x::r=>by
  obtain ⟨h1,h2⟩:=q6k r
  simp only [encI] at h1 h2
  exact ⟨by simp only [encI,List.map_cons,nrfs,nrf,h1,Bool.and_self],by simp only [encI,List.map_cons,deps,dep]; omega⟩
theorem eqBs_encI (l:List Nat):eqBs (encI l) []=l.isEmpty:=by cases l<;>simp [eqBs,encI]
theorem atI_modN {is:List Nat} {i:Int} (h:is≠[]):∃y,y∈is∧atI (encI is) (i % (is.length:Int))=some (.int (y:Nat)):=by
 have hp:0<is.length:=List.length_pos_iff.mpr h
 have h0:0≤i % (is.length:Int):=Int.emod_nonneg _ (by omega)
 have h1:i % (is.length:Int)<is.length:=Int.emod_lt_of_pos _ (by omega)
 unfold atI ixN encI
 rw [List.length_map,if_pos h0,if_pos h1]
 have:(i % (is.length:Int)).toNat<is.length:=by omega
 exact ⟨is[(i % (is.length:Int)).toNat],List.getElem_mem _,by simp [this]⟩
theorem rng_mem {n:Nat} {x:PV} (h:x∈rngP 0 n):∃j:Nat,j<n∧x=.int j:=by
 unfold rngP at h
 obtain ⟨j,hj,rfl⟩:=List.mem_map.mp h
 exact ⟨j,List.mem_range.mp hj,by simp⟩
def q8x (spLwords:Den):WS:=
 (wSeq (wSet 3 (q0v spLwords (q0d (wVar 0) (q0d (wC (.int 3)) wNil))))
 (wRet (wDisp (q4u (wC (.str (Str.ofString "basics"))) (wVar 3) (q4u (wC (.str (Str.ofString "names"))) (wLst wNil) (q4u (wC (.str (Str.ofString "deck"))) (wVar 0) (q4u (wC (.str (Str.ofString "uses"))) (wVar 1) (q4u (wC (.str (Str.ofString "leaves"))) (wVar 2) wdNil))))))))
def q2l (spLplaces:Den):WS:=
 (wSeq (wSet 1 (wLst wNil))
 (wSeq (wIfS (wAnd (q1b (wBin cEq (wBin bIx (wVar 0) (wC (.int 0))) (wC (.str (Str.ofString "of"))))) (q1b (wBin cEq (wBin bIx (wBin bIx (wVar 0) (wC (.int 1))) (wC (.int 0))) (wC (.str (Str.ofString "fn"))))))
 (q4d (wBM "list" q2f (wVar 1) (q0d (wTup wNil) wNil)))
 q1o)
 (wSeq (wIfS (q1b (wBin cEq (wBin bIx (wVar 0) (wC (.int 0))) (wC (.str (Str.ofString "fn")))))
 (wSet 1 (wBin bAdd (wVar 1) (q7i (q8m (q0v spLplaces (q0d (wBin bIx (wVar 0) (wC (.int 2))) wNil))) [none] (q1u 0) q4t (wBin bAdd (wTup (q0d (wC (.int 0)) wNil)) (wVar 0)))))
 q1o)
 (wSeq (wIfS (q1b (wBin cEq (wBin bIx (wVar 0) (wC (.int 0))) (wC (.str (Str.ofString "of")))))
 (wSeq (wSet 1 (wBin bAdd (wVar 1) (q7i (q8m (q0v spLplaces (q0d (wBin bIx (wVar 0) (wC (.int 1))) wNil))) [none] (q1u 0) q4t (wBin bAdd (wTup (q0d (wC (.int 0)) wNil)) (wVar 0)))))
 (wSet 1 (wBin bAdd (wVar 1) (q7i (q8m (q0v spLplaces (q0d (wBin bIx (wVar 0) (wC (.int 2))) wNil))) [none] (q1u 0) q4t (wBin bAdd (wTup (q0d (wC (.int 1)) wNil)) (wVar 0))))))
 q1o)
 (wRet (wVar 1))))))
def q1s (spLtogether:Den):WS:=
 (wSeq (wIfS (q1b (wBin cEq (wBin bIx (wVar 0) (wC (.int 0))) (wC (.str (Str.ofString "var")))))
 (wRet (wTup (q0d (wC (.str (Str.ofString "bound"))) (q0d (wBin bSub (wBin bSub (wCB fLen (q0d (wVar 1) wNil)) (wC (.int 1))) (wBM "list" mIndexL (wVar 1) (q0d (wBin bIx (wVar 0) (wC (.int 1))) wNil))) wNil))))
 q1o)
 (wSeq (wIfS (q1b (wBin cEq (wBin bIx (wVar 0) (wC (.int 0))) (wC (.str (Str.ofString "fn")))))
 (wRet (wTup (q0d (wC (.str (Str.ofString "fn"))) (q0d (wBin bIx (wVar 0) (wC (.int 1))) (q0d (q0v spLtogether (q0d (wBin bIx (wVar 0) (wC (.int 3))) (q0d (wBin bAdd (wVar 1) (wLst (q0d (wBin bIx (wVar 0) (wC (.int 2))) wNil))) wNil))) wNil)))))
 q1o)
 (wSeq (wIfS (q1b (wBin cEq (wBin bIx (wVar 0) (wC (.int 0))) (wC (.str (Str.ofString "of")))))
 (wRet (wTup (q0d (wC (.str (Str.ofString "of"))) (q0d (q0v spLtogether (q0d (wBin bIx (wVar 0) (wC (.int 1))) (q0d (wVar 1) wNil))) (q0d (q0v spLtogether (q0d (wBin bIx (wVar 0) (wC (.int 2))) (q0d (wVar 1) wNil))) wNil)))))
 q1o)
 (wRet (wVar 0)))))
def q3c (spLput:Den):WS:=
 (wSeq (wIfS (q1b (wBin cEq (wVar 0) (wTup (q0d (wC (.str (Str.ofString "var"))) (q0d (wVar 1) wNil)))))
 (wRet (wVar 2))
 q1o)
 (wSeq (wIfS (q1b (wBin cEq (wBin bIx (wVar 0) (wC (.int 0))) (wC (.str (Str.ofString "fn")))))
 (wRet (wTup (q0d (wC (.str (Str.ofString "fn"))) (q0d (wBin bIx (wVar 0) (wC (.int 1))) (q0d (wBin bIx (wVar 0) (wC (.int 2))) (q0d (q0v spLput (q0d (wBin bIx (wVar 0) (wC (.int 3))) (q0d (wVar 1) (q0d (wVar 2) wNil)))) wNil))))))
 q1o)
 (wSeq (wIfS (q1b (wBin cEq (wBin bIx (wVar 0) (wC (.int 0))) (wC (.str (Str.ofString "of")))))
 (wRet (wTup (q0d (wC (.str (Str.ofString "of"))) (q0d (q0v spLput (q0d (wBin bIx (wVar 0) (wC (.int 1))) (q0d (wVar 1) (q0d (wVar 2) wNil)))) (q0d (q0v spLput (q0d (wBin bIx (wVar 0) (wC (.int 2))) (q0d (wVar 1) (q0d (wVar 2) wNil)))) wNil)))))
 q1o)
 (wRet (wVar 0)))))
def q1n (spLput:Den) (spLdone_apart:Den):WS:=
 (wSeq (wIfS (q1b (wBin cEq (wVar 1) (wTup wNil)))
 (wRet (q0v spLput (q0d (wBin bIx (wBin bIx (wVar 0) (wC (.int 1))) (wC (.int 3))) (q0d (wBin bIx (wBin bIx (wVar 0) (wC (.int 1))) (wC (.int 2))) (q0d (wBin bIx (wVar 0) (wC (.int 2))) wNil)))))
 q1o)
 (wSeq (wIfS (q1b (wBin cEq (wBin bIx (wVar 0) (wC (.int 0))) (wC (.str (Str.ofString "fn")))))
 (wRet (wTup (q0d (wC (.str (Str.ofString "fn"))) (q0d (wBin bIx (wVar 0) (wC (.int 1))) (q0d (wBin bIx (wVar 0) (wC (.int 2))) (q0d (q0v spLdone_apart (q0d (wBin bIx (wVar 0) (wC (.int 3))) (q0d (wSl (wVar 1) (wPart (wC (.int 1))) q6q) wNil))) wNil))))))
 q1o)
 (wSeq (wIfS (q1b (wBin cEq (wBin bIx (wVar 1) (wC (.int 0))) (wC (.int 0))))
 (wRet (wTup (q0d (wC (.str (Str.ofString "of"))) (q0d (q0v spLdone_apart (q0d (wBin bIx (wVar 0) (wC (.int 1))) (q0d (wSl (wVar 1) (wPart (wC (.int 1))) q6q) wNil))) (q0d (wBin bIx (wVar 0) (wC (.int 2))) wNil)))))
 q1o)
 (wRet (wTup (q0d (wC (.str (Str.ofString "of"))) (q0d (wBin bIx (wVar 0) (wC (.int 1))) (q0d (q0v spLdone_apart (q0d (wBin bIx (wVar 0) (wC (.int 2))) (q0d (wSl (wVar 1) (wPart (wC (.int 1))) q6q) wNil))) wNil))))))))
def q2j (spLapart:Den):WS:=
 (wSeq (wIfS (q1b (wBin cEq (wBin bIx (wVar 0) (wC (.int 0))) (wC (.str (Str.ofString "bound")))))
 (wRet (wTup (q0d (wC (.str (Str.ofString "var"))) (q0d (wBin bIx (wVar 1) (wBin bSub (wNeg (wC (.int 1))) (wBin bIx (wVar 0) (wC (.int 1))))) wNil))))
 q1o)
 (wSeq (wIfS (q1b (wBin cEq (wBin bIx (wVar 0) (wC (.int 0))) (wC (.str (Str.ofString "fn")))))
 (wSeq (q4d (wBM "list" q2f (wVar 2) (q0d (wCB fLen (q0d (wVar 2) wNil)) wNil)))
 (wSeq (wSet 3 (wCB fLen (q0d (wVar 2) wNil)))
 (wRet (wTup (q0d (wC (.str (Str.ofString "fn"))) (q0d (wBin bIx (wVar 0) (wC (.int 1))) (q0d (wVar 3) (q0d (q0v spLapart (q0d (wBin bIx (wVar 0) (wC (.int 2))) (q0d (wBin bAdd (wVar 1) (wLst (q0d (wVar 3) wNil))) (q0d (wVar 2) wNil)))) wNil))))))))
 q1o)
 (wSeq (wIfS (q1b (wBin cEq (wBin bIx (wVar 0) (wC (.int 0))) (wC (.str (Str.ofString "of")))))
 (wSeq (wSet 4 (q0v spLapart (q0d (wBin bIx (wVar 0) (wC (.int 1))) (q0d (wVar 1) (q0d (wVar 2) wNil)))))
 (wRet (wTup (q0d (wC (.str (Str.ofString "of"))) (q0d (wVar 4) (q0d (q0v spLapart (q0d (wBin bIx (wVar 0) (wC (.int 2))) (q0d (wVar 1) (q0d (wVar 2) wNil)))) wNil))))))
 q1o)
 (wRet (wVar 0)))))
def q5f (spLtogether:Den) (spLdone_apart:Den) (spLapart:Den):WS:=
 (wRet (q0v spLtogether (q0d (q0v spLdone_apart (q0d (q0v spLapart (q0d (wVar 0) (q0d (wLst wNil) (q0d (wLst wNil) wNil)))) (q0d (wVar 1) wNil))) (q0d (wLst wNil) wNil))))
def q1k:WS:=
 (wSeq (wIfS (q1b (wBin cEq (wBin bIx (wVar 0) (wC (.int 0))) (wC (.str (Str.ofString "fn")))))
 (wRet (wTup (q0d (wBin bIx (wVar 0) (wC (.int 2))) wNil)))
 q1o)
 (wSeq (wIfS (q1b (wBin cEq (wBin bIx (wVar 0) (wC (.int 0))) (wC (.str (Str.ofString "of")))))
 (wRet (wTup (q0d (wBin bIx (wVar 0) (wC (.int 1))) (q0d (wBin bIx (wVar 0) (wC (.int 2))) wNil))))
 q1o)
 (wRet (wTup wNil))))
def q4e (spinner_of:Den):WS:=
 (wSeq (wSet 2 (wLst (q0d (wVar 0) wNil)))
 (wSeq (wFor (q8m (wVar 1)) (q1u 3) (wSeq (wSet 4 (q0v spinner_of (q0d (wBin bIx (wVar 2) (wNeg (wC (.int 1)))) wNil)))
 (wSeq (wIfS (wOr (q1b (wBin cLt (wVar 3) (wC (.int 0)))) (q1b (wBin cGe (wVar 3) (wCB fLen (q0d (wVar 4) wNil)))))
 (wRaise "NoPlace" (q0d (wC (.str (Str.ofString "the place leads nowhere"))) wNil))
 q1o)
 (q4d (wBM "list" q2f (wVar 2) (q0d (wBin bIx (wVar 4) (wVar 3)) wNil))))))
 (wRet (wVar 2))))
def q2n:WS:=
 (wRet (wAndV (wBin cEq (wBin bIx (wVar 0) (wC (.int 0))) (wC (.str (Str.ofString "of")))) (wBin cEq (wBin bIx (wBin bIx (wVar 0) (wC (.int 1))) (wC (.int 0))) (wC (.str (Str.ofString "fn"))))))
def q1z (spparts_and_fns:Den):WS:=
 (wSeq (wSet 2 (wCB fList (q0d (wVar 1) wNil)))
 (wSeq (wSet 3 (wLst wNil))
 (wSeq (wFor (wiRev (q0v spparts_and_fns (q0d (wVar 0) wNil))) (q8d 2 (q2s (q1u 4) (q2s (q1u 5) q8e))) (wIfS (q1b (wBin cEq (wBin bIx (wVar 4) (wC (.int 0))) (wC (.str (Str.ofString "bound")))))
 (q4d (wBM "list" q2f (wVar 3) (q0d (wBM0 "list" mPop (wVar 2)) wNil)))
 (wIfS (q1b (wBin cEq (wBin bIx (wVar 4) (wC (.int 0))) (wC (.str (Str.ofString "fn")))))
 (q4d (wBM "list" q2f (wVar 3) (q0d (wTup (q0d (wC (.str (Str.ofString "fn"))) (q0d (wBin bIx (wVar 4) (wC (.int 1))) (q0d (wBM0 "list" mPop (wVar 3)) wNil)))) wNil)))
 (wIfS (q1b (wBin cEq (wBin bIx (wVar 4) (wC (.int 0))) (wC (.str (Str.ofString "of")))))
 (wSeq (wSet 6 (wBM0 "list" mPop (wVar 3)))
 (q4d (wBM "list" q2f (wVar 3) (q0d (wTup (q0d (wC (.str (Str.ofString "of"))) (q0d (wVar 6) (q0d (wBM0 "list" mPop (wVar 3)) wNil)))) wNil))))
 (q4d (wBM "list" q2f (wVar 3) (q0d (wVar 4) wNil)))))))
 (wRet (wBin bIx (wVar 3) (wC (.int 0)))))))
def q3a (spparts_and_fns:Den):WS:=
 (wRet (q7i (q8m (q0v spparts_and_fns (q0d (wVar 0) wNil))) [none,none] (q8d 2 (q2s (q1u 0) (q2s (q1u 1) q8e))) (q1b (wBin cEq (wBin bIx (wVar 0) (wC (.int 0))) (wC (.str (Str.ofString "bound"))))) (wTup (q0d (wBin bIx (wVar 0) (wC (.int 1))) (q0d (wCB fLen (q0d (wVar 1) wNil)) wNil)))))
def q4f (spwith_bound_ones:Den) (spbound_ones:Den):WS:=
 (wRet (q0v spwith_bound_ones (q0d (wVar 0) (q0d (q7i (q8m (q0v spbound_ones (q0d (wVar 0) wNil))) [none,none,some 1] (q8d 2 (q2s (q1u 0) (q2s (q1u 1) q8e))) q4t (wTup (q0d (wC (.str (Str.ofString "bound"))) (q0d (wIf (q1b (wBin cLt (wVar 0) (wVar 1))) (wVar 0) (wBin bAdd (wVar 0) (wVar 2))) wNil)))) wNil))))
def q3t (spraised:Den):WS:=
 (wSeq (wIfS (q1b (wBin cLt (wVar 0) (wVar 1)))
 (wRet (wTup (q0d (wC (.str (Str.ofString "bound"))) (q0d (wVar 0) wNil))))
 q1o)
 (wSeq (wIfS (q1b (wBin cEq (wVar 0) (wVar 1)))
 (wRet (q0v spraised (q0d (wVar 2) (q0d (wVar 1) wNil))))
 q1o)
 (wRet (wTup (q0d (wC (.str (Str.ofString "bound"))) (q0d (wBin bSub (wVar 0) (wC (.int 1))) wNil))))))
def q4g (spwith_bound_ones:Den) (spput_for:Den) (spbound_ones:Den):WS:=
 (wRet (q0v spwith_bound_ones (q0d (wVar 0) (q0d (q7i (q8m (q0v spbound_ones (q0d (wVar 0) wNil))) [none,none,some 1] (q8d 2 (q2s (q1u 0) (q2s (q1u 1) q8e))) q4t (q0v spput_for (q0d (wVar 0) (q0d (wVar 1) (q0d (wVar 2) wNil))))) wNil))))
def q2z:WS:=
 (wSeq (wIfS (q1b (wBin cEq (wBin bIx (wVar 0) (wC (.int 0))) (wC (.str (Str.ofString "fn")))))
 (wRet (wTup (q0d (wC (.str (Str.ofString "fn"))) (q0d (wBin bIx (wVar 0) (wC (.int 1))) (q0d (wVar 2) wNil)))))
 q1o)
 (wSeq (wIfS (q1b (wBin cEq (wVar 1) (wC (.int 0))))
 (wRet (wTup (q0d (wC (.str (Str.ofString "of"))) (q0d (wVar 2) (q0d (wBin bIx (wVar 0) (wC (.int 2))) wNil)))))
 q1o)
 (wRet (wTup (q0d (wC (.str (Str.ofString "of"))) (q0d (wBin bIx (wVar 0) (wC (.int 1))) (q0d (wVar 2) wNil)))))))
def q3u (spway_to:Den) (spis_to_do:Den) (spput_in:Den) (spwith_inner:Den):WS:=
 (wSeq (wSet 2 (q0v spway_to (q0d (wVar 0) (q0d (wVar 1) wNil))))
 (wSeq (wSet 3 (wBM0 "list" mPop (wVar 2)))
 (wSeq (wIfS (wNot (wTru (q0v spis_to_do (q0d (wVar 3) wNil))))
 (wRaise "NoPlace" (q0d (wC (.str (Str.ofString "the place leads to no of whose f is a fn"))) wNil))
 q1o)
 (wSeq (wSet 4 (q0v spput_in (q0d (wBin bIx (wBin bIx (wVar 3) (wC (.int 1))) (wC (.int 2))) (q0d (wBin bIx (wVar 3) (wC (.int 2))) wNil))))
 (wSeq (z0c (wTru (wVar 2)) (wSeq (wSet 5 (wBM0 "list" mPop (wVar 2)))
 (wSet 4 (q0v spwith_inner (q0d (wVar 5) (q0d (wBin bIx (wVar 1) (wCB fLen (q0d (wVar 2) wNil))) (q0d (wVar 4) wNil)))))))
 (wRet (wVar 4)))))))
def mb (F:Nat→Nat→Tm):Tm→Nat→Tm
 | .bd k,d=>F k d
 | .fn k t,d=>.fn k (mb F t (d+1))
 | .ap f a,d=>.ap (mb F f d) (mb F a d)
 | t,_=>t
def rsF (m:Nat) (k d:Nat):Tm:=.bd (if k<d then k else k+m)
def rs (t:Tm) (m d:Nat):Tm:=mb (rsF m) t d
def sbF (a:Tm) (k d:Nat):Tm:=if k<d then .bd k else if k=d then rs a d 0 else .bd (k - 1)
def sb (t:Tm) (d:Nat) (a:Tm):Tm:=mb (sbF a) t d
theorem rs_zero:∀(t:Tm) (d:Nat),rs t 0 d=t
 | .nm _,_=>rfl
 | .lf _ _,_=>rfl
 | .bd k,d=>by simp [rs,mb,rsF]
 | .fn k t,d=>by have:=rs_zero t (d+1); unfold rs at this ⊢; rw [mb,this]
 | .ap f a,d=>by have h1:=rs_zero f d; have h2:=rs_zero a d; unfold rs at h1 h2 ⊢; rw [mb,h1,h2]
def dn:Tm→List Nat→Tm
 | .ap (.fn _ b) a,[]=>sb b 0 a
 | t,[]=>t
 | .fn k t,_::p=>.fn k (dn t p)
 | .ap f a,0::p=>.ap (dn f p) a
 | .ap f a,_::p=>.ap f (dn a p)
 | t,_=>t
inductive Pl:Tm→List Nat→Prop
 | here (k:PV) (b a:Tm):Pl (.ap (.fn k b) a) []
 | fn (k:PV) (t:Tm) (p:List Nat):Pl t p→Pl (.fn k t) (0::p)
 | l (f a:Tm) (p:List Nat):Pl f p→Pl (.ap f a) (0::p)
 | r (f a:Tm) (p:List Nat):Pl a p→Pl (.ap f a) (1::p)
inductive Nt where
 | nm (w:Str) | lf (n:Int) (f:PV) | vr (i:Nat) | fn (k:PV) (o:Nat) (t:Nt) | ap (f a:Nt)
def nf:Tm→Nat
 | .fn _ t=>nf t+1
 | .ap f a=>nf f+nf a
 | _=>0
def apt:Tm→List Nat→Nat→Nt
 | .nm w,_,_=>.nm w
 | .lf n f,_,_=>.lf n f
 | .bd k,env,_=>.vr (env.getD (env.length - 1 - k) 0)
 | .fn k b,env,c=>.fn k (c+1) (apt b (env++[c+1]) (c+1))
 | .ap f a,env,c=>.ap (apt f env c) (apt a env (c+nf f))
def tgr:Nt→List Nat→Tm
 | .nm w,_=>.nm w
 | .lf n f,_=>.lf n f
 | .vr i,env=>.bd (env.length - 1 - env.idxOf i)
 | .fn k o t,env=>.fn k (tgr t (env++[o]))
 | .ap f a,env=>.ap (tgr f env) (tgr a env)
def pt:Nt→Nat→Nt→Nt
 | .vr i,o,x=>if i=o then x else .vr i
 | .fn k o' t,o,x=>.fn k o' (pt t o x)
 | .ap f a,o,x=>.ap (pt f o x) (pt a o x)
 | t,_,_=>t
def da:Nt→List Nat→Nt
 | .ap (.fn _ o b) a,[]=>pt b o a
 | t,[]=>t
 | .fn k o t,_::p=>.fn k o (da t p)
 | .ap f a,0::p=>.ap (da f p) a
 | .ap f a,_::p=>.ap f (da a p)
 | t,_=>t
theorem idx_at {l:List Nat} (nd:l.Nodup) {i:Nat} (h:i<l.length):l.idxOf (l.getD i 0)=i:=by
 have:l.getD i 0=l[i]:=by simp [h]
 rw [this]
 exact List.Nodup.idxOf_getElem nd i h
theorem q7u {a b:List Nat} {i:Nat} (h:i<a.length):(a++b).getD i 0=a.getD i 0:=by
 rw [List.getD_eq_getElem?_getD,List.getD_eq_getElem?_getD,List.getElem?_append_left h]
theorem q7t {a b:List Nat} {i:Nat} (h:a.length≤i):(a++b).getD i 0=b.getD (i - a.length) 0:=by
 rw [List.getD_eq_getElem?_getD,List.getD_eq_getElem?_getD,List.getElem?_append_right h]
theorem nd_snoc {l:List Nat} {c:Nat} (nd:l.Nodup) (h:∀x∈l,x≤c):(l++[c+1]).Nodup:=by
 rw [List.nodup_append]
 exact ⟨nd,by simp,fun x hx y hy e=>by simp at hy; have:=h x hx; omega⟩
theorem tg_rs:∀(t:Tm) (env L I:List Nat) (c:Nat),t.gd (env++I).length→(env++L++I).Nodup→(∀x∈env++L++I,x≤c)→tgr (apt t (env++I) c) (env++L++I)=rs t L.length I.length
 | .nm _,_,_,_,_,_,_,_=>rfl
 | .lf _ _,_,_,_,_,_,_,_=>rfl
 | .bd k,env,L,I,c,hg,nd,hc=>by
  have hg:k<(env++I).length:=hg
  rw [List.length_append] at hg
  simp only [apt,tgr,rs,mb,rsF,List.length_append]
  congr 1
  by_cases h:k<I.length
  ·rw [if_pos h,q7t (by omega)]
   have e:(I.getD (env.length+I.length - 1 - k - env.length) 0)=(env++L++I).getD (env.length+L.length+(I.length - 1 - k)) 0:=by
    rw [q7t (by simp)]
    congr 1
    simp; omega
   rw [e,idx_at nd (by simp; omega)]
   omega
  ·rw [if_neg h,q7u (by omega)]
   have e:env.getD (env.length+I.length - 1 - k) 0=(env++L++I).getD (env.length+I.length - 1 - k) 0:=by
    rw [List.append_assoc,q7u (by omega)]
   rw [e,idx_at nd (by simp; omega)]
   omega
 | .fn k b,env,L,I,c,hg,nd,hc=>by
  have hg:b.gd ((env++I).length+1):=hg.2
  simp only [apt,tgr,rs,mb]
  have:=tg_rs b env L (I++[c+1]) (c+1) (by simp only [List.length_append,List.length_singleton] at hg ⊢; exact hg) (by rw [←List.append_assoc]; exact nd_snoc nd hc) (fun x hx=>by
   rw [←List.append_assoc,List.mem_append] at hx
   rcases hx with z | z
   ·have:=hc x z; omega
   ·simp at z; omega)
  rw [←List.append_assoc,←List.append_assoc,List.length_append,List.length_singleton] at this
  rw [this]
  rfl
 | .ap f a,env,L,I,c,hg,nd,hc=>by
  simp only [apt,tgr,rs,mb]
  have h1:=tg_rs f env L I c hg.1 nd hc
  have h2:=tg_rs a env L I (c+nf f) hg.2 nd (fun x hx=>by have:=hc x hx; omega)
  rw [h1,h2]
  rfl
theorem tg_id (t:Tm) (env:List Nat) (c:Nat) (hg:t.gd env.length) (nd:env.Nodup) (hc:∀x∈env,x≤c):tgr (apt t env c) env=t:=by
 have:=tg_rs t env [] [] c (by simpa using hg) (by simpa using nd) (by simpa using hc)
 simp only [List.append_nil,List.length_nil] at this
 rw [this,rs_zero]
theorem tg_sb (a:Tm) (env:List Nat) (o ca:Nat) (ha:a.gd env.length):∀(t:Tm) (I:List Nat) (c:Nat),t.gd (env.length+1+I.length)→(env++[o]++I).Nodup→(∀x∈env++[o]++I,x≤c)→c+nf t≤ca→tgr (pt (apt t (env++[o]++I) c) o (apt a env ca)) (env++I)=sb t I.length a
 | .nm _,_,_,_,_,_,_=>rfl
 | .lf _ _,_,_,_,_,_,_=>rfl
 | .bd k,I,c,hg,nd,hc,hl=>by
  have hg:k<env.length+1+I.length:=hg
  have nd':=List.nodup_append.mp nd
  have nd1:=List.nodup_append.mp nd'.1
  have nd2:(env++I).Nodup:=by
   rw [List.nodup_append]
   exact ⟨nd1.1,nd'.2.1,fun x hx y hy=>nd'.2.2 x (List.mem_append_left _ hx) y hy⟩
  simp only [apt,pt,sb,mb,sbF,List.length_append,List.length_singleton]
  by_cases h:k<I.length
  ·rw [if_pos h,q7t (by simp; omega)]
   simp only [List.length_append,List.length_singleton]
   have hI:env.length+1+I.length - 1 - k - (env.length+1)=I.length - 1 - k:=by omega
   rw [hI]
   have hne:I.getD (I.length - 1 - k) 0≠o:=by
    have:I.getD (I.length - 1 - k) 0=I[I.length - 1 - k]'(by omega):=by rw [List.getD_eq_getElem?_getD,List.getElem?_eq_getElem (by omega)]; rfl
    rw [this]
    exact Ne.symm (nd'.2.2 o (by simp) _ (List.getElem_mem _))
   rw [if_neg hne]
   simp only [tgr,List.length_append]
   have e:I.getD (I.length - 1 - k) 0=(env++I).getD (env.length+(I.length - 1 - k)) 0:=by
    rw [q7t (by omega)]; congr 1; omega
   rw [e,idx_at nd2 (by simp; omega)]
   congr 1
   omega
  ·rw [if_neg h,q7u (by simp; omega)]
   by_cases h2:k=I.length
   ·rw [if_pos h2,q7t (by omega)]
    have:env.length+1+I.length - 1 - k - env.length=0:=by omega
    rw [this]
    show tgr (if o=o then _ else _) _=_
    rw [if_pos rfl]
    have:=tg_rs a env I [] ca (by simpa using ha) (by simpa using nd2) (fun x hx=>by
     have:x∈env++[o]++I:=by
      simp only [List.append_nil,List.mem_append] at hx ⊢
      rcases hx with z | z
      ·exact .inl (.inl z)
      ·exact .inr z
     have:=hc x this
     omega)
    simp only [List.append_nil,List.length_nil] at this
    rw [this]
    try rw [h2]
   ·rw [if_neg h2,q7u (by omega)]
    have hi:env.length+1+I.length - 1 - k<env.length:=by omega
    have hne:env.getD (env.length+1+I.length - 1 - k) 0≠o:=by
     have:env.getD (env.length+1+I.length - 1 - k) 0=env[env.length+1+I.length - 1 - k]'hi:=by rw [List.getD_eq_getElem?_getD,List.getElem?_eq_getElem hi]; rfl
     rw [this]
     exact nd1.2.2 _ (List.getElem_mem _) o (by simp)
    rw [if_neg hne]
    simp only [tgr,List.length_append]
    have e:env.getD (env.length+1+I.length - 1 - k) 0=(env++I).getD (env.length+1+I.length - 1 - k) 0:=by rw [q7u hi]
    rw [e,idx_at nd2 (by simp; omega)]
    congr 1
    omega
 | .fn k b,I,c,hg,nd,hc,hl=>by
  have hg:b.gd (env.length+1+I.length+1):=hg.2
  simp only [nf] at hl
  simp only [apt,pt,tgr,sb,mb]
  have:=tg_sb a env o ca ha b (I++[c+1]) (c+1) (by simp only [List.length_append,List.length_singleton]; exact hg) (by rw [←List.append_assoc]; exact nd_snoc nd hc) (fun x hx=>by
   rw [←List.append_assoc,List.mem_append] at hx
   rcases hx with z | z
   ·have:=hc x z; omega
   ·simp at z; omega) (by omega)
  rw [←List.append_assoc,←List.append_assoc,List.length_append,List.length_singleton] at this
  rw [this]
  rfl
 | .ap f x,I,c,hg,nd,hc,hl=>by
  simp only [nf] at hl
  simp only [apt,pt,tgr,sb,mb]
  have h1:=tg_sb a env o ca ha f I c hg.1 nd hc (by omega)
  have h2:=tg_sb a env o ca ha x I (c+nf f) hg.2 nd (fun y hy=>by have:=hc y hy; omega) (by omega)
  rw [h1,h2]
  rfl
theorem tg_dn {t:Tm} {p:List Nat} (h:Pl t p):∀(env:List Nat) (c:Nat),t.gd env.length→env.Nodup→(∀x∈env,x≤c)→tgr (da (apt t env c) p) env=dn t p:=by
 induction h with
 | here k b a=>
  intro env c hg nd hc
  simp only [apt,da,dn]
  have:=tg_sb a env (c+1) (c+nf (.fn k b)) hg.2 b [] (c+1) (by simpa using hg.1.2) (by simpa using nd_snoc nd hc) (fun x hx=>by
   simp only [List.append_nil,List.mem_append,List.mem_singleton] at hx
   rcases hx with z | z
   ·have:=hc x z; omega
   ·omega) (by simp only [nf]; omega)
  simp only [List.append_nil,List.length_nil] at this
  exact this
 | fn k t p _ ih=>
  intro env c hg nd hc
  simp only [apt,da,dn,tgr]
  rw [ih (env++[c+1]) (c+1) (by simpa using hg.2) (nd_snoc nd hc) (fun x hx=>by
   rcases List.mem_append.mp hx with z | z
   ·have:=hc x z; omega
   ·simp at z; omega)]
 | l f a p hp ih=>
  intro env c hg nd hc
  simp only [apt]
  have e1:da (.ap (apt f env c) (apt a env (c+nf f))) (0::p)=.ap (da (apt f env c) p) (apt a env (c+nf f)):=by
   simp only [da]
  have e2:dn (.ap f a) (0::p)=.ap (dn f p) a:=by simp only [dn]
  rw [e1,e2,tgr,ih env c hg.1 nd hc,tg_id a env _ hg.2 nd (fun x hx=>by have:=hc x hx; omega)]
 | r f a p hp ih=>
  intro env c hg nd hc
  simp only [apt]
  have e1:da (.ap (apt f env c) (apt a env (c+nf f))) (1::p)=.ap (apt f env c) (da (apt a env (c+nf f)) p):=by
   simp only [da]
  have e2:dn (.ap f a) (1::p)=.ap f (dn a p):=by simp only [dn]
  rw [e1,e2,tgr,ih env _ hg.2 nd (fun x hx=>by have:=hc x hx; omega),tg_id f env _ hg.1 nd hc]
theorem forC {chk:q0l→Prop} {g:WG} {wb:WS} {D:PEnds} {E:EK} {x:PV} {r:List PV} {σ:Ev.Loc} {S:q0l} (hc:chk S) (h:∀N:Ev.Loc→q0l→Prop,(∀σ S,forGo chk g wb D E r σ S→N σ S)→g x σ S E fun σ2 S2=>wb { nx:=N,rt:=D.rt,ct:=N,bk:=D.nx } E σ2 S2):forGo chk g wb D E (x::r) σ S:=⟨hc,_,fun _ _ z=>z,h _ fun _ _ z=>z⟩
def bo:Tm→Nat→List (Nat×Nat)
 | .bd k,d=>[(k,d)]
 | .fn _ b,d=>bo b (d+1)
 | .ap f a,d=>bo f d++bo a d
 | _,_=>[]
def oneBo (p:Tm×List Nat):Option (Nat×Nat):=match p.1 with
 | .bd k=>some (k,p.2.length)
 | _=>none
theorem bo_rows:∀(t:Tm) (fs:List Nat) (i:Nat),(q3n t fs i).filterMap oneBo=bo t fs.length
 | .nm _,_,_=>rfl
 | .lf _ _,_,_=>rfl
 | .bd _,_,_=>rfl
 | .fn _ b,fs,i=>by rw [q3n,List.filterMap_cons_none rfl,bo_rows b,List.length_append]; rfl
 | .ap f a,fs,i=>by rw [q3n,List.filterMap_cons_none rfl,List.filterMap_append,bo_rows f,bo_rows a]; rfl
theorem bo_len:∀(t:Tm) (d:Nat),(bo t d).length≤t.sz
 | .nm _,_=>Nat.zero_le _
 | .lf _ _,_=>Nat.zero_le _
 | .bd _,_=>Nat.le_refl _
 | .fn _ b,d=>by have:=bo_len b (d+1); simp only [bo,Tm.sz]; omega
 | .ap f a,d=>by have:=bo_len f d; have:=bo_len a d; simp only [bo,Tm.sz,List.length_append]; omega
def encP (p:Nat×Nat):PV:=.tup [.int (p.1:Nat),.int (p.2:Nat)]
def BoD (sp:Den):Prop:=∀(t:Tm) (S:q0l) (E:EK) (Q:VC),t.sz≤1000→(∀(r:Nat) S',S'[r]?=some (.lst ((bo t 0).map encP))→Ex [] S S'→Q (.ref r) S')→sp [t.pv] S E Q
theorem bo_ok {sp:Den} (hp:PartsD sp):BoD (fnP 1 1 (q3a sp)):=by
 intro t S E Q hz h
 refine ⟨rfl,?_⟩
 unfold q3a
 dsimp! [true_and]
 refine hp t _ _ _ hz fun r S1 e _ hx=>?_
 dsimp! [q1c e]
 refine ⟨by rw [List.length_map,z0v]; exact big (by omega),?_⟩
 refine compI (fun rest ys σ S2=>∃(ps qs:List (Tm×List Nat)) (j1 j2:Option PV),rest=ps.map enc∧σ=[j1,j2]∧S2=S1∧ys=(qs.filterMap oneBo).map encP∧qs++ps=q3n t [] 0) ?_ ?_ _ _ _ _ ⟨q3n t [] 0,[],none,none,rfl,rfl,rfl,rfl,rfl⟩
 ·rintro ys σ S2 ⟨ps,qs,j1,j2,hr,rfl,rfl,rfl,hq⟩
  obtain rfl:ps=[]:=by cases ps with
   | nil=>rfl
   | cons a b=>simp at hr
  refine ⟨q1c e,h _ _ ?_ (hx.app _)⟩
  rw [q1f]
  rw [List.append_nil] at hq
  rw [hq,bo_rows]; rfl
 ·rintro x rest ys σ S2 ⟨ps,qs,j1,j2,hr,rfl,rfl,rfl,hq⟩ N hN
  obtain ⟨⟨u,fs⟩,ps,rfl⟩:∃p r,ps=p::r:=by
   cases ps with
   | nil=>simp at hr
   | cons a b=>exact ⟨a,b,rfl⟩
  simp only [List.map_cons,List.cons.injEq] at hr
  obtain ⟨rfl,rfl⟩:=hr
  refine ⟨q1c e,?_⟩
  cases u with
  | nm w=>
   dsimp! [enc,Tm.pv,q0g,tg3]
   exact hN _ _ _ ⟨ps,qs++[(.nm w,fs)],_,_,rfl,rfl,rfl,by rw [List.filterMap_append,List.filterMap_cons_none rfl]; simp,by simp [←hq]⟩
  | lf a b=>
   dsimp! [enc,Tm.pv,q0g,tg6]
   exact hN _ _ _ ⟨ps,qs++[(.lf a b,fs)],_,_,rfl,rfl,rfl,by rw [List.filterMap_append,List.filterMap_cons_none rfl]; simp,by simp [←hq]⟩
  | fn a b=>
   dsimp! [enc,Tm.pv,q0g,tga]
   exact hN _ _ _ ⟨ps,qs++[(.fn a b,fs)],_,_,rfl,rfl,rfl,by rw [List.filterMap_append,List.filterMap_cons_none rfl]; simp,by simp [←hq]⟩
  | ap a b=>
   dsimp! [enc,Tm.pv,q0g,tgc]
   exact hN _ _ _ ⟨ps,qs++[(.ap a b,fs)],_,_,rfl,rfl,rfl,by rw [List.filterMap_append,List.filterMap_cons_none rfl]; simp,by simp [←hq]⟩
  | bd k=>
   have hl:(encI fs).length=fs.length:=by simp [encI]
   dsimp! [enc,Tm.pv,q0g,q2q,hl]
   refine ⟨big (by decide),?_⟩
   exact hN _ _ _ ⟨ps,qs++[(.bd k,fs)],_,_,rfl,rfl,rfl,by rw [List.filterMap_append]; simp [oneBo,encP],by simp [←hq]⟩
def wboG:WG:=q8d 2 (q2s (q1u 4) (q2s (q1u 5) q8e))
def wboB:WS:=(wIfS (q1b (wBin cEq (wBin bIx (wVar 4) (wC (.int 0))) (wC (.str (Str.ofString "bound")))))
 (q4d (wBM "list" q2f (wVar 3) (q0d (wBM0 "list" mPop (wVar 2)) wNil)))
 (wIfS (q1b (wBin cEq (wBin bIx (wVar 4) (wC (.int 0))) (wC (.str (Str.ofString "fn")))))
 (q4d (wBM "list" q2f (wVar 3) (q0d (wTup (q0d (wC (.str (Str.ofString "fn"))) (q0d (wBin bIx (wVar 4) (wC (.int 1))) (q0d (wBM0 "list" mPop (wVar 3)) wNil)))) wNil)))
 (wIfS (q1b (wBin cEq (wBin bIx (wVar 4) (wC (.int 0))) (wC (.str (Str.ofString "of")))))
 (wSeq (wSet 6 (wBM0 "list" mPop (wVar 3)))
 (q4d (wBM "list" q2f (wVar 3) (q0d (wTup (q0d (wC (.str (Str.ofString "of"))) (q0d (wVar 6) (q0d (wBM0 "list" mPop (wVar 3)) wNil)))) wNil))))
 (q4d (wBM "list" q2f (wVar 3) (q0d (wVar 4) wNil))))))
structure Wb (x0 x1:PV) (r tl rw:Nat) (rows:List PV) (S0:q0l) (R st:List Tm) (σ:Ev.Loc) (S:q0l):Prop where
 loc:∃j4 j5 j6:Option PV,σ=[some x0,some x1,some (.ref r),some (.ref tl),j4,j5,j6]
 gr:S[r]?=some (.lst (R.map Tm.pv))
 gt:S[tl]?=some (.lst (st.reverse.map Tm.pv))
 gw:S[rw]?=some (.lst rows)
 ex:Ex [] S0 S
theorem wbo_go {x0 x1:PV} {r tl rw:Nat} {rows:List PV} {S0:q0l} {D:PEnds} {E:EK} (F:Nat→Nat→Tm) (h1:S0.length≤r) (h2:S0.length≤tl) (n1:r≠tl) (n2:rw≠r) (n3:rw≠tl):∀(t:Tm) (fs:List Nat) (i:Nat) (REST:List PV) (R st:List Tm) (σ:Ev.Loc) (S:q0l),
  t.sz+st.length≤2000→Wb x0 x1 r tl rw rows S0 (R++(bo t fs.length).map fun p=>F p.1 p.2) st σ S→
  (∀σ' S',Wb x0 x1 r tl rw rows S0 R (mb F t fs.length::st) σ' S'→forGo (fun S=>q4s S rw=some rows) wboG wboB D E REST σ' S')→
  forGo (fun S=>q4s S rw=some rows) wboG wboB D E ((q3n t fs i).reverse.map enc++REST) σ S:=by
 intro t
 induction t with
 | nm w=>
  rintro fs i REST R st σ S hz ⟨⟨j4,j5,j6,rfl⟩,gr,gt,gw,ex⟩ h
  simp only [bo,List.map_nil,List.append_nil] at gr
  refine forC (q1c gw) fun N hN=>?_
  unfold wboB wboG
  dsimp! [enc,Tm.pv,q0g,tg3,tg1,tg2,gt,q1g gt]
  refine ⟨by simp only [List.length_map,List.length_reverse]; exact bigl (by omega),hN _ _ (h _ _ ⟨⟨_,_,_,rfl⟩,q2r _ gr (Ne.symm n1),?_,q2r _ gw (Ne.symm n3),ex.set (.inr h2)⟩)⟩
  rw [q1v _ gt]; simp [mb,Tm.pv]
 | lf a b=>
  rintro fs i REST R st σ S hz ⟨⟨j4,j5,j6,rfl⟩,gr,gt,gw,ex⟩ h
  simp only [bo,List.map_nil,List.append_nil] at gr
  refine forC (q1c gw) fun N hN=>?_
  unfold wboB wboG
  dsimp! [enc,Tm.pv,q0g,tg6,tg4,tg5,gt,q1g gt]
  refine ⟨by simp only [List.length_map,List.length_reverse]; exact bigl (by omega),hN _ _ (h _ _ ⟨⟨_,_,_,rfl⟩,q2r _ gr (Ne.symm n1),?_,q2r _ gw (Ne.symm n3),ex.set (.inr h2)⟩)⟩
  rw [q1v _ gt]; simp [mb,Tm.pv]
 | bd k=>
  rintro fs i REST R st σ S hz ⟨⟨j4,j5,j6,rfl⟩,gr,gt,gw,ex⟩ h
  simp only [bo,List.map_cons,List.map_nil,List.map_append] at gr
  refine forC (q1c gw) fun N hN=>?_
  unfold wboB wboG
  have gt2:=q2r (j:=r) (.lst (R.map Tm.pv)) gt n1
  dsimp! [enc,Tm.pv,q0g,gt,gr,q1g gr,List.getLast?_append,List.getLast?_singleton,Option.or,Option.some_or,List.dropLast_concat]
  dsimp! [q1g gt2]
  refine ⟨by simp only [List.length_map,List.length_reverse]; exact bigl (by omega),hN _ _ (h _ _ ⟨⟨_,_,_,rfl⟩,q2r _ (q1v _ gr) (Ne.symm n1),?_,q2r _ (q2r _ gw (Ne.symm n2)) (Ne.symm n3),(ex.set (.inr h1)).set (.inr h2)⟩)⟩
  rw [q1v _ gt2]; simp [mb]
 | fn k b ih=>
  rintro fs i REST R st σ S hz hW h
  simp only [Tm.sz] at hz
  simp only [q3n,List.reverse_cons,List.map_append,List.append_assoc,List.map_cons,List.map_nil,List.singleton_append]
  refine ih (fs++[i]) (i+1) _ R st σ S (by omega) (by simpa [bo] using hW) ?_
  rintro σ' S' ⟨⟨j4,j5,j6,rfl⟩,gr,gt,gw,ex⟩
  rw [List.length_append,List.length_singleton] at gt
  simp only [List.reverse_cons,List.map_append,List.map_cons,List.map_nil] at gt
  refine forC (q1c gw) fun N hN=>?_
  unfold wboB wboG
  have gt2:=q1v (.lst (st.reverse.map Tm.pv)) gt
  dsimp! [enc,Tm.pv,q0g,q2q,tga,gt,q1g gt,List.getLast?_append,List.getLast?_singleton,Option.or,Option.some_or,List.dropLast_concat]
  dsimp! [q1g gt2]
  refine ⟨big (by decide),by simp only [List.length_map,List.length_reverse]; exact bigl (by omega),hN _ _ (h _ _ ⟨⟨_,_,_,rfl⟩,q2r _ (q2r _ gr (Ne.symm n1)) (Ne.symm n1),?_,q2r _ (q2r _ gw (Ne.symm n3)) (Ne.symm n3),(ex.set (.inr h2)).set (.inr h2)⟩)⟩
  rw [q1v _ gt2]; simp [mb,Tm.pv]
 | ap f a ihf iha=>
  rintro fs i REST R st σ S hz hW h
  simp only [Tm.sz] at hz
  simp only [q3n,List.reverse_cons,List.reverse_append,List.map_append,List.append_assoc,List.map_cons,List.map_nil,List.singleton_append]
  refine iha fs (i+1+f.sz) _ (R++(bo f fs.length).map fun p=>F p.1 p.2) st σ S (by omega) (by simpa [bo] using hW) ?_
  intro σ1 S1 hW1
  refine ihf fs (i+1) _ R (mb F a fs.length::st) σ1 S1 (by simp only [List.length_cons]; omega) hW1 ?_
  rintro σ' S' ⟨⟨j4,j5,j6,rfl⟩,gr,gt,gw,ex⟩
  simp only [List.reverse_cons,List.map_append,List.map_cons,List.map_nil] at gt
  refine forC (q1c gw) fun N hN=>?_
  unfold wboB wboG
  have gt2:=q1v (.lst (st.reverse.map Tm.pv++[(mb F a fs.length).pv])) gt
  have gt3:=q1v (.lst (st.reverse.map Tm.pv)) gt2
  dsimp! [enc,Tm.pv,q0g,tgc,tgb]
  refine seqI fun K2 hK2=>?_
  dsimp! [gt,q1g gt,List.getLast?_append,List.getLast?_singleton,Option.or,Option.some_or,List.dropLast_concat]
  refine hK2 _ _ ?_
  dsimp! [gt2,q1g gt2,List.getLast?_append,List.getLast?_singleton,Option.or,Option.some_or,List.dropLast_concat]
  dsimp! [q1g gt3]
  refine ⟨big (by decide),by simp only [List.length_map,List.length_reverse]; exact bigl (by omega),hN _ _ (h _ _ ⟨⟨_,_,_,rfl⟩,q2r _ (q2r _ (q2r _ gr (Ne.symm n1)) (Ne.symm n1)) (Ne.symm n1),?_,q2r _ (q2r _ (q2r _ gw (Ne.symm n3)) (Ne.symm n3)) (Ne.symm n3),((ex.set (.inr h2)).set (.inr h2)).set (.inr h2)⟩)⟩
  rw [q1v _ gt3]; simp [mb,Tm.pv]
def WboD (sp:Den):Prop:=∀(F:Nat→Nat→Tm) (t:Tm) (n:Nat) (S:q0l) (E:EK) (Q:VC),t.sz≤1000→S[n]?=some (.lst ((bo t 0).map fun p=>(F p.1 p.2).pv))→(∀S',Ex [] S S'→Q (mb F t 0).pv S')→sp [t.pv,.ref n] S E Q
theorem wbo_ok {sp:Den} (hp:PartsD sp):WboD (fnP 2 7 (q1z sp)):=by
 intro F t n S E Q hz hn h
 refine ⟨rfl,?_⟩
 unfold q1z
 show wSeq (wSet 2 (wCB fList (q0d (wVar 1) wNil))) (wSeq (wSet 3 (wLst wNil)) (wSeq (wFor (wiRev (q0v sp (q0d (wVar 0) wNil))) wboG wboB) (wRet (wBin bIx (wVar 3) (wC (.int 0)))))) _ _ _ _
 refine seqI fun K hK=>?_
 dsimp! [q1c hn]
 refine hK _ _ ?_
 refine seqI fun K hK=>?_
 dsimp! [true_and]
 refine ⟨big (by decide),hK _ _ ?_⟩
 refine seqI fun K hK=>?_
 dsimp! [true_and]
 refine hp t _ _ _ hz fun rr S1 e hrr hx=>?_
 dsimp! [wiRev,q1c e]
 have hl1:(S++[SO.lst (List.map (fun p=>(F p.1 p.2).pv) (bo t 0))]).length=S.length+1:=by simp
 have hl2:(S++[SO.lst (List.map (fun p=>(F p.1 p.2).pv) (bo t 0))]++[SO.lst []]).length=S.length+2:=by simp
 rw [hl2] at hrr
 have g1:=hx.get (q1m (q1f S (SO.lst (List.map (fun p=>(F p.1 p.2).pv) (bo t 0)))) [SO.lst []]) (by simp)
 have g2:=hx.get (q1f (S++[SO.lst (List.map (fun p=>(F p.1 p.2).pv) (bo t 0))]) (SO.lst [])) (by simp)
 rw [hl1] at g2 ⊢
 have hx0:Ex [] S S1:=((Ex.new [] S _).app _).trans hx
 have e1:((q3n t [] 0).map enc).reverse=(q3n t [] 0).reverse.map enc++[]:=by rw [List.append_nil,List.map_reverse]
 rw [e1]
 have em:(bo t 0).map (fun p=>(F p.1 p.2).pv)=([]++(bo t ([]:List Nat).length).map fun p:Nat×Nat=>F p.1 p.2).map Tm.pv:=by simp
 rw [em] at g1
 refine wbo_go F (x0:=t.pv) (x1:=.ref n) (r:=S.length) (tl:=S.length+1) (S0:=S) (Nat.le_refl _) (by omega) (by omega) (by omega) (by omega) t [] 0 [] [] [] _ S1 (by simp; omega) ⟨⟨_,_,_,rfl⟩,g1,by simpa using g2,e,hx0⟩ ?_
 rintro σ' S' ⟨⟨j4,j5,j6,rfl⟩,gr,gt,gw,ex⟩
 refine ⟨q1c gw,hK _ _ ?_⟩
 simp only [List.reverse_cons,List.reverse_nil,List.nil_append,List.map_cons,List.map_nil] at gt
 dsimp! [gt,q0g]
 exact h _ ex
def RaisedD (sp:Den):Prop:=∀(t:Tm) (m:Nat) (S:q0l) (E:EK) (Q:VC),t.sz≤1000→(∀S',Ex [] S S'→Q (rs t m 0).pv S')→sp [t.pv,.int m] S E Q
theorem raised_ok {sw sbo:Den} (hw:WboD sw) (hb:BoD sbo):RaisedD (fnP 2 2 (q4f sw sbo)):=by
 intro t m S E Q hz h
 refine ⟨rfl,?_⟩
 unfold q4f
 dsimp! [true_and]
 refine hb t _ _ _ hz fun r S1 e hx=>?_
 dsimp! [q1c e]
 have hbl:=bo_len t 0
 refine ⟨by rw [List.length_map]; exact big (by omega),?_⟩
 refine compI (fun rest ys σ S2=>∃(ps qs:List (Nat×Nat)) (j1 j2:Option PV),rest=ps.map encP∧σ=[j1,j2,some (.int m)]∧S2=S1∧ys=qs.map (fun p=>(rsF m p.1 p.2).pv)∧qs++ps=bo t 0) ?_ ?_ _ _ _ _ ⟨bo t 0,[],none,none,rfl,rfl,rfl,rfl,rfl⟩
 ·rintro ys σ S2 ⟨ps,qs,j1,j2,hr,rfl,rfl,rfl,hq⟩
  obtain rfl:ps=[]:=by cases ps with
   | nil=>rfl
   | cons a b=>simp at hr
  rw [List.append_nil] at hq
  refine ⟨q1c e,?_⟩
  refine hw (rsF m) t _ _ _ _ hz (by rw [q1f,hq]) fun S3 hx3=>h _ ((hx.app _).trans hx3)
 ·rintro x rest ys σ S2 ⟨ps,qs,j1,j2,hr,rfl,rfl,rfl,hq⟩ N hN
  obtain ⟨⟨k,d⟩,ps,rfl⟩:∃p r,ps=p::r:=by
   cases ps with
   | nil=>simp at hr
   | cons a b=>exact ⟨a,b,rfl⟩
  simp only [List.map_cons,List.cons.injEq] at hr
  obtain ⟨rfl,rfl⟩:=hr
  refine ⟨q1c e,?_⟩
  have nxt:∀z:Int,z=((if k<d then k else k+m:Nat):Int)→N (List.map (fun p=>(rsF m p.1 p.2).pv) qs++[PV.tup [PV.str (Str.ofString "bound"),PV.int z]]) [some (.int (k:Nat)),some (.int (d:Nat)),some (.int m)] S2:=fun z hz=>hN _ _ _ ⟨ps,qs++[(k,d)],_,_,rfl,rfl,rfl,by rw [hz]; simp [rsF,Tm.pv],by simp [←hq]⟩
  dsimp! [encP]
  by_cases c:k<d
  ·rw [if_pos (by omega)]
   exact ⟨big (by decide),nxt _ (by rw [if_pos c])⟩
  ·rw [if_neg (by omega)]
   exact ⟨big (by decide),nxt _ (by rw [if_neg c]; omega)⟩
def PutForD (sp:Den):Prop:=∀(a:Tm) (k d:Nat) (S:q0l) (E:EK) (Q:VC),a.sz≤1000→(∀S',Ex [] S S'→Q (sbF a k d).pv S')→sp [.int k,.int d,a.pv] S E Q
theorem putfor_ok {sr:Den} (hr:RaisedD sr):PutForD (fnP 3 3 (q3t sr)):=by
 intro a k d S E Q hz h
 refine ⟨rfl,?_⟩
 unfold q3t
 refine seqI fun K hK=>?_
 dsimp! [true_and]
 by_cases c:k<d
 ·rw [if_pos (by omega)]
  have:=h S (Ex.refl _ _)
  unfold sbF at this
  rw [if_pos c] at this
  exact ⟨big (by decide),this⟩
 ·rw [if_neg (by omega)]
  refine hK _ _ ?_
  refine seqI fun K hK=>?_
  dsimp! [true_and]
  by_cases c2:k=d
  ·rw [if_pos (by omega)]
   refine hr a d _ _ _ hz fun S' hx=>?_
   have:=h S' hx
   unfold sbF at this
   rw [if_neg c,if_pos c2] at this
   exact this
  ·rw [if_neg (by omega)]
   refine hK _ _ ?_
   dsimp! [true_and]
   have:=h S (Ex.refl _ _)
   unfold sbF at this
   rw [if_neg c,if_neg c2,Tm.pv] at this
   rw [show (k:Int) - 1=((k - 1:Nat):Int) by omega]
   exact ⟨big (by decide),this⟩
def PutInD (sp:Den):Prop:=∀(b a:Tm) (S:q0l) (E:EK) (Q:VC),b.sz≤1000→a.sz≤1000→(∀S',Ex [] S S'→Q (sb b 0 a).pv S')→sp [b.pv,a.pv] S E Q
theorem putin_ok {sw sf sbo:Den} (hw:WboD sw) (hf:PutForD sf) (hb:BoD sbo):PutInD (fnP 2 2 (q4g sw sf sbo)):=by
 intro t a S E Q hz hza h
 refine ⟨rfl,?_⟩
 unfold q4g
 dsimp! [true_and]
 refine hb t _ _ _ hz fun r S1 e hx=>?_
 dsimp! [q1c e]
 have hbl:=bo_len t 0
 refine ⟨by rw [List.length_map]; exact big (by omega),?_⟩
 refine compI (fun rest ys σ S2=>∃(ps qs:List (Nat×Nat)) (j1 j2:Option PV),rest=ps.map encP∧σ=[j1,j2,some a.pv]∧Ex [] S1 S2∧ys=qs.map (fun p=>(sbF a p.1 p.2).pv)∧qs++ps=bo t 0) ?_ ?_ _ _ _ _ ⟨bo t 0,[],none,none,rfl,rfl,Ex.refl _ _,rfl,rfl⟩
 ·rintro ys σ S2 ⟨ps,qs,j1,j2,hr,rfl,hx2,rfl,hq⟩
  obtain rfl:ps=[]:=by cases ps with
   | nil=>rfl
   | cons a b=>simp at hr
  rw [List.append_nil] at hq
  refine ⟨q1c (hx2.get e (by simp)),?_⟩
  refine hw (sbF a) t _ _ _ _ hz (by rw [q1f,hq]) fun S3 hx3=>h _ (((hx.trans hx2).app _).trans hx3)
 ·rintro x rest ys σ S2 ⟨ps,qs,j1,j2,hr,rfl,hx2,rfl,hq⟩ N hN
  obtain ⟨⟨k,d⟩,ps,rfl⟩:∃p r,ps=p::r:=by
   cases ps with
   | nil=>simp at hr
   | cons a b=>exact ⟨a,b,rfl⟩
  simp only [List.map_cons,List.cons.injEq] at hr
  obtain ⟨rfl,rfl⟩:=hr
  refine ⟨q1c (hx2.get e (by simp)),?_⟩
  dsimp! [encP]
  refine hf a k d _ _ _ hza fun S3 hx3=>?_
  exact hN _ _ _ ⟨ps,qs++[(k,d)],_,_,rfl,rfl,hx2.trans hx3,by simp,by simp [←hq]⟩
def wi:Tm→Nat→Tm→Tm
 | .fn k _,_,x=>.fn k x
 | .ap _ a,0,x=>.ap x a
 | .ap f _,_,x=>.ap f x
 | t,_,_=>t
def isC:Tm→Prop
 | .fn _ _=>True
 | .ap _ _=>True
 | _=>False
def reb (fr:List (Tm×Nat)) (x:Tm):Tm:=fr.foldr (fun p x=>wi p.1 p.2 x) x
theorem z0w (fr:List (Tm×Nat)) (p:Tm×Nat) (x:Tm):reb (fr++[p]) x=reb fr (wi p.1 p.2 x):=by simp [reb]
theorem within_ok {o x:Tm} {k:Nat} {S:q0l} {E:EK} {Q:VC} (hc:isC o) (h:Q (wi o k x).pv S):fnP 3 3 q2z [o.pv,.int k,x.pv] S E Q:=by
 refine ⟨rfl,?_⟩
 unfold q2z
 refine seqI fun K hK=>?_
 cases o with
 | nm w=>exact hc.elim
 | lf a b=>exact hc.elim
 | bd k=>exact hc.elim
 | fn kk t=>
  dsimp! [Tm.pv,q0g,q2q]
  exact ⟨big (by decide),h⟩
 | ap f a=>
  dsimp! [Tm.pv,q0g,tgb]
  refine hK _ _ ?_
  refine seqI fun K hK=>?_
  dsimp! [q3z]
  cases k with
  | zero=>
   rw [if_pos (by rfl)]
   exact ⟨big (by decide),h⟩
  | succ k=>
   rw [if_neg (by omega)]
   refine hK _ _ ?_
   dsimp! [q2q]
   exact ⟨big (by decide),h⟩
theorem todo_ok {k:PV} {b a:Tm} {S:q0l} {E:EK} {Q:VC} (h:Q (.bl true) S):fnP 1 1 q2n [(Tm.ap (.fn k b) a).pv] S E Q:=by
 refine ⟨rfl,?_⟩
 unfold q2n
 dsimp! [Tm.pv,q0g,q2q]
 exact h
def InnerD (sp:Den):Prop:=(∀(k:PV) (t:Tm) (S:q0l) (E:EK) (Q:VC),Q (.tup [t.pv]) S→sp [(Tm.fn k t).pv] S E Q)∧∀(f a:Tm) (S:q0l) (E:EK) (Q:VC),Q (.tup [f.pv,a.pv]) S→sp [(Tm.ap f a).pv] S E Q
theorem inner_ok:InnerD (fnP 1 1 q1k):=by
 constructor
 ·intro k t S E Q h
  refine ⟨rfl,?_⟩
  unfold q1k
  refine seqI fun K hK=>?_
  dsimp! [Tm.pv,q0g,q3z]
  exact ⟨big (by decide),h⟩
 ·intro f a S E Q h
  refine ⟨rfl,?_⟩
  unfold q1k
  refine seqI fun K hK=>?_
  dsimp! [Tm.pv,q0g,tgb]
  refine hK _ _ ?_
  refine seqI fun K hK=>?_
  dsimp! [q0g,q2q,q3z]
  exact ⟨big (by decide),h⟩
def frT (fr:List (Tm×Nat)):List Tm:=fr.map (·.1)
def frN (fr:List (Tm×Nat)):List Nat:=fr.map (·.2)
def WayD (sp:Den):Prop:=∀(t:Tm) (p:List Nat) (S:q0l) (E:EK) (Q:VC),Pl t p→p.length≤400→(∀(r:Nat) (fr:List (Tm×Nat)) (k:PV) (b a:Tm) S',p=frN fr→S'[r]?=some (.lst ((frT fr++[Tm.ap (.fn k b) a]).map Tm.pv))→dn t p=reb fr (sb b 0 a)→(∀x∈fr,isC x.1)→b.sz≤t.sz→a.sz≤t.sz→S.length≤r→Ex [] S S'→Q (.ref r) S')→sp [t.pv,.tup (encI p)] S E Q
theorem q8c (xs:List PV) (y:PV):atI (xs++[y]) (-1)=some y:=by
 have:=atI_neg (xs++[y]) 0 (by simp)
 simp only [Int.natCast_zero,Int.sub_zero] at this
 have e:(-1 - ((0:Nat):Int))=-1:=by omega
 simpa using this
theorem way_ok {sp:Den} (hi:InnerD sp):WayD (fnP 2 5 (q4e sp)):=by
 intro t p S E Q hP hl h
 refine ⟨rfl,?_⟩
 unfold q4e
 refine seqI fun K hK=>?_
 dsimp! [true_and]
 refine ⟨big (by decide),hK _ _ ?_⟩
 refine seqI fun K hK=>?_
 dsimp! [true_and]
 refine forI (fun rest σ S1=>∃(fr:List (Tm×Nat)) (u:Tm) (q:List Nat) (j3 j4:Option PV),rest=encI q∧σ=[some t.pv,some (.tup (encI p)),some (.ref S.length),j3,j4]∧S1[S.length]?=some (.lst ((frT fr++[u]).map Tm.pv))∧Ex [] S S1∧Pl u q∧p=frN fr++q∧dn t p=reb fr (dn u q)∧(∀x∈fr,isC x.1)∧u.sz≤t.sz) ?_ ?_ _ _ _ ⟨[],t,p,none,none,rfl,rfl,by rw [q1f]; rfl,Ex.new _ _ _,hP,rfl,rfl,by simp,Nat.le_refl _⟩
 ·rintro σ S1 ⟨fr,u,q,j3,j4,hr,rfl,g,hx,hu,hp,hd,hc,hz⟩
  obtain rfl:q=[]:=by cases q with
   | nil=>rfl
   | cons a b=>simp [encI] at hr
  refine ⟨trivial,hK _ _ ?_⟩
  dsimp! [true_and]
  cases hu with
  | here k b a=>
   simp only [Tm.sz] at hz
   exact h _ fr k b a _ (by simpa using hp) g (by rw [hd,dn]) hc (by omega) (by omega) (Nat.le_refl _) hx
 ·rintro x rest σ S1 ⟨fr,u,q,j3,j4,hr,rfl,g,hx,hu,hp,hd,hc,hz⟩ N hN
  obtain ⟨k,q,rfl⟩:∃k r,q=k::r:=by
   cases q with
   | nil=>simp [encI] at hr
   | cons a b=>exact ⟨a,b,rfl⟩
  simp only [encI,List.map_cons,List.cons.injEq] at hr
  obtain ⟨rfl,rfl⟩:=hr
  refine ⟨trivial,?_⟩
  have hfl:fr.length≤400:=by
   have:=congrArg List.length hp
   simp [frN] at this; omega
  have g':=g
  rw [List.map_append,List.map_cons,List.map_nil] at g'
  dsimp! [true_and]
  refine seqI fun K2 hK2=>?_
  dsimp! [g',q8c]
  cases hu with
  | fn kk t' _ hu'=>
   refine hi.1 _ _ _ _ _ (hK2 _ _ ?_)
   refine seqI fun K2 hK2=>?_
   dsimp! [Int.natCast_zero]
   refine hK2 _ _ ?_
   dsimp! [g',q1g g',q0g]
   refine ⟨by simp [frT]; exact bigl (by omega),hN _ _ ⟨fr++[(.fn kk t',0)],t',q,_,_,rfl,rfl,?_,hx.set (.inr (Nat.le_refl _)),hu',by rw [hp]; simp [frN],by rw [hd,z0w]; rfl,?_,by simp only [Tm.sz] at hz; omega⟩⟩
   ·rw [q1v _ g']; simp [frT]
   ·intro y hy; rcases List.mem_append.mp hy with z | z
    ·exact hc y z
    ·simp at z; subst z; trivial
  | l f a _ hu'=>
   refine hi.2 _ _ _ _ _ (hK2 _ _ ?_)
   refine seqI fun K2 hK2=>?_
   dsimp! [Int.natCast_zero]
   refine hK2 _ _ ?_
   dsimp! [g',q1g g',q0g]
   refine ⟨by simp [frT]; exact bigl (by omega),hN _ _ ⟨fr++[(.ap f a,0)],f,q,_,_,rfl,rfl,?_,hx.set (.inr (Nat.le_refl _)),hu',by rw [hp]; simp [frN],by rw [hd,z0w,dn]; rfl,?_,by simp only [Tm.sz] at hz; omega⟩⟩
   ·rw [q1v _ g']; simp [frT]
   ·intro y hy; rcases List.mem_append.mp hy with z | z
    ·exact hc y z
    ·simp at z; subst z; trivial
  | r f a _ hu'=>
   refine hi.2 _ _ _ _ _ (hK2 _ _ ?_)
   refine seqI fun K2 hK2=>?_
   dsimp! [Int.natCast_one]
   refine hK2 _ _ ?_
   dsimp! [g',q1g g',q2q]
   refine ⟨by simp [frT]; exact bigl (by omega),hN _ _ ⟨fr++[(.ap f a,1)],a,q,_,_,rfl,rfl,?_,hx.set (.inr (Nat.le_refl _)),hu',by rw [hp]; simp [frN],by rw [hd,z0w,show dn (.ap f a) (1::q)=.ap f (dn a q) by simp only [dn]]; rfl,?_,by simp only [Tm.sz] at hz; omega⟩⟩
   ·rw [q1v _ g']; simp [frT]
   ·intro y hy; rcases List.mem_append.mp hy with z | z
    ·exact hc y z
    ·simp at z; subst z; trivial
def DoneD (sp:Den):Prop:=∀(t:Tm) (p:List Nat) (S:q0l) (E:EK) (Q:VC),Pl t p→p.length≤400→t.sz≤1000→(∀S',Ex [] S S'→Q (dn t p).pv S')→sp [t.pv,.tup (encI p)] S E Q
theorem done_ok {sw st sp si:Den} (hw:WayD sw) (ht:∀(k:PV) (b a:Tm) (S:q0l) (E:EK) (Q:VC),Q (.bl true) S→st [(Tm.ap (.fn k b) a).pv] S E Q) (hp:PutInD sp) (hi:∀(o x:Tm) (k:Nat) (S:q0l) (E:EK) (Q:VC),isC o→Q (wi o k x).pv S→si [o.pv,.int k,x.pv] S E Q):DoneD (fnP 2 6 (q3u sw st sp si)):=by
 intro t p S E Q hP hl hz h
 refine ⟨rfl,?_⟩
 unfold q3u
 refine seqI fun K hK=>?_
 dsimp! [true_and]
 refine hw t p _ _ _ hP hl fun r fr k b a S1 hpf g hd hc hb ha hrl hx=>hK _ _ ?_
 have hfl:fr.length≤400:=by
  have:=congrArg List.length hpf
  simp [frN] at this; omega
 rw [List.map_append,List.map_cons,List.map_nil] at g
 refine seqI fun K hK=>?_
 dsimp! [g,q1g g,List.getLast?_append,List.getLast?_singleton,Option.or,Option.some_or,List.dropLast_concat]
 refine hK _ _ ?_
 have g1:=q1v (.lst ((frT fr).map Tm.pv)) g
 have hx1:Ex [] S (S1.set r (.lst ((frT fr).map Tm.pv))):=hx.set (.inr hrl)
 generalize S1.set r (.lst ((frT fr).map Tm.pv))=S2 at g1 hx1 ⊢
 refine seqI fun K hK=>?_
 dsimp! [true_and]
 refine ht k b a _ _ _ ?_
 dsimp! [true_and]
 refine hK _ _ ?_
 refine seqI fun K hK=>?_
 dsimp! [Tm.pv,q2q,q3z]
 refine hp b a _ _ _ (by omega) (by omega) fun S3 hx3=>hK _ _ ?_
 have g3:=hx3.get g1 (by simp)
 have hx4:=hx1.trans hx3
 clear hK K
 refine seqI fun K hK=>?_
 refine whileI (fun m σ S4=>∃(f1 f2:List (Tm×Nat)) (x:Tm) (j3 j5:Option PV),σ=[some t.pv,some (.tup (encI p)),some (.ref r),j3,some x.pv,j5]∧S4[r]?=some (.lst ((frT f1).map Tm.pv))∧Ex [] S S4∧f1++f2=fr∧dn t p=reb f1 x∧m=f1.length) fr.length ⟨fr,[],sb b 0 a,_,_,rfl,g3,hx4,by simp,hd,rfl⟩ ?_
 rintro m σ S4 ⟨f1,f2,x,j3,j5,rfl,g4,hx5,hf,hd5,rfl⟩ T F hT hF
 dsimp! [g4]
 refine ite2 (fun c=>?_) (fun c=>?_)
 ·obtain ⟨f1,⟨o,kk⟩,rfl⟩:∃f1' y,f1=f1'++[y]:=⟨f1.dropLast,f1.getLast (by rintro rfl; simp [frT] at c),(List.dropLast_concat_getLast _).symm⟩
  refine hT _ fun N hN=>?_
  refine seqI fun K2 hK2=>?_
  have g5:=g4
  simp only [frT,List.map_append,List.map_cons,List.map_nil] at g5
  dsimp! [g5,q1g g5,List.getLast?_append,List.getLast?_singleton,Option.or,Option.some_or,List.dropLast_concat]
  refine hK2 _ _ ?_
  have g6:=q1v (.lst ((f1.map (·.1)).map Tm.pv)) g5
  have hat:atI (encI p) (((f1.map (·.1)).map Tm.pv).length:Int)=some (.int (kk:Nat)):=by
   have hpl:p=frN f1++kk::frN f2:=by rw [hpf,←hf]; simp [frN]
   have hl2:f1.length<(encI p).length:=by rw [hpl]; simp [encI,frN]
   rw [List.length_map,List.length_map,q5v _ _ hl2]
   congr 1
   have:(encI p)[f1.length]?=some (.int (kk:Nat)):=by
    unfold encI
    rw [List.getElem?_map,hpl,List.getElem?_append_right (by simp [frN])]
    simp [frN]
   rw [List.getElem?_eq_getElem hl2] at this
   exact Option.some.inj this
  dsimp! [q1c g6,hat]
  refine hi o x kk _ _ _ (hc (o,kk) (by rw [←hf]; simp)) ?_
  refine hN f1.length _ _ (by simp) ⟨f1,(o,kk)::f2,wi o kk x,_,_,rfl,?_,hx5.set (.inr hrl),by rw [←hf]; simp,by rw [hd5,z0w],rfl⟩
  rw [g6]; rfl
 ·obtain rfl:f1=[]:=by
   cases f1 with
   | nil=>rfl
   | cons a b=>simp [frT] at c
  refine hF _ (hK _ _ ?_)
  dsimp! [true_and]
  have:=h _ hx5
  rw [hd5] at this
  exact this
def Nt.pv:Nt→PV
 | .nm w=>.tup [.str (Str.ofString "name"),.str w]
 | .lf n f=>.tup [.str (Str.ofString "leaf"),.int n,f]
 | .vr i=>.tup [.str (Str.ofString "var"),.int (i:Nat)]
 | .fn k o t=>.tup [.str (Str.ofString "fn"),k,.int (o:Nat),t.pv]
 | .ap f a=>.tup [.str (Str.ofString "of"),f.pv,a.pv]
def Nt.dp:Nt→Nat
 | .fn _ _ t=>t.dp+1
 | .ap f a=>max f.dp a.dp+1
 | _=>0
theorem tv1:(Str.ofString "name" = Str.ofString "var")=False:=eq_false (by decide +kernel)
theorem tv2:(Str.ofString "leaf" = Str.ofString "var")=False:=eq_false (by decide +kernel)
theorem tv3:(Str.ofString "fn" = Str.ofString "var")=False:=eq_false (by decide +kernel)
theorem tv4:(Str.ofString "of" = Str.ofString "var")=False:=eq_false (by decide +kernel)
theorem tv5:(Str.ofString "var" = Str.ofString "fn")=False:=eq_false (by decide +kernel)
theorem tv6:(Str.ofString "var" = Str.ofString "of")=False:=eq_false (by decide +kernel)
theorem atI_3 (x y z u:PV) (xs:List PV):atI (x::y::z::u::xs) 3=some u:=q5v (x::y::z::u::xs) 3 (by simp)
theorem nf_sz:∀t:Tm,nf t≤t.sz
 | .nm _=>Nat.zero_le _
 | .lf _ _=>Nat.zero_le _
 | .bd _=>Nat.zero_le _
 | .fn _ t=>by have:=nf_sz t; simp only [nf,Tm.sz]; omega
 | .ap f a=>by have:=nf_sz f; have:=nf_sz a; simp only [nf,Tm.sz]; omega
theorem apart_ok {T:Nat→Den} (hT:∀n,T (n+1)=fnP 3 5 (q2j (T n))) (q:Nat):∀(t:Tm) (n:Nat),t.dp<n→∀(env:List Nat) (c p:Nat) (L:List PV) (S:q0l) (E:EK) (Q:VC),
  S[p]?=some (.lst (encI env))→S[q]?=some (.lst L)→L.length=c→p≠q→t.gd env.length→env.length+t.sz≤1000→c+t.sz≤1000→
  (∀L' S',S'[q]?=some (.lst L')→L'.length=c+nf t→Ex [q] S S'→Q (apt t env c).pv S')→T n [t.pv,.ref p,.ref q] S E Q:=by
 intro t
 induction t with
 | nm w=>
  intro n hn env c p L S E Q hp hq hl ne hg z1 z2 h
  obtain ⟨m,rfl⟩:∃m,n=m+1:=⟨n - 1,by omega⟩
  rw [hT]
  refine ⟨rfl,?_⟩
  unfold q2j
  refine seqI fun K hK=>?_
  dsimp! [Tm.pv,q0g,tg3]
  refine hK _ _ ?_
  refine seqI fun K hK=>?_
  dsimp! [q0g,tg1]
  refine hK _ _ ?_
  refine seqI fun K hK=>?_
  dsimp! [q0g,tg2]
  refine hK _ _ ?_
  dsimp! [true_and]
  exact h L S hq hl (Ex.refl _ _)
 | lf a b=>
  intro n hn env c p L S E Q hp hq hl ne hg z1 z2 h
  obtain ⟨m,rfl⟩:∃m,n=m+1:=⟨n - 1,by omega⟩
  rw [hT]
  refine ⟨rfl,?_⟩
  unfold q2j
  refine seqI fun K hK=>?_
  dsimp! [Tm.pv,q0g,tg6]
  refine hK _ _ ?_
  refine seqI fun K hK=>?_
  dsimp! [q0g,tg4]
  refine hK _ _ ?_
  refine seqI fun K hK=>?_
  dsimp! [q0g,tg5]
  refine hK _ _ ?_
  dsimp! [true_and]
  exact h L S hq hl (Ex.refl _ _)
 | bd k=>
  intro n hn env c p L S E Q hp hq hl ne hg z1 z2 h
  obtain ⟨m,rfl⟩:∃m,n=m+1:=⟨n - 1,by omega⟩
  rw [hT]
  refine ⟨rfl,?_⟩
  unfold q2j
  refine seqI fun K hK=>?_
  have hg:k<env.length:=hg
  have hla:(encI env).length=env.length:=by simp [encI]
  have e1:=atI_neg (encI env) k (by omega)
  rw [hla] at e1
  have e2:(encI env)[env.length - 1 - k]?=some (.int ((env.getD (env.length - 1 - k) 0:Nat):Int)):=by
   unfold encI; rw [List.getElem?_map,List.getElem?_eq_getElem (by omega),List.getD_eq_getElem?_getD,List.getElem?_eq_getElem (by omega)]; rfl
  rw [e2] at e1
  dsimp! [Tm.pv,q0g,q2q,hp,e1]
  exact ⟨big (by decide),h L S hq hl (Ex.refl _ _)⟩
 | fn kk b ih=>
  intro n hn env c p L S E Q hp hq hl ne hg z1 z2 h
  obtain ⟨m,rfl⟩:∃m,n=m+1:=⟨n - 1,by omega⟩
  rw [hT]
  refine ⟨rfl,?_⟩
  unfold q2j
  simp only [Tm.dp] at hn
  simp only [Tm.sz] at z1 z2
  refine seqI fun K hK=>?_
  dsimp! [Tm.pv,q0g,tga]
  refine hK _ _ ?_
  refine seqI fun K hK=>?_
  dsimp! [q0g]
  refine seqI fun K2 hK2=>?_
  dsimp! [hq,q1c hq,q1g hq]
  refine ⟨bigl (by omega),hK2 _ _ ?_⟩
  have g1:=q1v (.lst (L++[PV.int (L.length:Nat)])) hq
  have g2:=q2r (j:=q) (.lst (L++[PV.int (L.length:Nat)])) hp (Ne.symm ne)
  have hx1:Ex [q] S (S.set q (.lst (L++[PV.int (L.length:Nat)]))):=(Ex.refl _ _).set (.inl (by simp))
  generalize S.set q (.lst (L++[PV.int (L.length:Nat)]))=S1 at g1 g2 hx1 ⊢
  refine seqI fun K2 hK2=>?_
  dsimp! [q1c g1]
  refine hK2 _ _ ?_
  have hl1:(L++[PV.int (L.length:Nat)]).length=c+1:=by simp; omega
  rw [hl1]
  have g3:=q1m g2 [SO.lst [PV.int ((c+1:Nat):Int)]]
  have g4:=q1f S1 (SO.lst [PV.int ((c+1:Nat):Int)])
  dsimp! [q2q,q3z]
  refine ⟨big (by decide),?_⟩
  dsimp! [q1g g3,q1g g4]
  have e5:encI env++[PV.int ((c+1:Nat):Int)]=encI (env++[c+1]):=by simp [encI]
  rw [e5]
  have hla:(encI env).length=env.length:=by simp [encI]
  refine ⟨by rw [hla]; exact big (by omega),?_⟩
  have ql:q<S1.length:=q2k g1
  refine ih m (by omega) (env++[c+1]) (c+1) _ _ _ _ _ (q1f _ _) (q1m (q1m g1 _) _) hl1 (by simp; omega) (by simpa using hg.2) (by simp; omega) (by omega) fun L' S' k1 k2 k3=>⟨big (by decide),h L' S' k1 (by rw [k2]; simp only [nf]; omega) (((hx1.app _).app _).trans k3)⟩
 | ap f a ihf iha=>
  intro n hn env c p L S E Q hp hq hl ne hg z1 z2 h
  obtain ⟨m,rfl⟩:∃m,n=m+1:=⟨n - 1,by omega⟩
  rw [hT]
  refine ⟨rfl,?_⟩
  unfold q2j
  simp only [Tm.dp] at hn
  simp only [Tm.sz] at z1 z2
  refine seqI fun K hK=>?_
  dsimp! [Tm.pv,q0g,tgc]
  refine hK _ _ ?_
  refine seqI fun K hK=>?_
  dsimp! [q0g,tgb]
  refine hK _ _ ?_
  refine seqI fun K hK=>?_
  dsimp! [q0g]
  refine seqI fun K2 hK2=>?_
  dsimp! [q2q]
  have hnf:=nf_sz f
  refine ihf m (by omega) env c p L _ _ _ hp hq hl ne hg.1 (by omega) (by omega) fun L1 S1 k1 k2 k3=>hK2 _ _ ?_
  dsimp! [q3z]
  refine iha m (by omega) env (c+nf f) p L1 _ _ _ (k3.get hp (by simp; exact ne)) k1 k2 ne hg.2 (by omega) (by omega) fun L2 S2 r1 r2 r3=>⟨big (by decide),h L2 S2 r1 (by rw [r2]; simp only [nf]; omega) (k3.trans r3)⟩
def Nt.wf:Nt→List Nat→Prop
 | .vr i,env=>i∈env
 | .fn _ o t,env=>o≤1000∧t.wf (env++[o])
 | .ap f a,env=>f.wf env∧a.wf env
 | _,_=>True
theorem idx_mem_ints (env:List Nat) (i:Nat) (h:i∈env):(env.map fun x:Nat=>(x:Int)).idxOf (i:Int)=env.idxOf i:=by
 induction env with
 | nil=>cases h
 | cons a r ih=>
  rw [List.map_cons,List.idxOf_cons,List.idxOf_cons]
  by_cases e:a=i
  ·subst e; simp
  ·have e1:(a == i)=false:=by simpa using e
   have e2:((a:Int) == (i:Int))=false:=by simp; omega
   rw [e1,e2]
   simp only [cond_false]
   rw [ih (by rcases List.mem_cons.mp h with z | z; exact absurd z.symm e; exact z)]
theorem z1u:∀l:List Nat,q5u (encI l)=some (l.map fun x:Nat=>(x:Int))
 | []=>rfl
 | x::r=>by have:=z1u r; simp only [encI] at this; simp only [encI,List.map_cons,q5u,this,Option.map_some]
theorem together_ok {T:Nat→Den} (hT:∀n,T (n+1)=fnP 2 2 (q1s (T n))):∀(x:Nt) (n:Nat),x.dp<n→∀(env:List Nat) (p:Nat) (S:q0l) (E:EK) (Q:VC),S[p]?=some (.lst (encI env))→x.wf env→(∀i∈env,i≤1000)→env.length+x.dp≤1000→
  (∀S',Ex [] S S'→Q (tgr x env).pv S')→T n [x.pv,.ref p] S E Q:=by
 intro x
 induction x with
 | nm w=>
  intro n hn env p S E Q hp hw he hl h
  obtain ⟨m,rfl⟩:∃m,n=m+1:=⟨n - 1,by omega⟩
  rw [hT]
  refine ⟨rfl,?_⟩
  unfold q1s
  refine seqI fun K hK=>?_
  dsimp! [Nt.pv,q0g,tv1]
  refine hK _ _ ?_
  refine seqI fun K hK=>?_
  dsimp! [q0g,tg1]
  refine hK _ _ ?_
  refine seqI fun K hK=>?_
  dsimp! [q0g,tg2]
  refine hK _ _ ?_
  dsimp! [true_and]
  exact h S (Ex.refl _ _)
 | lf a b=>
  intro n hn env p S E Q hp hw he hl h
  obtain ⟨m,rfl⟩:∃m,n=m+1:=⟨n - 1,by omega⟩
  rw [hT]
  refine ⟨rfl,?_⟩
  unfold q1s
  refine seqI fun K hK=>?_
  dsimp! [Nt.pv,q0g,tv2]
  refine hK _ _ ?_
  refine seqI fun K hK=>?_
  dsimp! [q0g,tg4]
  refine hK _ _ ?_
  refine seqI fun K hK=>?_
  dsimp! [q0g,tg5]
  refine hK _ _ ?_
  dsimp! [true_and]
  exact h S (Ex.refl _ _)
 | vr i=>
  intro n hn env p S E Q hp hw he hl h
  obtain ⟨m,rfl⟩:∃m,n=m+1:=⟨n - 1,by omega⟩
  rw [hT]
  refine ⟨rfl,?_⟩
  unfold q1s
  refine seqI fun K hK=>?_
  have hw:i∈env:=hw
  have hla:(encI env).length=env.length:=by simp [encI]
  have hlt:=List.idxOf_lt_length_of_mem hw
  dsimp! [Nt.pv,q0g,q2q,q1c hp,hp,hla,mIndexL,Option.bind_some,z1u,idx_mem_ints env i hw]
  rw [show (env.length:Int) - 1 - (env.idxOf i:Nat)=((env.length - 1 - env.idxOf i:Nat):Int) by omega]
  refine ⟨⟨by simp; omega,fun y hy=>?_,List.mem_map.mpr ⟨i,hw,rfl⟩⟩,big (by decide),h S (Ex.refl _ _)⟩
  obtain ⟨z,hz,rfl⟩:=List.mem_map.mp hy
  have:=he z hz
  omega
 | fn kk o b ih=>
  intro n hn env p S E Q hp hw he hl h
  obtain ⟨m,rfl⟩:∃m,n=m+1:=⟨n - 1,by omega⟩
  rw [hT]
  refine ⟨rfl,?_⟩
  unfold q1s
  simp only [Nt.dp] at hn hl
  refine seqI fun K hK=>?_
  dsimp! [Nt.pv,q0g,tv3]
  refine hK _ _ ?_
  refine seqI fun K hK=>?_
  have g3:=q1m hp [SO.lst [PV.int ((o:Nat):Int)]]
  have g4:=q1f S (SO.lst [PV.int ((o:Nat):Int)])
  have hla:(encI env).length=env.length:=by simp [encI]
  dsimp! [q0g,q2q,q3z,atI_3]
  refine ⟨big (by decide),?_⟩
  dsimp! [q1g g3,q1g g4]
  have e5:encI env++[PV.int ((o:Nat):Int)]=encI (env++[o]):=by simp [encI]
  rw [e5]
  refine ⟨by rw [hla]; exact big (by omega),?_⟩
  refine ih m (by omega) (env++[o]) _ _ _ _ (q1f _ _) hw.2 (fun i hi=>?_) (by simp; omega) fun S' hx=>⟨big (by decide),h S' (((Ex.new _ _ _).app _).trans hx)⟩
  rcases List.mem_append.mp hi with z | z
  ·exact he i z
  ·simp at z; subst z; exact hw.1
 | ap f a ihf iha=>
  intro n hn env p S E Q hp hw he hl h
  obtain ⟨m,rfl⟩:∃m,n=m+1:=⟨n - 1,by omega⟩
  rw [hT]
  refine ⟨rfl,?_⟩
  unfold q1s
  simp only [Nt.dp] at hn hl
  refine seqI fun K hK=>?_
  dsimp! [Nt.pv,q0g,tv4]
  refine hK _ _ ?_
  refine seqI fun K hK=>?_
  dsimp! [q0g,tgb]
  refine hK _ _ ?_
  refine seqI fun K hK=>?_
  dsimp! [q0g,q2q]
  refine ihf m (by omega) env p _ _ _ hp hw.1 he (by omega) fun S1 hx1=>?_
  dsimp! [q3z]
  refine iha m (by omega) env p _ _ _ (hx1.get hp (by simp)) hw.2 he (by omega) fun S2 hx2=>⟨big (by decide),h S2 (hx1.trans hx2)⟩
mutual
theorem z1n:∀x:PV,q1i x=true→nrf x=true
 | .str _,_=>rfl
 | .int _,_=>rfl
 | .tup xs,h=>by rw [q1i,Bool.and_eq_true] at h; rw [z1m]; exact nrfs_plain xs h.1
 | .non,h=>by simp [q1i] at h
 | .bl _,h=>by simp [q1i] at h
 | .ty _,h=>by simp [q1i] at h
 | .frl _,h=>by simp [q1i] at h
 | .ref _,h=>by simp [q1i] at h
theorem nrfs_plain:∀xs:List PV,q2w xs=true→nrfs xs=true
 | [],_=>rfl
 | x::r,h=>by
  rw [q2w,Bool.and_eq_true] at h
  simp only [nrfs,z1n x h.1,nrfs_plain r h.2,Bool.and_self]
end
mutual
theorem eqB_plain:∀x:PV,q1i x=true→eqB x x=true
 | .str s,_=>by rw [q6n]; simp
 | .int i,_=>by rw [eqB_ii]; simp
 | .tup xs,h=>by rw [q1i,Bool.and_eq_true] at h; rw [eqB_tt]; exact eqBs_plain xs h.1
 | .non,h=>by simp [q1i] at h
 | .bl _,h=>by simp [q1i] at h
 | .ty _,h=>by simp [q1i] at h
 | .frl _,h=>by simp [q1i] at h
 | .ref _,h=>by simp [q1i] at h
theorem eqBs_plain:∀xs:List PV,q2w xs=true→eqBs xs xs=true
 | [],_=>by simp [eqBs]
 | x::r,h=>by
  rw [q2w,Bool.and_eq_true] at h
  simp only [eqBs,eqB_plain x h.1,eqBs_plain r h.2,Bool.and_self]
end
def Tm.pp:Tm→Prop
 | .lf _ f=>q1i f=true∧dep f≤30
 | .fn k t=>(q1i k=true∧dep k≤30)∧t.pp
 | .ap f a=>f.pp∧a.pp
 | _=>True
theorem gd_pp:∀(t:Tm) (n:Nat),t.gd n→t.pp
 | .nm _,_,_=>trivial
 | .lf _ _,_,h=>h
 | .bd _,_,_=>trivial
 | .fn _ t,n,h=>⟨h.1,gd_pp t _ h.2⟩
 | .ap f a,n,h=>⟨gd_pp f n h.1,gd_pp a n h.2⟩
theorem pp_pv:∀t:Tm,t.pp→q1i t.pv=true∧dep t.pv≤t.dp+32
 | .nm _,_=>by simp [Tm.pv,q1i,q2w,dep,deps]
 | .lf _ f,h=>by simp only [Tm.pv,q1i,q2w,List.length_cons,List.length_nil,Nat.reduceAdd,Nat.reduceLeDiff,decide_true,Bool.and_true,dep,deps,h.1,Bool.and_self,Tm.dp,true_and]; have:=h.2; omega
 | .bd _,_=>by simp [Tm.pv,q1i,q2w,dep,deps]
 | .fn k t,h=>by
  obtain ⟨h1,h2⟩:=pp_pv t h.2
  simp only [Tm.pv,q1i,q2w,List.length_cons,List.length_nil,Nat.reduceAdd,Nat.reduceLeDiff,decide_true,Bool.and_true,dep,deps,h.1.1,h1,Bool.and_self,Tm.dp,true_and]; have:=h.1.2; omega
 | .ap f a,h=>by
  obtain ⟨h1,h2⟩:=pp_pv f h.1
  obtain ⟨h3,h4⟩:=pp_pv a h.2
  simp only [Tm.pv,q1i,q2w,List.length_cons,List.length_nil,Nat.reduceAdd,Nat.reduceLeDiff,decide_true,Bool.and_true,dep,deps,h1,h3,Bool.and_self,Tm.dp,true_and]; omega
def Nt.gp:Nt→Prop
 | .lf _ f=>q1i f=true∧dep f≤30
 | .fn k _ t=>(q1i k=true∧dep k≤30)∧t.gp
 | .ap f a=>f.gp∧a.gp
 | _=>True
theorem gp_pv:∀t:Nt,t.gp→q1i t.pv=true∧dep t.pv≤t.dp+32
 | .nm _,_=>by simp [Nt.pv,q1i,q2w,dep,deps]
 | .lf _ f,h=>by simp only [Nt.pv,q1i,q2w,List.length_cons,List.length_nil,Nat.reduceAdd,Nat.reduceLeDiff,decide_true,Bool.and_true,dep,deps,h.1,Bool.and_self,Nt.dp,true_and]; have:=h.2; omega
 | .vr _,_=>by simp [Nt.pv,q1i,q2w,dep,deps]
 | .fn k o t,h=>by
  obtain ⟨h1,h2⟩:=gp_pv t h.2
  simp only [Nt.pv,q1i,q2w,List.length_cons,List.length_nil,Nat.reduceAdd,Nat.reduceLeDiff,decide_true,Bool.and_true,dep,deps,h.1.1,h1,Bool.and_self,Nt.dp,true_and]; have:=h.1.2; omega
 | .ap f a,h=>by
  obtain ⟨h1,h2⟩:=gp_pv f h.1
  obtain ⟨h3,h4⟩:=gp_pv a h.2
  simp only [Nt.pv,q1i,q2w,List.length_cons,List.length_nil,Nat.reduceAdd,Nat.reduceLeDiff,decide_true,Bool.and_true,dep,deps,h1,h3,Bool.and_self,Nt.dp,true_and]; omega
theorem z0h:∀(t:Tm) (env:List Nat) (c n:Nat),t.gd n→(apt t env c).gp∧(apt t env c).dp=t.dp
 | .nm _,_,_,_,_=>⟨trivial,rfl⟩
 | .lf _ _,_,_,_,h=>⟨h,rfl⟩
 | .bd _,_,_,_,_=>⟨trivial,rfl⟩
 | .fn k t,env,c,n,h=>by obtain ⟨h1,h2⟩:=z0h t (env++[c+1]) (c+1) _ h.2; exact ⟨⟨h.1,h1⟩,by simp only [apt,Nt.dp,Tm.dp,h2]⟩
 | .ap f a,env,c,n,h=>by
  obtain ⟨h1,h2⟩:=z0h f env c _ h.1
  obtain ⟨h3,h4⟩:=z0h a env (c+nf f) _ h.2
  exact ⟨⟨h1,h3⟩,by simp only [apt,Nt.dp,Tm.dp,h2,h4]⟩
theorem wf_mono:∀(x:Nt) (e1 e2:List Nat),x.wf e1→(∀i∈e1,i∈e2)→x.wf e2
 | .nm _,_,_,_,_=>trivial
 | .lf _ _,_,_,_,_=>trivial
 | .vr i,_,_,h,s=>s i h
 | .fn k o t,e1,e2,h,s=>⟨h.1,wf_mono t _ _ h.2 fun i hi=>by
  rcases List.mem_append.mp hi with z | z
  ·exact List.mem_append_left _ (s i z)
  ·exact List.mem_append_right _ z⟩
 | .ap f a,e1,e2,h,s=>⟨wf_mono f _ _ h.1 s,wf_mono a _ _ h.2 s⟩
theorem z2a:∀(t:Tm) (env:List Nat) (c:Nat),t.gd env.length→c+nf t≤1000→(apt t env c).wf env
 | .nm _,_,_,_,_=>trivial
 | .lf _ _,_,_,_,_=>trivial
 | .bd k,env,c,h,_=>by
  have h:k<env.length:=h
  show env.getD (env.length - 1 - k) 0∈env
  rw [List.getD_eq_getElem?_getD,List.getElem?_eq_getElem (by omega)]
  exact List.getElem_mem _
 | .fn k t,env,c,h,hc=>by
  simp only [nf] at hc
  exact ⟨by omega,z2a t _ _ (by simpa using h.2) (by omega)⟩
 | .ap f a,env,c,h,hc=>by
  simp only [nf] at hc
  exact ⟨z2a f _ _ h.1 (by omega),z2a a _ _ h.2 (by omega)⟩
theorem pt_wf:∀(x:Nt) (o:Nat) (a:Nt) (e1 e2:List Nat),x.wf e1→(∀i∈e1,i=o∨i∈e2)→a.wf e2→(pt x o a).wf e2∧(pt x o a).dp≤x.dp+a.dp
 | .nm _,_,_,_,_,_,_,_=>⟨trivial,Nat.zero_le _⟩
 | .lf _ _,_,_,_,_,_,_,_=>⟨trivial,Nat.zero_le _⟩
 | .vr i,o,a,e1,e2,h,s,ha=>by
  rw [pt]
  split
  ·exact ⟨ha,by omega⟩
  ·rename_i hne
   rcases s i h with z | z
   ·exact absurd z hne
   ·exact ⟨z,Nat.zero_le _⟩
 | .fn k o' t,o,a,e1,e2,h,s,ha=>by
  obtain ⟨h1,h2⟩:=pt_wf t o a (e1++[o']) (e2++[o']) h.2 (fun i hi=>by
   rcases List.mem_append.mp hi with z | z
   ·rcases s i z with z | z
    ·exact .inl z
    ·exact .inr (List.mem_append_left _ z)
   ·exact .inr (List.mem_append_right _ z)) (wf_mono a _ _ ha fun i hi=>List.mem_append_left _ hi)
  exact ⟨⟨h.1,h1⟩,by simp only [pt,Nt.dp]; omega⟩
 | .ap f x,o,a,e1,e2,h,s,ha=>by
  obtain ⟨h1,h2⟩:=pt_wf f o a e1 e2 h.1 s ha
  obtain ⟨h3,h4⟩:=pt_wf x o a e1 e2 h.2 s ha
  exact ⟨⟨h1,h3⟩,by simp only [pt,Nt.dp]; omega⟩
theorem da_wf {t:Tm} {p:List Nat} (h:Pl t p):∀(env:List Nat) (c:Nat),t.gd env.length→c+nf t≤1000→(da (apt t env c) p).wf env∧(da (apt t env c) p).dp≤2*t.dp:=by
 induction h with
 | here k b a=>
  intro env c hg hc
  simp only [nf] at hc
  have e:da (apt (.ap (.fn k b) a) env c) []=pt (apt b (env++[c+1]) (c+1)) (c+1) (apt a env (c+(nf b+1))):=by simp only [apt,da,nf]
  rw [e]
  have d1:=(z0h b (env++[c+1]) (c+1) _ hg.1.2).2
  have d2:=(z0h a env (c+(nf b+1)) _ hg.2).2
  obtain ⟨h1,h2⟩:=pt_wf (apt b (env++[c+1]) (c+1)) (c+1) (apt a env (c+(nf b+1))) (env++[c+1]) env (z2a b _ _ (by simpa using hg.1.2) (by omega)) (fun i hi=>by
   rcases List.mem_append.mp hi with z | z
   ·exact .inr z
   ·exact .inl (by simpa using z)) (z2a a _ _ hg.2 (by omega))
  exact ⟨h1,by simp only [Tm.dp]; omega⟩
 | fn k t p _ ih=>
  intro env c hg hc
  simp only [nf] at hc
  obtain ⟨h1,h2⟩:=ih (env++[c+1]) (c+1) (by simpa using hg.2) (by omega)
  simp only [apt,da]
  exact ⟨⟨by omega,h1⟩,by simp only [Nt.dp,Tm.dp]; omega⟩
 | l f a p _ ih=>
  intro env c hg hc
  simp only [nf] at hc
  obtain ⟨h1,h2⟩:=ih env c hg.1 (by omega)
  have d2:=(z0h a env (c+nf f) _ hg.2).2
  simp only [apt,da]
  exact ⟨⟨h1,z2a a _ _ hg.2 (by omega)⟩,by simp only [Nt.dp,Tm.dp]; omega⟩
 | r f a p _ ih=>
  intro env c hg hc
  simp only [nf] at hc
  obtain ⟨h1,h2⟩:=ih env (c+nf f) hg.2 (by omega)
  have d2:=(z0h f env c _ hg.1).2
  have e:da (apt (.ap f a) env c) (1::p)=.ap (apt f env c) (da (apt a env (c+nf f)) p):=by simp only [apt,da]
  rw [e]
  exact ⟨⟨z2a f _ _ hg.1 (by omega),h1⟩,by simp only [Nt.dp,Tm.dp]; omega⟩
theorem okEq_gp {x:Nt} (h:x.gp) (hd:x.dp≤158):okEq x.pv:=⟨z1n _ (gp_pv x h).1,by have:=(gp_pv x h).2; omega⟩
theorem q8b (o:Nat):okEq (.tup [.str (Str.ofString "var"),.int (o:Nat)]):=⟨by simp [nrf,nrfs],by simp [dep,deps]⟩
theorem put_ok {T:Nat→Den} (hT:∀n,T (n+1)=fnP 3 3 (q3c (T n))) (o:Nat) (y:Nt):∀(x:Nt) (n:Nat),x.dp<n→x.gp→x.dp≤158→∀(S:q0l) (E:EK) (Q:VC),Q (pt x o y).pv S→T n [x.pv,.int o,y.pv] S E Q:=by
 intro x
 induction x with
 | nm w=>
  intro n hn hg hd S E Q h
  obtain ⟨m,rfl⟩:∃m,n=m+1:=⟨n - 1,by omega⟩
  rw [hT]
  refine ⟨rfl,?_⟩
  unfold q3c
  have ok:=okEq_gp hg hd
  simp only [Nt.pv] at ok
  have e:eqBs [PV.str (Str.ofString "name"),.str w] [PV.str (Str.ofString "var"),.int (o:Nat)]=false:=by simp only [eqBs,q6n,tv1,decide_false,Bool.false_and]
  refine seqI fun K hK=>?_
  dsimp! [Nt.pv,e]
  refine ⟨big (by decide),⟨ok,q8b o⟩,hK _ _ ?_⟩
  refine seqI fun K hK=>?_
  dsimp! [q0g,tg1]
  refine hK _ _ ?_
  refine seqI fun K hK=>?_
  dsimp! [q0g,tg2]
  refine hK _ _ ?_
  dsimp! [true_and]
  exact h
 | lf a b=>
  intro n hn hg hd S E Q h
  obtain ⟨m,rfl⟩:∃m,n=m+1:=⟨n - 1,by omega⟩
  rw [hT]
  refine ⟨rfl,?_⟩
  unfold q3c
  have ok:=okEq_gp hg hd
  simp only [Nt.pv] at ok
  have e:eqBs [PV.str (Str.ofString "leaf"),.int a,b] [PV.str (Str.ofString "var"),.int (o:Nat)]=false:=by simp only [eqBs,q6n,tv2,decide_false,Bool.false_and]
  refine seqI fun K hK=>?_
  dsimp! [Nt.pv,e]
  refine ⟨big (by decide),⟨ok,q8b o⟩,hK _ _ ?_⟩
  refine seqI fun K hK=>?_
  dsimp! [q0g,tg4]
  refine hK _ _ ?_
  refine seqI fun K hK=>?_
  dsimp! [q0g,tg5]
  refine hK _ _ ?_
  dsimp! [true_and]
  exact h
 | vr i=>
  intro n hn hg hd S E Q h
  obtain ⟨m,rfl⟩:∃m,n=m+1:=⟨n - 1,by omega⟩
  rw [hT]
  refine ⟨rfl,?_⟩
  unfold q3c
  have e:eqBs [PV.str (Str.ofString "var"),.int (i:Nat)] [PV.str (Str.ofString "var"),.int (o:Nat)]=decide (i=o):=by
   simp only [eqBs,q6n,eqB_ii,decide_true,Bool.true_and,List.isEmpty_nil,Bool.and_true]
   rw [decide_eq_decide]; omega
  refine seqI fun K hK=>?_
  dsimp! [Nt.pv,e]
  refine ⟨big (by decide),⟨q8b i,q8b o⟩,?_⟩
  rw [pt] at h
  by_cases c:i=o
  ·rw [if_pos c]
   rw [if_pos c] at h
   exact h
  ·rw [if_neg c]
   rw [if_neg c] at h
   refine hK _ _ ?_
   refine seqI fun K hK=>?_
   dsimp! [q0g,tv5]
   refine hK _ _ ?_
   refine seqI fun K hK=>?_
   dsimp! [q0g,tv6]
   refine hK _ _ ?_
   dsimp! [true_and]
   exact h
 | fn kk o' b ih=>
  intro n hn hg hd S E Q h
  obtain ⟨m,rfl⟩:∃m,n=m+1:=⟨n - 1,by omega⟩
  rw [hT]
  refine ⟨rfl,?_⟩
  unfold q3c
  have ok:=okEq_gp hg hd
  simp only [Nt.pv] at ok
  simp only [Nt.dp] at hn hd
  have e:eqBs [PV.str (Str.ofString "fn"),kk,.int (o':Nat),b.pv] [PV.str (Str.ofString "var"),.int (o:Nat)]=false:=by simp only [eqBs,q6n,tv3,decide_false,Bool.false_and]
  refine seqI fun K hK=>?_
  dsimp! [Nt.pv,e]
  refine ⟨big (by decide),⟨ok,q8b o⟩,hK _ _ ?_⟩
  refine seqI fun K hK=>?_
  dsimp! [q0g,q2q,q3z,atI_3]
  exact ih m (by omega) hg.2 (by omega) _ _ _ ⟨big (by decide),h⟩
 | ap f a ihf iha=>
  intro n hn hg hd S E Q h
  obtain ⟨m,rfl⟩:∃m,n=m+1:=⟨n - 1,by omega⟩
  rw [hT]
  refine ⟨rfl,?_⟩
  unfold q3c
  have ok:=okEq_gp hg hd
  simp only [Nt.pv] at ok
  simp only [Nt.dp] at hn hd
  have e:eqBs [PV.str (Str.ofString "of"),f.pv,a.pv] [PV.str (Str.ofString "var"),.int (o:Nat)]=false:=by simp only [eqBs,q6n,tv4,decide_false,Bool.false_and]
  refine seqI fun K hK=>?_
  dsimp! [Nt.pv,e]
  refine ⟨big (by decide),⟨ok,q8b o⟩,hK _ _ ?_⟩
  refine seqI fun K hK=>?_
  dsimp! [q0g,tgb]
  refine hK _ _ ?_
  refine seqI fun K hK=>?_
  dsimp! [q0g,q2q,q3z]
  exact ihf m (by omega) hg.1 (by omega) _ _ _ (iha m (by omega) hg.2 (by omega) _ _ _ ⟨big (by decide),h⟩)
theorem z1l (l:List Nat):okEq (.tup (encI l)):=by
 obtain ⟨h1,h2⟩:=q6k l
 have:deps (encI l)=0:=by
  induction l with
  | nil=>rfl
  | cons a r ih=>simp only [encI,List.map_cons,deps,dep] at ih ⊢; rw [ih (q6k r).1 (q6k r).2]; rfl
 exact ⟨by rw [z1m]; exact h1,by simp only [dep,this]; omega⟩
theorem q7q:okEq (.tup []):=⟨by simp [nrf,nrfs],by simp [dep,deps]⟩
theorem cut_one (k:Nat) (q:List Nat):cutP (encI (k::q)) (some 1) none=encI q:=by
 have:=cut_suf (encI (k::q)) 1 (by simp [encI])
 simpa [encI] using this
theorem one_cut (k:Nat) (q:List Nat) (b:Prop):¬(HT.sIx (encI (k::q)).length 0 (some 1)=0∧b):=by
 rintro ⟨h,_⟩
 rw [show (1:Int)=((1:Nat):Int) from rfl,HT.sIx_nat] at h
 simp [encI] at h
theorem dapart_ok {T P:Nat→Den} (hT:∀n,T (n+1)=fnP 2 2 (q1n (P n) (T n))) (hP:∀(n o:Nat) (x y:Nt),x.dp<n→x.gp→x.dp≤158→∀(S:q0l) (E:EK) (Q:VC),Q (pt x o y).pv S→P n [x.pv,.int o,y.pv] S E Q) {t:Tm} {p:List Nat} (h:Pl t p) :
  ∀(env:List Nat) (c n m:Nat),t.gd m→t.dp<n→t.dp≤158→∀(S:q0l) (E:EK) (Q:VC),Q (da (apt t env c) p).pv S→T n [(apt t env c).pv,.tup (encI p)] S E Q:=by
 induction h with
 | here k b a=>
  intro env c n m hg hn hd S E Q h
  obtain ⟨n,rfl⟩:∃m,n=m+1:=⟨n - 1,by omega⟩
  rw [hT]
  refine ⟨rfl,?_⟩
  unfold q1n
  simp only [Tm.dp] at hn hd
  refine seqI fun K hK=>?_
  obtain ⟨g1,g2⟩:=z0h b (env++[c+1]) (c+1) _ hg.1.2
  have e:eqBs (encI []) []=true:=rfl
  dsimp! [apt,Nt.pv,q0g,q2q,q3z,atI_3,e]
  refine ⟨big (by decide),⟨q7q,q7q⟩,?_⟩
  exact hP n (c+1) _ _ (by omega) g1 (by omega) _ _ _ h
 | fn k t p _ ih=>
  intro env c n m hg hn hd S E Q h
  obtain ⟨n,rfl⟩:∃m,n=m+1:=⟨n - 1,by omega⟩
  rw [hT]
  refine ⟨rfl,?_⟩
  unfold q1n
  simp only [Tm.dp] at hn hd
  refine seqI fun K hK=>?_
  have e:eqBs (encI (0::p)) []=false:=rfl
  dsimp! [apt,Nt.pv,e]
  refine ⟨big (by decide),⟨z1l _,q7q⟩,hK _ _ ?_⟩
  refine seqI fun K hK=>?_
  dsimp! [q0g,q2q,q3z,atI_3,cut_one]
  refine ⟨one_cut _ _ _,ih _ _ n _ hg.2 (by omega) (by omega) _ _ _ ?_⟩
  exact ⟨big (by decide),h⟩
 | l f a p _ ih=>
  intro env c n m hg hn hd S E Q h
  obtain ⟨n,rfl⟩:∃m,n=m+1:=⟨n - 1,by omega⟩
  rw [hT]
  refine ⟨rfl,?_⟩
  unfold q1n
  simp only [Tm.dp] at hn hd
  refine seqI fun K hK=>?_
  have e:eqBs (encI (0::p)) []=false:=rfl
  have e0:atI (encI (0::p)) 0=some (.int 0):=q0g _ _
  dsimp! [apt,Nt.pv,e]
  refine ⟨big (by decide),⟨z1l _,q7q⟩,hK _ _ ?_⟩
  refine seqI fun K hK=>?_
  dsimp! [q0g,tgb]
  refine hK _ _ ?_
  refine seqI fun K hK=>?_
  dsimp! [q2q,q3z,cut_one,e0]
  rw [show da (apt (.ap f a) env c) (0::p)=.ap (da (apt f env c) p) (apt a env (c+nf f)) by simp only [apt,da]] at h
  refine ⟨one_cut _ _ _,ih _ _ n _ hg.1 (by omega) (by omega) _ _ _ ?_⟩
  exact ⟨big (by decide),h⟩
 | r f a p _ ih=>
  intro env c n m hg hn hd S E Q h
  obtain ⟨n,rfl⟩:∃m,n=m+1:=⟨n - 1,by omega⟩
  rw [hT]
  refine ⟨rfl,?_⟩
  unfold q1n
  simp only [Tm.dp] at hn hd
  refine seqI fun K hK=>?_
  have e:eqBs (encI (1::p)) []=false:=rfl
  have e0:atI (encI (1::p)) 0=some (.int 1):=q0g _ _
  dsimp! [apt,Nt.pv,e]
  refine ⟨big (by decide),⟨z1l _,q7q⟩,hK _ _ ?_⟩
  refine seqI fun K hK=>?_
  dsimp! [q0g,tgb]
  refine hK _ _ ?_
  refine seqI fun K hK=>?_
  dsimp! [q2q,q3z,cut_one,e0]
  refine hK _ _ ?_
  dsimp! [q2q,q3z,cut_one]
  rw [show da (apt (.ap f a) env c) (1::p)=.ap (apt f env c) (da (apt a env (c+nf f)) p) by simp only [apt,da]] at h
  refine ⟨one_cut _ _ _,ih _ _ n _ hg.2 (by omega) (by omega) _ _ _ ?_⟩
  exact ⟨big (by decide),h⟩
theorem dep_mem:∀{xs:List PV} {x:PV},x∈xs→dep x≤deps xs
 | y::r,x,h=>by
  rcases List.mem_cons.mp h with z | z
  ·subst z; simp only [deps]; omega
  ·have:=dep_mem z; simp only [deps]; omega
theorem plain_mem:∀{xs:List PV} {x:PV},q2w xs=true→x∈xs→q1i x=true
 | y::r,x,hp,h=>by
  rw [q2w,Bool.and_eq_true] at hp
  rcases List.mem_cons.mp h with z | z
  ·subst z; exact hp.1
  ·exact plain_mem hp.2 z
theorem bls_rep:∀n:Nat,blsOf (List.replicate n (PV.bl true))=some (List.replicate n true)
 | 0=>rfl
 | n+1=>by simp only [List.replicate,blsOf,bls_rep n,Option.map_some]
theorem zip_self:∀xs:List PV,zipP xs xs=xs.map fun z=>PV.tup [z,z]
 | []=>rfl
 | x::r=>by have:=zip_self r; unfold zipP at this ⊢; rw [List.zip_cons_cons,List.map_cons,this]; rfl
theorem same_pv {T:Nat→Den} (hT:∀n,T (n+1)=fnP 2 2 (q5c (T n))):∀(n:Nat) (x:PV),q1i x=true→dep x<n→∀(S:q0l) (E:EK) (Q:VC),(∀S',Ex [] S S'→Q (.bl true) S')→T n [x,x] S E Q:=by
 intro n
 induction n with
 | zero=>intro x _ h; omega
 | succ n ih=>
  intro x hp hd S E Q h
  rw [hT]
  refine ⟨rfl,?_⟩
  unfold q5c
  refine seqI fun K hK=>?_
  cases x with
  | str s=>
   dsimp! [true_and]
   exact h S (Ex.refl _ _)
  | int i=>
   dsimp! [true_and]
   refine hK _ _ ?_
   refine seqI fun K hK=>?_
   dsimp! [true_and]
   exact h S (Ex.refl _ _)
  | tup xs=>
   rw [q1i,Bool.and_eq_true,decide_eq_true_eq] at hp
   simp only [dep] at hd
   dsimp! [true_and]
   refine hK _ _ ?_
   refine seqI fun K hK=>?_
   dsimp! [true_and]
   refine hK _ _ ?_
   refine seqI fun K hK=>?_
   dsimp! [true_and]
   refine hK _ _ ?_
   dsimp! [sqOf]
   rw [zip_self]
   refine ⟨by rw [List.length_map]; exact big (by omega),?_⟩
   refine compI (fun rest ys σ S2=>∃(zs:List PV) (j1 j2:Option PV) (m:Nat),rest=zs.map (fun z=>PV.tup [z,z])∧(∀z∈zs,z∈xs)∧ys=List.replicate m (PV.bl true)∧σ=[j1,j2]∧Ex [] S S2) ?_ ?_ _ _ _ _ ⟨xs,none,none,0,rfl,fun _ z=>z,rfl,rfl,Ex.refl _ _⟩
   ·rintro ys σ S2 ⟨zs,j1,j2,m,hr,hz,rfl,rfl,hx⟩
    refine ⟨trivial,?_⟩
    simp only [seq_new,Option.bind_some,bls_rep]
    have:=h _ (hx.app [.lst (List.replicate m (PV.bl true))])
    simpa using this
   ·rintro x rest ys σ S2 ⟨zs,j1,j2,m,hr,hz,rfl,rfl,hx⟩ N hN
    obtain ⟨u,zs,rfl⟩:∃p r,zs=p::r:=by
     cases zs with
     | nil=>simp at hr
     | cons a b=>exact ⟨a,b,rfl⟩
    simp only [List.map_cons,List.cons.injEq] at hr
    obtain ⟨rfl,rfl⟩:=hr
    refine ⟨trivial,?_⟩
    dsimp! [true_and]
    have hm:=hz u (by simp)
    refine ih u (plain_mem hp.1 hm) (by have:=dep_mem hm; omega) _ _ _ fun S3 hx3=>?_
    exact hN _ _ _ ⟨zs,_,_,m+1,rfl,fun z hz'=>hz z (by simp [hz']),by rw [List.replicate_succ'],rfl,hx.trans hx3⟩
  | non=>simp [q1i] at hp
  | bl _=>simp [q1i] at hp
  | ty _=>simp [q1i] at hp
  | frl _=>simp [q1i] at hp
  | ref _=>simp [q1i] at hp
  | exc _=>simp [q1i] at hp
def q4h (spis_to_do:Den) (spinner_of:Den):WS:=
 (wSeq (wSet 1 (wLst wNil))
 (wSeq (wSet 2 (wLst (q0d (wTup (q0d (wVar 0) (q0d (wTup wNil) wNil))) wNil)))
 (wSeq (z0c (wTru (wVar 2)) (wSeq (wAsg (wBM0 "list" mPop (wVar 2)) (q8d 2 (q2s (q1u 3) (q2s (q1u 4) q8e))))
 (wSeq (wIfS (wTru (q0v spis_to_do (q0d (wVar 3) wNil)))
 (q4d (wBM "list" q2f (wVar 1) (q0d (wVar 4) wNil)))
 q1o)
 (wSeq (wSet 5 (q0v spinner_of (q0d (wVar 3) wNil)))
 (q4d (wBM "list" q8s (wVar 2) (q0d (q7i (q6b (q0d (wCB fLen (q0d (wVar 5) wNil)) wNil)) [none,some 5,some 4] (q1u 0) q4t (wTup (q0d (wBin bIx (wVar 1) (wVar 0)) (q0d (wBin bAdd (wVar 2) (wTup (q0d (wVar 0) wNil))) wNil)))) wNil)))))))
 (wRet (wVar 1)))))
def q2i (spplaces:Den):WS:=
 (wRet (wNotT (q0v spplaces (q0d (wVar 0) wNil))))
def isFn:Tm→Bool
 | .fn _ _=>true
 | _=>false
def toDo:Tm→Bool
 | .ap f _=>isFn f
 | _=>false
def pls:Tm→List (List Int)
 | .fn _ b=>(pls b).map (0::·)
 | .ap f a=>(if isFn f=true then [[]] else [])++((pls f).map (0::·)++(pls a).map (1::·))
 | _=>[]
def pj (p:List Int):PV:=.tup (p.map PV.int)
theorem q8r:∀t:Tm,(pls t).length≤t.sz∧∀p∈pls t,p.length≤t.dp
 | .nm _=>by simp [pls,Tm.sz]
 | .lf _ _=>by simp [pls,Tm.sz]
 | .bd _=>by simp [pls,Tm.sz]
 | .fn _ b=>by
  have ih:=q8r b
  refine ⟨by simp only [pls,List.length_map,Tm.sz]; omega,fun p hp=>?_⟩
  simp only [pls,List.mem_map] at hp
  obtain ⟨q,hq,rfl⟩:=hp
  have:=ih.2 q hq
  simp only [List.length_cons,Tm.dp]; omega
 | .ap f a=>by
  have hf:=q8r f
  have ha:=q8r a
  refine ⟨?_,fun p hp=>?_⟩
  ·simp only [pls,List.length_append,List.length_map,Tm.sz]
   have:(if isFn f=true then [([]:List Int)] else []).length≤1:=by split<;>simp
   omega
  ·simp only [pls,List.mem_append,List.mem_map] at hp
   rcases hp with hp | ⟨q,hq,rfl⟩ | ⟨q,hq,rfl⟩
   ·split at hp
    ·simp only [List.mem_singleton] at hp; subst hp; simp
    ·simp at hp
   ·have:=hf.2 q hq; simp only [List.length_cons,Tm.dp]; omega
   ·have:=ha.2 q hq; simp only [List.length_cons,Tm.dp]; omega
theorem hd_ne {t:Tm} (h:isFn t=false):∃(z:Str) (r:List PV),t.pv=.tup (.str z::r)∧(z=Str.ofString "fn")=False:=by
 cases t with
 | nm w=>exact ⟨_,_,rfl,tg1⟩
 | lf a b=>exact ⟨_,_,rfl,tg4⟩
 | bd k=>exact ⟨_,_,rfl,tg7⟩
 | fn k b=>cases h
 | ap f a=>exact ⟨_,_,rfl,tgb⟩
theorem z1j {v:Int} {Q:VC} {chk:q0l→Prop} {ps:List (List Int)} {S:q0l} (hl:∀p∈ps,p.length≤1000) (hc:chk S) (h:Q (.ref S.length) (S++[.lst ((ps.map (v::·)).map pj)])):z0g chk (q1u 0) q4t (wBin bAdd (wTup (q0d (wC (.int v)) wNil)) (wVar 0)) Q (ps.map pj) [] [none] S:=by
 refine compI (fun rest ys σ S2=>∃(zs qs:List (List Int)) (j1:Option PV),rest=zs.map pj∧ys=(qs.map (v::·)).map pj∧qs++zs=ps∧σ=[j1]∧S2=S) ?_ ?_ _ _ _ _ ⟨ps,[],none,rfl,rfl,rfl,rfl,rfl⟩
 ·rintro ys σ S2 ⟨zs,qs,j1,hr,rfl,hq,rfl,rfl⟩
  obtain rfl:zs=[]:=by cases zs with
   | nil=>rfl
   | cons a b=>simp at hr
  rw [List.append_nil] at hq
  subst hq
  exact ⟨hc,h⟩
 ·rintro x rest ys σ S2 ⟨zs,qs,j1,hr,rfl,hq,rfl,rfl⟩ N hN
  cases zs with
  | nil=>simp at hr
  | cons u zs=>
   simp only [List.map_cons,List.cons.injEq] at hr
   obtain ⟨rfl,rfl⟩:=hr
   have hul:=hl u (by rw [←hq]; simp)
   refine ⟨hc,?_⟩
   dsimp! [pj,List.length_map]
   refine ⟨big (by decide),big (by omega),?_⟩
   exact hN _ _ _ ⟨zs,qs++[u],_,rfl,by simp [pj],by simp [←hq],rfl,rfl⟩
theorem lpl_leaf {sp:Den} {z:Str} {r:List PV} (z1:(z=Str.ofString "fn")=False) (z2:(z=Str.ofString "of")=False) {S:q0l} {E:EK} {Q:VC} (h:∀(r:Nat) S',S'[r]?=some (.lst [])→S.length≤r→Ex [] S S'→Q (.ref r) S'):fnP 1 2 (q2l sp) [.tup (.str z::r)] S E Q:=by
 refine ⟨rfl,?_⟩
 unfold q2l
 refine seqI fun K hK=>?_
 dsimp! [true_and]
 refine ⟨big (by decide),hK _ _ ?_⟩
 refine seqI fun K hK=>?_
 dsimp! [q0g,z2]
 refine hK _ _ ?_
 refine seqI fun K hK=>?_
 dsimp! [q0g,z1]
 refine hK _ _ ?_
 refine seqI fun K hK=>?_
 dsimp! [q0g,z2]
 refine hK _ _ ?_
 dsimp! [true_and]
 exact h _ _ (q1f _ _) (Nat.le_refl _) (Ex.new _ _ _)
theorem lpl_ok {T:Nat→Den} (hT:∀n,T (n+1)=fnP 1 2 (q2l (T n))):∀(t:Tm) (n:Nat),t.dp<n→t.dp≤500→t.sz≤1000→∀(S:q0l) (E:EK) (Q:VC),(∀(r:Nat) S',S'[r]?=some (.lst ((pls t).map pj))→S.length≤r→Ex [] S S'→Q (.ref r) S')→T n [t.pv] S E Q:=by
 intro t
 induction t with
 | nm w=>
  intro n hn hd hz S E Q h
  obtain ⟨n,rfl⟩:∃m,n=m+1:=⟨n - 1,by omega⟩
  rw [hT]
  exact lpl_leaf tg1 tg2 h
 | lf a b=>
  intro n hn hd hz S E Q h
  obtain ⟨n,rfl⟩:∃m,n=m+1:=⟨n - 1,by omega⟩
  rw [hT]
  exact lpl_leaf tg4 tg5 h
 | bd k=>
  intro n hn hd hz S E Q h
  obtain ⟨n,rfl⟩:∃m,n=m+1:=⟨n - 1,by omega⟩
  rw [hT]
  exact lpl_leaf tg7 tg8 h
 | fn kk b ih=>
  intro n hn hd hz S E Q h
  obtain ⟨n,rfl⟩:∃m,n=m+1:=⟨n - 1,by omega⟩
  rw [hT]
  refine ⟨rfl,?_⟩
  unfold q2l
  simp only [Tm.dp] at hn hd
  simp only [Tm.sz] at hz
  have pl:=q8r b
  refine seqI fun K hK=>?_
  dsimp! [true_and]
  refine ⟨big (by decide),hK _ _ ?_⟩
  refine seqI fun K hK=>?_
  dsimp! [Tm.pv,q0g,tg9]
  refine hK _ _ ?_
  refine seqI fun K hK=>?_
  dsimp! [q0g,q3z]
  refine ih n (by omega) (by omega) (by omega) _ _ _ fun r S1 e _ hx=>?_
  dsimp! [q1c e,List.length_map]
  refine ⟨big (by omega),z1j (v:=0) (fun p hp'=>by have:=pl.2 p hp'; omega) (q1c e) ?_⟩
  have g0:=q1m (hx.get (q1f S (SO.lst [])) (by simp)) [SO.lst (((pls b).map (0::·)).map pj)]
  have g1:=q1f S1 (SO.lst (((pls b).map (0::·)).map pj))
  dsimp! [q1g g0,q1g g1,List.length_map]
  refine ⟨big (by omega),hK _ _ ?_⟩
  refine seqI fun K hK=>?_
  dsimp! [q0g,tg9]
  refine hK _ _ ?_
  dsimp! [true_and]
  exact h _ _ (q1f _ _) (by have:=hx.1; simp only [List.length_append,List.length_cons,List.length_nil] at this ⊢; omega) ((((Ex.new [] _ _).trans hx).app _).app _)
 | ap f a ihf iha=>
  intro n hn hd hz S E Q h
  obtain ⟨n,rfl⟩:∃m,n=m+1:=⟨n - 1,by omega⟩
  rw [hT]
  refine ⟨rfl,?_⟩
  unfold q2l
  simp only [Tm.dp] at hn hd
  simp only [Tm.sz] at hz
  have plf:=q8r f
  have pla:=q8r a
  refine seqI fun K hK=>?_
  dsimp! [true_and]
  refine ⟨big (by decide),hK _ _ ?_⟩
  refine seqI fun K2 hK2=>?_
  have rest:∀(p0:List (List Int)) (S0:q0l),p0=(if isFn f=true then [[]] else [])→S0[S.length]?=some (.lst (p0.map pj))→Ex [] S S0→K2 [some (Tm.ap f a).pv,some (.ref S.length)] S0:=by
   intro p0 S0 hp0 g0 hx0
   have l0:p0.length≤1:=by rw [hp0]; split<;>simp
   refine hK2 _ _ ?_
   refine seqI fun K hK=>?_
   dsimp! [Tm.pv,q0g,tgb]
   refine hK _ _ ?_
   refine seqI fun K hK=>?_
   dsimp! [q0g,q2q]
   refine seqI fun K3 hK3=>?_
   dsimp! [q2q]
   refine ihf n (by omega) (by omega) (by omega) _ _ _ fun r S1 e _ hx=>?_
   dsimp! [q1c e,List.length_map]
   refine ⟨big (by omega),z1j (v:=0) (fun p hp'=>by have:=plf.2 p hp'; omega) (q1c e) ?_⟩
   have g2:=q1m (hx.get g0 (by simp)) [SO.lst (((pls f).map (0::·)).map pj)]
   have g1:=q1f S1 (SO.lst (((pls f).map (0::·)).map pj))
   dsimp! [q1g g2,q1g g1,List.length_map]
   refine ⟨big (by omega),hK3 _ _ ?_⟩
   have hx1:=((hx0.trans hx).app [SO.lst (((pls f).map (0::·)).map pj)]).app [SO.lst (p0.map pj++((pls f).map (0::·)).map pj)]
   have g3:=q1f (S1++[SO.lst (((pls f).map (0::·)).map pj)]) (SO.lst (p0.map pj++((pls f).map (0::·)).map pj))
   generalize S1++[SO.lst (((pls f).map (0::·)).map pj)]++[SO.lst (p0.map pj++((pls f).map (0::·)).map pj)]=S3 at hx1 g3 ⊢
   generalize List.length (S1++[SO.lst (((pls f).map (0::·)).map pj)])=n3 at g3 ⊢
   dsimp! [q3z]
   refine iha n (by omega) (by omega) (by omega) _ _ _ fun r4 S4 e4 _ hx4=>?_
   dsimp! [q1c e4,List.length_map]
   refine ⟨big (by omega),z1j (v:=1) (fun p hp'=>by have:=pla.2 p hp'; omega) (q1c e4) ?_⟩
   have g5:=q1m (hx4.get g3 (by simp)) [SO.lst (((pls a).map (1::·)).map pj)]
   have g6:=q1f S4 (SO.lst (((pls a).map (1::·)).map pj))
   dsimp! [q1g g5,q1g g6,List.length_map,List.length_append]
   refine ⟨big (by omega),hK _ _ ?_⟩
   dsimp! [true_and]
   refine h _ _ ?_ (by have:=(hx1.trans hx4).1; omega) (((hx1.trans hx4).app _).app _)
   rw [show List.length S4+1=List.length (S4++[SO.lst (((pls a).map (1::·)).map pj)]) by simp,q1f,pls,←hp0]
   simp
  cases hf:isFn f with
  | true=>
   obtain ⟨kk,b,rfl⟩:∃kk b,f=.fn kk b:=by cases f<;>simp [isFn] at hf; exact ⟨_,_,rfl⟩
   have g0:=q1f S (SO.lst [])
   dsimp! [Tm.pv,q0g,q2q,g0,q1g g0]
   refine ⟨big (by decide),by decide,?_⟩
   exact rest [[]] _ (by simp [isFn]) (by rw [q1v _ g0]; rfl) ((Ex.new [] S _).set (.inr (Nat.le_refl _)))
  | false=>
   obtain ⟨z,r,e,hz'⟩:=hd_ne hf
   have:=rest [] _ (by rw [hf]; rfl) (q1f S (SO.lst [])) (Ex.new [] S _)
   simp only [Tm.pv,e] at this ⊢
   dsimp! [q0g,q2q,hz']
   exact this
theorem ap_fn (f:Tm):∃(z:Str) (r:List PV),f.pv=.tup (.str z::r)∧decide (z=Str.ofString "fn")=isFn f:=by
 cases f with
 | nm w=>exact ⟨_,_,rfl,by simp [tg1,isFn]⟩
 | lf a b=>exact ⟨_,_,rfl,by simp [tg4,isFn]⟩
 | bd k=>exact ⟨_,_,rfl,by simp [tg7,isFn]⟩
 | fn k b=>exact ⟨_,_,rfl,by simp [isFn]⟩
 | ap f a=>exact ⟨_,_,rfl,by simp [tgb,isFn]⟩
def TodoD (sp:Den):Prop:=∀(t:Tm) (S:q0l) (E:EK) (Q:VC),Q (.bl (toDo t)) S→sp [t.pv] S E Q
theorem todo_okV:TodoD (fnP 1 1 q2n):=by
 intro t S E Q h
 refine ⟨rfl,?_⟩
 unfold q2n
 cases t with
 | nm w=>dsimp! [Tm.pv,q0g,tg2]; exact h
 | lf a b=>dsimp! [Tm.pv,q0g,tg5]; exact h
 | bd k=>dsimp! [Tm.pv,q0g,tg8]; exact h
 | fn k b=>dsimp! [Tm.pv,q0g,tg9]; exact h
 | ap f a=>
  obtain ⟨z,r,e,hz⟩:=ap_fn f
  simp only [Tm.pv,e]
  dsimp! [q0g,q2q]
  have h':Q (.bl (isFn f)) S:=h
  rw [←hz] at h'
  exact h'
def inn:Tm→List Tm
 | .fn _ b=>[b]
 | .ap f a=>[f,a]
 | _=>[]
def InD (sp:Den):Prop:=∀(t:Tm) (S:q0l) (E:EK) (Q:VC),Q (.tup ((inn t).map Tm.pv)) S→sp [t.pv] S E Q
theorem in_leaf {z:Str} {r:List PV} (z1:(z=Str.ofString "fn")=False) (z2:(z=Str.ofString "of")=False) {S:q0l} {E:EK} {Q:VC} (h:Q (.tup []) S):fnP 1 1 q1k [.tup (.str z::r)] S E Q:=by
 refine ⟨rfl,?_⟩
 unfold q1k
 refine seqI fun K hK=>?_
 dsimp! [q0g,z1]
 refine hK _ _ ?_
 refine seqI fun K hK=>?_
 dsimp! [q0g,z2]
 refine hK _ _ ?_
 dsimp! [true_and]
 first | exact h | exact ⟨big (by decide),h⟩
theorem in_ok:InD (fnP 1 1 q1k):=by
 intro t S E Q h
 cases t with
 | nm w=>exact in_leaf tg1 tg2 h
 | lf a b=>exact in_leaf tg4 tg5 h
 | bd k=>exact in_leaf tg7 tg8 h
 | fn k b=>
  refine ⟨rfl,?_⟩
  unfold q1k
  refine seqI fun K hK=>?_
  dsimp! [Tm.pv,q0g,q3z]
  exact ⟨big (by decide),h⟩
 | ap f a=>
  refine ⟨rfl,?_⟩
  unfold q1k
  refine seqI fun K hK=>?_
  dsimp! [Tm.pv,q0g,tgb]
  refine hK _ _ ?_
  refine seqI fun K hK=>?_
  dsimp! [q0g,q2q,q3z]
  exact ⟨big (by decide),h⟩
def pr (x:Tm×List Int):PV:=.tup [x.1.pv,pj x.2]
def out (st:List (Tm×List Int)):List (List Int):=st.flatMap fun x=>(pls x.1).map (x.2++·)
def tsz (st:List (Tm×List Int)):Nat:=(st.map fun x=>x.1.sz).sum
theorem tsz_pos:∀t:Tm,1≤t.sz
 | .nm _=>Nat.le_refl _
 | .lf _ _=>Nat.le_refl _
 | .bd _=>Nat.le_refl _
 | .fn _ b=>by simp only [Tm.sz]; omega
 | .ap f a=>by simp only [Tm.sz]; omega
theorem tsz_len (st:List (Tm×List Int)):st.length≤tsz st:=by
 induction st with
 | nil=>exact Nat.le_refl _
 | cons x r ih=>
  have:=tsz_pos x.1
  simp only [tsz,List.map_cons,List.sum_cons,List.length_cons] at ih ⊢
  omega
def PlsD (sp:Den):Prop:=∀(t:Tm) (S:q0l) (E:EK) (Q:VC),t.sz≤1000→(∀(r:Nat) S',S'[r]?=some (.lst ((pls t).map pj))→S.length≤r→Ex [] S S'→Q (.ref r) S')→sp [t.pv] S E Q
theorem tsz_cons (x:Tm×List Int) (st:List (Tm×List Int)):tsz (x::st)=x.1.sz+tsz st:=by simp [tsz]
theorem out_cons (x:Tm×List Int) (st:List (Tm×List Int)):out (x::st)=(pls x.1).map (x.2++·)++out st:=by simp [out]
theorem map_pre (p:List Int) (k:Int) (l:List (List Int)):(l.map (k::·)).map (p++·)=l.map ((p++[k])++·):=by simp [List.map_map,Function.comp_def]
theorem out_ap (f a:Tm) (p:List Int):(if toDo (.ap f a)=true then [p] else [])++out [(f,p++[0]),(a,p++[1])]=(pls (.ap f a)).map (p++·):=by
 have e:toDo (.ap f a)=isFn f:=rfl
 rw [e]
 simp only [out,List.flatMap_cons,List.flatMap_nil,pls,List.map_append,map_pre,List.append_nil]
 by_cases h:isFn f=true
 ·rw [if_pos h,if_pos h]; simp
 ·rw [if_neg h,if_neg h]; simp
theorem pls_ok {s1 s2:Den} (h1:TodoD s1) (h2:InD s2):PlsD (fnP 1 6 (q4h s1 s2)):=by
 intro t S E Q hz h
 refine ⟨rfl,?_⟩
 unfold q4h
 refine seqI fun K hK=>?_
 dsimp! [true_and]
 refine ⟨by decide,hK _ _ ?_⟩
 clear hK K
 refine seqI fun K hK=>?_
 dsimp! [true_and]
 refine ⟨big (by decide),big (by decide),big (by decide),hK _ _ ?_⟩
 clear hK K
 have hS1:List.length (S++[SO.lst []])=S.length+1:=by simp
 rw [hS1]
 have a0:(S++[SO.lst []]++[SO.lst [PV.tup [t.pv,PV.tup []]]])[S.length]?=some (.lst (([]:List (List Int)).map pj)):=q1m (q1f _ _) _
 have a1:(S++[SO.lst []]++[SO.lst [PV.tup [t.pv,PV.tup []]]])[S.length+1]?=some (.lst ([(t,([]:List Int))].reverse.map pr)):=by rw [←hS1]; exact q1f _ _
 have a2:Ex [] S (S++[SO.lst []]++[SO.lst [PV.tup [t.pv,PV.tup []]]]):=(Ex.new [] S _).app _
 generalize S++[SO.lst []]++[SO.lst [PV.tup [t.pv,PV.tup []]]]=S0 at a0 a1 a2 ⊢
 refine seqI fun K hK=>?_
 refine whileI (fun m σ S1=>∃(fs:List (List Int)) (st:List (Tm×List Int)) (j3 j4 j5:Option PV),σ=[some t.pv,some (.ref S.length),some (.ref (S.length+1)),j3,j4,j5]∧S1[S.length]?=some (.lst (fs.map pj))∧S1[S.length+1]?=some (.lst (st.reverse.map pr))∧fs++out st=pls t∧m=tsz st∧Ex [] S S1∧tsz st≤1000∧(∀x∈st,x.2.length+tsz st≤2000)∧fs.length+tsz st≤2000) t.sz ⟨[],[(t,[])],none,none,none,rfl,a0,a1,by simp [out],by simp [tsz],a2,by simp [tsz]; omega,by simp [tsz]; omega,by simp [tsz]; omega⟩ ?_
 rintro m σ S1 ⟨fs,st,j3,j4,j5,rfl,g1,g2,ho,rfl,hx,hsz,hpl,hfl⟩ T F hT hF
 dsimp! [g2]
 cases st with
 | nil=>
  rw [if_neg (by simp)]
  refine hF _ (hK _ _ ?_)
  dsimp! [true_and]
  refine h _ _ ?_ (Nat.le_refl _) hx
  rw [g1,←ho]
  simp [out]
 | cons x st=>
  rw [if_pos (by simp)]
  obtain ⟨u,p⟩:=x
  have pl:=hpl (u,p) (by simp)
  rw [tsz_cons] at hsz hfl pl
  have stl:=tsz_len st
  have up:=tsz_pos u
  simp only [] at hsz hfl pl
  refine hT _ fun N hN=>?_
  clear hT hF
  have g2':S1[S.length+1]?=some (.lst (st.reverse.map pr++[pr (u,p)])):=by rw [g2]; simp
  refine seqI fun K2 hK2=>?_
  dsimp! [g2',q1g g2',List.getLast?_append,List.getLast?_singleton,Option.some_or,List.dropLast_concat,pr]
  refine hK2 _ _ ?_
  clear hK2 K2
  have e2:=q1v (.lst (st.reverse.map pr)) g2'
  have e1:=q2r (.lst (st.reverse.map pr)) g1 (show S.length+1≠S.length by omega)
  have x2:Ex [] S (S1.set (S.length+1) (.lst (st.reverse.map pr))):=hx.set (.inr (by omega))
  generalize S1.set (S.length+1) (.lst (st.reverse.map pr))=S2 at e1 e2 x2 ⊢
  clear g1 g2 g2' hx S1
  refine seqI fun K2 hK2=>?_
  have rest:∀(fs':List (List Int)) (S3:q0l),fs'=fs++(if toDo u=true then [p] else [])→S3[S.length]?=some (.lst (fs'.map pj))→S3[S.length+1]?=some (.lst (st.reverse.map pr))→Ex [] S S3→K2 [some t.pv,some (.ref S.length),some (.ref (S.length+1)),some u.pv,some (pj p),j5] S3:=by
   intro fs' S3 ef q1 q2 x3
   have fl:fs'.length≤fs.length+1:=by rw [ef]; split<;>simp
   refine hK2 _ _ ?_
   clear hK2 K2
   refine seqI fun K2 hK2=>?_
   dsimp! [true_and]
   refine h2 u _ _ _ (hK2 _ _ ?_)
   clear hK2 K2
   have fin:∀(ys:List (Tm×List Int)) (S4:q0l),Ex [] S3 S4→tsz ys+1≤u.sz→(∀x∈ys,x.2.length≤p.length+1)→ys.length≤2→(if toDo u=true then [p] else [])++out ys=(pls u).map (p++·)→∀j,N [some t.pv,some (.ref S.length),some (.ref (S.length+1)),some u.pv,some (pj p),j] (S4.set (S.length+1) (.lst (st.reverse.map pr++ys.reverse.map pr))):=by
    intro ys S4 x4 hs hp hl ho2 j
    have k1:=x4.get q1 (by simp)
    have k2:=x4.get q2 (by simp)
    have sum:tsz (ys++st)=tsz ys+tsz st:=by simp [tsz]
    refine hN (tsz (ys++st)) _ _ (by rw [sum,tsz_cons]; show tsz ys+tsz st<u.sz+tsz st; omega) ⟨fs',ys++st,some u.pv,some (pj p),j,rfl,q2r _ k1 (by omega),by rw [q1v _ k2]; simp,?_,rfl,(x3.trans x4).set (.inr (by omega)),by rw [sum]; omega,fun x hx=>?_,by rw [sum]; omega⟩
    ·rw [ef,←ho,out_cons,←ho2]
     simp [out]
    ·rw [sum]
     rcases List.mem_append.mp hx with z | z
     ·have:=hp x z; omega
     ·have:=hpl x (by simp [z])
      rw [tsz_cons] at this
      simp only [] at this
      omega
   have lsl:(st.reverse.map pr).length≤1000:=by simp; omega
   have go:∀(ys:List (Tm×List Int)) (j:Option PV),tsz ys+1≤u.sz→(∀x∈ys,x.2.length≤p.length+1)→ys.length≤2→(if toDo u=true then [p] else [])++out ys=(pls u).map (p++·)→((st.reverse.map pr).length+(ys.reverse.map pr).length≤sizeLine∧N [some t.pv,some (.ref S.length),some (.ref (S.length+1)),some u.pv,some (pj p),j] ((S3++[SO.lst (ys.reverse.map pr)]).set (S.length+1) (.lst (st.reverse.map pr++ys.reverse.map pr)))):=
    fun ys j hs hp hl ho2=>⟨big (by simp only [List.length_map,List.length_reverse] at lsl ⊢; omega),fin ys _ (Ex.new [] S3 _) hs hp hl ho2 j⟩
   have leaf:toDo u=false→pls u=[]→inn u=[]→q4d (wBM "list" q8s (wVar 2) (q0d (q7i (q6b (q0d (wCB fLen (q0d (wVar 5) wNil)) wNil)) [none,some 5,some 4] (q1u 0) q4t (wTup (q0d (wBin bIx (wVar 1) (wVar 0)) (q0d (wBin bAdd (wVar 2) (wTup (q0d (wVar 0) wNil))) wNil)))) wNil)) { nx:=N,rt:=Q,ct:=N,bk:=K } E [some t.pv,some (.ref S.length),some (.ref (S.length+1)),some u.pv,some (pj p),some (.tup ((inn u).map Tm.pv))] S3:=by
    intro t0 p0 i0
    rw [i0]
    dsimp! [q2]
    rw [show (rngP 0 (Int.toNat 0)).reverse=[] from rfl]
    refine ⟨⟨by decide,by decide⟩,by decide,compEnd trivial ?_⟩
    have k:=q1m q2 [SO.lst []]
    dsimp! [q1g k]
    exact go [] _ (by simpa [tsz] using up) (by simp) (by simp) (by rw [t0,p0]; simp [out])
   cases u with
   | nm w=>exact leaf rfl rfl rfl
   | lf a b=>exact leaf rfl rfl rfl
   | bd k=>exact leaf rfl rfl rfl
   | fn kk b=>
    simp only [inn,Tm.sz] at up go ⊢
    dsimp! [q2]
    rw [show (rngP 0 (Int.toNat 1)).reverse=[.int 0] from rfl]
    refine ⟨⟨by decide,by decide⟩,by decide,?_⟩
    refine z1y trivial fun N1 hN1=>?_
    dsimp! [q0g,pj,List.length_map]
    refine ⟨big (by decide),big (by omega),big (by decide),hN1 _ _ _ ?_⟩
    refine compEnd trivial ?_
    have k:=q1m q2 [SO.lst [PV.tup [b.pv,PV.tup (p.map PV.int++[PV.int 0])]]]
    dsimp! [q1g k]
    have:=go [(b,p++[0])] (some (.tup [b.pv])) (by simp [tsz]; omega) (by simp) (by simp) (by simp [out,pls,toDo])
    simpa [pr,pj] using this
   | ap f a=>
    simp only [inn,Tm.sz] at up go ⊢
    dsimp! [q2]
    rw [show (rngP 0 (Int.toNat 2)).reverse=[.int 1,.int 0] from rfl]
    refine ⟨⟨by decide,by decide⟩,by decide,?_⟩
    refine z1y trivial fun N1 hN1=>?_
    dsimp! [q2q,pj,List.length_map]
    refine ⟨big (by decide),big (by omega),big (by decide),hN1 _ _ _ ?_⟩
    refine z1y trivial fun N2 hN2=>?_
    dsimp! [q0g,pj,List.length_map]
    refine ⟨big (by decide),big (by omega),big (by decide),hN2 _ _ _ ?_⟩
    refine compEnd trivial ?_
    have k:=q1m q2 [SO.lst [PV.tup [a.pv,PV.tup (p.map PV.int++[PV.int 1])],PV.tup [f.pv,PV.tup (p.map PV.int++[PV.int 0])]]]
    dsimp! [q1g k]
    have:=go [(f,p++[0]),(a,p++[1])] (some (.tup [f.pv,a.pv])) (by simp [tsz]; omega) (by simp) (by simp) (out_ap f a p)
    simpa [pr,pj] using this
  dsimp! [true_and]
  refine h1 u _ _ _ ?_
  cases ht:toDo u with
  | true=>
   dsimp! [e1,q1g e1]
   refine ⟨by rw [List.length_map]; exact bigl (by omega),rest (fs++[p]) _ (by rw [ht]; rfl) (by rw [q1v _ e1]; simp) (q2r _ e2 (by omega)) (x2.set (.inr (Nat.le_refl _)))⟩
  | false=>
   dsimp! [true_and]
   exact rest fs _ (by rw [ht]; simp) e1 e2 x2
theorem rs_bd (k m d:Nat):rs (.bd k) m d=.bd (if k<d then k else k+m):=rfl
theorem q8g (k:PV) (t:Tm) (m d:Nat):rs (.fn k t) m d=.fn k (rs t m (d+1)):=rfl
theorem q8q (f a:Tm) (m d:Nat):rs (.ap f a) m d=.ap (rs f m d) (rs a m d):=rfl
theorem rs_nm (w:Str) (m d:Nat):rs (.nm w) m d=.nm w:=rfl
theorem rs_lf (n:Int) (f:PV) (m d:Nat):rs (.lf n f) m d=.lf n f:=rfl
theorem sb_bd (k d:Nat) (a:Tm):sb (.bd k) d a=if k<d then .bd k else if k=d then rs a d 0 else .bd (k - 1):=rfl
theorem z0m (k:PV) (t:Tm) (d:Nat) (a:Tm):sb (.fn k t) d a=.fn k (sb t (d+1) a):=rfl
theorem z1h (f g:Tm) (d:Nat) (a:Tm):sb (.ap f g) d a=.ap (sb f d a) (sb g d a):=rfl
theorem sb_nm (w:Str) (d:Nat) (a:Tm):sb (.nm w) d a=.nm w:=rfl
theorem sb_lf (n:Int) (f:PV) (d:Nat) (a:Tm):sb (.lf n f) d a=.lf n f:=rfl
theorem q7p {k d:Nat} {a:Tm} (h:k<d):sb (.bd k) d a=.bd k:=by rw [sb_bd,if_pos h]
theorem z1g (d:Nat) (a:Tm):sb (.bd d) d a=rs a d 0:=by rw [sb_bd,if_neg (by omega),if_pos rfl]
theorem q9a {k d:Nat} {a:Tm} (h:d<k):sb (.bd k) d a=.bd (k - 1):=by rw [sb_bd,if_neg (by omega),if_neg (by omega)]
theorem q7c {k m d:Nat} (h:k<d):rs (.bd k) m d=.bd k:=by rw [rs_bd,if_pos h]
theorem q8f {k m d:Nat} (h:d≤k):rs (.bd k) m d=.bd (k+m):=by rw [rs_bd,if_neg (by omega)]
def oc:Tm→Nat→Nat
 | .bd k,j=>if k=j then 1 else 0
 | .fn _ t,j=>oc t (j+1)
 | .ap f a,j=>oc f j+oc a j
 | _,_=>0
def af (u:Nat):Tm→Prop
 | .fn _ t=>oc t 0≤u∧af u t
 | .ap f a=>af u f∧af u a
 | _=>True
def Tm.nd:Tm→Nat
 | .fn _ t=>1+t.nd
 | .ap f a=>1+f.nd+a.nd
 | _=>0
theorem nd_sz:∀t:Tm,t.nd+1≤t.sz
 | .nm _=>Nat.le_refl _
 | .lf _ _=>Nat.le_refl _
 | .bd _=>Nat.le_refl _
 | .fn _ t=>by have:=nd_sz t; simp only [Tm.nd,Tm.sz]; omega
 | .ap f a=>by have:=nd_sz f; have:=nd_sz a; simp only [Tm.nd,Tm.sz]; omega
theorem dp_nd:∀t:Tm,t.dp≤t.nd
 | .nm _=>Nat.le_refl _
 | .lf _ _=>Nat.le_refl _
 | .bd _=>Nat.le_refl _
 | .fn _ t=>by have:=dp_nd t; simp only [Tm.nd,Tm.dp]; omega
 | .ap f a=>by have:=dp_nd f; have:=dp_nd a; simp only [Tm.nd,Tm.dp]; omega
theorem oc_rs:∀(t:Tm) (m d j:Nat),oc (rs t m d) j=if j<d then oc t j else if j<d+m then 0 else oc t (j - m)
 | .nm _,m,d,j=>by simp [rs_nm,oc]
 | .lf _ _,m,d,j=>by simp [rs_lf,oc]
 | .bd k,m,d,j=>by
  by_cases h:k<d
  ·rw [q7c h]; simp only [oc]; (repeat' split)<;>first | rfl | omega
  ·rw [q8f (by omega)]; simp only [oc]; (repeat' split)<;>first | rfl | omega
 | .fn _ t,m,d,j=>by
  rw [q8g]
  simp only [oc]
  rw [oc_rs t m (d+1) (j+1)]
  by_cases h:j<d
  ·rw [if_pos h,if_pos (by omega)]
  ·rw [if_neg h,if_neg (by omega)]
   by_cases h2:j<d+m
   ·rw [if_pos h2,if_pos (by omega)]
   ·rw [if_neg h2,if_neg (by omega),show j+1 - m=j - m+1 by omega]
 | .ap f a,m,d,j=>by
  rw [q8q]
  simp only [oc]
  rw [oc_rs f m d j,oc_rs a m d j]
  split
  ·rfl
  ·split<;>rfl
theorem oc_sb (a:Tm):∀(t:Tm) (d j:Nat),oc (sb t d a) j=(if j<d then oc t j else oc t (j+1))+oc t d*(if j<d then 0 else oc a (j - d))
 | .nm _,d,j=>by simp [sb_nm,oc]
 | .lf _ _,d,j=>by simp [sb_lf,oc]
 | .bd k,d,j=>by
  rcases Nat.lt_trichotomy k d with h | h | h
  ·rw [q7p h]; simp only [oc,if_neg (show ¬k=d by omega),Nat.zero_mul,Nat.add_zero]; (repeat' split)<;>first | rfl | omega
  ·subst h
   rw [z1g,oc_rs]
   simp only [oc,Nat.zero_add,if_true,Nat.one_mul,Nat.not_lt_zero,if_false]
   split
   ·split<;>omega
   ·rw [if_neg (by omega)]; omega
  ·rw [q9a h]; simp only [oc]
   rw [if_neg (show ¬k=d by omega),Nat.zero_mul,Nat.add_zero]
   (repeat' split)<;>first | rfl | omega
 | .fn _ t,d,j=>by
  rw [z0m]
  simp only [oc]
  rw [oc_sb a t (d+1) (j+1)]
  by_cases h:j<d
  ·rw [if_pos h,if_pos h,if_pos (by omega),if_pos (by omega)]
  ·rw [if_neg h,if_neg h,if_neg (by omega),if_neg (by omega),show j+1 - (d+1)=j - d by omega]
 | .ap f g,d,j=>by
  rw [z1h]
  simp only [oc]
  rw [oc_sb a f d j,oc_sb a g d j,Nat.add_mul]
  split<;>omega
theorem sz_rs:∀(t:Tm) (m d:Nat),(rs t m d).sz=t.sz∧(rs t m d).nd=t.nd
 | .nm _,_,_=>⟨rfl,rfl⟩
 | .lf _ _,_,_=>⟨rfl,rfl⟩
 | .bd _,_,_=>⟨rfl,rfl⟩
 | .fn _ t,m,d=>by have:=sz_rs t m (d+1); rw [q8g]; simp only [Tm.sz,Tm.nd]; omega
 | .ap f a,m,d=>by have:=sz_rs f m d; have:=sz_rs a m d; rw [q8q]; simp only [Tm.sz,Tm.nd]; omega
theorem sz_sb (a:Tm):∀(t:Tm) (d:Nat),(sb t d a).sz+oc t d=t.sz+oc t d*a.sz∧(sb t d a).nd=t.nd+oc t d*a.nd
 | .nm _,d=>by simp [sb_nm,oc]
 | .lf _ _,d=>by simp [sb_lf,oc]
 | .bd k,d=>by
  rcases Nat.lt_trichotomy k d with h | h | h
  ·rw [q7p h]; simp only [oc,if_neg (show ¬k=d by omega)]; simp
  ·subst h
   have:=sz_rs a k 0
   rw [z1g]; simp only [oc,if_true,Tm.sz,Tm.nd]; omega
  ·rw [q9a h]; simp only [oc,if_neg (show ¬k=d by omega)]; simp [Tm.sz,Tm.nd]
 | .fn _ t,d=>by have:=sz_sb a t (d+1); rw [z0m]; simp only [oc,Tm.sz,Tm.nd]; omega
 | .ap f g,d=>by
  have h1:=sz_sb a f d
  have h2:=sz_sb a g d
  rw [z1h]; simp only [oc,Tm.sz,Tm.nd,Nat.add_mul]; omega
theorem af_rs (u:Nat):∀(t:Tm) (m d:Nat),af u t→af u (rs t m d)
 | .nm _,_,_,_=>trivial
 | .lf _ _,_,_,_=>trivial
 | .bd _,_,_,_=>trivial
 | .fn _ t,m,d,h=>by
  rw [q8g]
  exact ⟨by rw [oc_rs,if_pos (by omega)]; exact h.1,af_rs u t m (d+1) h.2⟩
 | .ap f a,m,d,h=>⟨af_rs u f m d h.1,af_rs u a m d h.2⟩
theorem af_sb (u:Nat) {a:Tm} (ha:af u a):∀(t:Tm) (d:Nat),af u t→af u (sb t d a)
 | .nm _,_,_=>trivial
 | .lf _ _,_,_=>trivial
 | .bd k,d,_=>by
  rw [sb_bd]
  split
  ·trivial
  ·split
   ·exact af_rs u a d 0 ha
   ·trivial
 | .fn _ t,d,h=>by
  rw [z0m]
  refine ⟨?_,af_sb u ha t (d+1) h.2⟩
  rw [oc_sb,if_pos (by omega),if_pos (by omega),Nat.mul_zero,Nat.add_zero]
  exact h.1
 | .ap f g,d,h=>⟨af_sb u ha f d h.1,af_sb u ha g d h.2⟩
theorem rs_rs:∀(t:Tm) (m m' c i:Nat),i≤m→rs (rs t m c) m' (c+i)=rs t (m+m') c
 | .nm _,_,_,_,_,_=>rfl
 | .lf _ _,_,_,_,_,_=>rfl
 | .bd k,m,m',c,i,h=>by
  by_cases h1:k<c
  ·rw [q7c h1,q7c (by omega),q7c h1]
  ·rw [q8f (by omega),q8f (by omega),q8f (by omega),Nat.add_assoc]
 | .fn k t,m,m',c,i,h=>by
  have:=rs_rs t m m' (c+1) i h
  rw [q8g,q8g,q8g,show c+i+1=c+1+i by omega,this]
 | .ap f a,m,m',c,i,h=>by rw [q8q,q8q,q8q,rs_rs f m m' c i h,rs_rs a m m' c i h]
theorem rs_swap:∀(t:Tm) (m m' c i:Nat),rs (rs t m c) m' (c+i+m)=rs (rs t m' (c+i)) m c
 | .nm _,_,_,_,_=>rfl
 | .lf _ _,_,_,_,_=>rfl
 | .bd k,m,m',c,i=>by
  by_cases h1:k<c
  ·rw [q7c h1,q7c (by omega),q7c (by omega),q7c h1]
  ·rw [q8f (by omega)]
   by_cases h2:k<c+i
   ·rw [q7c (by omega),q7c h2,q8f (by omega)]
   ·rw [q8f (by omega),q8f (by omega),q8f (by omega),show k+m+m'=k+m'+m by omega]
 | .fn k t,m,m',c,i=>by
  have:=rs_swap t m m' (c+1) i
  rw [q8g,q8g,q8g,q8g,show c+i+m+1=c+1+i+m by omega,this,show c+1+i=c+i+1 by omega]
 | .ap f a,m,m',c,i=>by rw [q8q,q8q,q8q,q8q,rs_swap f m m' c i,rs_swap a m m' c i]
theorem rs_sb (a:Tm) (m i:Nat):∀(t:Tm) (d:Nat),rs (sb t d a) m (d+i)=sb (rs t m (d+i+1)) d (rs a m i)
 | .nm _,_=>rfl
 | .lf _ _,_=>rfl
 | .bd k,d=>by
  rcases Nat.lt_trichotomy k d with h | h | h
  ·rw [q7p h,q7c (by omega),q7c (by omega),q7p h]
  ·subst h
   rw [z1g,q7c (show k<k+i+1 by omega),z1g]
   have:=rs_swap a k m 0 i
   rw [Nat.zero_add,Nat.add_comm i k] at this
   exact this
  ·rw [q9a h]
   by_cases h2:k<d+i+1
   ·rw [q7c (by omega),q7c h2,q9a h]
   ·rw [q8f (by omega),q8f (by omega),q9a (by omega),show k - 1+m=k+m - 1 by omega]
 | .fn k t,d=>by
  have:=rs_sb a m i t (d+1)
  rw [z0m,q8g,q8g,z0m,show d+i+1=d+1+i by omega,this]
 | .ap f g,d=>by rw [z1h,q8q,q8q,z1h,rs_sb a m i f d,rs_sb a m i g d]
theorem z0u (x:Tm) (m:Nat):∀(t:Tm) (c i:Nat),i≤m→sb (rs t (m+1) c) (c+i) x=rs t m c
 | .nm _,_,_,_=>rfl
 | .lf _ _,_,_,_=>rfl
 | .bd k,c,i,h=>by
  by_cases h1:k<c
  ·rw [q7c h1,q7p (by omega),q7c h1]
  ·rw [q8f (by omega),q9a (by omega),q8f (by omega),show k+(m+1) - 1=k+m by omega]
 | .fn k t,c,i,h=>by
  have:=z0u x m t (c+1) i h
  rw [q8g,z0m,q8g,show c+i+1=c+1+i by omega,this]
 | .ap f g,c,i,h=>by rw [q8q,z1h,q8q,z0u x m f c i h,z0u x m g c i h]
theorem q8z (a:Tm) (e d:Nat):∀(t:Tm) (c:Nat),sb (rs t e c) (e+d+c) a=rs (sb t (d+c) a) e c
 | .nm _,_=>rfl
 | .lf _ _,_=>rfl
 | .bd k,c=>by
  by_cases h1:k<c
  ·rw [q7c h1,q7p (by omega),q7p (by omega),q7c h1]
  ·rw [q8f (by omega)]
   rcases Nat.lt_trichotomy k (d+c) with h | h | h
   ·rw [q7p (by omega),q7p h,q8f (by omega)]
   ·subst h
    rw [show d+c+e=e+d+c by omega,z1g,z1g]
    have:=rs_rs a (d+c) e 0 c (by omega)
    rw [Nat.zero_add] at this
    rw [this,show d+c+e=e+d+c by omega]
   ·rw [q9a (by omega),q9a h,q8f (by omega),show k+e - 1=k - 1+e by omega]
 | .fn k t,c=>by
  have:=q8z a e d t (c+1)
  rw [q8g,z0m,z0m,q8g,show e+d+c+1=e+d+(c+1) by omega,this,show d+(c+1)=d+c+1 by omega]
 | .ap f g,c=>by rw [q8q,z1h,z1h,q8q,q8z a e d f c,q8z a e d g c]
theorem sb_sb (a b:Tm) (d:Nat):∀(t:Tm) (e:Nat),sb (sb t e b) (e+d) a=sb (sb t (e+d+1) a) e (sb b d a)
 | .nm _,_=>rfl
 | .lf _ _,_=>rfl
 | .bd k,e=>by
  rcases Nat.lt_trichotomy k e with h | h | h
  ·rw [q7p h,q7p (by omega),q7p (by omega),q7p h]
  ·subst h
   rw [z1g,q7p (show k<k+d+1 by omega),z1g]
   have:=q8z a k d b 0
   simpa using this
  ·rw [q9a h]
   rcases Nat.lt_trichotomy k (e+d+1) with h2 | h2 | h2
   ·rw [q7p (by omega),q7p h2,q9a h]
   ·subst h2
    rw [z1g,show e+d+1 - 1=e+d by omega,z1g]
    have:=z0u (sb b d a) (e+d) a 0 e (by omega)
    rw [Nat.zero_add] at this
    exact this.symm
   ·rw [q9a (by omega),q9a h2,q9a (by omega)]
 | .fn k t,e=>by
  have:=sb_sb a b d t (e+1)
  rw [z0m,z0m,z0m,z0m,show e+d+1=e+1+d by omega,this]
 | .ap f g,e=>by rw [z1h,z1h,z1h,z1h,sb_sb a b d f e,sb_sb a b d g e]
inductive R:Tm→Tm→Prop
 | be (k:PV) (b a:Tm):R (.ap (.fn k b) a) (sb b 0 a)
 | fn (k:PV) {t t':Tm}:R t t'→R (.fn k t) (.fn k t')
 | l (a:Tm) {f f':Tm}:R f f'→R (.ap f a) (.ap f' a)
 | r (f:Tm) {a a':Tm}:R a a'→R (.ap f a) (.ap f a')
inductive Rs:Tm→Tm→Prop
 | nil (t:Tm):Rs t t
 | cons {t u v:Tm}:R t u→Rs u v→Rs t v
theorem Rs.one {t u:Tm} (h:R t u):Rs t u:=.cons h (.nil _)
theorem Rs.trans {t u v:Tm} (h:Rs t u) (g:Rs u v):Rs t v:=by
 induction h with
 | nil=>exact g
 | cons h1 _ ih=>exact .cons h1 (ih g)
theorem Rs.fn (k:PV) {t u:Tm} (h:Rs t u):Rs (.fn k t) (.fn k u):=by
 induction h with
 | nil=>exact .nil _
 | cons h1 _ ih=>exact .cons (.fn k h1) ih
theorem Rs.l (a:Tm) {t u:Tm} (h:Rs t u):Rs (.ap t a) (.ap u a):=by
 induction h with
 | nil=>exact .nil _
 | cons h1 _ ih=>exact .cons (.l a h1) ih
theorem Rs.r (f:Tm) {t u:Tm} (h:Rs t u):Rs (.ap f t) (.ap f u):=by
 induction h with
 | nil=>exact .nil _
 | cons h1 _ ih=>exact .cons (.r f h1) ih
theorem pl_R {t:Tm} {p:List Nat} (h:Pl t p):R t (dn t p):=by
 induction h with
 | here k b a=>exact .be k b a
 | fn k t p _ ih=>exact .fn k ih
 | l f a p _ ih=>rw [show dn (.ap f a) (0::p)=.ap (dn f p) a by simp only [dn]]; exact .l a ih
 | r f a p _ ih=>rw [show dn (.ap f a) (1::p)=.ap f (dn a p) by simp only [dn]]; exact .r f ih
theorem R_pl {t u:Tm} (h:R t u):∃p,Pl t p∧u=dn t p:=by
 induction h with
 | be k b a=>exact ⟨[],.here k b a,rfl⟩
 | fn k _ ih=>obtain ⟨p,h1,rfl⟩:=ih; exact ⟨0::p,.fn k _ p h1,rfl⟩
 | l a _ ih=>obtain ⟨p,h1,rfl⟩:=ih; exact ⟨0::p,.l _ a p h1,by simp only [dn]⟩
 | r f _ ih=>obtain ⟨p,h1,rfl⟩:=ih; exact ⟨1::p,.r f _ p h1,by simp only [dn]⟩
theorem R_af {t u:Tm} (h:R t u):af 1 t→af 1 u∧(∀j,oc u j≤oc t j)∧u.sz+3≤t.sz∧u.nd+2≤t.nd:=by
 induction h with
 | be k b a=>
  rintro ⟨⟨h1,h2⟩,h3⟩
  refine ⟨af_sb 1 h3 b 0 h2,fun j=>?_,?_⟩
  ·rw [oc_sb,if_neg (by omega),if_neg (by omega)]
   simp only [oc,Nat.sub_zero]
   have:=Nat.mul_le_mul_right (oc a j) h1
   omega
  ·obtain ⟨e1,e2⟩:=sz_sb a b 0
   have m1:=Nat.mul_le_mul_right a.nd h1
   have sp:=nd_sz a
   simp only [Tm.sz,Tm.nd]
   refine ⟨?_,by omega⟩
   rcases Nat.le_one_iff_eq_zero_or_eq_one.mp h1 with z | z
   ·rw [z] at e1; omega
   ·rw [z] at e1; omega
 | fn k _ ih=>
  rintro ⟨h1,h2⟩
  obtain ⟨i1,i2,i3,i4⟩:=ih h2
  exact ⟨⟨Nat.le_trans (i2 0) h1,i1⟩,fun j=>i2 (j+1),by simp only [Tm.sz]; omega,by simp only [Tm.nd]; omega⟩
 | l a _ ih=>
  rintro ⟨h1,h2⟩
  obtain ⟨i1,i2,i3,i4⟩:=ih h1
  exact ⟨⟨i1,h2⟩,fun j=>by have:=i2 j; simp only [oc]; omega,by simp only [Tm.sz]; omega,by simp only [Tm.nd]; omega⟩
 | r f _ ih=>
  rintro ⟨h1,h2⟩
  obtain ⟨i1,i2,i3,i4⟩:=ih h2
  exact ⟨⟨h1,i1⟩,fun j=>by have:=i2 j; simp only [oc]; omega,by simp only [Tm.sz]; omega,by simp only [Tm.nd]; omega⟩
theorem R_rs {t u:Tm} (h:R t u):∀m c,R (rs t m c) (rs u m c):=by
 induction h with
 | be k b a=>
  intro m c
  have:=rs_sb a m c b 0
  rw [Nat.zero_add] at this
  rw [this]
  exact .be k _ _
 | fn k _ ih=>intro m c; exact .fn k (ih m (c+1))
 | l a _ ih=>intro m c; exact .l _ (ih m c)
 | r f _ ih=>intro m c; exact .r _ (ih m c)
theorem R_sb {t u:Tm} (h:R t u):∀(d:Nat) (a:Tm),R (sb t d a) (sb u d a):=by
 induction h with
 | be k b c=>
  intro d a
  have:=sb_sb a c d b 0
  rw [Nat.zero_add] at this
  rw [this]
  exact .be k _ _
 | fn k _ ih=>intro d a; exact .fn k (ih (d+1) a)
 | l c _ ih=>intro d a; exact .l _ (ih d a)
 | r f _ ih=>intro d a; exact .r _ (ih d a)
theorem R_arg {a a':Tm} (h:R a a'):∀(t:Tm) (d:Nat),Rs (sb t d a) (sb t d a')
 | .nm _,_=>.nil _
 | .lf _ _,_=>.nil _
 | .bd k,d=>by
  rw [sb_bd,sb_bd]
  split
  ·exact .nil _
  ·split
   ·exact .one (R_rs h d 0)
   ·exact .nil _
 | .fn k t,d=>(R_arg h t (d+1)).fn k
 | .ap f g,d=>((R_arg h f d).l _).trans ((R_arg h g d).r _)
theorem R_join {t u:Tm} (h:R t u):∀{v:Tm},R t v→∃w,Rs u w∧Rs v w:=by
 induction h with
 | be k b a=>
  intro v g
  cases g with
  | be=>exact ⟨_,.nil _,.nil _⟩
  | l _ g=>cases g with
   | fn _ g=>exact ⟨_,.one (R_sb g 0 a),.one (.be k _ _)⟩
  | r _ g=>exact ⟨_,R_arg g b 0,.one (.be k _ _)⟩
 | fn k _ ih=>
  intro v g
  cases g with
  | fn _ g=>obtain ⟨w,h1,h2⟩:=ih g; exact ⟨_,h1.fn k,h2.fn k⟩
 | l a h ih=>
  intro v g
  cases g with
  | be k b _=>cases h with
   | fn _ h=>exact ⟨_,.one (.be k _ _),.one (R_sb h 0 a)⟩
  | l _ g=>obtain ⟨w,h1,h2⟩:=ih g; exact ⟨_,h1.l a,h2.l a⟩
  | r _ g=>exact ⟨_,.one (.r _ g),.one (.l _ h)⟩
 | r f h ih=>
  intro v g
  cases g with
  | be k b _=>exact ⟨_,.one (.be k b _),R_arg h b 0⟩
  | l _ g=>exact ⟨_,.one (.l _ g),.one (.r _ h)⟩
  | r _ g=>obtain ⟨w,h1,h2⟩:=ih g; exact ⟨_,h1.r f,h2.r f⟩
def Nf (t:Tm):Prop:=∀u,¬R t u
theorem Rs_af {t u:Tm} (h:Rs t u):af 1 t→af 1 u∧(∀j,oc u j≤oc t j)∧u.sz≤t.sz∧u.nd≤t.nd:=by
 induction h with
 | nil=>intro h; exact ⟨h,fun _=>Nat.le_refl _,Nat.le_refl _,Nat.le_refl _⟩
 | cons h1 _ ih=>
  intro h
  obtain ⟨a1,a2,a3,a4⟩:=R_af h1 h
  obtain ⟨b1,b2,b3,b4⟩:=ih a1
  exact ⟨b1,fun j=>Nat.le_trans (b2 j) (a2 j),by omega,by omega⟩
theorem nf_uniq:∀(n:Nat) (t:Tm),t.sz≤n→af 1 t→∀u v,Rs t u→Nf u→Rs t v→Nf v→u=v
 | 0,t,hz,_,_,_,_,_,_,_=>by have:=nd_sz t; omega
 | n+1,t,hz,ha,u,v,hu,nu,hv,nv=>by
  cases hu with
  | nil=>cases hv with
   | nil=>rfl
   | cons h _=>exact absurd h (nu _)
  | cons h1 hu=>cases hv with
   | nil=>exact absurd h1 (nv _)
   | cons h2 hv=>
    rename_i u1 v1
    obtain ⟨a1,_,z1,_⟩:=R_af h1 ha
    obtain ⟨a2,_,z2,_⟩:=R_af h2 ha
    obtain ⟨w,w1,w2⟩:=R_join h1 h2
    obtain ⟨w3,_,z3,_⟩:=Rs_af w1 a1
    obtain ⟨x,hx,nx⟩:=ex_nf n w (by omega) w3
    have e1:=nf_uniq n u1 (by omega) a1 u x hu nu (w1.trans hx) nx
    have e2:=nf_uniq n v1 (by omega) a2 v x hv nv (w2.trans hx) nx
    rw [e1,e2]
where ex_nf:∀(n:Nat) (t:Tm),t.sz≤n→af 1 t→∃x,Rs t x∧Nf x
 | 0,t,hz,_=>by have:=nd_sz t; omega
 | n+1,t,hz,ha=>by
  by_cases h:Nf t
  ·exact ⟨t,.nil _,h⟩
  ·obtain ⟨u,hu⟩:∃u,R t u:=Classical.byContradiction fun c=>h fun u hu=>c ⟨u,hu⟩
   obtain ⟨a1,_,z1,_⟩:=R_af hu ha
   obtain ⟨x,h1,h2⟩:=ex_nf n u (by omega) a1
   exact ⟨x,.cons hu h1,h2⟩
inductive FK:PV→Kd→Prop
 | b (s:Str):FK (.tup [.str (Str.ofString "basic"),.str s]) (.a s)
 | n (l:Bool) {x y:PV} {kx ky:Kd}:FK x kx→FK y ky→FK (.tup [.str (if l=true then Str.ofString "\\" else Str.ofString "/"),x,y]) (.p ky kx)
theorem FK.plain {f:PV} {k:Kd} (h:FK f k):q1i f=true∧dep f≤k.dp+1:=by
 induction h with
 | b s=>exact ⟨by simp [q1i,q2w],by simp [dep,deps]⟩
 | n l _ _ h1 h2=>exact ⟨by simp only [q1i,q2w,List.length_cons,List.length_nil,Nat.reduceAdd,Nat.reduceLeDiff,decide_true,Bool.and_true,h1.1,h2.1,Bool.and_self],by simp only [dep,deps,Kd.dp]; omega⟩
def lkN (ps:List (Str×Kd)) (w:Str):Option Kd:=(ps.find? fun p=>decide (p.1=w)).map (·.2)
theorem lkN_app {ps qs:List (Str×Kd)} {w:Str} {k:Kd} (h:lkN ps w=some k):lkN (ps++qs) w=some k:=by
 unfold lkN at h ⊢
 rw [List.find?_append]
 cases e:ps.find? fun p=>decide (p.1=w) with
 | none=>rw [e] at h; cases h
 | some p=>rw [e] at h; exact h
theorem lkN_new {ps:List (Str×Kd)} {w:Str} {k:Kd} (h:w∉ps.map (·.1)):lkN (ps++[(w,k)]) w=some k:=by
 unfold lkN
 have:(ps.find? fun p=>decide (p.1=w))=none:=List.find?_eq_none.mpr fun p hp=>by
  simp only [decide_eq_true_eq]
  exact fun z=>h (List.mem_map.mpr ⟨p,hp,z⟩)
 rw [List.find?_append,this]
 simp
theorem lkN_of:∀{ps:List (Str×Kd)},(ps.map (·.1)).Nodup→∀{p:Str×Kd},p∈ps→lkN ps p.1=some p.2
 | x::r,nd,p,hp=>by
  rw [List.map_cons,List.nodup_cons] at nd
  unfold lkN
  rw [List.find?_cons]
  rcases List.mem_cons.mp hp with z | z
  ·subst z; simp
  ·have:¬x.1=p.1:=fun e=>nd.1 (List.mem_map.mpr ⟨p,z,e.symm⟩)
   rw [decide_eq_false this]
   exact lkN_of nd.2 z
inductive Ty (ps:List (Str×Kd)):List Kd→Tm→Kd→Prop
 | nm {e:List Kd} {w:Str} {k:Kd}:lkN ps w=some k→Ty ps e (.nm w) k
 | lf {e:List Kd} (n:Int) {f:PV} {k:Kd}:FK f k→k.dp≤20→Ty ps e (.lf n f) k
 | bd {e:List Kd} {j:Nat} {k:Kd}:e[j]?=some k→Ty ps e (.bd j) k
 | fn {e:List Kd} {k k':Kd} {t:Tm}:k.dp≤20→Ty ps (k::e) t k'→Ty ps e (.fn k.pv t) (.p k k')
 | ap {e:List Kd} {k k':Kd} {f a:Tm}:Ty ps e f (.p k k')→Ty ps e a k→Ty ps e (.ap f a) k'
theorem Ty.mono {ps qs:List (Str×Kd)} {e:List Kd} {t:Tm} {k:Kd} (h:Ty ps e t k):Ty (ps++qs) e t k:=by
 induction h with
 | nm h=>exact .nm (lkN_app h)
 | lf n h g=>exact .lf n h g
 | bd h=>exact .bd h
 | fn h _ ih=>exact .fn h ih
 | ap _ _ i1 i2=>exact .ap i1 i2
theorem Ty.gd {ps:List (Str×Kd)} {e:List Kd} {t:Tm} {k:Kd} (h:Ty ps e t k):t.gd e.length:=by
 induction h with
 | nm h=>trivial
 | lf n h g=>exact ⟨h.plain.1,by have:=h.plain.2; omega⟩
 | bd h=>exact (List.getElem?_eq_some_iff.mp h).1
 | fn h _ ih=>exact ⟨⟨plain_pv _,by rw [dep_pv]; omega⟩,ih⟩
 | ap _ _ i1 i2=>exact ⟨i1,i2⟩
instance kdDec:DecidableEq Kd:=fun _ _=>Classical.propDecidable _
theorem eqB_kd:∀f g:Kd,eqB f.pv g.pv=decide (f=g)
 | .a s,.a t=>by simp [Kd.pv,q6n]
 | .a s,.p f t=>by simp [Kd.pv,eqB_st]
 | .p f t,.a s=>by simp [Kd.pv,eqB_ts]
 | .p f t,.p f' t'=>by
  have h1:=eqB_kd f f'
  have h2:=eqB_kd t t'
  simp only [Kd.pv,eqB_tt,eqBs,h1,h2,Bool.and_true,Kd.p.injEq]
  by_cases z1:f=f'<;>by_cases z2:t=t'<;>simp [z1,z2]
theorem cEq_kd {k k':Kd} {S:q0l} {Q:VC} (h1:k.dp≤20) (h2:k'.dp≤20) (h:Q (.bl (decide (k=k'))) S):cEq k.pv k'.pv S Q:=by
 have o1:=okEq_pv (k:=k) (by omega)
 have o2:=okEq_pv (k:=k') (by omega)
 rw [←eqB_kd] at h
 cases k with
 | a s=>
  cases k' with
  | a t=>rw [Kd.pv,Kd.pv,cEq_ss]; simpa [Kd.pv,q6n] using h
  | p f t=>rw [Kd.pv,Kd.pv,cEq_st]; exact ⟨by have:=o2.1; rw [Kd.pv,z1m] at this; exact this,by simpa [Kd.pv,eqB_st] using h⟩
 | p f t=>
  cases k' with
  | a t=>rw [Kd.pv,Kd.pv,cEq_ts]; exact ⟨by have:=o1.1; rw [Kd.pv,z1m] at this; exact this,by simpa [Kd.pv,eqB_ts] using h⟩
  | p f' t'=>rw [Kd.pv,Kd.pv,cEq_tt]; rw [Kd.pv] at o1 o2; exact ⟨⟨o1,o2⟩,by simpa [Kd.pv,eqB_tt] using h⟩
theorem form_ok2 {T:Nat→Den} (hT:∀n,T (n+1)=fnP 2 2 (q4b (T n))):∀(k:Kd) (n:Nat),k.dp<n→∀(x:Int) (S:q0l) (E:EK) (Q:VC),(∀y S',FK y k→Ex [] S S'→Q y S')→T n [k.pv,.int x] S E Q:=by
 intro k
 induction k with
 | a s=>
  intro n hn x S E Q h
  obtain ⟨m,rfl⟩:∃m,n=m+1:=⟨n - 1,by omega⟩
  rw [hT]
  refine ⟨rfl,?_⟩
  unfold q4b
  refine seqI fun K hK=>?_
  dsimp! [Kd.pv]
  exact ⟨big (by decide),h _ _ (.b s) (Ex.refl _ _)⟩
 | p f t ihf iht=>
  intro n hn x S E Q h
  simp only [Kd.dp] at hn
  obtain ⟨m,rfl⟩:∃m,n=m+1:=⟨n - 1,by omega⟩
  rw [hT]
  refine ⟨rfl,?_⟩
  unfold q4b
  refine seqI fun K hK=>?_
  dsimp! [Kd.pv]
  refine hK _ _ ?_
  have g:=q1f S (.lst [PV.str (Str.ofString "/"),PV.str (Str.ofString "\\")])
  have m0:0≤x % 2:=Int.emod_nonneg _ (by decide)
  have m1:x % 2<2:=Int.emod_lt_of_pos _ (by decide)
  obtain ⟨l,hy⟩:∃l:Bool,atI [PV.str (Str.ofString "/"),PV.str (Str.ofString "\\")] (x % 2)=some (.str (if l=true then Str.ofString "\\" else Str.ofString "/")):=by
   rcases (show x % 2=0∨x % 2=1 by omega) with e | e<;>rw [e]
   ·exact ⟨false,q0g _ _⟩
   ·exact ⟨true,q2q _ _ _⟩
  dsimp! [q0g,q2q,g,hy]
  refine ⟨big (by decide),by decide,⟨by decide,by decide⟩,?_⟩
  refine iht m (by omega) _ _ _ _ fun y1 S1 p1 h1=>?_
  refine ⟨⟨by decide,by decide⟩,?_⟩
  refine ihf m (by omega) _ _ _ _ fun y2 S2 p2 h2=>?_
  exact ⟨big (by decide),h _ _ (.n l p1 p2) (((Ex.new _ _ _).trans h1).trans h2)⟩
structure Wt (w b m d c u:Nat) (ps:List (Str×Kd)) (S:q0l):Prop where
 dk:Deck d c S
 wd:S[w]?=some (.dK (z0b b m d (u:Nat)))
 bs:∃ws:List Str,S[b]?=some (.lst (ws.map PV.str))∧ws.length=3
 nm:S[m]?=some (.lst (ps.map encN))
 ok:∀p∈ps,q8i p.1=true∧p.2.dp≤20
 nd:(ps.map (·.1)).Nodup
 ne:(w≠d∧w≠c)∧(b≠d∧b≠c)∧(m≠d∧m≠c)∧w≠m∧b≠m
theorem Wt.ex {w b m d c u:Nat} {ps:List (Str×Kd)} {S S':q0l} (h:Wt w b m d c u ps S) {D:List Nat} (e:Ex D S S') (hw:w∉D) (hb:b∉D) (hm:m∉D) (hd:d∉D) (hc:c∉D):Wt w b m d c u ps S':=by
 obtain ⟨dk,wd,⟨ws,b1,b2⟩,p1,p2,p3,ne⟩:=h
 exact ⟨dk.ex e hd hc,e.get wd hw,⟨ws,e.get b1 hb,b2⟩,e.get p1 hm,p2,p3,ne⟩
theorem Wt.nx {w b m d c u:Nat} {ps:List (Str×Kd)} {S S':q0l} (h:Wt w b m d c u ps S) (hd:Deck d c S') (e:Ex [d,c] S S'):Wt w b m d c u ps S':=by
 obtain ⟨dk,wd,⟨ws,b1,b2⟩,p1,p2,p3,ne⟩:=h
 exact ⟨hd,e.get wd (by simp; exact ne.1),⟨ws,e.get b1 (by simp; exact ne.2.1),b2⟩,e.get p1 (by simp; exact ne.2.2.1),p2,p3,ne⟩
theorem Wt.new {w b m d c u:Nat} {ps:List (Str×Kd)} {S:q0l} (h:Wt w b m d c u ps S) (xs:List SO):Wt w b m d c u ps (S++xs):=h.ex (Ex.new [] _ _) (by simp) (by simp) (by simp) (by simp) (by simp)
theorem Wt.lt {w b m d c u:Nat} {ps:List (Str×Kd)} {S:q0l} (h:Wt w b m d c u ps S):w<S.length∧b<S.length∧m<S.length∧d<S.length∧c<S.length:=by
 obtain ⟨ws,g,_⟩:=h.bs
 have hd:=h.dk
 obtain ⟨⟨_,_,_,_,_,_,g1,g2,_⟩,_⟩:=hd
 exact ⟨q2k h.wd,q2k g,q2k h.nm,q2k g1,q2k g2⟩
def WorldQ (sp:Den):Prop:=∀(d c u:Nat) (S:q0l) (E:EK) (Q:VC),Deck d c S→(∀w b m S',Wt w b m d c u [] S'→Q (.ref w) S')→sp [.ref d,.int (u:Nat),.bl true] S E Q
theorem world_ok2 {sp:Den} (hw:WordsD sp):WorldQ (fnP 3 4 (q8x sp)):=by
 intro d c u S E Q hd h
 refine ⟨rfl,?_⟩
 unfold q8x
 refine seqI fun K hK=>?_
 dsimp! [true_and]
 refine hw d c 3 _ _ _ hd (by decide) fun n ws S1 e hl hna hn hd1 hx=>hK _ _ ?_
 have hdl:d<S1.length:=by obtain ⟨⟨_,_,_,_,_,_,g,_⟩,_⟩:=hd1; exact q2k g
 have hcl:c<S1.length:=by obtain ⟨⟨_,_,_,_,_,_,_,g,_⟩,_⟩:=hd1; exact q2k g
 have hdl0:d<S.length:=by obtain ⟨⟨_,_,_,_,_,_,g,_⟩,_⟩:=hd; exact q2k g
 have hcl0:c<S.length:=by obtain ⟨⟨_,_,_,_,_,_,_,g,_⟩,_⟩:=hd; exact q2k g
 have hnl:n<S1.length:=q2k e
 dsimp! [true_and]
 have em:mergeP [] [(Sum.inr (Str.ofString "basics"),PV.ref n),(Sum.inr (Str.ofString "names"),PV.ref (List.length (S1++[SO.dK []]))),(Sum.inr (Str.ofString "deck"),PV.ref d),(Sum.inr (Str.ofString "uses"),PV.int u),(Sum.inr (Str.ofString "leaves"),PV.bl true)]=z0b n (S1++[SO.dK []]).length d u:=rfl
 rw [em]
 have hl2:(S1++[SO.dK []]).length=S1.length+1:=by simp
 have g1:=q1m (q1f S1 (SO.dK [])) [SO.lst []]
 have g2:=q1f (S1++[SO.dK []]) (SO.lst [])
 have g3:=q1m (q1m e [SO.dK []]) [SO.lst []]
 refine ⟨big (by decide),⟨g1,by decide⟩,h S1.length n (S1++[SO.dK []]).length _ ⟨?_,q1v _ g1,⟨ws,q2r _ g3 (by omega),hl⟩,q2r _ g2 (by omega),by simp,by simp,?_⟩⟩
 ·refine hd1.ex (D:=[S1.length]) ((((Ex.refl _ _).app _).app _).set (.inl (by simp))) (by simp; omega) (by simp; omega)
 ·rw [hl2]; exact ⟨⟨by omega,by omega⟩,⟨by omega,by omega⟩,⟨by omega,by omega⟩,by omega,by omega⟩
def LoneQ (sp:Den):Prop:=∀(w b m d c u:Nat) (ps:List (Str×Kd)) (k:Kd) (cell:Int) (S:q0l) (E:EK) (Q:VC),Wt w b m d c u ps S→ps.length+1≤79→k.dp≤7→
 (∀(t:Tm) (qs:List (Str×Kd)) S',t.dp=0→t.sz=1→(∀e,Ty (ps++qs) e t k)→(∀j,oc t j=0)→af u t→qs.length≤1→Wt w b m d c u (ps++qs) S'→Ex [m,d,c] S S'→Q t.pv S')→sp [.ref w,k.pv,.int cell] S E Q
theorem lone_ok2 {sw sf sn:Den} (hw:∀(k:Kd) (S:q0l) (E:EK) (Q:VC),k.dp≤7→Q (.int k.lv) S→sw [k.pv] S E Q) (hf:∀(k:Kd) (x:Int) (S:q0l) (E:EK) (Q:VC),k.dp≤7→(∀y S',FK y k→Ex [] S S'→Q y S')→sf [k.pv,.int x] S E Q) (hn:WordD2 sn):LoneQ (fnP 3 6 (q5e sw sf sn)):=by
 intro w b m d c u ps k cell S E Q hW hN hk h
 have gw:=hW.wd
 have gm:=hW.nm
 have pn:=hW.ok
 have hne:=hW.ne
 refine ⟨rfl,?_⟩
 unfold q5e
 have rest:wSeq (wFor (q8m (wBin bIx (wVar 0) (wC (.str (Str.ofString "names"))))) (q8d 2 (q2s (q1u 3) (q2s (q1u 4) q8e))) (wIfS (wAnd (q1b (wBin cEq (wVar 4) (wVar 1))) (q1b (wBin cGt (wBin bMod (wBin q5s (wVar 2) (wC (.int 2))) (wC (.int 4))) (wC (.int 0)))))
   (wRet (wTup (q0d (wC (.str (Str.ofString "name"))) (q0d (wVar 3) wNil))))
   q1o))
   (wSeq (wSet 5 (q0v sn (q0d (wBin bIx (wVar 0) (wC (.str (Str.ofString "deck")))) (q0d (q7i (q8m (wBin bIx (wVar 0) (wC (.str (Str.ofString "names"))))) [none,none] (q8d 2 (q2s (q1u 0) (q2s (q1u 1) q8e))) q4t (wVar 0)) wNil))))
   (wSeq (q4d (wBM "list" q2f (wBin bIx (wVar 0) (wC (.str (Str.ofString "names")))) (q0d (wTup (q0d (wVar 5) (q0d (wVar 1) wNil))) wNil)))
   (wRet (wTup (q0d (wC (.str (Str.ofString "name"))) (q0d (wVar 5) wNil)))))) { nx:=fun _ S'=>Q .non S',rt:=Q } E [some (.ref w),some k.pv,some (.int cell),none,none,none] S:=by
  refine seqI fun K hK=>?_
  dsimp! [gw,z0q,q1c gm]
  refine forI (fun rest σ S2=>∃(qs:List (Str×Kd)) (j1 j2:Option PV),rest=qs.map encN∧(∀p∈qs,p∈ps)∧σ=[some (.ref w),some k.pv,some (.int cell),j1,j2,none]∧S2=S) ?_ ?_ _ _ _ ⟨ps,none,none,rfl,fun _ z=>z,rfl,rfl⟩
  ·rintro σ S2 ⟨qs,j1,j2,hr,hq,rfl,rfl⟩
   refine ⟨q1c gm,hK _ _ ?_⟩
   refine seqI fun K hK=>?_
   dsimp! [gw,z0q,wk_deck,q1c gm]
   refine ⟨by rw [List.length_map]; exact big (by omega),?_⟩
   refine compI (fun rest ys σ S3=>∃(qs rs:List (Str×Kd)) (j1 j2:Option PV),rest=qs.map encN∧ys=rs.map (fun p=>PV.str p.1)∧rs++qs=ps∧σ=[j1,j2]∧S3=S2) ?_ ?_ _ _ _ _ ⟨ps,[],none,none,rfl,rfl,rfl,rfl,rfl⟩
   ·rintro ys σ S3 ⟨qs,rs,i1,i2,hr,rfl,hq2,rfl,rfl⟩
    obtain rfl:qs=[]:=by cases qs with
     | nil=>rfl
     | cons a b=>simp at hr
    rw [List.append_nil] at hq2
    subst hq2
    refine ⟨q1c gm,?_⟩
    have g1:=q1f S3 (.lst (rs.map (fun p=>PV.str p.1)))
    have e1:rs.map (fun p=>PV.str p.1)=(rs.map (·.1)).map PV.str:=by simp
    rw [e1] at g1 ⊢
    have hx1:Ex [] S3 (S3++[.lst ((rs.map (·.1)).map PV.str)]):=Ex.new _ _ _
    have hW1:=hW.new [.lst ((rs.map (·.1)).map PV.str)]
    have hlt:=hW.lt
    refine hn d c S3.length (rs.map (·.1)) _ _ _ hW1.dk g1 (by rw [List.length_map]; omega) ?_ (by omega) (by omega) fun ww S4 nw nin _ hd4 hx4=>hK _ _ ?_
    ·intro v hv
     obtain ⟨p,hp,rfl⟩:=List.mem_map.mp hv
     exact (pn p hp).1
    have hW4:=hW1.nx hd4 hx4
    have hx5:Ex [m,d,c] S3 S4:=hx1.nil.trans (hx4.weak (by simp))
    have gm4:=hx4.get (q1m gm [.lst ((rs.map (·.1)).map PV.str)]) (by simp; exact hne.2.2.1)
    have gw4:=hx4.get (q1m gw [.lst ((rs.map (·.1)).map PV.str)]) (by simp; exact hne.1)
    refine seqI fun K2 hK2=>?_
    dsimp! [gw4,z0q,gm4,q1g gm4]
    refine ⟨big (by decide),by rw [List.length_map]; exact bigl (by omega),hK2 _ _ ?_⟩
    dsimp! [true_and]
    refine ⟨big (by decide),h (.nm ww) [(ww,k)] _ rfl rfl (fun e=>.nm (lkN_new nin)) (fun _=>rfl) trivial (Nat.le_refl _) ?_ (hx5.set (.inl (by simp)))⟩
    obtain ⟨dk,wd,⟨ws,b1,b2⟩,_,_,_,ne⟩:=hW4
    refine ⟨dk.ex (D:=[m]) ((Ex.refl _ _).set (.inl (by simp))) (by simp; exact fun z=>hne.2.2.1.1 z.symm) (by simp; exact fun z=>hne.2.2.1.2 z.symm),q2r _ wd (Ne.symm hne.2.2.2.1),⟨ws,q2r _ b1 (Ne.symm hne.2.2.2.2),b2⟩,?_,?_,?_,ne⟩
    ·rw [q1v _ gm4]; simp [encN]
    ·intro p hp
     rcases List.mem_append.mp hp with z | z
     ·exact pn p z
     ·simp at z; subst z; exact ⟨nw,by simp only; omega⟩
    ·rw [List.map_append,List.map_cons,List.map_nil,List.nodup_append]
     exact ⟨hW.nd,by simp,fun x hx y hy e=>by simp at hy; subst hy; subst e; exact nin hx⟩
   ·rintro x rest ys σ S3 ⟨qs,rs,i1,i2,hr,rfl,hq2,rfl,rfl⟩ N2 hN2
    obtain ⟨u1,qs,rfl⟩:∃p r,qs=p::r:=by
     cases qs with
     | nil=>simp at hr
     | cons a b=>exact ⟨a,b,rfl⟩
    simp only [List.map_cons,List.cons.injEq] at hr
    obtain ⟨rfl,rfl⟩:=hr
    refine ⟨q1c gm,?_⟩
    dsimp! [encN]
    exact hN2 _ _ _ ⟨qs,rs++[u1],_,_,rfl,by simp,by simp [←hq2],rfl,rfl⟩
  ·rintro x rest σ S2 ⟨qs,j1,j2,hr,hq,rfl,rfl⟩ N2 hN2
   obtain ⟨u1,qs,rfl⟩:∃p r,qs=p::r:=by
    cases qs with
    | nil=>simp at hr
    | cons a b=>exact ⟨a,b,rfl⟩
   simp only [List.map_cons,List.cons.injEq] at hr
   obtain ⟨rfl,rfl⟩:=hr
   refine ⟨q1c gm,?_⟩
   have hu1:=hq u1 (by simp)
   dsimp! [encN]
   refine cEq_kd (pn u1 hu1).2 (by omega) ?_
   have nxt:N2 [some (.ref w),some k.pv,some (.int cell),some (.str u1.1),some u1.2.pv,none] S2:=hN2 _ _ ⟨qs,_,_,rfl,fun p hp=>hq p (by simp [hp]),rfl,rfl⟩
   dsimp! [true_and]
   refine ite2 (fun z=>?_) (fun z=>nxt)
   refine ⟨⟨by decide,by decide⟩,by decide,ite2 (fun z2=>?_) (fun z2=>nxt)⟩
   exact ⟨big (by decide),h (.nm u1.1) [] S2 rfl rfl (fun e=>.nm (by rw [List.append_nil,lkN_of hW.nd hu1,z])) (fun _=>rfl) trivial (by simp) (by rw [List.append_nil]; exact hW) (Ex.refl _ _)⟩
 refine seqI fun K hK=>?_
 dsimp! [gw,wk_leaves]
 refine ⟨by decide,ite2 (fun z=>?_) (fun z=>hK _ _ rest)⟩
 refine hw k _ _ _ hk ?_
 dsimp! [true_and]
 refine ite2 (fun z=>?_) (fun z=>hK _ _ rest)
 refine ⟨⟨by decide,by decide⟩,by decide,⟨by decide,by decide⟩,?_⟩
 exact hf k _ _ _ _ hk fun y S' fy hx=>⟨big (by decide),h (.lf _ y) [] S' rfl rfl (fun e=>.lf _ fy (by omega)) (fun _=>rfl) trivial (by simp) (by rw [List.append_nil]; exact hW.ex hx (by simp) (by simp) (by simp) (by simp) (by simp)) hx.nil⟩
structure At (w b m d c a:Nat) (V:List (Nat×Kd)) (g:Nat→Nat) (S:q0l):Prop where
 at':S[a]?=some (.lst (V.reverse.map fun x=>PV.ref x.1))
 rw':∀x∈V,S[x.1]?=some (.lst [x.2.pv,.int (g x.1:Nat)])∧x.2.dp≤20
 ne:∀r∈a::V.map (·.1),r≠w∧r≠b∧r≠m∧r≠d∧r≠c
 na:a∉V.map (·.1)
 nd:(V.map (·.1)).Nodup
theorem At.ex {w b m d c a:Nat} {V:List (Nat×Kd)} {g:Nat→Nat} {S S':q0l} (h:At w b m d c a V g S) (e:Ex [m,d,c] S S'):At w b m d c a V g S':=by
 have k:∀r∈a::V.map (·.1),r∉[m,d,c]:=fun r hr=>by have:=h.ne r hr; simp; exact ⟨this.2.2.1,this.2.2.2.1,this.2.2.2.2⟩
 exact ⟨e.get h.at' (k a (by simp)),fun x hx=>by obtain ⟨h1,h2⟩:=h.rw' x hx; exact ⟨e.get h1 (k x.1 (List.mem_cons_of_mem _ (List.mem_map.mpr ⟨x,hx,rfl⟩))),h2⟩,h.ne,h.na,h.nd⟩
theorem At.nx {w b m d c a:Nat} {V:List (Nat×Kd)} {g:Nat→Nat} {S S':q0l} (h:At w b m d c a V g S) (e:Ex [d,c] S S'):At w b m d c a V g S':=h.ex (e.weak (by simp))
structure Got (u:Nat) (ps:List (Str×Kd)) (V:List (Nat×Kd)) (g g':Nat→Nat) (t:Tm) (k:Kd):Prop where
 ty:Ty ps (V.map (·.2)) t k
 af:af u t
 us:∀j x,V[j]?=some x→oc t j+g' x.1≤g x.1
def TermQ (sp:Den) (dd:Nat):Prop:=∀(w b m d c u a:Nat) (ps:List (Str×Kd)) (V:List (Nat×Kd)) (g:Nat→Nat) (k:Kd) (S:q0l) (E:EK) (Q:VC),Wt w b m d c u ps S→At w b m d c a V g S→ps.length+2 ^ dd≤79→k.dp+dd≤7→V.length+dd≤50→
 (∀(t:Tm) (qs:List (Str×Kd)) (g':Nat→Nat) S',t.dp≤2*dd→t.sz+2≤3*2 ^ dd→Got u (ps++qs) V g g' t k→qs.length≤2 ^ dd→Wt w b m d c u (ps++qs) S'→At w b m d c a V g' S'→Q t.pv S')→sp [.ref d,.ref w,k.pv,.ref a,.int dd] S E Q
def FnQ (sp:Den) (dd:Nat):Prop:=∀(w b m d c u a:Nat) (ps:List (Str×Kd)) (V:List (Nat×Kd)) (g:Nat→Nat) (k0 k1:Kd) (S:q0l) (E:EK) (Q:VC),Wt w b m d c u ps S→At w b m d c a V g S→ps.length+2 ^ dd≤79→k0.dp≤20→k1.dp+dd≤7→V.length+dd+1≤50→
 (∀(t:Tm) (qs:List (Str×Kd)) (g':Nat→Nat) S',t.dp≤2*dd+1→t.sz+1≤3*2 ^ dd→Got u (ps++qs) V g g' t (.p k0 k1)→qs.length≤2 ^ dd→Wt w b m d c u (ps++qs) S'→At w b m d c a V g' S'→Q t.pv S')→sp [.ref d,.ref w,.tup [k0.pv,k1.pv],.ref a,.int ((dd+1:Nat):Int)] S E Q
theorem fn_ok2 {sp:Den} {dd:Nat} (ht:TermQ sp dd):FnQ (fnP 5 6 (q6e sp)) dd:=by
 intro w b m d c u a ps V g k0 k1 S E Q hW hA hN d0 d1 hl h
 have gw:=hW.wd
 refine ⟨rfl,?_⟩
 unfold q6e
 refine seqI fun K hK=>?_
 dsimp! [hA.at',gw,wk_uses,q0g]
 have g1:=q1m hA.at' [SO.lst [k0.pv,PV.int u]]
 have g2:=q1f S (SO.lst [k0.pv,PV.int u])
 refine ⟨big (by decide),?_⟩
 dsimp! [q1g g1]
 refine ⟨by rw [List.length_map,List.length_reverse]; exact bigl (by omega),hK _ _ ?_⟩
 have hal:a<S.length:=q2k hA.at'
 obtain ⟨hwl,hbl,hml,hdl,hcl⟩:=hW.lt
 have hna:=hA.ne a (by simp)
 have e1:V.reverse.map (fun x=>PV.ref x.1)++[PV.ref S.length]=((S.length,k0)::V).reverse.map fun x=>PV.ref x.1:=by simp
 rw [e1]
 have hlt:∀x∈V,x.1<S.length:=fun x hx=>q2k (hA.rw' x hx).1
 have hW1:Wt w b m d c u ps ((S++[SO.lst [k0.pv,PV.int u]]).set a (.lst (((S.length,k0)::V).reverse.map fun x=>PV.ref x.1))):=hW.ex (D:=[a]) (((Ex.refl _ _).app _).set (.inl (by simp))) (by simp; exact Ne.symm hna.1) (by simp; exact Ne.symm hna.2.1) (by simp; exact Ne.symm hna.2.2.1) (by simp; exact Ne.symm hna.2.2.2.1) (by simp; exact Ne.symm hna.2.2.2.2)
 have hA1:At w b m d c a ((S.length,k0)::V) (fun r=>if r=S.length then u else g r) ((S++[SO.lst [k0.pv,PV.int u]]).set a (.lst (((S.length,k0)::V).reverse.map fun x=>PV.ref x.1))):=by
  refine ⟨q1v _ g1,fun x hx=>?_,fun r hr=>?_,?_,?_⟩
  ·rcases List.mem_cons.mp hx with z | z
   ·subst z
    refine ⟨?_,d0⟩
    simp only [if_true]
    exact q2r _ g2 (by omega)
   ·obtain ⟨h1,h2⟩:=hA.rw' x z
    have:=hlt x z
    rw [if_neg (by omega)]
    exact ⟨q2r _ (q1m h1 _) (fun e=>hA.na (List.mem_map.mpr ⟨x,z,e.symm⟩)),h2⟩
  ·rcases List.mem_cons.mp hr with z | z
   ·subst z; exact hna
   ·rw [List.map_cons,List.mem_cons] at z
    rcases z with z | z
    ·subst z; exact ⟨by omega,by omega,by omega,by omega,by omega⟩
    ·exact hA.ne r (by simp only [List.mem_cons]; exact .inr z)
  ·rw [List.map_cons,List.mem_cons]
   rintro (z | z)
   ·have:a=S.length:=z
    omega
   ·exact hA.na z
  ·rw [List.map_cons,List.nodup_cons]
   refine ⟨fun z=>?_,hA.nd⟩
   obtain ⟨x,hx,e⟩:=List.mem_map.mp z
   have:=hlt x hx
   have:x.1=S.length:=e
   omega
 generalize hr0:S.length=r0 at hA1 hW1 hlt ⊢
 generalize (S++[SO.lst [k0.pv,PV.int u]]).set a (.lst (((r0,k0)::V).reverse.map fun x=>PV.ref x.1))=S1 at hW1 hA1 ⊢
 refine seqI fun K hK=>?_
 dsimp! [q2q]
 rw [show ((dd+1:Nat):Int) - 1=(dd:Int) by omega]
 refine ht w b m d c u a ps _ _ k1 _ _ _ hW1 hA1 hN d1 (by simp; omega) fun t qs g' S2 t1 t2 t3 t4 hW2 hA2=>hK _ _ ?_
 refine seqI fun K hK=>?_
 have g3:=hA2.at'
 rw [List.reverse_cons,List.map_append,List.map_cons,List.map_nil] at g3
 dsimp! [g3,q1g g3,List.getLast?_append,List.getLast?_singleton,Option.or,Option.some_or,List.dropLast_concat]
 refine hK _ _ ?_
 dsimp! [q0g]
 refine ⟨big (by decide),h (.fn k0.pv t) qs g' _ (by simp only [Tm.dp]; omega) (by simp only [Tm.sz]; omega) ⟨.fn d0 t3.ty,⟨?_,t3.af⟩,fun j x hx=>?_⟩ t4 (hW2.ex (D:=[a]) ((Ex.refl _ _).set (.inl (by simp))) (by simp; exact Ne.symm hna.1) (by simp; exact Ne.symm hna.2.1) (by simp; exact Ne.symm hna.2.2.1) (by simp; exact Ne.symm hna.2.2.2.1) (by simp; exact Ne.symm hna.2.2.2.2)) ⟨q1v _ g3,fun x hx=>?_,hA.ne,hA.na,hA.nd⟩⟩
 ·have:=t3.us 0 (r0,k0) rfl
  simp only [if_true] at this
  omega
 ·have:=t3.us (j+1) x (by simpa using hx)
  have hxl:=hlt x (List.mem_of_getElem? hx)
  rw [if_neg (by omega)] at this
  exact this
 ·obtain ⟨h1,h2⟩:=hA2.rw' x (List.mem_cons_of_mem _ hx)
  exact ⟨q2r _ h1 (fun e=>hA.na (List.mem_map.mpr ⟨x,hx,e.symm⟩)),h2⟩
def OfQ (sp:Den) (dd:Nat):Prop:=∀(w b m d c u a:Nat) (ps:List (Str×Kd)) (V:List (Nat×Kd)) (g:Nat→Nat) (k:Kd) (S:q0l) (E:EK) (Q:VC),Wt w b m d c u ps S→At w b m d c a V g S→ps.length+2 ^ (dd+1)≤79→k.dp+dd+1≤7→dd≤4→V.length+dd+1≤50→
 (∀(t:Tm) (qs:List (Str×Kd)) (g':Nat→Nat) S',t.dp≤2*(dd+1)→t.sz+2≤3*2 ^ (dd+1)→Got u (ps++qs) V g g' t k→qs.length≤2 ^ (dd+1)→Wt w b m d c u (ps++qs) S'→At w b m d c a V g' S'→Q t.pv S')→sp [.ref d,.ref w,k.pv,.ref a,.int ((dd+1:Nat):Int)] S E Q
theorem of_ok2 {sk sn sf st:Den} {dd:Nat} (hk:KindP sk) (hn:NextD sn) (hf:FnQ sf dd) (ht:TermQ st dd):OfQ (fnP 5 8 (q6d sk sn sf st)) dd:=by
 intro w b m d c u a ps V g k S E Q hW hA hN dk d4 hl h
 have gw:=hW.wd
 obtain ⟨ws,gb,hws⟩:=hW.bs
 have e2:2 ^ (dd+1)=2*2 ^ dd:=by rw [Nat.pow_succ]; omega
 refine ⟨rfl,?_⟩
 unfold q6d
 refine seqI fun K hK=>?_
 dsimp! [gw,wk_basics]
 refine hk d c b ws _ _ _ hW.dk gb (by rintro rfl; simp at hws) hW.ne.2.1.1 hW.ne.2.1.2 fun o S1 o2 hd1 hx1=>hK _ _ ?_
 have hW1:=hW.nx hd1 hx1
 have hA1:=hA.nx hx1
 refine seqI fun K hK=>?_
 dsimp! [true_and]
 refine hn d c _ _ _ hd1 fun way S2 w0 w1 hd2 hx2=>hK _ _ ?_
 have hW2:=hW1.nx hd2 hx2
 have hA2:=hA1.nx hx2
 have last:∀(f:Tm) (qs:List (Str×Kd)) (g1:Nat→Nat) (S3:q0l),f.dp≤2*dd+1→f.sz+1≤3*2 ^ dd→Got u (ps++qs) V g g1 f (.p o k)→qs.length≤2 ^ dd→Wt w b m d c u (ps++qs) S3→At w b m d c a V g1 S3→wRet (wTup (q0d (wC (.str (Str.ofString "of"))) (q0d (wVar 7) (q0d (q0v st (q0d (wVar 0) (q0d (wVar 1) (q0d (wVar 5) (q0d (wVar 3) (q0d (wBin bSub (wVar 4) (wC (.int 1))) wNil)))))) wNil)))) { nx:=fun _ S'=>Q .non S',rt:=Q } E [some (.ref d),some (.ref w),some k.pv,some (.ref a),some (.int ((dd+1:Nat):Int)),some o.pv,some (.int way),some f.pv] S3:=by
  intro f qs g1 S3 f1 f2 f3 f4 hW3 hA3
  dsimp! [true_and]
  rw [show ((dd+1:Nat):Int) - 1=(dd:Int) by omega]
  refine ht w b m d c u a _ V g1 o _ _ _ hW3 hA3 (by rw [List.length_append]; omega) (by omega) (by omega) fun t rs g2 S4 t1 t2 t3 t4 hW4 hA4=>⟨big (by decide),h (.ap f t) (qs++rs) g2 S4 (by simp only [Tm.dp]; omega) (by simp only [Tm.sz]; omega) ⟨?_,⟨f3.af,t3.af⟩,fun j x hx=>?_⟩ (by rw [List.length_append]; omega) (by rw [←List.append_assoc]; exact hW4) hA4⟩
  ·rw [←List.append_assoc]
   exact .ap f3.ty.mono t3.ty
  ·have h1:=f3.us j x hx
   have h2:=t3.us j x hx
   simp only [oc]
   omega
 refine seqI fun K hK=>?_
 dsimp! [true_and]
 refine ⟨by decide,ite2 (fun z=>?_) (fun z=>?_)⟩
 ·refine ⟨big (by decide),?_⟩
  refine hf w b m d c u a ps V g o k _ _ _ hW2 hA2 (by omega) (by omega) (by omega) (by omega) fun f qs g1 S3 f1 f2 f3 f4 hW3 hA3=>hK _ _ (last f qs g1 S3 f1 f2 f3 f4 hW3 hA3)
 ·refine ⟨big (by decide),?_⟩
  rw [show ((dd+1:Nat):Int) - 1=(dd:Int) by omega]
  exact ht w b m d c u a ps V g (.p o k) _ _ _ hW2 hA2 (by omega) (by simp only [Kd.dp]; omega) (by omega) fun f qs g1 S3 f1 f2 f3 f4 hW3 hA3=>hK _ _ (last f qs g1 S3 (by omega) (by omega) f3 f4 hW3 hA3)
theorem nd_inj {l:List Nat} (nd:l.Nodup) {i j:Nat} (hi:i<l.length) (hj:j<l.length) (e:l[i]=l[j]):i=j:=by
 rw [←List.Nodup.idxOf_getElem nd i hi,e,List.Nodup.idxOf_getElem nd j hj]
theorem term_ok2 {sn sf so sl:Den} {dd:Nat} (hn:NextD sn) (hl:LoneQ sl) (hf:∀e,dd=e+1→FnQ sf e) (ho:∀e,dd=e+1→OfQ so e) (h5:dd≤5):TermQ (fnP 5 8 (q5b sn sf so sl)) dd:=by
 intro w b m d c u a ps V g k S E Q hW hA hN dk hrl h
 have p1:1≤2 ^ dd:=Nat.one_le_two_pow
 refine ⟨rfl,?_⟩
 unfold q5b
 refine seqI fun K hK=>?_
 dsimp! [true_and]
 refine hn d c _ _ _ hW.dk fun way S1 w0 w1 hd1 hx1=>hK _ _ ?_
 have hW1:=hW.nx hd1 hx1
 have hA1:=hA.nx hx1
 clear hK K
 have tail:∀(S3:q0l) (j6 j7:Option PV),Wt w b m d c u ps S3→At w b m d c a V g S3→wSeq (wIfS (wAnd (q1b (wBin cGt (wVar 4) (wC (.int 0)))) (wAnd (wTru (wCB fIsi (q0d (wVar 2) (q0d (wC (.ty "tuple")) wNil)))) (q1b (wBin cGt (wBin bMod (wVar 5) (wC (.int 8))) (wC (.int 4))))))
   (wRet (q0v sf (q0d (wVar 0) (q0d (wVar 1) (q0d (wVar 2) (q0d (wVar 3) (q0d (wVar 4) wNil)))))))
   q1o)
   (wSeq (wIfS (wAnd (q1b (wBin cGt (wVar 4) (wC (.int 0)))) (q1b (wBin cGt (wBin bMod (wVar 5) (wC (.int 8))) (wC (.int 0)))))
   (wRet (q0v so (q0d (wVar 0) (q0d (wVar 1) (q0d (wVar 2) (q0d (wVar 3) (q0d (wVar 4) wNil)))))))
   q1o)
   (wRet (q0v sl (q0d (wVar 1) (q0d (wVar 2) (q0d (wBin q5s (wVar 5) (wC (.int 8))) wNil)))))) { nx:=fun _ S'=>Q .non S',rt:=Q } E [some (.ref d),some (.ref w),some k.pv,some (.ref a),some (.int dd),some (.int way),j6,j7] S3:=by
  intro S3 j6 j7 hW3 hA3
  have lone:wRet (q0v sl (q0d (wVar 1) (q0d (wVar 2) (q0d (wBin q5s (wVar 5) (wC (.int 8))) wNil)))) { nx:=fun _ S'=>Q .non S',rt:=Q } E [some (.ref d),some (.ref w),some k.pv,some (.ref a),some (.int dd),some (.int way),j6,j7] S3:=by
   dsimp! [true_and]
   refine ⟨⟨by decide,by decide⟩,?_⟩
   exact hl w b m d c u ps k _ _ _ _ hW3 (by omega) (by omega) fun t qs S4 t1 t2 t3 t4 t5 t6 hW4 hx4=>h t qs g S4 (by omega) (by omega) ⟨t3 _,t5,fun j x hx=>by rw [t4 j]; omega⟩ (by omega) hW4 (hA3.ex hx4)
  cases dd with
  | zero=>
   refine seqI fun K hK=>?_
   have e0:((0:Int)<((0:Nat):Int))=False:=eq_false (by omega)
   dsimp! [e0]
   refine hK _ _ ?_
   refine seqI fun K hK=>?_
   dsimp! [e0]
   exact hK _ _ lone
  | succ e=>
   have e0:((0:Int)<((e+1:Nat):Int))=True:=eq_true (by omega)
   have second:wSeq (wIfS (wAnd (q1b (wBin cGt (wVar 4) (wC (.int 0)))) (q1b (wBin cGt (wBin bMod (wVar 5) (wC (.int 8))) (wC (.int 0)))))
     (wRet (q0v so (q0d (wVar 0) (q0d (wVar 1) (q0d (wVar 2) (q0d (wVar 3) (q0d (wVar 4) wNil)))))))
     q1o)
     (wRet (q0v sl (q0d (wVar 1) (q0d (wVar 2) (q0d (wBin q5s (wVar 5) (wC (.int 8))) wNil))))) { nx:=fun _ S'=>Q .non S',rt:=Q } E [some (.ref d),some (.ref w),some k.pv,some (.ref a),some (.int ((e+1:Nat):Int)),some (.int way),j6,j7] S3:=by
    refine seqI fun K hK=>?_
    dsimp! [e0]
    refine ⟨by decide,ite2 (fun z=>?_) (fun z=>hK _ _ lone)⟩
    exact ho e rfl w b m d c u a ps V g k _ _ _ hW3 hA3 hN (by omega) (by omega) (by omega) h
   refine seqI fun K hK=>?_
   cases k with
   | a s=>
    dsimp! [e0,Kd.pv]
    exact hK _ _ second
   | p k0 k1=>
    simp only [Kd.dp] at dk
    dsimp! [e0,Kd.pv]
    refine ⟨by decide,ite2 (fun z=>?_) (fun z=>hK _ _ second)⟩
    have e2:2 ^ (e+1)=2*2 ^ e:=by rw [Nat.pow_succ]; omega
    exact hf e rfl w b m d c u a ps V g k0 k1 _ _ _ hW3 hA3 (by omega) (by omega) (by omega) (by omega) fun t qs g' S4 t1 t2 t3 t4 hW4 hA4=>h t qs g' S4 (by omega) (by omega) t3 (by omega) hW4 hA4
 refine seqI fun K hK=>?_
 dsimp! [q1c hA1.at',List.length_map,List.length_reverse]
 rw [Int.toNat_natCast]
 refine ⟨⟨by omega,by omega⟩,by rw [rng_len]; exact big (by omega),?_⟩
 have hAt:∀j:Nat,j<V.length→∃x,x∈V∧V[V.length - 1 - j]?=some x∧atI (V.reverse.map fun x=>PV.ref x.1) (j:Int)=some (.ref x.1):=fun j hj=>by
  have h1:V.length - 1 - j<V.length:=by omega
  refine ⟨V[V.length - 1 - j],List.getElem_mem _,List.getElem?_eq_getElem h1,?_⟩
  rw [q5v _ j (by simpa using hj),List.getElem_map,List.getElem_reverse]
 refine compI (fun rest ys σ S2=>∃(is:List Nat) (j1:Option PV),ys=encI is∧(∀i∈is,i<V.length∧∃x,V[V.length - 1 - i]?=some x∧x.2=k∧0<g x.1)∧is.length+rest.length≤V.length∧(∀x∈rest,∃j:Nat,j<V.length∧x=.int j)∧σ=[j1,some k.pv,some (.ref a)]∧S2=S1) ?_ ?_ _ _ _ _ ⟨[],none,rfl,by simp,by rw [rng_len]; simp,fun x hx=>rng_mem hx,rfl,rfl⟩
 ·rintro ys σ S2 ⟨is,j1,rfl,hi,hil,-,rfl,rfl⟩
  refine ⟨trivial,hK _ _ ?_⟩
  simp only [List.length_nil,Nat.add_zero] at hil
  have hlI:(encI is).length=is.length:=by simp [encI]
  have g1:=q1f S2 (.lst (encI is))
  have hxA:Ex [] S2 (S2++[SO.lst (encI is)]):=Ex.new _ _ _
  have g1':=q1m g1 [SO.lst []]
  have hxB:Ex [] S2 (S2++[SO.lst (encI is)]++[SO.lst []]):=hxA.app _
  have hWB:=hW1.ex hxB (by simp) (by simp) (by simp) (by simp) (by simp)
  have hAB:=hA1.ex hxB.nil
  refine seqI fun K hK=>?_
  dsimp! [q1c g1',eqBs_encI]
  refine ⟨big (by decide),q6k is,ite2 (fun z=>?_) (fun z=>hK _ _ (tail _ _ _ hWB hAB))⟩
  have hne:is≠[]:=by rintro rfl; simp at z
  have go:∀K0:Ev.Loc→q0l→Prop,wSeq (wSet 7 (wBin bIx (wVar 6) (wBin bMod (wBin q5s (wVar 5) (wC (.int 8))) (wCB fLen (q0d (wVar 6) wNil)))))
    (wSeq (wAsg (wBin bSub (wBin bIx (wBin bIx (wVar 3) (wVar 7)) (wC (.int 1))) (wC (.int 1))) (q9u (wBin bIx (wVar 3) (wVar 7)) (wC (.int 1)) sSet))
    (wRet (wTup (q0d (wC (.str (Str.ofString "bound"))) (q0d (wBin bSub (wBin bSub (wCB fLen (q0d (wVar 3) wNil)) (wC (.int 1))) (wVar 7)) wNil))))) { nx:=K0,rt:=Q } E [some (.ref d),some (.ref w),some k.pv,some (.ref a),some (.int dd),some (.int way),some (.ref S2.length),none] (S2++[SO.lst (encI is)]++[SO.lst []]):=by
   intro K0
   refine seqI fun K2 hK2=>?_
   obtain ⟨y,hy,hat⟩:=atI_modN (i:=way / 8) hne
   have hpos:0<is.length:=List.length_pos_iff.mpr hne
   dsimp! [g1',q1c g1',hlI,hat]
   refine ⟨⟨by decide,by decide⟩,by omega,hK2 _ _ ?_⟩
   obtain ⟨hyl,x0,hx0,hk0,hg0⟩:=hi y hy
   obtain ⟨x,hx,hxg,har⟩:=hAt y hyl
   have exx:x0=x:=by rw [hx0] at hxg; exact Option.some.inj hxg
   subst exx
   obtain ⟨gr,dr⟩:=hAB.rw' x0 hx
   refine seqI fun K2 hK2=>?_
   have ix1:ixN 2 1=some 1:=ixN_nat 2 1 (by decide)
   dsimp! [hAB.at',har,gr,q2q,ix1]
   refine hK2 _ _ ?_
   have hmem:x0.1∈V.map (·.1):=List.mem_map.mpr ⟨x0,hx,rfl⟩
   have hna:=hAB.ne x0.1 (List.mem_cons_of_mem _ hmem)
   rw [show ((g x0.1:Nat):Int) - 1=((g x0.1 - 1:Nat):Int) by omega]
   have gr2:=q1v (.lst [x0.2.pv,PV.int ((g x0.1 - 1:Nat):Int)]) gr
   have hra:x0.1≠a:=fun e=>hAB.na (by rw [←e]; exact hmem)
   have ha2:=q2r (j:=x0.1) (.lst [x0.2.pv,PV.int ((g x0.1 - 1:Nat):Int)]) hAB.at' hra
   dsimp! [q1c ha2,List.length_map,List.length_reverse]
   rw [show (V.length:Int) - 1 - (y:Int)=((V.length - 1 - y:Nat):Int) by omega]
   refine ⟨big (by decide),h (.bd (V.length - 1 - y)) [] (fun r=>if r=x0.1 then g r - 1 else g r) _ (by simp only [Tm.dp]; omega) (by simp only [Tm.sz]; omega) ⟨.bd ?_,trivial,fun j x hxj=>?_⟩ (by simp) (by
    rw [List.append_nil]
    exact hWB.ex (D:=[x0.1]) ((Ex.refl _ _).set (.inl (by simp))) (by simp; exact Ne.symm hna.1) (by simp; exact Ne.symm hna.2.1) (by simp; exact Ne.symm hna.2.2.1) (by simp; exact Ne.symm hna.2.2.2.1) (by simp; exact Ne.symm hna.2.2.2.2)) ⟨ha2,fun x hx'=>?_,hAB.ne,hAB.na,hAB.nd⟩⟩
   ·rw [List.getElem?_map,hx0,Option.map_some,hk0]
   ·simp only [oc]
    by_cases e:V.length - 1 - y=j
    ·subst e
     rw [hx0] at hxj
     cases hxj
     rw [if_pos rfl,if_pos rfl]
     omega
    ·rw [if_neg e,if_neg (fun e2=>?_)]
     ·omega
     ·have n1:(V.map (·.1))[V.length - 1 - y]?=some x0.1:=by rw [List.getElem?_map,hx0,Option.map_some]
      have n2:(V.map (·.1))[j]?=some x0.1:=by rw [List.getElem?_map,hxj,Option.map_some,e2]
      obtain ⟨l1,q1⟩:=List.getElem?_eq_some_iff.mp n1
      obtain ⟨l2,q2⟩:=List.getElem?_eq_some_iff.mp n2
      exact e (nd_inj hA.nd l1 l2 (q1.trans q2.symm))
   ·by_cases e:x.1=x0.1
    ·have:x=x0:=by
      obtain ⟨i,hi1,hi2⟩:=List.getElem_of_mem hx'
      obtain ⟨i',hi1',hi2'⟩:=List.getElem_of_mem hx
      have:i=i':=nd_inj hA.nd (by simpa using hi1) (by simpa using hi1') (by simp [hi2,hi2',e])
      subst this
      rw [←hi2,←hi2']
     subst this
     rw [if_pos rfl]
     exact ⟨gr2,dr⟩
    ·rw [if_neg e]
     obtain ⟨h1,h2⟩:=hAB.rw' x hx'
     exact ⟨q2r _ h1 (Ne.symm e),h2⟩
  refine ⟨by decide,ite2 (fun z=>go _) (fun z=>ite2 (fun z=>go _) (fun z=>hK _ _ (tail _ _ _ hWB hAB)))⟩
 ·rintro x rest ys σ S2 ⟨is,j1,rfl,hi,hil,hx,rfl,rfl⟩ N2 hN2
  obtain ⟨j,hj,rfl⟩:=hx x (by simp)
  rw [List.length_cons] at hil
  refine ⟨trivial,?_⟩
  obtain ⟨y,hy,hyg,har⟩:=hAt j hj
  obtain ⟨gr,dr⟩:=hA1.rw' y hy
  dsimp! [hA1.at',har,gr,q0g,q2q]
  have nxt:N2 (encI is) [some (.int j),some k.pv,some (.ref a)] S2:=hN2 _ _ _ ⟨is,_,rfl,hi,by omega,fun x z=>hx x (by simp [z]),rfl,rfl⟩
  have nxt2:y.2=k→0<g y.1→N2 (encI is++[PV.int j]) [some (.int j),some k.pv,some (.ref a)] S2:=fun q1 q2=>hN2 _ _ _ ⟨is++[j],_,by simp [encI],fun i z=>by
   rcases List.mem_append.mp z with z | z
   ·exact hi i z
   ·simp at z; subst z; exact ⟨hj,y,hyg,q1,q2⟩,by simp; omega,fun x z=>hx x (by simp [z]),rfl,rfl⟩
  refine cEq_kd dr (by omega) ?_
  dsimp! [hA1.at',har,gr,q2q]
  exact ite2 (fun z=>ite2 (fun z2=>nxt2 z (by omega)) (fun z=>nxt)) (fun z=>nxt)
def q3j (spplaces:Den) (spdone_at:Den):WS:=
 (wSeq (wSet 1 (wLst (q0d (wVar 0) wNil)))
 (wSeq (wSet 2 (q0v spplaces (q0d (wVar 0) wNil)))
 (wSeq (z0c (wTru (wVar 2)) (wSeq (q4d (wBM "list" q2f (wVar 1) (q0d (q0v spdone_at (q0d (wBin bIx (wVar 1) (wNeg (wC (.int 1)))) (q0d (wBin bIx (wVar 2) (wC (.int 0))) wNil))) wNil)))
 (wSet 2 (q0v spplaces (q0d (wBin bIx (wVar 1) (wNeg (wC (.int 1)))) wNil)))))
 (wRet (wVar 1)))))
def q3k (spsteps_of:Den):WS:=
 (wRet (wBin bIx (q0v spsteps_of (q0d (wVar 0) wNil)) (wNeg (wC (.int 1)))))
def ci (p:List Nat):List Int:=p.map fun x:Nat=>(x:Int)
theorem pj_ci (p:List Nat):pj (ci p)=.tup (encI p):=by simp [pj,ci,encI]
theorem pl_pls {t:Tm} {p:List Nat} (h:Pl t p):ci p∈pls t:=by
 induction h with
 | here k b a=>simp [pls,isFn,ci]
 | fn k t p _ ih=>simp only [pls]; exact List.mem_map.mpr ⟨_,ih,rfl⟩
 | l f a p _ ih=>simp only [pls,List.mem_append]; exact .inr (.inl (List.mem_map.mpr ⟨_,ih,rfl⟩))
 | r f a p _ ih=>simp only [pls,List.mem_append]; exact .inr (.inr (List.mem_map.mpr ⟨_,ih,rfl⟩))
theorem pls_pl:∀{t:Tm} {q:List Int},q∈pls t→∃p,q=ci p∧Pl t p
 | .nm _,q,h=>by simp [pls] at h
 | .lf _ _,q,h=>by simp [pls] at h
 | .bd _,q,h=>by simp [pls] at h
 | .fn k t,q,h=>by
  simp only [pls,List.mem_map] at h
  obtain ⟨r,hr,rfl⟩:=h
  obtain ⟨p,rfl,hp⟩:=pls_pl hr
  exact ⟨0::p,rfl,.fn k t p hp⟩
 | .ap f a,q,h=>by
  simp only [pls,List.mem_append,List.mem_map] at h
  rcases h with h | ⟨r,hr,rfl⟩ | ⟨r,hr,rfl⟩
  ·split at h
   ·rename_i hf
    rw [List.mem_singleton] at h
    subst h
    cases f with
    | fn k b=>exact ⟨[],rfl,.here k b a⟩
    | nm _=>cases hf
    | lf _ _=>cases hf
    | bd _=>cases hf
    | ap _ _=>cases hf
   ·cases h
  ·obtain ⟨p,rfl,hp⟩:=pls_pl hr
   exact ⟨0::p,rfl,.l f a p hp⟩
  ·obtain ⟨p,rfl,hp⟩:=pls_pl hr
   exact ⟨1::p,rfl,.r f a p hp⟩
theorem nf_of {t:Tm} (h:pls t=[]):Nf t:=fun u hu=>by
 obtain ⟨p,hp,_⟩:=R_pl hu
 have:=pl_pls hp
 rw [h] at this
 cases this
theorem pl_len {t:Tm} {p:List Nat} (h:Pl t p):p.length≤t.dp:=by
 have:=(q8r t).2 _ (pl_pls h)
 simpa [ci] using this
inductive StepL:Tm→List Tm→Prop
 | stop {t:Tm}:pls t=[]→StepL t [t]
 | go {t:Tm} {p:List Nat} {qs:List (List Int)} {L:List Tm}:pls t=ci p::qs→Pl t p→StepL (dn t p) L→StepL t (t::L)
theorem StepL.last {t:Tm} {L:List Tm} (h:StepL t L):∃M u,L=M++[u]∧Rs t u∧Nf u:=by
 induction h with
 | stop h=>exact ⟨[],_,rfl,.nil _,nf_of h⟩
 | go h hp _ ih=>
  obtain ⟨M,u,rfl,h1,h2⟩:=ih
  exact ⟨_::M,u,rfl,.cons (pl_R hp) h1,h2⟩
def StepsD (sp:Den):Prop:=∀(t:Tm) (S:q0l) (E:EK) (Q:VC),af 1 t→t.sz≤1000→t.nd≤400→(∀(r:Nat) (L:List Tm) S',S'[r]?=some (.lst (L.map Tm.pv))→S.length≤r→StepL t L→L.length≤1000→Ex [] S S'→Q (.ref r) S')→sp [t.pv] S E Q
theorem steps_ok {s1 s2:Den} (h1:PlsD s1) (h2:DoneD s2):StepsD (fnP 1 3 (q3j s1 s2)):=by
 intro t S E Q ha hz hn h
 refine ⟨rfl,?_⟩
 unfold q3j
 refine seqI fun K hK=>?_
 dsimp! [true_and]
 refine ⟨big (by decide),hK _ _ ?_⟩
 clear hK K
 have g0:=q1f S (SO.lst [t.pv])
 have x0:Ex [] S (S++[SO.lst [t.pv]]):=Ex.new [] _ _
 refine seqI fun K hK=>?_
 dsimp! [true_and]
 refine h1 t _ _ _ hz fun r S1 e hr hx=>hK _ _ ?_
 clear hK K
 rw [List.length_append,List.length_singleton] at hr
 refine seqI fun K hK=>?_
 refine whileI (fun m σ S2=>∃(us:List Tm) (u:Tm) (q:Nat),σ=[some t.pv,some (.ref S.length),some (.ref q)]∧S2[S.length]?=some (.lst ((us++[u]).map Tm.pv))∧S2[q]?=some (.lst ((pls u).map pj))∧S.length<q∧m=u.sz∧af 1 u∧us.length+u.sz≤1000∧u.nd≤400∧(∀L,StepL u (u::L)→StepL t (us++u::L))∧Ex [] S S2) t.sz ⟨[],t,r,rfl,hx.get g0 (by simp),e,by omega,rfl,ha,by simpa using hz,hn,fun L h=>h,x0.trans hx⟩ ?_
 rintro m σ S2 ⟨us,u,q,rfl,e1,e2,hq,rfl,ua,uz,un,hL,hx2⟩ T F hT hF
 dsimp! [e2]
 have e1':=e1
 rw [List.map_append,List.map_cons,List.map_nil] at e1'
 cases ep:pls u with
 | nil=>
  rw [if_neg (by simp)]
  refine hF _ (hK _ _ ?_)
  dsimp! [true_and]
  exact h _ (us++[u]) _ e1 (Nat.le_refl _) (hL [] (.stop ep)) (by rw [List.length_append,List.length_singleton]; have:=nd_sz u; omega) hx2
 | cons p0 ps=>
  obtain ⟨p,rfl,hp⟩:=pls_pl (t:=u) (q:=p0) (by rw [ep]; simp)
  rw [if_pos (by simp)]
  rw [ep] at e2
  have hpl:=pl_len hp
  have hd:=dp_nd u
  obtain ⟨ra,_,rz,rn⟩:=R_af (pl_R hp) ua
  refine hT _ fun N hN=>?_
  refine seqI fun K2 hK2=>?_
  dsimp! [e1',e2,q8c,q0g,pj_ci]
  refine h2 u p _ _ _ hp (by omega) (by omega) fun S3 hx3=>?_
  have e3:=hx3.get e1' (by simp)
  dsimp! [q1g e3]
  refine ⟨bigl (by simp only [List.length_append,List.length_map,List.length_singleton]; omega),hK2 _ _ ?_⟩
  clear hK2
  have e4:=q1v (.lst (us.map Tm.pv++[u.pv]++[(dn u p).pv])) e3
  have x4:Ex [] S (S3.set S.length (.lst (us.map Tm.pv++[u.pv]++[(dn u p).pv]))):=(hx2.trans hx3).set (.inr (Nat.le_refl _))
  have e4':(S3.set S.length (.lst (us.map Tm.pv++[u.pv]++[(dn u p).pv])))[S.length]?=some (.lst (((us++[u])++[dn u p]).map Tm.pv)):=by rw [e4]; simp
  generalize S3.set S.length (.lst (us.map Tm.pv++[u.pv]++[(dn u p).pv]))=S4 at e4 x4 e4' ⊢
  dsimp! [e4,q8c]
  refine h1 (dn u p) _ _ _ (by omega) fun r5 S5 e5 hr5 hx5=>?_
  have l4:=q2k e4
  refine hN (dn u p).sz _ _ (by omega) ⟨us++[u],dn u p,r5,rfl,hx5.get e4' (by simp),e5,by omega,rfl,ra,by rw [List.length_append,List.length_singleton]; omega,by omega,fun L hl=>?_,x4.trans hx5⟩
  have:=hL _ (.go ep hp hl)
  rw [List.append_assoc]
  exact this
def PlainD (sp:Den):Prop:=∀(t:Tm) (S:q0l) (E:EK) (Q:VC),af 1 t→t.sz≤1000→t.nd≤400→(∀(u:Tm) S',Rs t u→Nf u→Ex [] S S'→Q u.pv S')→sp [t.pv] S E Q
theorem plain_ok {s1:Den} (h1:StepsD s1):PlainD (fnP 1 1 (q3k s1)):=by
 intro t S E Q ha hz hn h
 refine ⟨rfl,?_⟩
 unfold q3k
 dsimp! [true_and]
 refine h1 t _ _ _ ha hz hn fun r L S1 e _ hL _ hx=>?_
 obtain ⟨M,u,rfl,h2,h3⟩:=hL.last
 rw [List.map_append,List.map_cons,List.map_nil] at e
 dsimp! [e,q8c]
 exact h u S1 h2 h3 hx
theorem fresh_at {w b m d c u:Nat} {ps:List (Str×Kd)} {S:q0l} (h:Wt w b m d c u ps S) (g:Nat→Nat):At w b m d c S.length [] g (S++[SO.lst []]):=by
 have hl:=h.lt
 exact ⟨q1f _ _,by simp,fun r hr=>by simp at hr; subst hr; exact ⟨by omega,by omega,by omega,by omega,by omega⟩,by simp,by simp⟩
theorem tgr_dp:∀(x:Nt) (env:List Nat),(tgr x env).dp=x.dp
 | .nm _,_=>rfl
 | .lf _ _,_=>rfl
 | .vr _,_=>rfl
 | .fn _ o t,env=>by simp only [tgr,Tm.dp,Nt.dp,tgr_dp t]
 | .ap f a,env=>by simp only [tgr,Tm.dp,Nt.dp,tgr_dp f,tgr_dp a]
def LDoneD (sp:Den):Prop:=∀(t:Tm) (p:List Nat) (S:q0l) (E:EK) (Q:VC),Pl t p→t.gd 0→af 1 t→t.nd≤158→t.sz≤1000→(∀S',Ex [] S S'→Q (dn t p).pv S')→sp [t.pv,.tup (encI p)] S E Q
theorem ldone_ok2 {s1 s2 s3:Den} (h1:∀(x:Nt),x.dp≤158→∀(p:Nat) (S:q0l) (E:EK) (Q:VC),S[p]?=some (.lst [])→x.wf []→(∀S',Ex [] S S'→Q (tgr x []).pv S')→s1 [x.pv,.ref p] S E Q)
  (h2:∀{t:Tm} {p:List Nat},Pl t p→t.gd 0→t.dp≤158→∀(S:q0l) (E:EK) (Q:VC),Q (da (apt t [] 0) p).pv S→s2 [(apt t [] 0).pv,.tup (encI p)] S E Q)
  (h3:∀(t:Tm),t.dp≤158→t.gd 0→t.sz≤1000→∀(p q:Nat) (S:q0l) (E:EK) (Q:VC),S[p]?=some (.lst [])→S[q]?=some (.lst [])→p≠q→(∀S',Ex [q] S S'→Q (apt t [] 0).pv S')→s3 [t.pv,.ref p,.ref q] S E Q):LDoneD (fnP 2 2 (q5f s1 s2 s3)):=by
 intro t p S E Q hP hg haf hnd hz h
 have hd:=dp_nd t
 refine ⟨rfl,?_⟩
 unfold q5f
 dsimp! [true_and]
 refine ⟨big (by decide),big (by decide),?_⟩
 have hl:(S++[SO.lst []]).length=S.length+1:=by simp
 refine h3 t (by omega) hg hz _ _ _ _ _ (q1m (q1f S (SO.lst [])) _) (q1f _ _) (by simp) fun S1 hx1=>?_
 have hx1':Ex [] S S1:=by
  refine ⟨by have:=hx1.1; simp at this; omega,fun i hi _=>?_⟩
  have:=hx1.2 i (by simp; omega) (by simp; omega)
  rw [this,List.append_assoc,List.getElem?_append_left hi]
 refine h2 hP hg (by omega) _ _ _ ?_
 refine ⟨big (by decide),?_⟩
 have hnz:=nf_sz t
 obtain ⟨w1,w2⟩:=da_wf hP [] 0 hg (by omega)
 have et:=tg_dn hP [] 0 hg (by simp) (by simp)
 have edp:=tgr_dp (da (apt t [] 0) p) []
 rw [et] at edp
 have r1:=(R_af (pl_R hP) haf).2.2.2
 have r2:=dp_nd (dn t p)
 refine h1 _ (by omega) _ _ _ _ (q1f _ _) w1 fun S2 hx2=>?_
 rw [et]
 exact h _ ((hx1'.app _).trans hx2)
theorem q9n:∀ps:List (List Int),q8h (ps.map pj)
 | []=>by rw [List.map_nil,q9o]; trivial
 | p::r=>by
  obtain ⟨h1,h2⟩:=q9n r
  have a:∀p:List Int,nrfs (p.map PV.int)=true∧deps (p.map PV.int)=0:=fun p=>by
   induction p with
   | nil=>exact ⟨rfl,rfl⟩
   | cons x q ih=>exact ⟨by simp only [List.map_cons,nrfs,nrf,ih.1,Bool.and_self],by simp only [List.map_cons,deps,dep,ih.2]; rfl⟩
  obtain ⟨b1,b2⟩:=a p
  exact ⟨by simp only [List.map_cons,nrfs,pj,nrf,b1,h1,Bool.and_self],by simp only [List.map_cons,deps,pj,dep,b2]; omega⟩
theorem eqBs_pj2 (ps:List (List Int)):eqBs (ps.map pj) []=ps.isEmpty:=by cases ps<;>rfl
def q3l (spLuses:Den):WS:=
 (wSeq (wSet 1 (wLst wNil))
 (wRet (wAndV (q0v spLuses (q0d (wVar 0) (q0d (wLst wNil) (q0d (wVar 1) wNil)))) (wBin cLt (wCB fMaxL (q0d (wBin bAdd (wVar 1) (wLst (q0d (wC (.int 0)) wNil))) wNil)) (wC (.int 2))))))
def q1x (spLkind_of_form:Den):WS:=
 (wSeq (wIfS (q1b (wBin cEq (wBin bIx (wVar 0) (wC (.int 0))) (wC (.str (Str.ofString "basic")))))
 (wRet (wBin bIx (wVar 0) (wC (.int 1))))
 q1o)
 (wRet (wTup (q0d (q0v spLkind_of_form (q0d (wBin bIx (wVar 0) (wC (.int 2))) wNil)) (q0d (q0v spLkind_of_form (q0d (wBin bIx (wVar 0) (wC (.int 1))) wNil)) wNil)))))
def q1w (spLkind_of_form:Den) (spLkind_of:Den):WS:=
 (wSeq (wIfS (q1b (wBin cEq (wBin bIx (wVar 1) (wC (.int 0))) (wC (.str (Str.ofString "name")))))
 (wRet (wBM "dict" mGet (wVar 0) (q0d (wBin bIx (wVar 1) (wC (.int 1))) wNil)))
 q1o)
 (wSeq (wIfS (q1b (wBin cEq (wBin bIx (wVar 1) (wC (.int 0))) (wC (.str (Str.ofString "leaf")))))
 (wRet (q0v spLkind_of_form (q0d (wBin bIx (wVar 1) (wC (.int 2))) wNil)))
 q1o)
 (wSeq (wIfS (q1b (wBin cEq (wBin bIx (wVar 1) (wC (.int 0))) (wC (.str (Str.ofString "bound")))))
 (wRet (wBin bIx (wVar 2) (wBin bSub (wNeg (wC (.int 1))) (wBin bIx (wVar 1) (wC (.int 1))))))
 q1o)
 (wSeq (wIfS (q1b (wBin cEq (wBin bIx (wVar 1) (wC (.int 0))) (wC (.str (Str.ofString "fn")))))
 (wSeq (wSet 3 (q0v spLkind_of (q0d (wVar 0) (q0d (wBin bIx (wVar 1) (wC (.int 2))) (q0d (wBin bAdd (wVar 2) (wLst (q0d (wBin bIx (wVar 1) (wC (.int 1))) wNil))) wNil)))))
 (wSeq (wIfS (q1b (wBin cIs (wVar 3) (wC .non)))
 (wRet (wC .non))
 q1o)
 (wRet (wTup (q0d (wBin bIx (wVar 1) (wC (.int 1))) (q0d (wVar 3) wNil))))))
 q1o)
 (wSeq (wSet 4 (q0v spLkind_of (q0d (wVar 0) (q0d (wBin bIx (wVar 1) (wC (.int 1))) (q0d (wVar 2) wNil)))))
 (wSeq (wSet 5 (q0v spLkind_of (q0d (wVar 0) (q0d (wBin bIx (wVar 1) (wC (.int 2))) (q0d (wVar 2) wNil)))))
 (wSeq (wIfS (wOr (q1b (wBin cIs (wVar 4) (wC .non))) (wOr (q1b (wBin cIs (wVar 5) (wC .non))) (wOr (wTru (wCB fIsi (q0d (wVar 4) (q0d (wC (.ty "str")) wNil)))) (q1b (wBin cNe (wBin bIx (wVar 4) (wC (.int 0))) (wVar 5))))))
 (wRet (wC .non))
 q1o)
 (wRet (wBin bIx (wVar 4) (wC (.int 1)))))))))))
def q4k (spLplaces:Den) (spLtruth:Den) (spis_plain_term:Den) (spLsparing:Den) (spLkind_of:Den) (spLsame:Den) (spLdone:Den) (spLsize:Den):WS:=
 (wSeq (wFor (q7k (q0d (wCB fLen (q0d (wVar 0) wNil)) wNil)) (q1u 3) (wSeq (wSet 4 (q0v spLplaces (q0d (wBin bIx (wVar 0) (wVar 3)) wNil)))
 (wSeq (wIfS (wOr (wNot (wTru (q0v spLtruth (q0d (q0v spis_plain_term (q0d (wBin bIx (wVar 0) (wVar 3)) wNil)) (q0d (wBin cEq (wVar 4) (wLst wNil)) wNil))))) (q1b (wBin cNe (wBin cEq (wVar 4) (wLst wNil)) (wBin cEq (wVar 3) (wBin bSub (wCB fLen (q0d (wVar 0) wNil)) (wC (.int 1)))))))
 (wRet (wC (.bl false)))
 q1o)
 (wSeq (wIfS (wOr (wNot (wTru (q0v spLsparing (q0d (wBin bIx (wVar 0) (wVar 3)) wNil)))) (q1b (wBin cNe (q0v spLkind_of (q0d (wVar 1) (q0d (wBin bIx (wVar 0) (wVar 3)) (q0d (wLst wNil) wNil)))) (wVar 2))))
 (wRet (wC (.bl false)))
 q1o)
 (wIfS (q1b (wBin cNe (wVar 4) (wLst wNil)))
 (wSeq (wIfS (wNot (wTru (q0v spLsame (q0d (q0v spLdone (q0d (wBin bIx (wVar 0) (wVar 3)) (q0d (wBin bIx (wVar 4) (wC (.int 0))) wNil))) (q0d (wBin bIx (wVar 0) (wBin bAdd (wVar 3) (wC (.int 1)))) wNil)))))
 (wRet (wC (.bl false)))
 q1o)
 (wIfS (q1b (wBin cGt (q0v spLsize (q0d (wBin bIx (wVar 0) (wBin bAdd (wVar 3) (wC (.int 1)))) wNil)) (wBin bSub (q0v spLsize (q0d (wBin bIx (wVar 0) (wVar 3)) wNil)) (wC (.int 3)))))
 (wRet (wC (.bl false)))
 q1o))
 q1o)))))
 (wRet (wC (.bl true))))
def q6c (spLdeck:Den) (spLworld:Den) (spLkind:Den) (spLterm:Den) (spsteps_of:Den) (spLsame:Den) (spLgoing:Den) (spplain_of:Den):WS:=
 (wSeq (wSet 1 (q0v spLdeck (q0d (wVar 0) wNil)))
 (wSeq (wSet 2 (q0v spLworld (q0d (wVar 1) (q0d (wC (.int 1)) (q0d (wC (.bl true)) wNil)))))
 (wSeq (wSet 3 (q0v spLkind (q0d (wVar 1) (q0d (wBin bIx (wVar 2) (wC (.str (Str.ofString "basics")))) (q0d (wC (.int 2)) wNil)))))
 (wSeq (wSet 4 (q0v spLterm (q0d (wVar 1) (q0d (wVar 2) (q0d (wVar 3) (q0d (wLst wNil) (q0d (wC (.int 5)) wNil)))))))
 (wSeq (wSet 5 wDNew)
 (wSeq (wFor (q8m (wBin bIx (wVar 2) (wC (.str (Str.ofString "names"))))) (q8d 2 (q2s (q1u 6) (q2s (q1u 7) q8e))) (wAsg (wVar 7) (q9u (wVar 5) (wVar 6) sSet)))
 (wSeq (wSet 8 (q0v spsteps_of (q0d (wVar 4) wNil)))
 (wSeq (wIfS (wOr (wNot (wTru (wCB fIsi (q0d (wVar 8) (q0d (wC (.ty "list")) wNil))))) (wOr (q1b (wBin cEq (wVar 8) (wLst wNil))) (wNot (wTru (q0v spLsame (q0d (wVar 4) (q0d (wBin bIx (wVar 8) (wC (.int 0))) wNil)))))))
 (wRet (wC (.bl false)))
 q1o)
 (wSeq (wIfS (wOr (wNot (wTru (q0v spLgoing (q0d (wVar 8) (q0d (wVar 5) (q0d (wVar 3) wNil)))))) (wNot (wTru (q0v spLsame (q0d (wBin bIx (wVar 8) (wNeg (wC (.int 1)))) (q0d (q0v spplain_of (q0d (wVar 4) wNil)) wNil))))))
 (wRet (wC (.bl false)))
 q1o)
 (wSeq (wSet 9 (wCB fList (q0d (wVar 8) wNil)))
 (wSeq (q4d (wBM0 "list" mClear (wVar 8)))
 (wRet (wBin cEq (q0v spsteps_of (q0d (wVar 4) wNil)) (wVar 9))))))))))))))
theorem ty_rs {ps:List (Str×Kd)} {e:List Kd} {t:Tm} {k:Kd} (h:Ty ps e t k):∀e1 e' e2,e=e1++e2→Ty ps (e1++e'++e2) (rs t e'.length e1.length) k:=by
 induction h with
 | nm h=>intro e1 e' e2 _; exact .nm h
 | lf n h g=>intro e1 e' e2 _; exact .lf n h g
 | @bd e j k h=>
  rintro e1 e' e2 rfl
  rw [rs_bd]
  split
  ·rename_i hl
   rw [List.getElem?_append_left hl] at h
   exact .bd (by rw [List.append_assoc,List.getElem?_append_left hl]; exact h)
  ·rename_i hl
   rw [List.getElem?_append_right (by omega)] at h
   refine .bd ?_
   rw [List.getElem?_append_right (by simp; omega)]
   rw [←h]
   congr 1
   simp; omega
 | fn h _ ih=>
  rintro e1 e' e2 rfl
  exact .fn h (ih (_::e1) e' e2 rfl)
 | ap _ _ i1 i2=>
  rintro e1 e' e2 rfl
  exact .ap (i1 e1 e' e2 rfl) (i2 e1 e' e2 rfl)
theorem ty_sb {ps:List (Str×Kd)} {e:List Kd} {t:Tm} {k:Kd} (h:Ty ps e t k):∀e1 k0 e2 (a:Tm),e=e1++k0::e2→Ty ps e2 a k0→Ty ps (e1++e2) (sb t e1.length a) k:=by
 induction h with
 | nm h=>intro e1 k0 e2 a _ _; exact .nm h
 | lf n h g=>intro e1 k0 e2 a _ _; exact .lf n h g
 | @bd e j k h=>
  rintro e1 k0 e2 a rfl ha
  rcases Nat.lt_trichotomy j e1.length with z | z | z
  ·rw [q7p z]
   rw [List.getElem?_append_left z] at h
   exact .bd (by rw [List.getElem?_append_left z]; exact h)
  ·subst z
   rw [List.getElem?_append_right (Nat.le_refl _),Nat.sub_self,List.getElem?_cons_zero] at h
   cases h
   rw [z1g]
   exact ty_rs ha [] e1 e2 rfl
  ·rw [q9a z]
   rw [List.getElem?_append_right (by omega),show j - e1.length=(j - 1 - e1.length)+1 by omega,List.getElem?_cons_succ] at h
   exact .bd (by rw [List.getElem?_append_right (by omega)]; exact h)
 | fn h _ ih=>
  rintro e1 k0 e2 a rfl ha
  exact .fn h (ih (_::e1) k0 e2 a rfl ha)
 | ap _ _ i1 i2=>
  rintro e1 k0 e2 a rfl ha
  exact .ap (i1 e1 k0 e2 a rfl ha) (i2 e1 k0 e2 a rfl ha)
theorem R_ty {ps:List (Str×Kd)} {t u:Tm} (h:R t u):∀{e:List Kd} {k:Kd},Ty ps e t k→Ty ps e u k:=by
 induction h with
 | be kk b a=>
  intro e k ht
  cases ht with
  | ap h1 h2=>cases h1 with
   | fn _ h3=>exact ty_sb h3 [] _ e a rfl h2
 | fn kk _ ih=>
  intro e k ht
  cases ht with
  | fn h1 h2=>exact .fn h1 (ih h2)
 | l a _ ih=>
  intro e k ht
  cases ht with
  | ap h1 h2=>exact .ap (ih h1) h2
 | r f _ ih=>
  intro e k ht
  cases ht with
  | ap h1 h2=>exact .ap h1 (ih h2)
theorem own_eq {fs:List Nat} {k:Nat} (h:k<fs.length):own fs k=some (fs.reverse[k]'(by simpa using h)):=by
 unfold own
 rw [if_pos h,List.getElem?_eq_getElem (by omega),List.getElem_reverse]
theorem ow_none:∀(t:Tm) (fs:List Nat) (i:Nat),t.gd fs.length→none∉ow t fs i
 | .nm _,_,_,_=>by simp [ow]
 | .lf _ _,_,_,_=>by simp [ow]
 | .bd k,fs,i,h=>by
  have h:k<fs.length:=h
  simp only [ow,List.mem_singleton]
  rw [own_eq h]
  exact fun z=>by cases z
 | .fn _ t,fs,i,h=>by
  simp only [ow]
  exact ow_none t (fs++[i]) (i+1) (by rw [List.length_append,List.length_singleton]; exact h.2)
 | .ap f a,fs,i,h=>by
  simp only [ow,List.mem_append,not_or]
  exact ⟨ow_none f fs (i+1) h.1,ow_none a fs (i+1+f.sz) h.2⟩
theorem cnt_fs:∀(t:Tm) (fs:List Nat) (i j:Nat),t.gd fs.length→fs.Nodup→(∀x∈fs,x<i)→(hj:j<fs.length)→(ow t fs i).count (some (fs.reverse[j]'(by simpa using hj)))=oc t j
 | .nm _,_,_,_,_,_,_,_=>rfl
 | .lf _ _,_,_,_,_,_,_,_=>rfl
 | .bd k,fs,i,j,h,nd,hl,hj=>by
  have h:k<fs.length:=h
  simp only [ow,oc]
  rw [own_eq h,List.count_singleton]
  by_cases e:k=j
  ·subst e; simp
  ·rw [if_neg e]
   have:fs.reverse[k]'(by simpa using h)≠fs.reverse[j]'(by simpa using hj):=fun z=>e (nd_inj ((List.reverse_perm fs).nodup_iff.mpr nd) _ _ z)
   simp only [List.getElem_reverse] at this ⊢
   simp [this]
 | .fn _ t,fs,i,j,h,nd,hl,hj=>by
  simp only [ow,oc]
  have:=cnt_fs t (fs++[i]) (i+1) (j+1) (by rw [List.length_append,List.length_singleton]; exact h.2) (by
   rw [List.nodup_append]
   exact ⟨nd,by simp,fun x hx y hy e=>by simp at hy; have:=hl x hx; omega⟩) (fun x hx=>by
   rcases List.mem_append.mp hx with z | z
   ·have:=hl x z; omega
   ·simp at z; omega) (by rw [List.length_append,List.length_singleton]; omega)
  rw [←this]
  congr 2
  simp
 | .ap f a,fs,i,j,h,nd,hl,hj=>by
  simp only [ow,oc,List.count_append]
  rw [cnt_fs f fs (i+1) j h.1 nd (fun x hx=>by have:=hl x hx; omega) hj,cnt_fs a fs (i+1+f.sz) j h.2 nd (fun x hx=>by have:=hl x hx; omega) hj]
theorem ow_rng:∀(t:Tm) (fs:List Nat) (i x:Nat),some x∈ow t fs i→x∈fs∨(i≤x∧x<i+t.sz):=fun t fs i x h=>by
 rcases ow_mem t fs i x h with z | z
 ·exact .inl z
 ·exact .inr (q5z t i x z)
theorem cnt_in:∀(t:Tm) (fs:List Nat) (i x:Nat),af 1 t→t.gd fs.length→fs.Nodup→(∀x∈fs,x<i)→i≤x→(ow t fs i).count (some x)≤1
 | .nm _,_,_,_,_,_,_,_,_=>by simp [ow]
 | .lf _ _,_,_,_,_,_,_,_,_=>by simp [ow]
 | .bd k,fs,i,x,_,h,nd,hl,hx=>by
  simp only [ow]
  exact Nat.le_trans (List.count_le_length) (Nat.le_refl _)
 | .fn _ t,fs,i,x,ha,h,nd,hl,hx=>by
  simp only [ow]
  have nd':(fs++[i]).Nodup:=by
   rw [List.nodup_append]
   exact ⟨nd,by simp,fun x hx y hy e=>by simp at hy; have:=hl x hx; omega⟩
  have hl':∀x∈fs++[i],x<i+1:=fun x hx=>by
   rcases List.mem_append.mp hx with z | z
   ·have:=hl x z; omega
   ·simp at z; omega
  have hg:t.gd (fs++[i]).length:=by rw [List.length_append,List.length_singleton]; exact h.2
  by_cases e:x=i
  ·subst e
   have:=cnt_fs t (fs++[x]) (x+1) 0 hg nd' hl' (by simp)
   have e2:(fs++[x]).reverse[0]'(by simp)=x:=by simp
   rw [e2] at this
   rw [this]
   exact ha.1
  ·exact cnt_in t (fs++[i]) (i+1) x ha.2 hg nd' hl' (by omega)
 | .ap f a,fs,i,x,ha,h,nd,hl,hx=>by
  simp only [ow,List.count_append]
  have h1:=cnt_in f fs (i+1) x ha.1 h.1 nd (fun y hy=>by have:=hl y hy; omega)
  have h2:=cnt_in a fs (i+1+f.sz) x ha.2 h.2 nd (fun y hy=>by have:=hl y hy; omega)
  have n1:¬(i+1≤x∧x<i+1+f.sz)→(ow f fs (i+1)).count (some x)=0:=fun hn=>List.count_eq_zero.mpr fun hm=>by
   rcases ow_rng f fs (i+1) x hm with z | z
   ·have:=hl x z; omega
   ·exact hn z
  have n2:¬(i+1+f.sz≤x∧x<i+1+f.sz+a.sz)→(ow a fs (i+1+f.sz)).count (some x)=0:=fun hn=>List.count_eq_zero.mpr fun hm=>by
   rcases ow_rng a fs (i+1+f.sz) x hm with z | z
   ·have:=hl x z; omega
   ·exact hn z
  by_cases c1:i+1≤x∧x<i+1+f.sz
  ·rw [n2 (by omega)]; have:=h1 c1.1; omega
  ·rw [n1 c1]
   by_cases c2:i+1+f.sz≤x∧x<i+1+f.sz+a.sz
   ·have:=h2 c2.1; omega
   ·rw [n2 c2]; omega
theorem cnt_le {t:Tm} (ha:af 1 t) (hg:t.gd 0) (x:Nat):cnt t [] 0 x≤1∧0≤cnt t [] 0 x:=by
 have:=cnt_in t [] 0 x ha hg (by simp) (by simp) (Nat.zero_le _)
 unfold cnt
 omega
def IplD2 (sp:Den):Prop:=∀(t:Tm) (S:q0l) (E:EK) (Q:VC),t.sz≤1000→(∀S',Ex [] S S'→Q (.bl (pls t).isEmpty) S')→sp [t.pv] S E Q
theorem ipl_ok2 {sp:Den} (hp:PlsD sp):IplD2 (fnP 1 1 (q2i sp)):=by
 intro t S E Q hz h
 refine ⟨rfl,?_⟩
 unfold q2i
 dsimp! [true_and]
 refine hp t _ _ _ hz fun r S1 g hr x1=>?_
 dsimp! [g]
 have:=h _ x1
 cases q:pls t with
 | nil=>rw [q] at this; simpa using this
 | cons a b=>rw [q] at this; simpa using this
def UsesD (sp:Den) (n:Nat):Prop:=∀(q:Nat) (t:Tm),t.dp<n→t.sz≤900→∀(p:Nat) (S:q0l) (E:EK) (Q:VC),S[p]?=some (.lst [])→S[q]?=some (.lst [])→p≠q→(∀S',S'[q]?=some (.lst (gI (fun x=>0+cnt t [] 0 x) ([]++idx t 0)))→Ex [q] S S'→Q (.bl (!decide (none∈ow t [] 0))) S')→sp [t.pv,.ref p,.ref q] S E Q
def LSpD (sp:Den) (n:Nat):Prop:=∀(t:Tm),t.dp<n→t.sz≤900→af 1 t→t.gd 0→∀(S:q0l) (E:EK) (Q:VC),(∀S',Ex [] S S'→Q (.bl true) S')→sp [t.pv] S E Q
theorem lsp_ok {sp:Den} {n:Nat} (hu:UsesD sp n):LSpD (fnP 1 2 (q3l sp)) n:=by
 intro t hn hz ha hg S E Q h
 refine ⟨rfl,?_⟩
 unfold q3l
 refine seqI fun K hK=>?_
 dsimp! [true_and]
 refine ⟨big (by decide),hK _ _ ?_⟩
 clear hK K
 dsimp! [true_and]
 refine ⟨big (by decide),?_⟩
 refine hu S.length t hn hz _ _ _ _ (q1f _ _) (q1m (q1f _ _) _) (by simp) fun S2 u1 hx=>?_
 have hx':Ex [] S S2:=⟨by have:=hx.1; simp at this; omega,fun i hi _=>by
  have:=hx.2 i (by simp; omega) (by simp; omega)
  rw [this,List.append_assoc,List.getElem?_append_left hi]⟩
 have hno:=ow_none t [] 0 hg
 rw [decide_eq_false hno]
 have eg:gI (fun x=>0+cnt t [] 0 x) ([]++idx t 0)=(((idx t 0).map fun x=>cnt t [] 0 x)).map PV.int:=by simp [gI]
 rw [eg] at u1
 have u3:=q1m u1 [SO.lst [PV.int 0]]
 have u4:=q1f S2 (SO.lst [PV.int 0])
 have il:=z1v t 0
 dsimp! [true_and]
 refine ⟨big (by decide),?_⟩
 dsimp! [q1g u3,q1g u4]
 have eL:List.map PV.int ((idx t 0).map fun x=>cnt t [] 0 x)++[PV.int 0]=(((idx t 0).map fun x=>cnt t [] 0 x)++[0]).map PV.int:=by simp
 rw [eL]
 refine ⟨by rw [List.length_map,List.length_map]; exact big (by omega),?_⟩
 unfold fMaxL
 simp only [seq_new,Option.bind_some,intsOf_map]
 refine ⟨by simp,fun M m1 m2=>?_⟩
 have hM:M≤1:=by
  rcases List.mem_append.mp m1 with z | z
  ·obtain ⟨x,_,rfl⟩:=List.mem_map.mp z
   exact (cnt_le ha hg x).1
  ·simp at z; omega
 rw [decide_eq_true (show M<2 by omega)]
 exact h _ ((hx'.app _).app _)
theorem kfk_ok {T:Nat→Den} (hT:∀n,T (n+1)=fnP 1 1 (q1x (T n))) {f:PV} {k:Kd} (hf:FK f k):∀(n:Nat),k.dp<n→∀(S:q0l) (E:EK) (Q:VC),Q k.pv S→T n [f] S E Q:=by
 induction hf with
 | b s=>
  intro n hn S E Q h
  obtain ⟨m,rfl⟩:∃m,n=m+1:=⟨n - 1,by omega⟩
  rw [hT]
  refine ⟨rfl,?_⟩
  unfold q1x
  dsimp! [wSeq,q0g,q2q]
  exact h
 | n l _ _ ix iy=>
  intro n hn S E Q h
  simp only [Kd.dp] at hn
  obtain ⟨m,rfl⟩:∃m,n=m+1:=⟨n - 1,by omega⟩
  rw [hT]
  refine ⟨rfl,?_⟩
  unfold q1x
  have e0:((if l=true then Str.ofString "\\" else Str.ofString "/")=Str.ofString "basic")=False:=by cases l<;>(simp only [eq_iff_iff,iff_false,if_true,Bool.false_eq_true,if_false]; decide +kernel)
  dsimp! [wSeq,q0g,q2q,q3z,e0]
  refine iy m (by omega) _ _ _ ?_
  refine ix m (by omega) _ _ _ ?_
  exact ⟨big (by decide),h⟩
theorem Ty.dp {ps:List (Str×Kd)} {e:List Kd} {t:Tm} {k:Kd} (h:Ty ps e t k):(∀p∈ps,p.2.dp≤20)→(∀x∈e,x.dp≤20)→k.dp≤20+t.dp:=by
 induction h with
 | @nm e w k h=>
  intro h1 _
  unfold lkN at h
  cases q:ps.find? fun p=>decide (p.1=w) with
  | none=>rw [q] at h; cases h
  | some p=>
   rw [q] at h
   cases h
   have:=h1 p (List.mem_of_find?_eq_some q)
   simp only [Tm.dp]; omega
 | lf n h g=>intro _ _; simp only [Tm.dp]; omega
 | bd h=>intro _ h2; have:=h2 _ (List.mem_of_getElem? h); simp only [Tm.dp]; omega
 | fn h _ ih=>
  intro h1 h2
  have:=ih h1 (fun x hx=>by
   rcases List.mem_cons.mp hx with z | z
   ·subst z; exact h
   ·exact h2 x z)
  simp only [Kd.dp,Tm.dp]; omega
 | ap _ _ i1 i2=>
  intro h1 h2
  have:=i1 h1 h2
  simp only [Kd.dp] at this
  simp only [Tm.dp]; omega
theorem cNe_kd {k:Kd} (h:k.dp≤190) (S:q0l) (Q:VC):cNe k.pv k.pv S Q=Q (.bl false) S:=by
 have o:=okEq_pv (k:=k) h
 have e:=eqB_kd k k
 rw [decide_eq_true rfl] at e
 cases k with
 | a s=>rw [Kd.pv,cNe_ss]; simp
 | p f t=>
  rw [Kd.pv] at o e ⊢
  rw [eqB_tt] at e
  rw [cNe_tt,e]
  simp [o]
theorem tg_nl:(Str.ofString "leaf" = Str.ofString "name")=False:=eq_false (by decide +kernel)
theorem tg_nb:(Str.ofString "bound" = Str.ofString "name")=False:=eq_false (by decide +kernel)
theorem tg_nf:(Str.ofString "fn" = Str.ofString "name")=False:=eq_false (by decide +kernel)
theorem tg_no:(Str.ofString "of" = Str.ofString "name")=False:=eq_false (by decide +kernel)
theorem tg_lb:(Str.ofString "bound" = Str.ofString "leaf")=False:=eq_false (by decide +kernel)
theorem tg_lf:(Str.ofString "fn" = Str.ofString "leaf")=False:=eq_false (by decide +kernel)
theorem tg_lo:(Str.ofString "of" = Str.ofString "leaf")=False:=eq_false (by decide +kernel)
def Kn (ps:List (Str×Kd)) (q:Nat) (S:q0l):Prop:=∃kvs,S[q]?=some (.dK kvs)∧∀w k,lkN ps w=some k→valP kvs (.inr w)=some k.pv
theorem kof_ok {T F:Nat→Den} (hT:∀n,T (n+1)=fnP 3 6 (q1w (F n) (T n))) (hF:∀(n:Nat) (f:PV) (k:Kd),FK f k→k.dp<n→∀(S:q0l) (E:EK) (Q:VC),Q k.pv S→F n [f] S E Q) {ps:List (Str×Kd)} (hps:∀p∈ps,p.2.dp≤20) {e:List Kd} {t:Tm} {k:Kd} (h:Ty ps e t k) :
  ∀(n q a:Nat) (S:q0l) (E:EK) (Q:VC),t.dp+30<n→t.dp≤160→e.length+t.dp≤1000→(∀x∈e,x.dp≤20)→Kn ps q S→S[a]?=some (.lst (e.reverse.map Kd.pv))→(∀S',Ex [] S S'→Q k.pv S')→T n [.ref q,t.pv,.ref a] S E Q:=by
 induction h with
 | @nm e w k h=>
  rintro n q a S E Q hn _ _ _ ⟨kvs,hq,hk⟩ _ h'
  obtain ⟨m,rfl⟩:∃m,n=m+1:=⟨n - 1,by omega⟩
  rw [hT]
  refine ⟨rfl,?_⟩
  unfold q1w
  dsimp! [wSeq,Tm.pv,q0g,q2q,hq,hk w k h,Option.getD_some]
  exact h' S (Ex.refl _ _)
 | @lf e i f k h g=>
  rintro n q a S E Q hn _ _ _ ⟨kvs,hq,hk⟩ _ h'
  obtain ⟨m,rfl⟩:∃m,n=m+1:=⟨n - 1,by omega⟩
  rw [hT]
  refine ⟨rfl,?_⟩
  unfold q1w
  dsimp! [wSeq,Tm.pv,q0g,q3z,tg_nl]
  exact hF m f k h (by simp only [Tm.dp] at hn; omega) _ _ _ (h' S (Ex.refl _ _))
 | @bd e j k h=>
  intro n q a S E Q hn _ _ _ _ ha h'
  obtain ⟨m,rfl⟩:∃m,n=m+1:=⟨n - 1,by omega⟩
  rw [hT]
  refine ⟨rfl,?_⟩
  unfold q1w
  obtain ⟨hj,ej⟩:=List.getElem?_eq_some_iff.mp h
  have hat:atI (e.reverse.map Kd.pv) (-1 - (j:Int))=some k.pv:=by
   rw [atI_neg _ j (by simpa using hj),List.getElem?_map,List.length_map,List.length_reverse,List.getElem?_reverse (by omega),show e.length - 1 - (e.length - 1 - j)=j by omega,h]
   rfl
  dsimp! [wSeq,Tm.pv,q0g,q2q,tg_nb,tg_lb,ha,hat]
  exact h' S (Ex.refl _ _)
 | @fn e k k' t hk _ ih=>
  intro n q a S E Q hn h160 hl he hq ha h'
  obtain ⟨m,rfl⟩:∃m,n=m+1:=⟨n - 1,by omega⟩
  simp only [Tm.dp] at hn h160 hl
  rw [hT]
  refine ⟨rfl,?_⟩
  unfold q1w
  dsimp! [wSeq,Tm.pv,q0g,q2q,q3z,tg_nf,tg_lf,tga]
  have g1:=q1m ha [SO.lst [k.pv]]
  have g2:=q1f S (SO.lst [k.pv])
  refine ⟨big (by decide),?_⟩
  dsimp! [q1g g1,q1g g2]
  refine ⟨by rw [List.length_map,List.length_reverse]; exact big (by omega),?_⟩
  have eL:e.reverse.map Kd.pv++[k.pv]=(k::e).reverse.map Kd.pv:=by simp
  rw [eL]
  have x2:Ex [] S (S++[SO.lst [k.pv]]++[SO.lst ((k::e).reverse.map Kd.pv)]):=(Ex.new [] _ _).app _
  obtain ⟨kvs,q1,q2⟩:=hq
  refine ih m q _ _ _ _ (by omega) (by omega) (by simp only [List.length_cons]; omega) (fun x hx=>by
   rcases List.mem_cons.mp hx with z | z
   ·subst z; exact hk
   ·exact he x z) ⟨kvs,x2.get q1 (by simp),q2⟩ (q1f _ _) fun S' hx'=>?_
  refine ite2 (fun c=>absurd c (by cases k'<;>exact Bool.false_ne_true)) (fun _=>?_)
  exact ⟨big (by decide),h' S' (x2.trans hx')⟩
 | @ap e k k' f a h1 h2 i1 i2=>
  intro n q ar S E Q hn h160 hl he hq ha h'
  obtain ⟨m,rfl⟩:∃m,n=m+1:=⟨n - 1,by omega⟩
  have kd:=h2.dp hps he
  simp only [Tm.dp] at hn h160 hl
  rw [hT]
  refine ⟨rfl,?_⟩
  unfold q1w
  dsimp! [wSeq,Tm.pv,q0g,q2q,q3z,tg_no,tg_lo,tgc,tgb]
  refine i1 m q ar _ _ _ (by omega) (by omega) (by omega) he hq ha fun S1 x1=>?_
  obtain ⟨kvs,q1,q2⟩:=hq
  dsimp! [Tm.pv,q3z]
  refine i2 m q ar _ _ _ (by omega) (by omega) (by omega) he ⟨kvs,x1.get q1 (by simp),q2⟩ (x1.get ha (by simp)) fun S2 x2=>?_
  dsimp! [Kd.pv,q0g,q2q,cNe_kd (k:=k) (by omega)]
  exact ite2 (fun c=>absurd c (by cases k<;>exact Bool.false_ne_true)) (fun _=>h' S2 (x1.trans x2))
theorem q9v (p:Key×PV) (r:List (Key×PV)) (k:Key):valP (p::r) k=if p.1=k then some p.2 else valP r k:=by
 unfold valP
 rw [List.find?_cons]
 by_cases h:p.1=k
 ·rw [if_pos h,decide_eq_true h]; rfl
 ·rw [if_neg h,decide_eq_false h]
theorem vP_other (kvs:List (Key×PV)) (k k':Key) (v:PV) (h:k'≠k):valP (putP kvs k v) k'=valP kvs k':=by
 have hk:¬k=k':=fun z=>h z.symm
 unfold putP
 split
 ·rename_i hh
  clear hh
  induction kvs with
  | nil=>rfl
  | cons p r ih=>
   rw [List.map_cons,q9v,q9v]
   by_cases z:p.1=k
   ·have:¬p.1=k':=by rw [z]; exact hk
    rw [if_pos z,if_neg this,if_neg this,ih]
   ·rw [if_neg z,ih]
 ·rename_i hh
  clear hh
  induction kvs with
  | nil=>simp [valP,hk]
  | cons p r ih=>rw [List.cons_append,q9v,q9v]; simp_all
theorem vP_same (kvs:List (Key×PV)) (k:Key) (v:PV):valP (putP kvs k v) k=some v:=by
 unfold putP
 split
 ·rename_i h
  induction kvs with
  | nil=>simp at h
  | cons p r ih=>
   rw [List.map_cons,q9v]
   by_cases z:p.1=k
   ·simp [z]
   ·rw [if_neg z,if_neg z]
    refine ih ?_
    rw [List.any_cons,decide_eq_false z,Bool.false_or] at h
    exact h
 ·rename_i h
  induction kvs with
  | nil=>simp [valP]
  | cons p r ih=>
   rw [List.cons_append,q9v]
   simp_all
theorem pP_len (kvs:List (Key×PV)) (k:Key) (v:PV):(putP kvs k v).length≤kvs.length+1:=by
 unfold putP
 split<;>simp
structure Th (ps:List (Str×Kd)) (k:Kd) (t:Tm):Prop where
 af:af 1 t
 ty:Ty ps [] t k
 nd:t.nd≤93
 sz:t.sz≤94
theorem Th.gd {ps:List (Str×Kd)} {k:Kd} {t:Tm} (h:Th ps k t):t.gd 0:=h.ty.gd
theorem Th.r {ps:List (Str×Kd)} {k:Kd} {t u:Tm} (h:Th ps k t) (r:R t u):Th ps k u:=by
 obtain ⟨a,_,b,c⟩:=R_af r h.af
 have:=h.nd
 have:=h.sz
 exact ⟨a,R_ty r h.ty,by omega,by omega⟩
theorem Th.rs {ps:List (Str×Kd)} {k:Kd} {t u:Tm} (h:Th ps k t) (r:Rs t u):Th ps k u:=by
 induction r with
 | nil=>exact h
 | cons h1 _ ih=>exact ih (h.r h1)
theorem StepL.at {t:Tm} {L:List Tm} (h:StepL t L):∀i u,L[i]?=some u→Rs t u∧((pls u=[]∧i+1=L.length)∨∃p qs,pls u=ci p::qs∧Pl u p∧L[i+1]?=some (dn u p)):=by
 induction h with
 | @stop t h=>
  intro i u hi
  cases i with
  | zero=>cases hi; exact ⟨.nil _,.inl ⟨h,rfl⟩⟩
  | succ i=>simp at hi
 | @go t p qs L hp hP hL ih=>
  intro i u hi
  cases i with
  | zero=>
   cases hi
   refine ⟨.nil _,.inr ⟨p,qs,hp,hP,?_⟩⟩
   rw [List.getElem?_cons_succ]
   cases hL with
   | stop _=>rfl
   | go _ _ _=>rfl
  | succ i=>
   rw [List.getElem?_cons_succ] at hi
   obtain ⟨h1,h2⟩:=ih i u hi
   refine ⟨.cons (pl_R hP) h1,?_⟩
   rcases h2 with ⟨a,b⟩ | ⟨p',q',a,b,c⟩
   ·exact .inl ⟨a,by rw [List.length_cons]; omega⟩
   ·exact .inr ⟨p',q',a,b,by rw [List.getElem?_cons_succ]; exact c⟩
theorem ci_inj:∀{p q:List Nat},ci p=ci q→p=q
 | [],[],_=>rfl
 | [],_::_,h=>by simp [ci] at h
 | _::_,[],h=>by simp [ci] at h
 | a::p,b::q,h=>by
  simp only [ci,List.map_cons,List.cons.injEq] at h
  rw [ci_inj (p:=p) (q:=q) h.2,show a=b by omega]
theorem StepL.uniq {t:Tm} {L:List Tm} (h:StepL t L):∀{L':List Tm},StepL t L'→L'=L:=by
 induction h with
 | stop h=>
  intro L' g
  cases g with
  | stop _=>rfl
  | go h2 _ _=>rw [h] at h2; cases h2
 | go h _ _ ih=>
  intro L' g
  cases g with
  | stop h2=>rw [h] at h2; cases h2
  | go h2 _ h3=>
   rw [h] at h2
   simp only [List.cons.injEq] at h2
   rw [←ci_inj h2.1] at h3
   rw [ih h3]
theorem StepL.ne {t:Tm} {L:List Tm} (h:StepL t L):∃M,L=t::M:=by
 cases h with
 | stop _=>exact ⟨_,rfl⟩
 | go _ _ _=>exact ⟨_,rfl⟩
theorem eqBs_tms:∀(L:List Tm),(∀u∈L,u.gd 0∧u.nd≤158)→eqBs (L.map Tm.pv) (L.map Tm.pv)=true∧q8h (L.map Tm.pv)
 | [],_=>⟨rfl,by rw [List.map_nil,q9o]; trivial⟩
 | u::r,h=>by
  obtain ⟨i1,i2,i3⟩:=eqBs_tms r fun v hv=>h v (by simp [hv])
  obtain ⟨g,n⟩:=h u (by simp)
  have h1:=pp_pv u (gd_pp u 0 g)
  have h2:=dp_nd u
  have h3:=z1n _ h1.1
  have h4:=eqB_plain _ h1.1
  refine ⟨by simp only [List.map_cons,eqBs,h4,i1,Bool.and_self],?_,?_⟩
  ·simp only [List.map_cons,nrfs,h3,i2,Bool.and_self]
  ·simp only [List.map_cons,deps]; have:=h1.2; omega
def SameD (sp:Den):Prop:=∀(x:PV),q1i x=true→dep x<130→∀(S:q0l) (E:EK) (Q:VC),(∀S',Ex [] S S'→Q (.bl true) S')→sp [x,x] S E Q
theorem same_tm {sp:Den} (hs:SameD sp) {t:Tm} (hg:t.gd 0) (hn:t.nd≤93) {S:q0l} {E:EK} {Q:VC} (h:∀S',Ex [] S S'→Q (.bl true) S'):sp [t.pv,t.pv] S E Q:=by
 have h1:=pp_pv t (gd_pp t 0 hg)
 have h2:=dp_nd t
 exact hs _ h1.1 (by omega) S E Q h
def LPlsD (sp:Den):Prop:=∀(t:Tm),t.dp≤140→t.sz≤1000→∀(S:q0l) (E:EK) (Q:VC),(∀(r:Nat) S',S'[r]?=some (.lst ((pls t).map pj))→S.length≤r→Ex [] S S'→Q (.ref r) S')→sp [t.pv] S E Q
def LSzD (sp:Den):Prop:=∀(t:Tm),t.dp≤140→∀(S:q0l) (E:EK) (Q:VC),Q (.int t.sz) S→sp [t.pv] S E Q
def KofD (sp:Den):Prop:=∀(ps:List (Str×Kd)) (t:Tm) (k:Kd) (q a:Nat) (S:q0l) (E:EK) (Q:VC),(∀p∈ps,p.2.dp≤20)→Ty ps [] t k→t.dp≤100→Kn ps q S→S[a]?=some (.lst [])→(∀S',Ex [] S S'→Q k.pv S')→sp [.ref q,t.pv,.ref a] S E Q
def GoingD (sp:Den):Prop:=∀(ps:List (Str×Kd)) (k:Kd) (t:Tm) (L:List Tm) (r q:Nat) (S:q0l) (E:EK) (Q:VC),(∀p∈ps,p.2.dp≤20)→k.dp≤20→Th ps k t→StepL t L→L.length≤1000→S[r]?=some (.lst (L.map Tm.pv))→Kn ps q S→(∀S',Ex [] S S'→Q (.bl true) S')→sp [.ref r,.ref q,k.pv] S E Q
theorem going_ok {s1 s2 s3 s4 s5 s6 s7 s8:Den} (h1:LPlsD s1) (h2:∀(a b:Bool) (S:q0l) (E:EK) (Q:VC),Q (.bl (decide (a=b))) S→s2 [.bl a,.bl b] S E Q) (h3:IplD2 s3) (h4:LSpD s4 140) (h5:KofD s5) (h6:SameD s6) (h7:LDoneD s7) (h8:LSzD s8):GoingD (fnP 3 5 (q4k s1 s2 s3 s4 s5 s6 s7 s8)):=by
 intro ps k t L r q S E Q hps hk T0 hL hll hr hq h
 refine ⟨rfl,?_⟩
 unfold q4k
 refine seqI fun K hK=>?_
 dsimp! [q1c hr,List.length_map]
 refine ⟨⟨by omega,by omega⟩,?_⟩
 rw [Int.toNat_natCast]
 refine forI (fun rest σ S1=>(∀x∈rest,x∈rngP 0 L.length)∧∃(j3 j4:Option PV),σ=[some (.ref r),some (.ref q),some k.pv,j3,j4]∧Ex [] S S1) ?_ ?_ _ _ _ ⟨fun x hx=>hx,none,none,rfl,Ex.refl _ _⟩
 ·rintro σ S1 ⟨-,j3,j4,rfl,hx⟩
  refine ⟨trivial,hK _ _ ?_⟩
  dsimp! [true_and]
  exact h S1 hx
 ·rintro x rest σ S1 ⟨hxr,j3,j4,rfl,hx⟩ N hN
  obtain ⟨i,hi,rfl⟩:=rng_mem (hxr x (by simp))
  have hui:L[i]?=some L[i]:=List.getElem?_eq_getElem hi
  generalize L[i]=u at hui
  obtain ⟨hRs,hend⟩:=hL.at i u hui
  have Tu:=T0.rs hRs
  have ug:=Tu.gd
  have un:=Tu.nd
  have uz:=Tu.sz
  have ud:=dp_nd u
  have hat:atI (L.map Tm.pv) (i:Int)=some u.pv:=by
   rw [q5v _ i (by rw [List.length_map]; exact hi),List.getElem_map]
   obtain ⟨_,e⟩:=List.getElem?_eq_some_iff.mp hui
   rw [e]
  have hr1:=hx.get hr (by simp)
  obtain ⟨kvs,q1,q2⟩:=hq
  refine ⟨trivial,?_⟩
  dsimp! [true_and]
  refine seqI fun K2 hK2=>?_
  dsimp! [hr1,hat]
  refine h1 u (by omega) (by omega) _ _ _ fun r2 S2 e2 _ hx2=>hK2 _ _ ?_
  clear hK2
  have hr2:=hx2.get hr1 (by simp)
  refine seqI fun K2 hK2=>?_
  dsimp! [hr2,hat]
  refine h3 u _ _ _ (by omega) fun S3 hx3=>?_
  have e3:=hx3.get e2 (by simp)
  have hr3:=hx3.get hr2 (by simp)
  have e3':=q1m e3 [SO.lst []]
  dsimp! [q1c e3',eqBs_pj2]
  refine ⟨big (by decide),q9n _,?_⟩
  refine h2 _ _ _ _ _ ?_
  have e4:=q1m e3' [SO.lst []]
  have hr4:=q1m (q1m hr3 [SO.lst []]) [SO.lst []]
  have hx4:Ex [] S (S3++[SO.lst []]++[SO.lst []]):=(((hx.trans hx2).trans hx3).app _).app _
  generalize S3++[SO.lst []]++[SO.lst []]=S4 at e4 hr4 hx4 ⊢
  have eE:(pls u).isEmpty=decide ((i:Int)=(L.length:Int) - 1):=by
   rcases hend with ⟨a,b⟩ | ⟨p,qs,a,b,c⟩
   ·rw [a,decide_eq_true (by omega)]; rfl
   ·have:=(List.getElem?_eq_some_iff.mp c).1
    rw [a,decide_eq_false (by omega)]; rfl
  dsimp! [q1c e4,q1c hr4,eqBs_pj2,List.length_map,←eE]
  refine ⟨big (by decide),q9n _,hK2 _ _ ?_⟩
  clear hK2 e3 e3' hr3 hr2 hr1 e2
  refine seqI fun K2 hK2=>?_
  dsimp! [hr4,hat]
  refine h4 u (by omega) (by omega) Tu.af ug _ _ _ fun S5 hx5=>?_
  have hr5:=hx5.get hr4 (by simp)
  have e5:=hx5.get e4 (by simp)
  dsimp! [hr5,hat]
  refine ⟨big (by decide),?_⟩
  have hx5':=(hx4.trans hx5).app [SO.lst []]
  refine h5 ps u k q _ _ _ _ hps Tu.ty (by omega) ⟨kvs,hx5'.get q1 (by simp),q2⟩ (q1f _ _) fun S6 hx6=>?_
  dsimp! [cNe_kd (k:=k) (by omega)]
  refine hK2 _ _ ?_
  clear hK2
  have hr6:=hx6.get (q1m hr5 _) (by simp)
  have e6:=hx6.get (q1m e5 _) (by simp)
  have hxx:Ex [] S S6:=hx5'.trans hx6
  have e7:=q1m e6 [SO.lst []]
  have hr7:=q1m hr6 [SO.lst []]
  have hx7:Ex [] S (S6++[SO.lst []]):=hxx.app _
  dsimp! [q1c e7,eqBs_pj2]
  refine ⟨big (by decide),q9n _,?_⟩
  have nxt:∀S8,Ex [] S S8→N [some (.ref r),some (.ref q),some k.pv,some (.int (i:Nat)),some (.ref r2)] S8:=fun S8 h8=>hN _ _ ⟨fun x hx=>hxr x (by simp [hx]),_,_,rfl,h8⟩
  rcases hend with ⟨a,b⟩ | ⟨p,qs,a,hP,c⟩
  ·rw [a]
   exact ite2 (fun z=>absurd z (by simp)) (fun _=>nxt _ hx7)
  ·rw [a]
   refine ite2 (fun _=>?_) (fun z=>absurd (by simp) z)
   rw [a] at e7
   have hat2:atI (L.map Tm.pv) ((i:Int)+1)=some (dn u p).pv:=by
    obtain ⟨l,e⟩:=List.getElem?_eq_some_iff.mp c
    rw [show (i:Int)+1=((i+1:Nat):Int) by omega,q5v _ (i+1) (by rw [List.length_map]; exact l),List.getElem_map,e]
   have Td:=Tu.r (pl_R hP)
   have rz:=(R_af (pl_R hP) Tu.af).2.2.1
   have dn':=Td.nd
   have dd':=dp_nd (dn u p)
   refine seqI fun K2 hK2=>?_
   dsimp! [hr7,hat,e7,q0g,pj_ci]
   refine h7 u p _ _ _ hP ug Tu.af (by omega) (by omega) fun S8 hx8=>?_
   have hr8:=hx8.get hr7 (by simp)
   dsimp! [hr8,hat2]
   refine same_tm h6 Td.gd (by omega) fun S9 hx9=>?_
   dsimp! [true_and]
   refine hK2 _ _ ?_
   clear hK2
   have hr9:=hx9.get hr8 (by simp)
   dsimp! [hr9,hat2]
   refine h8 (dn u p) (by omega) _ _ _ ?_
   dsimp! [hr9,hat]
   refine h8 u (by omega) _ _ _ ?_
   dsimp! [true_and]
   refine ite2 (fun z=>absurd z (by omega)) (fun _=>nxt _ ((hx7.trans hx8).trans hx9))
section
open PySem L2 Ev PySem.Spec PyProof.Rows
abbrev SimF (P:Program) (w:World) (K:PySem.W.Frag) (mg:Str→Option Value) (base:Heap) (k:Nat) (x:Str) (N:List Str) (st:Stmt) (W:WS) (f:Addr):Prop:=∀{cdv:Value} {A:Around} {outer:List Env} {s:Shared} {H:Hp} {E:XK} {G:GX},Room k (A.deeper (envOfC x (q0j st) s.heap.objs.size f cdv))→q6o (CXE P w) (cxOf (CXE P w) P w K mg base N x (q0j st) f cdv A outer s H E) (xkOf K G.xh)→SimSs (cxOf (CXE P w) P w K mg base N x (q0j st) f cdv A outer s H E) G (q0y st) W
theorem hu_r {k:Nat} {A:Around} (hr:Room k A):A.units+200<cLine:=by have:=hr.un; omega
variable {P:Program} {w:World} {K:PySem.W.Frag} {mg:Str→Option Value} {base:Heap} {f:Addr} {k:Nat}
def top (i:Nat):Stmt:=PySem.Challenge.pw_slashwise_k16_whole_steps.main.body.getD i (.Pass ⟨0,0,0,0⟩)
abbrev q9l:Stmt:=top 21
theorem scLdeck:FnScope ["_law_script", "_law_cells", "_law_mixed"] ["_law_script"] (q0j q9l):=⟨rfl,rfl,rfl,by decide +kernel,rfl,by decide +kernel,by decide +kernel⟩
abbrev q9g:Stmt:=top 22
theorem z1e:FnScope ["_law_deck_here", "_law_cells", "_law_cell", "_law_number"] ["_law_deck_here"] (q0j q9g):=⟨rfl,rfl,rfl,by decide +kernel,rfl,by decide +kernel,by decide +kernel⟩
abbrev q4p:Stmt:=top 23
theorem q6j:FnScope ["_law_number", "_law_size_here", "_law_word_here", "_law_k"] ["_law_number", "_law_size_here"] (q0j q4p):=⟨rfl,rfl,rfl,by decide +kernel,rfl,by decide +kernel,by decide +kernel⟩
abbrev q9b:Stmt:=top 24
theorem q5y:FnScope ["_law_deck_here", "_law_words_here", "_law_way", "_law_number", "_law_size_here", "_law_word_here", "_law_at"] ["_law_deck_here", "_law_words_here"] (q0j q9b):=⟨rfl,rfl,rfl,by decide +kernel,rfl,by decide +kernel,by decide +kernel⟩
abbrev q6x:Stmt:=top 25
theorem scLwords:FnScope ["_law_deck_here", "_law_many", "_law_words_here", "_law_k"] ["_law_deck_here", "_law_many"] (q0j q6x):=⟨rfl,rfl,rfl,by decide +kernel,rfl,by decide +kernel,by decide +kernel⟩
abbrev q6w:Stmt:=top 33
theorem scLworld:FnScope ["_law_deck_here", "_law_uses_here", "_law_leaves", "_law_basics"] ["_law_deck_here", "_law_uses_here", "_law_leaves"] (q0j q6w):=⟨rfl,rfl,rfl,by decide +kernel,rfl,by decide +kernel,by decide +kernel⟩
abbrev q9i:Stmt:=top 26
theorem scLkind:FnScope ["_law_deck_here", "_law_basics", "_law_deep", "_law_way"] ["_law_deck_here", "_law_basics", "_law_deep"] (q0j q9i):=⟨rfl,rfl,rfl,by decide +kernel,rfl,by decide +kernel,by decide +kernel⟩
abbrev sLfn:Stmt:=top 30
theorem scLfn:FnScope ["_law_deck_here", "_law_world_here", "_law_kind_here", "_law_around", "_law_deep", "_law_body"] ["_law_deck_here", "_law_world_here", "_law_kind_here", "_law_around", "_law_deep"] (q0j sLfn):=⟨rfl,rfl,rfl,by decide +kernel,rfl,by decide +kernel,by decide +kernel⟩
abbrev sLof:Stmt:=top 31
theorem scLof:FnScope ["_law_deck_here", "_law_world_here", "_law_kind_here", "_law_around", "_law_deep", "_law_other", "_law_way", "_law_f"] ["_law_deck_here", "_law_world_here", "_law_kind_here", "_law_around", "_law_deep"] (q0j sLof):=⟨rfl,rfl,rfl,by decide +kernel,rfl,by decide +kernel,by decide +kernel⟩
abbrev q6y:Stmt:=top 28
theorem scLwidth:FnScope ["_law_kind_here"] ["_law_kind_here"] (q0j q6y):=⟨rfl,rfl,rfl,by decide +kernel,rfl,by decide +kernel,by decide +kernel⟩
abbrev q9j:Stmt:=top 27
theorem scLform:FnScope ["_law_kind_here", "_law_cell"] ["_law_kind_here", "_law_cell"] (q0j q9j):=⟨rfl,rfl,rfl,by decide +kernel,rfl,by decide +kernel,by decide +kernel⟩
abbrev q9h:Stmt:=top 29
theorem scLlone:FnScope ["_law_world_here", "_law_kind_here", "_law_cell", "_law_name", "_law_other", "_law_word_here"] ["_law_world_here", "_law_kind_here", "_law_cell"] (q0j q9h):=⟨rfl,rfl,rfl,by decide +kernel,rfl,by decide +kernel,by decide +kernel⟩
abbrev q9d:Stmt:=top 32
theorem scLterm:FnScope ["_law_deck_here", "_law_world_here", "_law_kind_here", "_law_around", "_law_deep", "_law_way", "_law_some", "_law_at"] ["_law_deck_here", "_law_world_here", "_law_kind_here", "_law_around", "_law_deep"] (q0j q9d):=⟨rfl,rfl,rfl,by decide +kernel,rfl,by decide +kernel,by decide +kernel⟩
abbrev q4n:Stmt:=top 7
theorem scis_to_do:FnScope ["part"] ["part"] (q0j q4n):=⟨rfl,rfl,rfl,by decide +kernel,rfl,by decide +kernel,by decide +kernel⟩
abbrev q4o:Stmt:=top 6
theorem scinner_of:FnScope ["part"] ["part"] (q0j q4o):=⟨rfl,rfl,rfl,by decide +kernel,rfl,by decide +kernel,by decide +kernel⟩
abbrev q6u:Stmt:=top 8
theorem q7z:FnScope ["term", "found", "todo", "part", "place", "inner"] ["term"] (q0j q6u):=⟨rfl,rfl,rfl,by decide +kernel,rfl,by decide +kernel,by decide +kernel⟩
abbrev q6r:Stmt:=top 10
theorem z0t:FnScope ["term", "place", "way", "k", "inner"] ["term", "place"] (q0j q6r):=⟨rfl,rfl,rfl,by decide +kernel,rfl,by decide +kernel,by decide +kernel⟩
abbrev q2b:Stmt:=top 4
theorem q3m:FnScope ["term", "rows", "todo", "part", "fns"] ["term"] (q0j q2b):=⟨rfl,rfl,rfl,by decide +kernel,rfl,by decide +kernel,by decide +kernel⟩
abbrev q1t:Stmt:=top 16
theorem q2m:FnScope ["term", "news", "rest", "told", "part", "fns", "f"] ["term", "news"] (q0j q1t):=⟨rfl,rfl,rfl,by decide +kernel,rfl,by decide +kernel,by decide +kernel⟩
abbrev q3e:Stmt:=top 15
theorem scbound_ones:FnScope ["term"] ["term"] (q0j q3e):=⟨rfl,rfl,rfl,by decide +kernel,rfl,by decide +kernel,by decide +kernel⟩
abbrev q6s:Stmt:=top 14
theorem scraised:FnScope ["term", "more"] ["term", "more"] (q0j q6s):=⟨rfl,rfl,rfl,by decide +kernel,rfl,by decide +kernel,by decide +kernel⟩
abbrev q5i:Stmt:=top 13
theorem scput_for:FnScope ["k", "fns", "a"] ["k", "fns", "a"] (q0j q5i):=⟨rfl,rfl,rfl,by decide +kernel,rfl,by decide +kernel,by decide +kernel⟩
abbrev q6t:Stmt:=top 12
theorem scput_in:FnScope ["body", "a"] ["body", "a"] (q0j q6t):=⟨rfl,rfl,rfl,by decide +kernel,rfl,by decide +kernel,by decide +kernel⟩
abbrev q3d:Stmt:=top 11
theorem scwith_inner:FnScope ["part", "k", "new"] ["part", "k", "new"] (q0j q3d):=⟨rfl,rfl,rfl,by decide +kernel,rfl,by decide +kernel,by decide +kernel⟩
abbrev q5k:Stmt:=top 9
theorem q6i:FnScope ["term", "place", "way", "part", "done", "outer"] ["term", "place"] (q0j q5k):=⟨rfl,rfl,rfl,by decide +kernel,rfl,by decide +kernel,by decide +kernel⟩
abbrev q4l:Stmt:=top 17
theorem q7y:FnScope ["term", "steps", "found"] ["term"] (q0j q4l):=⟨rfl,rfl,rfl,by decide +kernel,rfl,by decide +kernel,by decide +kernel⟩
abbrev q9f:Stmt:=top 40
theorem scLsame:FnScope ["_law_one", "_law_other"] ["_law_one", "_law_other"] (q0j q9f):=⟨rfl,rfl,rfl,by decide +kernel,rfl,by decide +kernel,by decide +kernel⟩
abbrev q5l:Stmt:=top 39
theorem q7o:FnScope ["_law_term_here", "_law_found"] ["_law_term_here"] (q0j q5l):=⟨rfl,rfl,rfl,by decide +kernel,rfl,by decide +kernel,by decide +kernel⟩
abbrev q6z:Stmt:=top 41
theorem scLtruth:FnScope ["_law_found", "_law_due"] ["_law_found", "_law_due"] (q0j q6z):=⟨rfl,rfl,rfl,by decide +kernel,rfl,by decide +kernel,by decide +kernel⟩
abbrev q2c:Stmt:=top 19
theorem z1d:FnScope ["term"] ["term"] (q0j q2c):=⟨rfl,rfl,rfl,by decide +kernel,rfl,by decide +kernel,by decide +kernel⟩
abbrev q9c:Stmt:=top 43
theorem scLuses:FnScope ["_law_term_here", "_law_around", "_law_uses_here", "_law_f"] ["_law_term_here", "_law_around", "_law_uses_here"] (q0j q9c):=⟨rfl,rfl,rfl,by decide +kernel,rfl,by decide +kernel,by decide +kernel⟩
abbrev q4q:Stmt:=top 44
theorem scLsparing:FnScope ["_law_term_here", "_law_uses_here"] ["_law_term_here"] (q0j q4q):=⟨rfl,rfl,rfl,by decide +kernel,rfl,by decide +kernel,by decide +kernel⟩
abbrev q2d:Stmt:=top 46
theorem z1f:FnScope ["_law_form_here"] ["_law_form_here"] (q0j q2d):=⟨rfl,rfl,rfl,by decide +kernel,rfl,by decide +kernel,by decide +kernel⟩
abbrev q4r:Stmt:=top 45
theorem q8a:FnScope ["_law_known", "_law_term_here", "_law_around", "_law_inner", "_law_f", "_law_a"] ["_law_known", "_law_term_here", "_law_around"] (q0j q4r):=⟨rfl,rfl,rfl,by decide +kernel,rfl,by decide +kernel,by decide +kernel⟩
abbrev q3q:Stmt:=top 35
theorem scLtogether:FnScope ["_law_term_here", "_law_around"] ["_law_term_here", "_law_around"] (q0j q3q):=⟨rfl,rfl,rfl,by decide +kernel,rfl,by decide +kernel,by decide +kernel⟩
abbrev sLput:Stmt:=top 36
theorem scLput:FnScope ["_law_term_here", "_law_own", "_law_thing"] ["_law_term_here", "_law_own", "_law_thing"] (q0j sLput):=⟨rfl,rfl,rfl,by decide +kernel,rfl,by decide +kernel,by decide +kernel⟩
abbrev q2v:Stmt:=top 37
theorem scLdone_apart:FnScope ["_law_term_here", "_law_place"] ["_law_term_here", "_law_place"] (q0j q2v):=⟨rfl,rfl,rfl,by decide +kernel,rfl,by decide +kernel,by decide +kernel⟩
abbrev q7b:Stmt:=top 34
theorem scLapart:FnScope ["_law_term_here", "_law_around", "_law_count", "_law_own", "_law_f"] ["_law_term_here", "_law_around", "_law_count"] (q0j q7b):=⟨rfl,rfl,rfl,by decide +kernel,rfl,by decide +kernel,by decide +kernel⟩
abbrev q9k:Stmt:=top 38
theorem scLdone:FnScope ["_law_term_here", "_law_place"] ["_law_term_here", "_law_place"] (q0j q9k):=⟨rfl,rfl,rfl,by decide +kernel,rfl,by decide +kernel,by decide +kernel⟩
abbrev q9e:Stmt:=top 42
theorem scLsize:FnScope ["_law_term_here"] ["_law_term_here"] (q0j q9e):=⟨rfl,rfl,rfl,by decide +kernel,rfl,by decide +kernel,by decide +kernel⟩
abbrev q7a:Stmt:=top 47
theorem scLgoing:FnScope ["_law_found", "_law_known", "_law_kind_here", "_law_k", "_law_left"] ["_law_found", "_law_known", "_law_kind_here"] (q0j q7a):=⟨rfl,rfl,rfl,by decide +kernel,rfl,by decide +kernel,by decide +kernel⟩
abbrev q4m:Stmt:=top 18
theorem scplain_of:FnScope ["term"] ["term"] (q0j q4m):=⟨rfl,rfl,rfl,by decide +kernel,rfl,by decide +kernel,by decide +kernel⟩
abbrev slaw:Stmt:=top 48
theorem sclaw:FnScope ["_law_script", "_law_deck_here", "_law_world_here", "_law_kind_here", "_law_term_here", "_law_known", "_law_name", "_law_other", "_law_found", "_law_kept"] ["_law_script"] (q0j slaw):=⟨rfl,rfl,rfl,by decide +kernel,rfl,by decide +kernel,by decide +kernel⟩
theorem simLdeck (z_sum:mg "sum" = none):SimF P w K mg base k "_law_deck" ["_law_script", "_law_cells", "_law_mixed"] q9l (q5g) f:=by
 intro cdv A outer s H E G hr hx
 have hu:=hu_r hr
 unfold q5g
 exact (q0f (q0s 1 scLdeck.nd (q0n q1l (q6f (q0b 0) q6h (q6g q0e)) (q1p (q0a q0e q0c))))
 (q0f (q0s 2 scLdeck.nd (q5o (q1e hu) (q0n q2o (q0i hu (q0b 1) q0e) q0e) q0e (q0u _)))
 (q0f (q5p (q0n q3r (q0i hu (q0b 1) q0e) q0e) (q5j (sets hu) (q0b 1) q0e))
 (q0h (q0p (sim_disp (q3x q0m (q0b 1) (q3x q0m q0e (q3x q0m q0e (q3x q0m (q0n q1l q0e (q0n q2o (q0w (calls_sum rfl) z_sum L2.boot_sum (q0a (q0b 1) q0c)) q0e)) (q3x q0m (q0b 2) simD_nil)))))))))))
theorem simLnext (z_len:mg "len" = none):SimF P w K mg base k "_law_next" ["_law_deck_here", "_law_cells", "_law_cell", "_law_number"] q9g (q5d) f:=by
 intro cdv A outer s H E G hr hx
 have hu:=hu_r hr
 unfold q5d
 exact (q0f (q0s 1 z1e.nd (q0i hu (q0b 0) q0m))
 (q0f (q1a (q1y (q0i hu (q0b 0) q0m)) (q0f (q5p (q0n q1l (q0i hu (q0b 0) q0m) q0e) (q5j (sets hu) (q0b 0) q0m))
 (q0f (q0s 2 z1e.nd (q0i hu (q0b 1) (q0n q2o (q0i hu (q0b 0) q0m) (q0w q1r z_len PySem.boot_len (q0a (q0b 1) q0c)))))
 (q0f (q5p (q0n q2o (q0n q1l (q0n q1l (q0n ops_mul (q0i hu (q0b 0) q0m) q0e) (q0b 2)) (q0i hu (q0b 0) q0m)) q0e) (q5j (sets hu) (q0b 0) q0m))
 (q0f (q0s 3 z1e.nd (q0n q2o (q0n q1l (q0n ops_mul (q0i hu (q0b 0) q0m) (q0i hu (q0b 0) q0m)) (q0n ops_mul q0e (q0i hu (q0b 0) q0m))) q0e))
 (q0h (q0p (q0n q2o (q0n ops_mul (q0b 3) (q0n q1l (q0b 3) q0e)) q0e))))))) q0r)
 (q0f (q0s 3 z1e.nd (q0n q2o (q0i hu (q0b 1) q0e) (q0n ops_pow q0e q0e)))
 (q0f (q5p (q0n q3r (q0i hu (q0b 1) q0e) (q0n ops_pow q0e q0e)) (q5j (sets hu) (q0b 1) q0e))
 (q0f (q5p (q0n q3f (q0i hu (q0b 0) q0m) q0e) (q5j (sets hu) (q0b 0) q0m))
 (q0f (q1a (SimW.t (q3y (q0o (q1e hu) (q0i hu (q0b 0) q0m) q0e (q0u _)) (q3v (q0o q9m (q0w q1r z_len PySem.boot_len (q0a (q0b 1) q0c)) q0e (q0u _))))) (q0f (q2e (q4c PySem.F.plainAttrs_list PySem.F.slot_list_pop PySem.F.type_list_pop mts_popAt (q0b 1) (q0a q0e q0c)))
 (q0h (q5p q0e (q5j (sets hu) (q0b 0) q0m)))) q0r)
 (q0h (q0p (q0b 3)))))))))
theorem simLspelled (z_range:mg "range" = none):SimF P w K mg base k "_law_spelled" ["_law_number", "_law_size_here", "_law_word_here", "_law_k"] q4p (q5n) f:=by
 intro cdv A outer s H E G hr hx
 have hu:=hu_r hr
 unfold q5n
 exact (q0f (q0s 2 q6j.nd q0m)
 (q0f (q8o PassesOwn.leaving rfl (q7x z_range (q0a (q0b 1) q0c)) (q1d (i:=3) q6j.nd) (q0f (q0s 2 q6j.nd (q0n q1l (q0b 2) (q0i hu q0m (q0n q2o (q0b 0) q0e))))
 (q0h (q0s 0 q6j.nd (q0n q3r (q0b 0) q0e)))))
 (q0h (q0p (q0b 2)))))
theorem simLword (z_len:mg "len" = none) (C_law_next:Cal P w K mg base k "_law_next" ["_law_deck_here"] (q0q K spLnext) fLnext fdLnext) (C_law_spelled:Cal P w K mg base k "_law_spelled" ["_law_number", "_law_size_here"] (q0q K spLspelled) fLspelled fdLspelled):SimF P w K mg base k "_law_word" ["_law_deck_here", "_law_words_here", "_law_way", "_law_number", "_law_size_here", "_law_word_here", "_law_at"] q9b (q5a spLnext spLspelled) f:=by
 intro cdv A outer s H E G hr hx
 have hu:=hu_r hr
 unfold q5a
 exact (q0f (q0s 2 q5y.nd (q0k C_law_next hr hx (q0a (q0b 0) q0c)))
 (q0f (q0s 3 q5y.nd (q0k C_law_next hr hx (q0a (q0b 0) q0c)))
 (q0f (q0s 4 q5y.nd (q0n q1l q0e (q0n q2o (q0b 2) q0e)))
 (q0f (q0s 5 q5y.nd (q0k C_law_spelled hr hx (q0a (q0b 3) (q0a (q0b 4) q0c))))
 (q0f (q1a (SimW.t (q3y (q0o (z1k hu) (q0b 1) (q1p q0c) (q0u _)) (q3v (q0o (q1e hu) (q0n q2o (q0n q3r (q0b 2) q0e) q0e) q0e (q0u _))))) (q0f (q0s 6 q5y.nd (q0n q2o (q0n q3r (q0b 2) q0e) (q0w q1r z_len PySem.boot_len (q0a (q0i hu (q0b 1) q0e) q0c))))
 (q0h (q0s 5 q5y.nd (q0n q1l (q0n q1l (q6f (q0i hu (q0b 1) q0e) q6h (q6g (q0b 6))) (q0i hu (q0b 5) q0e)) (q6f (q0i hu (q0b 1) q0e) (q6g (q0n q1l (q0b 6) q0e)) q6h))))) q0r)
 (q0f (q7m PassesOwn.leaving (SimW.t (q4v (q0o (ops_in hu) (q0b 5) (q0b 1) (by with_unfolding_all rfl)) (q4w (q0o (q1e hu) (q0b 5) q0m (q0u _))))) (q0f (q0s 3 q5y.nd (q0n q1l (q0b 3) q0e))
 (q0f (q0s 4 q5y.nd (q0n q1l (q0n q2o (q0b 4) q0e) q0e))
 (q0h (q0s 5 q5y.nd (q0k C_law_spelled hr hx (q0a (q0b 3) (q0a (q0b 4) q0c))))))))
 (q0h (q0p (q0b 5)))))))))
theorem simLwords (z_range:mg "range" = none) (C_law_word:Cal P w K mg base k "_law_word" ["_law_deck_here", "_law_words_here"] (q0q K spLword) fLword fdLword):SimF P w K mg base k "_law_words" ["_law_deck_here", "_law_many", "_law_words_here", "_law_k"] q6x (q4i spLword) f:=by
 intro cdv A outer s H E G hr hx
 have hu:=hu_r hr
 unfold q4i
 exact (q0f (q0s 2 scLwords.nd (q1p q0c))
 (q0f (q8o PassesOwn.leaving rfl (q7x z_range (q0a (q0b 1) q0c)) (q1d (i:=3) scLwords.nd) (q0h (q2e (q4c PySem.F.plainAttrs_list PySem.F.slot_list_append PySem.F.type_list_append q2a (q0b 2) (q0a (q0k C_law_word hr hx (q0a (q0b 0) (q0a (q0b 2) q0c))) q0c)))))
 (q0h (q0p (q0b 2)))))
theorem simLworld (C_law_words:Cal P w K mg base k "_law_words" ["_law_deck_here", "_law_many"] (q0q K spLwords) fLwords fdLwords):SimF P w K mg base k "_law_world" ["_law_deck_here", "_law_uses_here", "_law_leaves", "_law_basics"] q6w (q6p spLwords) f:=by
 intro cdv A outer s H E G hr hx
 have hu:=hu_r hr
 unfold q6p
 exact (q0f (q0s 3 scLworld.nd (q0k C_law_words hr hx (q0a (q0b 0) (q0a q0e q0c))))
 (q0h (q0p (sim_disp (q3x q0m (q0b 3) (q3x q0m (q1p q0c) (q3x q0m (q0b 0) (q3x q0m (q0b 1) (q3x q0m (q0b 2) simD_nil)))))))))
theorem simLkind (z_len:mg "len" = none) (C_law_next:Cal P w K mg base k "_law_next" ["_law_deck_here"] (q0q K spLnext) fLnext fdLnext) (C_law_kind:Cal P w K mg base k "_law_kind" ["_law_deck_here", "_law_basics", "_law_deep"] (q0q K spLkind) fLkind fdLkind):SimF P w K mg base k "_law_kind" ["_law_deck_here", "_law_basics", "_law_deep", "_law_way"] q9i (q4a spLnext spLkind) f:=by
 intro cdv A outer s H E G hr hx
 have hu:=hu_r hr
 unfold q4a
 exact (q0f (q0s 3 scLkind.nd (q0k C_law_next hr hx (q0a (q0b 0) q0c)))
 (q0f (q1a (SimW.t (q4v (q0o (q1e hu) (q0b 2) q0e (q0u _)) (q4w (q0o (q1e hu) (q0n q2o (q0b 3) q0e) q0e (q0u _))))) (q0h (q0p (q0i hu (q0b 1) (q0n q2o (q0n q3r (q0b 3) q0e) (q0w q1r z_len PySem.boot_len (q0a (q0b 1) q0c)))))) q0r)
 (q0h (q0p (q0x (q0a (q0k C_law_kind hr hx (q0a (q0b 0) (q0a (q0b 1) (q0a (q0n q3f (q0b 2) q0e) q0c)))) (q0a (q0k C_law_kind hr hx (q0a (q0b 0) (q0a (q0b 1) (q0a (q0n q3f (q0b 2) q0e) q0c)))) q0c)))))))
theorem simLfn (C_law_term:Cal P w K mg base k "_law_term" ["_law_deck_here", "_law_world_here", "_law_kind_here", "_law_around", "_law_deep"] (q0q K spLterm) fLterm fdLterm):SimF P w K mg base k "_law_fn" ["_law_deck_here", "_law_world_here", "_law_kind_here", "_law_around", "_law_deep", "_law_body"] sLfn (q6e spLterm) f:=by
 intro cdv A outer s H E G hr hx
 have hu:=hu_r hr
 unfold q6e
 exact (q0f (q2e (q4c PySem.F.plainAttrs_list PySem.F.slot_list_append PySem.F.type_list_append q2a (q0b 3) (q0a (q1p (q0a (q0i hu (q0b 2) q0e) (q0a (q0i hu (q0b 1) q0m) q0c))) q0c)))
 (q0f (q0s 5 scLfn.nd (q0k C_law_term hr hx (q0a (q0b 0) (q0a (q0b 1) (q0a (q0i hu (q0b 2) q0e) (q0a (q0b 3) (q0a (q0n q3f (q0b 4) q0e) q0c)))))))
 (q0f (q2e (q5x PySem.F.plainAttrs_list PySem.F.slot_list_pop PySem.F.type_list_pop q7d (q0b 3)))
 (q0h (q0p (q0x (q0a q0m (q0a (q0i hu (q0b 2) q0e) (q0a (q0b 5) q0c)))))))))
theorem simLof (C_law_kind:Cal P w K mg base k "_law_kind" ["_law_deck_here", "_law_basics", "_law_deep"] (q0q K spLkind) fLkind fdLkind) (C_law_next:Cal P w K mg base k "_law_next" ["_law_deck_here"] (q0q K spLnext) fLnext fdLnext) (C_law_fn:Cal P w K mg base k "_law_fn" ["_law_deck_here", "_law_world_here", "_law_kind_here", "_law_around", "_law_deep"] (q0q K spLfn) fLfn fdLfn) (C_law_term:Cal P w K mg base k "_law_term" ["_law_deck_here", "_law_world_here", "_law_kind_here", "_law_around", "_law_deep"] (q0q K spLterm) fLterm fdLterm):SimF P w K mg base k "_law_of" ["_law_deck_here", "_law_world_here", "_law_kind_here", "_law_around", "_law_deep", "_law_other", "_law_way", "_law_f"] sLof (q6d spLkind spLnext spLfn spLterm) f:=by
 intro cdv A outer s H E G hr hx
 have hu:=hu_r hr
 unfold q6d
 exact (q0f (q0s 5 scLof.nd (q0k C_law_kind hr hx (q0a (q0b 0) (q0a (q0i hu (q0b 1) q0m) (q0a q0e q0c)))))
 (q0f (q0s 6 scLof.nd (q0k C_law_next hr hx (q0a (q0b 0) q0c)))
 (q0f (q1a (q0o q9m (q0n q2o (q0b 6) q0e) q0e (q0u _)) (q0h (q0s 7 scLof.nd (q0k C_law_fn hr hx (q0a (q0b 0) (q0a (q0b 1) (q0a (q0x (q0a (q0b 5) (q0a (q0b 2) q0c))) (q0a (q0b 3) (q0a (q0b 4) q0c)))))))) (q0h (q0s 7 scLof.nd (q0k C_law_term hr hx (q0a (q0b 0) (q0a (q0b 1) (q0a (q0x (q0a (q0b 5) (q0a (q0b 2) q0c))) (q0a (q0b 3) (q0a (q0n q3f (q0b 4) q0e) q0c)))))))))
 (q0h (q0p (q0x (q0a q0m (q0a (q0b 7) (q0a (q0k C_law_term hr hx (q0a (q0b 0) (q0a (q0b 1) (q0a (q0b 5) (q0a (q0b 3) (q0a (q0n q3f (q0b 4) q0e) q0c)))))) q0c)))))))))
theorem simLwidth (z_isinstance:mg "isinstance" = none) (z_str:mg "str" = none) (C_law_width:Cal P w K mg base k "_law_width" ["_law_kind_here"] (q0q K spLwidth) fLwidth fdLwidth):SimF P w K mg base k "_law_width" ["_law_kind_here"] q6y (q3o spLwidth) f:=by
 intro cdv A outer s H E G hr hx
 have hu:=hu_r hr
 unfold q3o
 exact (q0f (q1a (q1y (q0w q3h z_isinstance L2.q2g (q0a (q0b 0) (q0a (q7h z_str L2.q9t) q0c)))) (q0h (q0p q0e)) q0r)
 (q0h (q0p (q0n q1l (q0k C_law_width hr hx (q0a (q0i hu (q0b 0) q0e) q0c)) (q0k C_law_width hr hx (q0a (q0i hu (q0b 0) q0e) q0c))))))
theorem simLform (z_isinstance:mg "isinstance" = none) (z_str:mg "str" = none) (C_law_form:Cal P w K mg base k "_law_form" ["_law_kind_here", "_law_cell"] (q0q K spLform) fLform fdLform):SimF P w K mg base k "_law_form" ["_law_kind_here", "_law_cell"] q9j (q4b spLform) f:=by
 intro cdv A outer s H E G hr hx
 have hu:=hu_r hr
 unfold q4b
 exact (q0f (q1a (q1y (q0w q3h z_isinstance L2.q2g (q0a (q0b 0) (q0a (q7h z_str L2.q9t) q0c)))) (q0h (q0p (q0x (q0a q0m (q0a (q0b 0) q0c))))) q0r)
 (q0h (q0p (q0x (q0a (q0i hu (q1p (q0a q0m (q0a q0m q0c))) (q0n q2o (q0b 1) q0e)) (q0a (q0k C_law_form hr hx (q0a (q0i hu (q0b 0) q0e) (q0a (q0n q3r (q0b 1) q0e) q0c))) (q0a (q0k C_law_form hr hx (q0a (q0i hu (q0b 0) q0e) (q0a (q0n q3r (q0b 1) q0e) q0c))) q0c)))))))
theorem simLlone (C_law_width:Cal P w K mg base k "_law_width" ["_law_kind_here"] (q0q K spLwidth) fLwidth fdLwidth) (C_law_form:Cal P w K mg base k "_law_form" ["_law_kind_here", "_law_cell"] (q0q K spLform) fLform fdLform) (C_law_word:Cal P w K mg base k "_law_word" ["_law_deck_here", "_law_words_here"] (q0q K spLword) fLword fdLword):SimF P w K mg base k "_law_lone" ["_law_world_here", "_law_kind_here", "_law_cell", "_law_name", "_law_other", "_law_word_here"] q9h (q5e spLwidth spLform spLword) f:=by
 intro cdv A outer s H E G hr hx
 have hu:=hu_r hr
 unfold q5e
 exact (q0f (q1a (SimW.t (q3y (q1y (q0i hu (q0b 0) q0m)) (q3y (q0o (q1e hu) (q0n q2o (q0b 2) q0e) q0e (q0u _)) (q3v (q0o z0d (q0k C_law_width hr hx (q0a (q0b 1) q0c)) q0e (q0u _)))))) (q0h (q0p (q0x (q0a q0m (q0a (q0n q2o (q0n q3r (q0b 2) q0e) q0e) (q0a (q0k C_law_form hr hx (q0a (q0b 1) (q0a (q0n q3r (q0b 2) q0e) q0c))) q0c)))))) q0r)
 (q0f (q8o PassesOwn.leaving rfl (q4y (q0i hu (q0b 0) q0m)) (q4z 2 rfl (q1j (q1d (i:=3) scLlone.nd) (q1j (q1d (i:=4) scLlone.nd) q3w))) (q0h (q1a (SimW.t (q3y (q0o (q1e hu) (q0b 4) (q0b 1) (q0u _)) (q3v (q0o q9m (q0n q2o (q0n q3r (q0b 2) q0e) q0e) q0e (q0u _))))) (q0h (q0p (q0x (q0a q0m (q0a (q0b 3) q0c))))) q0r)))
 (q0f (q0s 5 scLlone.nd (q0k C_law_word hr hx (q0a (q0i hu (q0b 0) q0m) (q0a (q5t ["_law_name", "_law_other"] [none,none] rfl (q8l rfl (by decide +kernel) (by decide +kernel) rfl trivial) (q4y (q0i hu (q0b 0) q0m)) (fun _ _ _ _ _=>(q4z 2 rfl (q1j (q1d (i:=0) (show (["_law_name", "_law_other"]:List Str).Nodup by decide +kernel)) (q1j (q1d (i:=1) (show (["_law_name", "_law_other"]:List Str).Nodup by decide +kernel)) q3w)))) (fun _ _ _ _ _=>(q0b 0))) q0c))))
 (q0f (q2e (q4c PySem.F.plainAttrs_list PySem.F.slot_list_append PySem.F.type_list_append q2a (q0i hu (q0b 0) q0m) (q0a (q0x (q0a (q0b 5) (q0a (q0b 1) q0c))) q0c)))
 (q0h (q0p (q0x (q0a q0m (q0a (q0b 5) q0c)))))))))
theorem simLterm (z_isinstance:mg "isinstance" = none) (z_len:mg "len" = none) (z_range:mg "range" = none) (z_tuple:mg "tuple" = none) (C_law_next:Cal P w K mg base k "_law_next" ["_law_deck_here"] (q0q K spLnext) fLnext fdLnext) (C_law_fn:Cal P w K mg base k "_law_fn" ["_law_deck_here", "_law_world_here", "_law_kind_here", "_law_around", "_law_deep"] (q0q K spLfn) fLfn fdLfn) (C_law_of:Cal P w K mg base k "_law_of" ["_law_deck_here", "_law_world_here", "_law_kind_here", "_law_around", "_law_deep"] (q0q K spLof) fLof fdLof) (C_law_lone:Cal P w K mg base k "_law_lone" ["_law_world_here", "_law_kind_here", "_law_cell"] (q0q K spLlone) fLlone fdLlone):SimF P w K mg base k "_law_term" ["_law_deck_here", "_law_world_here", "_law_kind_here", "_law_around", "_law_deep", "_law_way", "_law_some", "_law_at"] q9d (q5b spLnext spLfn spLof spLlone) f:=by
 intro cdv A outer s H E G hr hx
 have hu:=hu_r hr
 unfold q5b
 exact (q0f (q0s 5 scLterm.nd (q0k C_law_next hr hx (q0a (q0b 0) q0c)))
 (q0f (sim_setCompIf 6 ["_law_k", "_law_kind_here", "_law_around"] [none,some 2,some 3] scLterm.nd rfl (q8l rfl (by decide +kernel) (by decide +kernel) rfl ⟨⟨rfl,rfl,by first | exact Or.inl rfl | exact Or.inr rfl⟩,⟨⟨rfl,rfl,by first | exact Or.inl rfl | exact Or.inr rfl⟩,trivial⟩⟩) (q7x z_range (q0a (q0w q1r z_len PySem.boot_len (q0a (q0b 3) q0c)) q0c)) (fun _ _ _ _ _=>(q1d (i:=0) (show (["_law_k", "_law_kind_here", "_law_around"]:List Str).Nodup by decide +kernel))) (fun _ _ _ _ _=>(SimW.t (q3y (q0o (q1e hu) (q0i hu (q0i hu (q0b 2) (q0b 0)) q0e) (q0b 1) (q0u _)) (q3v (q0o q9m (q0i hu (q0i hu (q0b 2) (q0b 0)) q0e) q0e (q0u _)))))) (fun _ _ _ _ _=>(q0b 0)))
 (q0f (q1a (SimW.t (q3y (q0o (z1k hu) (q0b 6) (q1p q0c) (q0u _)) (q3v (SimW.t (q4v (q0o z0d (q0n q2o (q0b 5) q0e) q0e (q0u _)) (q4w (q0o z0d (q0b 4) q0e (q0u _)))))))) (q0f (q0s 7 scLterm.nd (q0i hu (q0b 6) (q0n q2o (q0n q3r (q0b 5) q0e) (q0w q1r z_len PySem.boot_len (q0a (q0b 6) q0c)))))
 (q0f (q5p (q0n q3f (q0i hu (q0i hu (q0b 3) (q0b 7)) q0e) q0e) (q5j (sets hu) (q0i hu (q0b 3) (q0b 7)) q0e))
 (q0h (q0p (q0x (q0a q0m (q0a (q0n q3f (q0n q3f (q0w q1r z_len PySem.boot_len (q0a (q0b 3) q0c)) q0e) (q0b 7)) q0c))))))) q0r)
 (q0f (q1a (SimW.t (q3y (q0o q9m (q0b 4) q0e (q0u _)) (q3y (q1y (q0w q3h z_isinstance L2.q2g (q0a (q0b 2) (q0a (q7h z_tuple L2.z0a) q0c)))) (q3v (q0o q9m (q0n q2o (q0b 5) q0e) q0e (q0u _)))))) (q0h (q0p (q0k C_law_fn hr hx (q0a (q0b 0) (q0a (q0b 1) (q0a (q0b 2) (q0a (q0b 3) (q0a (q0b 4) q0c)))))))) q0r)
 (q0f (q1a (SimW.t (q3y (q0o q9m (q0b 4) q0e (q0u _)) (q3v (q0o q9m (q0n q2o (q0b 5) q0e) q0e (q0u _))))) (q0h (q0p (q0k C_law_of hr hx (q0a (q0b 0) (q0a (q0b 1) (q0a (q0b 2) (q0a (q0b 3) (q0a (q0b 4) q0c)))))))) q0r)
 (q0h (q0p (q0k C_law_lone hr hx (q0a (q0b 1) (q0a (q0b 2) (q0a (q0n q3r (q0b 5) q0e) q0c)))))))))))
theorem simis_to_do:SimF P w K mg base k "is_to_do" ["part"] q4n (q2n) f:=by
 intro cdv A outer s H E G hr hx
 have hu:=hu_r hr
 unfold q2n
 exact (q0h (q0p (q8p (q5o (q1e hu) (q0i hu (q0b 0) q0e) q0m (q0u _)) (q9w (q5o (q1e hu) (q0i hu (q0i hu (q0b 0) q0e) q0e) q0m (q0u _))))))
theorem siminner_of:SimF P w K mg base k "inner_of" ["part"] q4o (q1k) f:=by
 intro cdv A outer s H E G hr hx
 have hu:=hu_r hr
 unfold q1k
 exact (q0f (q1a (q0o (q1e hu) (q0i hu (q0b 0) q0e) q0m (q0u _)) (q0h (q0p (q0x (q0a (q0i hu (q0b 0) q0e) q0c)))) q0r)
 (q0f (q1a (q0o (q1e hu) (q0i hu (q0b 0) q0e) q0m (q0u _)) (q0h (q0p (q0x (q0a (q0i hu (q0b 0) q0e) (q0a (q0i hu (q0b 0) q0e) q0c))))) q0r)
 (q0h (q0p (q0x q0c)))))
theorem simplaces (z_len:mg "len" = none) (z_range:mg "range" = none) (z_reversed:mg "reversed" = none) (Cis_to_do:Cal P w K mg base k "is_to_do" ["part"] (q0q K spis_to_do) fis_to_do fdis_to_do) (Cinner_of:Cal P w K mg base k "inner_of" ["part"] (q0q K spinner_of) finner_of fdinner_of):SimF P w K mg base k "places" ["term", "found", "todo", "part", "place", "inner"] q6u (q4h spis_to_do spinner_of) f:=by
 intro cdv A outer s H E G hr hx
 have hu:=hu_r hr
 unfold q4h
 exact (q0f (q0s 1 q7z.nd (q1p q0c))
 (q0f (q0s 2 q7z.nd (q1p (q0a (q0x (q0a (q0b 0) (q0a (q0x q0c) q0c))) q0c)))
 (q0f (q7m PassesOwn.leaving (q1y (q0b 2)) (q0f (q5p (q5x PySem.F.plainAttrs_list PySem.F.slot_list_pop PySem.F.type_list_pop q7d (q0b 2)) (q4z 2 rfl (q1j (q1d (i:=3) q7z.nd) (q1j (q1d (i:=4) q7z.nd) q3w))))
 (q0f (q1a (q1y (q0k Cis_to_do hr hx (q0a (q0b 3) q0c))) (q0h (q2e (q4c PySem.F.plainAttrs_list PySem.F.slot_list_append PySem.F.type_list_append q2a (q0b 1) (q0a (q0b 4) q0c)))) q0r)
 (q0f (q0s 5 q7z.nd (q0k Cinner_of hr hx (q0a (q0b 3) q0c)))
 (q0h (q2e (q4c PySem.F.plainAttrs_list PySem.F.slot_list_extend PySem.F.type_list_extend mts_extend (q0b 2) (q0a (q5t ["k", "inner", "place"] [none,some 5,some 4] rfl (q8l rfl (by decide +kernel) (by decide +kernel) rfl ⟨⟨rfl,rfl,by first | exact Or.inl rfl | exact Or.inr rfl⟩,⟨⟨rfl,rfl,by first | exact Or.inl rfl | exact Or.inr rfl⟩,trivial⟩⟩) (simI_rngrev z_reversed z_range (q0a (q0w q1r z_len PySem.boot_len (q0a (q0b 5) q0c)) q0c)) (fun _ _ _ _ _=>(q1d (i:=0) (show (["k", "inner", "place"]:List Str).Nodup by decide +kernel))) (fun _ _ _ _ _=>(q0x (q0a (q0i hu (q0b 1) (q0b 0)) (q0a (q0n q1l (q0b 2) (q0x (q0a (q0b 0) q0c))) q0c))))) q0c))))))))
 (q0h (q0p (q0b 1))))))
theorem simway_to (z_len:mg "len" = none) (x_NoPlace:ExcC K mg "NoPlace") (Cinner_of:Cal P w K mg base k "inner_of" ["part"] (q0q K spinner_of) finner_of fdinner_of):SimF P w K mg base k "way_to" ["term", "place", "way", "k", "inner"] q6r (q4e spinner_of) f:=by
 intro cdv A outer s H E G hr hx
 have hu:=hu_r hr
 unfold q4e
 exact (q0f (q0s 2 z0t.nd (q1p (q0a (q0b 0) q0c)))
 (q0f (q8o PassesOwn.leaving rfl (q4y (q0b 1)) (q1d (i:=3) z0t.nd) (q0f (q0s 4 z0t.nd (q0k Cinner_of hr hx (q0a (q0i hu (q0b 2) (q6v q0e)) q0c)))
 (q0f (q1a (SimW.t (q4v (q0o z0d (q0b 3) q0e (q0u _)) (q4w (q0o ops_ge (q0b 3) (q0w q1r z_len PySem.boot_len (q0a (q0b 4) q0c)) (q0u _))))) (q0h (sim_raise x_NoPlace hx rfl (q0a q0m q0c))) q0r)
 (q0h (q2e (q4c PySem.F.plainAttrs_list PySem.F.slot_list_append PySem.F.type_list_append q2a (q0b 2) (q0a (q0i hu (q0b 4) (q0b 3)) q0c)))))))
 (q0h (q0p (q0b 2)))))
theorem z0j (z_len:mg "len" = none):SimF P w K mg base k "parts_and_fns" ["term", "rows", "todo", "part", "fns"] q2b (q2h) f:=by
 intro cdv A outer s H E G hr hx
 have hu:=hu_r hr
 unfold q2h
 exact (q0f (q0s 1 q3m.nd (q1p q0c))
 (q0f (q0s 2 q3m.nd (q1p (q0a (q0x (q0a (q0b 0) (q0a (q0x q0c) q0c))) q0c)))
 (q0f (q7m PassesOwn.leaving (q1y (q0b 2)) (q0f (q5p (q5x PySem.F.plainAttrs_list PySem.F.slot_list_pop PySem.F.type_list_pop q7d (q0b 2)) (q4z 2 rfl (q1j (q1d (i:=3) q3m.nd) (q1j (q1d (i:=4) q3m.nd) q3w))))
 (q0f (q1a (q0o (q1e hu) (q0i hu (q0b 3) q0e) q0m (q0u _)) (q0h (q2e (q4c PySem.F.plainAttrs_list PySem.F.slot_list_append PySem.F.type_list_append q2a (q0b 2) (q0a (q0x (q0a (q0i hu (q0b 3) q0e) (q0a (q0n q1l (q0b 4) (q0x (q0a (q0w q1r z_len PySem.boot_len (q0a (q0b 1) q0c)) q0c))) q0c))) q0c)))) (q0h (q1a (q0o (q1e hu) (q0i hu (q0b 3) q0e) q0m (q0u _)) (q0h (q2e (q4c PySem.F.plainAttrs_list PySem.F.slot_list_extend PySem.F.type_list_extend mts_extend (q0b 2) (q0a (q1p (q0a (q0x (q0a (q0i hu (q0b 3) q0e) (q0a (q0b 4) q0c))) (q0a (q0x (q0a (q0i hu (q0b 3) q0e) (q0a (q0b 4) q0c))) q0c))) q0c)))) q0r)))
 (q0h (q2e (q4c PySem.F.plainAttrs_list PySem.F.slot_list_append PySem.F.type_list_append q2a (q0b 1) (q0a (q0x (q0a (q0b 3) (q0a (q0b 4) q0c))) q0c)))))))
 (q0h (q0p (q0b 1))))))
theorem q8y (z_list:mg "list" = none) (z_reversed:mg "reversed" = none) (Cparts_and_fns:Cal P w K mg base k "parts_and_fns" ["term"] (q0q K spparts_and_fns) fparts_and_fns fdparts_and_fns):SimF P w K mg base k "with_bound_ones" ["term", "news", "rest", "told", "part", "fns", "f"] q1t (q1z spparts_and_fns) f:=by
 intro cdv A outer s H E G hr hx
 have hu:=hu_r hr
 unfold q1z
 exact (q0f (q0s 2 q2m.nd (sim_callTy calls_list z_list L2.z1z (q0a (q0b 1) q0c)))
 (q0f (q0s 3 q2m.nd (q1p q0c))
 (q0f (q8o PassesOwn.leaving rfl (simI_rev z_reversed (q0k Cparts_and_fns hr hx (q0a (q0b 0) q0c))) (q4z 2 rfl (q1j (q1d (i:=4) q2m.nd) (q1j (q1d (i:=5) q2m.nd) q3w))) (q0h (q1a (q0o (q1e hu) (q0i hu (q0b 4) q0e) q0m (q0u _)) (q0h (q2e (q4c PySem.F.plainAttrs_list PySem.F.slot_list_append PySem.F.type_list_append q2a (q0b 3) (q0a (q5x PySem.F.plainAttrs_list PySem.F.slot_list_pop PySem.F.type_list_pop q7d (q0b 2)) q0c)))) (q0h (q1a (q0o (q1e hu) (q0i hu (q0b 4) q0e) q0m (q0u _)) (q0h (q2e (q4c PySem.F.plainAttrs_list PySem.F.slot_list_append PySem.F.type_list_append q2a (q0b 3) (q0a (q0x (q0a q0m (q0a (q0i hu (q0b 4) q0e) (q0a (q5x PySem.F.plainAttrs_list PySem.F.slot_list_pop PySem.F.type_list_pop q7d (q0b 3)) q0c)))) q0c)))) (q0h (q1a (q0o (q1e hu) (q0i hu (q0b 4) q0e) q0m (q0u _)) (q0f (q0s 6 q2m.nd (q5x PySem.F.plainAttrs_list PySem.F.slot_list_pop PySem.F.type_list_pop q7d (q0b 3)))
 (q0h (q2e (q4c PySem.F.plainAttrs_list PySem.F.slot_list_append PySem.F.type_list_append q2a (q0b 3) (q0a (q0x (q0a q0m (q0a (q0b 6) (q0a (q5x PySem.F.plainAttrs_list PySem.F.slot_list_pop PySem.F.type_list_pop q7d (q0b 3)) q0c)))) q0c))))) (q0h (q2e (q4c PySem.F.plainAttrs_list PySem.F.slot_list_append PySem.F.type_list_append q2a (q0b 3) (q0a (q0b 4) q0c)))))))))))
 (q0h (q0p (q0i hu (q0b 3) q0e))))))
theorem simbound_ones (z_len:mg "len" = none) (Cparts_and_fns:Cal P w K mg base k "parts_and_fns" ["term"] (q0q K spparts_and_fns) fparts_and_fns fdparts_and_fns):SimF P w K mg base k "bound_ones" ["term"] q3e (q3a spparts_and_fns) f:=by
 intro cdv A outer s H E G hr hx
 have hu:=hu_r hr
 unfold q3a
 exact (q0h (q0p (sim_compIf ["part", "fns"] [none,none] rfl (q8l rfl (by decide +kernel) (by decide +kernel) rfl trivial) (q4y (q0k Cparts_and_fns hr hx (q0a (q0b 0) q0c))) (fun _ _ _ _ _=>(q4z 2 rfl (q1j (q1d (i:=0) (show (["part", "fns"]:List Str).Nodup by decide +kernel)) (q1j (q1d (i:=1) (show (["part", "fns"]:List Str).Nodup by decide +kernel)) q3w)))) (fun _ _ _ _ _=>(q0o (q1e hu) (q0i hu (q0b 0) q0e) q0m (q0u _))) (fun _ _ _ _ _=>(q0x (q0a (q0i hu (q0b 0) q0e) (q0a (q0w q1r z_len PySem.boot_len (q0a (q0b 1) q0c)) q0c)))))))
theorem simraised (Cwith_bound_ones:Cal P w K mg base k "with_bound_ones" ["term", "news"] (q0q K spwith_bound_ones) fwith_bound_ones fdwith_bound_ones) (Cbound_ones:Cal P w K mg base k "bound_ones" ["term"] (q0q K spbound_ones) fbound_ones fdbound_ones):SimF P w K mg base k "raised" ["term", "more"] q6s (q4f spwith_bound_ones spbound_ones) f:=by
 intro cdv A outer s H E G hr hx
 have hu:=hu_r hr
 unfold q4f
 exact (q0h (q0p (q0k Cwith_bound_ones hr hx (q0a (q0b 0) (q0a (q5t ["k", "fns", "more"] [none,none,some 1] rfl (q8l rfl (by decide +kernel) (by decide +kernel) rfl ⟨⟨rfl,rfl,by first | exact Or.inl rfl | exact Or.inr rfl⟩,trivial⟩) (q4y (q0k Cbound_ones hr hx (q0a (q0b 0) q0c))) (fun _ _ _ _ _=>(q4z 2 rfl (q1j (q1d (i:=0) (show (["k", "fns", "more"]:List Str).Nodup by decide +kernel)) (q1j (q1d (i:=1) (show (["k", "fns", "more"]:List Str).Nodup by decide +kernel)) q3w)))) (fun _ _ _ _ _=>(q0x (q0a q0m (q0a (sim_ifExp (q0o z0d (q0b 0) (q0b 1) (q0u _)) (q0b 0) (q0n q1l (q0b 0) (q0b 2))) q0c))))) q0c)))))
theorem simput_for (Craised:Cal P w K mg base k "raised" ["term", "more"] (q0q K spraised) fraised fdraised):SimF P w K mg base k "put_for" ["k", "fns", "a"] q5i (q3t spraised) f:=by
 intro cdv A outer s H E G hr hx
 have hu:=hu_r hr
 unfold q3t
 exact (q0f (q1a (q0o z0d (q0b 0) (q0b 1) (q0u _)) (q0h (q0p (q0x (q0a q0m (q0a (q0b 0) q0c))))) q0r)
 (q0f (q1a (q0o (q1e hu) (q0b 0) (q0b 1) (q0u _)) (q0h (q0p (q0k Craised hr hx (q0a (q0b 2) (q0a (q0b 1) q0c))))) q0r)
 (q0h (q0p (q0x (q0a q0m (q0a (q0n q3f (q0b 0) q0e) q0c)))))))
theorem simput_in (Cwith_bound_ones:Cal P w K mg base k "with_bound_ones" ["term", "news"] (q0q K spwith_bound_ones) fwith_bound_ones fdwith_bound_ones) (Cput_for:Cal P w K mg base k "put_for" ["k", "fns", "a"] (q0q K spput_for) fput_for fdput_for) (Cbound_ones:Cal P w K mg base k "bound_ones" ["term"] (q0q K spbound_ones) fbound_ones fdbound_ones):SimF P w K mg base k "put_in" ["body", "a"] q6t (q4g spwith_bound_ones spput_for spbound_ones) f:=by
 intro cdv A outer s H E G hr hx
 have hu:=hu_r hr
 unfold q4g
 exact (q0h (q0p (q0k Cwith_bound_ones hr hx (q0a (q0b 0) (q0a (q5t ["k", "fns", "a"] [none,none,some 1] rfl (q8l rfl (by decide +kernel) (by decide +kernel) rfl ⟨⟨rfl,rfl,by first | exact Or.inl rfl | exact Or.inr rfl⟩,trivial⟩) (q4y (q0k Cbound_ones hr hx (q0a (q0b 0) q0c))) (fun _ _ _ _ _=>(q4z 2 rfl (q1j (q1d (i:=0) (show (["k", "fns", "a"]:List Str).Nodup by decide +kernel)) (q1j (q1d (i:=1) (show (["k", "fns", "a"]:List Str).Nodup by decide +kernel)) q3w)))) (fun _ _ _ _ _=>(q0k Cput_for hr passNo (q0a (q0b 0) (q0a (q0b 1) (q0a (q0b 2) q0c)))))) q0c)))))
theorem simwith_inner:SimF P w K mg base k "with_inner" ["part", "k", "new"] q3d (q2z) f:=by
 intro cdv A outer s H E G hr hx
 have hu:=hu_r hr
 unfold q2z
 exact (q0f (q1a (q0o (q1e hu) (q0i hu (q0b 0) q0e) q0m (q0u _)) (q0h (q0p (q0x (q0a q0m (q0a (q0i hu (q0b 0) q0e) (q0a (q0b 2) q0c)))))) q0r)
 (q0f (q1a (q0o (q1e hu) (q0b 1) q0e (q0u _)) (q0h (q0p (q0x (q0a q0m (q0a (q0b 2) (q0a (q0i hu (q0b 0) q0e) q0c)))))) q0r)
 (q0h (q0p (q0x (q0a q0m (q0a (q0i hu (q0b 0) q0e) (q0a (q0b 2) q0c))))))))
theorem simdone_at (z_len:mg "len" = none) (x_NoPlace:ExcC K mg "NoPlace") (Cway_to:Cal P w K mg base k "way_to" ["term", "place"] (q0q K spway_to) fway_to fdway_to) (Cis_to_do:Cal P w K mg base k "is_to_do" ["part"] (q0q K spis_to_do) fis_to_do fdis_to_do) (Cput_in:Cal P w K mg base k "put_in" ["body", "a"] (q0q K spput_in) fput_in fdput_in) (Cwith_inner:Cal P w K mg base k "with_inner" ["part", "k", "new"] (q0q K spwith_inner) fwith_inner fdwith_inner):SimF P w K mg base k "done_at" ["term", "place", "way", "part", "done", "outer"] q5k (q3u spway_to spis_to_do spput_in spwith_inner) f:=by
 intro cdv A outer s H E G hr hx
 have hu:=hu_r hr
 unfold q3u
 exact (q0f (q0s 2 q6i.nd (q0k Cway_to hr hx (q0a (q0b 0) (q0a (q0b 1) q0c))))
 (q0f (q0s 3 q6i.nd (q5x PySem.F.plainAttrs_list PySem.F.slot_list_pop PySem.F.type_list_pop q7d (q0b 2)))
 (q0f (q1a (q4x (q1y (q0k Cis_to_do hr hx (q0a (q0b 3) q0c)))) (q0h (sim_raise x_NoPlace hx rfl (q0a q0m q0c))) q0r)
 (q0f (q0s 4 q6i.nd (q0k Cput_in hr hx (q0a (q0i hu (q0i hu (q0b 3) q0e) q0e) (q0a (q0i hu (q0b 3) q0e) q0c))))
 (q0f (q7m PassesOwn.leaving (q1y (q0b 2)) (q0f (q0s 5 q6i.nd (q5x PySem.F.plainAttrs_list PySem.F.slot_list_pop PySem.F.type_list_pop q7d (q0b 2)))
 (q0h (q0s 4 q6i.nd (q0k Cwith_inner hr hx (q0a (q0b 5) (q0a (q0i hu (q0b 1) (q0w q1r z_len PySem.boot_len (q0a (q0b 2) q0c))) (q0a (q0b 4) q0c))))))))
 (q0h (q0p (q0b 4))))))))
theorem simsteps_of (Cplaces:Cal P w K mg base k "places" ["term"] (q0q K spplaces) fplaces fdplaces) (Cdone_at:Cal P w K mg base k "done_at" ["term", "place"] (q0q K spdone_at) fdone_at fddone_at):SimF P w K mg base k "steps_of" ["term", "steps", "found"] q4l (q3j spplaces spdone_at) f:=by
 intro cdv A outer s H E G hr hx
 have hu:=hu_r hr
 unfold q3j
 exact (q0f (q0s 1 q7y.nd (q1p (q0a (q0b 0) q0c)))
 (q0f (q0s 2 q7y.nd (q0k Cplaces hr hx (q0a (q0b 0) q0c)))
 (q0f (q7m PassesOwn.leaving (q1y (q0b 2)) (q0f (q2e (q4c PySem.F.plainAttrs_list PySem.F.slot_list_append PySem.F.type_list_append q2a (q0b 1) (q0a (q0k Cdone_at hr hx (q0a (q0i hu (q0b 1) (q6v q0e)) (q0a (q0i hu (q0b 2) q0e) q0c))) q0c)))
 (q0h (q0s 2 q7y.nd (q0k Cplaces hr hx (q0a (q0i hu (q0b 1) (q6v q0e)) q0c))))))
 (q0h (q0p (q0b 1))))))
theorem simLsame (z_all:mg "all" = none) (z_bool:mg "bool" = none) (z_int:mg "int" = none) (z_isinstance:mg "isinstance" = none) (z_len:mg "len" = none) (z_str:mg "str" = none) (z_tuple:mg "tuple" = none) (z_zip:mg "zip" = none) (C_law_same:Cal P w K mg base k "_law_same" ["_law_one", "_law_other"] (q0q K spLsame) fLsame fdLsame):SimF P w K mg base k "_law_same" ["_law_one", "_law_other"] q9f (q5c spLsame) f:=by
 intro cdv A outer s H E G hr hx
 have hu:=hu_r hr
 unfold q5c
 exact (q0f (q1a (q1y (q0w q3h z_isinstance L2.q2g (q0a (q0b 0) (q0a (q7h z_str L2.q9t) q0c)))) (q0h (q0p (q8p (q0w q3h z_isinstance L2.q2g (q0a (q0b 1) (q0a (q7h z_str L2.q9t) q0c))) (q9w (q5o (q1e hu) (q0b 0) (q0b 1) (q0u _)))))) q0r)
 (q0f (q1a (q4x (q1y (q0w q3h z_isinstance L2.q2g (q0a (q0b 0) (q0a (q7h z_tuple L2.z0a) q0c))))) (q0h (q0p (q8p (q0w q3h z_isinstance L2.q2g (q0a (q0b 1) (q0a (q7h z_int L2.boot_int) q0c))) (q8p (sim_not (q0w q3h z_isinstance L2.q2g (q0a (q0b 1) (q0a (q7h z_bool L2.boot_bool) q0c)))) (q9w (q5o (q1e hu) (q0b 0) (q0b 1) (q0u _))))))) q0r)
 (q0f (q1a (SimW.t (q4v (q4x (q1y (q0w q3h z_isinstance L2.q2g (q0a (q0b 1) (q0a (q7h z_tuple L2.z0a) q0c))))) (q4w (q0o (z1k hu) (q0w q1r z_len PySem.boot_len (q0a (q0b 0) q0c)) (q0w q1r z_len PySem.boot_len (q0a (q0b 1) q0c)) (q0u _))))) (q0h (q0p q7n)) q0r)
 (q0h (q0p (q0w (calls_all rfl) z_all L2.boot_all (q0a (q5t ["_law_here", "_law_there"] [none,none] rfl (q8l rfl (by decide +kernel) (by decide +kernel) rfl trivial) (simI_zip z_zip (q0a (q0b 0) (q0a (q0b 1) q0c))) (fun _ _ _ _ _=>(q4z 2 rfl (q1j (q1d (i:=0) (show (["_law_here", "_law_there"]:List Str).Nodup by decide +kernel)) (q1j (q1d (i:=1) (show (["_law_here", "_law_there"]:List Str).Nodup by decide +kernel)) q3w)))) (fun _ _ _ _ _=>(q0k C_law_same hr passNo (q0a (q0b 0) (q0a (q0b 1) q0c))))) q0c)))))))
theorem simLplaces (C_law_places:Cal P w K mg base k "_law_places" ["_law_term_here"] (q0q K spLplaces) fLplaces fdLplaces):SimF P w K mg base k "_law_places" ["_law_term_here", "_law_found"] q5l (q2l spLplaces) f:=by
 intro cdv A outer s H E G hr hx
 have hu:=hu_r hr
 unfold q2l
 exact (q0f (q0s 1 q7o.nd (q1p q0c))
 (q0f (q1a (SimW.t (q3y (q0o (q1e hu) (q0i hu (q0b 0) q0e) q0m (q0u _)) (q3v (q0o (q1e hu) (q0i hu (q0i hu (q0b 0) q0e) q0e) q0m (q0u _))))) (q0h (q2e (q4c PySem.F.plainAttrs_list PySem.F.slot_list_append PySem.F.type_list_append q2a (q0b 1) (q0a (q0x q0c) q0c)))) q0r)
 (q0f (q1a (q0o (q1e hu) (q0i hu (q0b 0) q0e) q0m (q0u _)) (q0h (q0s 1 q7o.nd (q0n q1l (q0b 1) (q5t ["_law_place"] [none] rfl (q8l rfl (by decide +kernel) (by decide +kernel) rfl trivial) (q4y (q0k C_law_places hr hx (q0a (q0i hu (q0b 0) q0e) q0c))) (fun _ _ _ _ _=>(q1d (i:=0) (show (["_law_place"]:List Str).Nodup by decide +kernel))) (fun _ _ _ _ _=>(q0n q1l (q0x (q0a q0e q0c)) (q0b 0))))))) q0r)
 (q0f (q1a (q0o (q1e hu) (q0i hu (q0b 0) q0e) q0m (q0u _)) (q0f (q0s 1 q7o.nd (q0n q1l (q0b 1) (q5t ["_law_place"] [none] rfl (q8l rfl (by decide +kernel) (by decide +kernel) rfl trivial) (q4y (q0k C_law_places hr hx (q0a (q0i hu (q0b 0) q0e) q0c))) (fun _ _ _ _ _=>(q1d (i:=0) (show (["_law_place"]:List Str).Nodup by decide +kernel))) (fun _ _ _ _ _=>(q0n q1l (q0x (q0a q0e q0c)) (q0b 0))))))
 (q0h (q0s 1 q7o.nd (q0n q1l (q0b 1) (q5t ["_law_place"] [none] rfl (q8l rfl (by decide +kernel) (by decide +kernel) rfl trivial) (q4y (q0k C_law_places hr hx (q0a (q0i hu (q0b 0) q0e) q0c))) (fun _ _ _ _ _=>(q1d (i:=0) (show (["_law_place"]:List Str).Nodup by decide +kernel))) (fun _ _ _ _ _=>(q0n q1l (q0x (q0a q0e q0c)) (q0b 0)))))))) q0r)
 (q0h (q0p (q0b 1)))))))
theorem simLtruth (z_bool:mg "bool" = none) (z_isinstance:mg "isinstance" = none):SimF P w K mg base k "_law_truth" ["_law_found", "_law_due"] q6z (q4j) f:=by
 intro cdv A outer s H E G hr hx
 have hu:=hu_r hr
 unfold q4j
 exact (q0h (q0p (q8p (q0w q3h z_isinstance L2.q2g (q0a (q0b 0) (q0a (q7h z_bool L2.boot_bool) q0c))) (q9w (q5o (q1e hu) (q0b 0) (q0b 1) (q0u _))))))
theorem z0k (Cplaces:Cal P w K mg base k "places" ["term"] (q0q K spplaces) fplaces fdplaces):SimF P w K mg base k "is_plain_term" ["term"] q2c (q2i spplaces) f:=by
 intro cdv A outer s H E G hr hx
 have hu:=hu_r hr
 unfold q2i
 exact (q0h (q0p (sim_notT (q0k Cplaces hr hx (q0a (q0b 0) q0c)))))
theorem simLuses (z_len:mg "len" = none) (C_law_uses:Cal P w K mg base k "_law_uses" ["_law_term_here", "_law_around", "_law_uses_here"] (q0q K spLuses) fLuses fdLuses):SimF P w K mg base k "_law_uses" ["_law_term_here", "_law_around", "_law_uses_here", "_law_f"] q9c (q2t spLuses) f:=by
 intro cdv A outer s H E G hr hx
 have hu:=hu_r hr
 unfold q2t
 exact (q0f (q1a (SimW.t (q3y (q0o (q1e hu) (q0i hu (q0b 0) q0e) q0m (q0u _)) (q3v (q0o z0d (q0i hu (q0b 0) q0e) (q0w q1r z_len PySem.boot_len (q0a (q0b 1) q0c)) (q0u _))))) (q0h (q5p (q0n q1l (q0i hu (q0b 2) (q0i hu (q0b 1) (q0n q3f (q6v q0e) (q0i hu (q0b 0) q0e)))) q0e) (q5j (sets hu) (q0b 2) (q0i hu (q0b 1) (q0n q3f (q6v q0e) (q0i hu (q0b 0) q0e)))))) (q0h (q1a (q0o (q1e hu) (q0i hu (q0b 0) q0e) q0m (q0u _)) (q0h (q0p q7n)) q0r)))
 (q0f (q1a (q0o (q1e hu) (q0i hu (q0b 0) q0e) q0m (q0u _)) (q0f (q2e (q4c PySem.F.plainAttrs_list PySem.F.slot_list_append PySem.F.type_list_append q2a (q0b 2) (q0a q0e q0c)))
 (q0h (q0p (q0k C_law_uses hr hx (q0a (q0i hu (q0b 0) q0e) (q0a (q0n q1l (q0b 1) (q1p (q0a (q0n q3f (q0w q1r z_len PySem.boot_len (q0a (q0b 2) q0c)) q0e) q0c))) (q0a (q0b 2) q0c))))))) q0r)
 (q0f (q1a (q0o (q1e hu) (q0i hu (q0b 0) q0e) q0m (q0u _)) (q0f (q0s 3 scLuses.nd (q0k C_law_uses hr hx (q0a (q0i hu (q0b 0) q0e) (q0a (q0b 1) (q0a (q0b 2) q0c)))))
 (q0h (q0p (q8p (q0k C_law_uses hr hx (q0a (q0i hu (q0b 0) q0e) (q0a (q0b 1) (q0a (q0b 2) q0c)))) (q9w (q0b 3)))))) q0r)
 (q0h (q0p q7n)))))
theorem simLsparing (z_max:mg "max" = none) (C_law_uses:Cal P w K mg base k "_law_uses" ["_law_term_here", "_law_around", "_law_uses_here"] (q0q K spLuses) fLuses fdLuses):SimF P w K mg base k "_law_sparing" ["_law_term_here", "_law_uses_here"] q4q (q3l spLuses) f:=by
 intro cdv A outer s H E G hr hx
 have hu:=hu_r hr
 unfold q3l
 exact (q0f (q0s 1 scLsparing.nd (q1p q0c))
 (q0h (q0p (q8p (q0k C_law_uses hr hx (q0a (q0b 0) (q0a (q1p q0c) (q0a (q0b 1) q0c)))) (q9w (q5o z0d (q0w (calls_maxL rfl) z_max L2.boot_max (q0a (q0n q1l (q0b 1) (q1p (q0a q0e q0c))) q0c)) q0e (q0u _)))))))
theorem z0l (C_law_kind_of_form:Cal P w K mg base k "_law_kind_of_form" ["_law_form_here"] (q0q K spLkind_of_form) fLkind_of_form fdLkind_of_form):SimF P w K mg base k "_law_kind_of_form" ["_law_form_here"] q2d (q1x spLkind_of_form) f:=by
 intro cdv A outer s H E G hr hx
 have hu:=hu_r hr
 unfold q1x
 exact (q0f (q1a (q0o (q1e hu) (q0i hu (q0b 0) q0e) q0m (q0u _)) (q0h (q0p (q0i hu (q0b 0) q0e))) q0r)
 (q0h (q0p (q0x (q0a (q0k C_law_kind_of_form hr hx (q0a (q0i hu (q0b 0) q0e) q0c)) (q0a (q0k C_law_kind_of_form hr hx (q0a (q0i hu (q0b 0) q0e) q0c)) q0c))))))
theorem simLkind_of (z_isinstance:mg "isinstance" = none) (z_str:mg "str" = none) (C_law_kind_of_form:Cal P w K mg base k "_law_kind_of_form" ["_law_form_here"] (q0q K spLkind_of_form) fLkind_of_form fdLkind_of_form) (C_law_kind_of:Cal P w K mg base k "_law_kind_of" ["_law_known", "_law_term_here", "_law_around"] (q0q K spLkind_of) fLkind_of fdLkind_of):SimF P w K mg base k "_law_kind_of" ["_law_known", "_law_term_here", "_law_around", "_law_inner", "_law_f", "_law_a"] q4r (q1w spLkind_of_form spLkind_of) f:=by
 intro cdv A outer s H E G hr hx
 have hu:=hu_r hr
 unfold q1w
 exact (q0f (q1a (q0o (q1e hu) (q0i hu (q0b 1) q0e) q0m (q0u _)) (q0h (q0p (q4c PySem.F.plainAttrs_dict PySem.F.slot_dict_get PySem.F.type_dict_get (mts_get hu) (q0b 0) (q0a (q0i hu (q0b 1) q0e) q0c)))) q0r)
 (q0f (q1a (q0o (q1e hu) (q0i hu (q0b 1) q0e) q0m (q0u _)) (q0h (q0p (q0k C_law_kind_of_form hr hx (q0a (q0i hu (q0b 1) q0e) q0c)))) q0r)
 (q0f (q1a (q0o (q1e hu) (q0i hu (q0b 1) q0e) q0m (q0u _)) (q0h (q0p (q0i hu (q0b 2) (q0n q3f (q6v q0e) (q0i hu (q0b 1) q0e))))) q0r)
 (q0f (q1a (q0o (q1e hu) (q0i hu (q0b 1) q0e) q0m (q0u _)) (q0f (q0s 3 q8a.nd (q0k C_law_kind_of hr hx (q0a (q0b 0) (q0a (q0i hu (q0b 1) q0e) (q0a (q0n q1l (q0b 2) (q1p (q0a (q0i hu (q0b 1) q0e) q0c))) q0c)))))
 (q0f (q1a (q0o ops_is (q0b 3) z1b (q0u _)) (q0h (q0p z1b)) q0r)
 (q0h (q0p (q0x (q0a (q0i hu (q0b 1) q0e) (q0a (q0b 3) q0c))))))) q0r)
 (q0f (q0s 4 q8a.nd (q0k C_law_kind_of hr hx (q0a (q0b 0) (q0a (q0i hu (q0b 1) q0e) (q0a (q0b 2) q0c)))))
 (q0f (q0s 5 q8a.nd (q0k C_law_kind_of hr hx (q0a (q0b 0) (q0a (q0i hu (q0b 1) q0e) (q0a (q0b 2) q0c)))))
 (q0f (q1a (SimW.t (q4v (q0o ops_is (q0b 4) z1b (q0u _)) (q4v (q0o ops_is (q0b 5) z1b (q0u _)) (q4v (q1y (q0w q3h z_isinstance L2.q2g (q0a (q0b 4) (q0a (q7h z_str L2.q9t) q0c)))) (q4w (q0o (z1k hu) (q0i hu (q0b 4) q0e) (q0b 5) (q0u _))))))) (q0h (q0p z1b)) q0r)
 (q0h (q0p (q0i hu (q0b 4) q0e))))))))))
theorem simLtogether (z_len:mg "len" = none) (C_law_together:Cal P w K mg base k "_law_together" ["_law_term_here", "_law_around"] (q0q K spLtogether) fLtogether fdLtogether):SimF P w K mg base k "_law_together" ["_law_term_here", "_law_around"] q3q (q1s spLtogether) f:=by
 intro cdv A outer s H E G hr hx
 have hu:=hu_r hr
 unfold q1s
 exact (q0f (q1a (q0o (q1e hu) (q0i hu (q0b 0) q0e) q0m (q0u _)) (q0h (q0p (q0x (q0a q0m (q0a (q0n q3f (q0n q3f (q0w q1r z_len PySem.boot_len (q0a (q0b 1) q0c)) q0e) (q4c PySem.F.plainAttrs_list PySem.F.slot_list_index PySem.F.type_list_index mts_indexL (q0b 1) (q0a (q0i hu (q0b 0) q0e) q0c))) q0c))))) q0r)
 (q0f (q1a (q0o (q1e hu) (q0i hu (q0b 0) q0e) q0m (q0u _)) (q0h (q0p (q0x (q0a q0m (q0a (q0i hu (q0b 0) q0e) (q0a (q0k C_law_together hr hx (q0a (q0i hu (q0b 0) q0e) (q0a (q0n q1l (q0b 1) (q1p (q0a (q0i hu (q0b 0) q0e) q0c))) q0c))) q0c)))))) q0r)
 (q0f (q1a (q0o (q1e hu) (q0i hu (q0b 0) q0e) q0m (q0u _)) (q0h (q0p (q0x (q0a q0m (q0a (q0k C_law_together hr hx (q0a (q0i hu (q0b 0) q0e) (q0a (q0b 1) q0c))) (q0a (q0k C_law_together hr hx (q0a (q0i hu (q0b 0) q0e) (q0a (q0b 1) q0c))) q0c)))))) q0r)
 (q0h (q0p (q0b 0))))))
theorem simLput (C_law_put:Cal P w K mg base k "_law_put" ["_law_term_here", "_law_own", "_law_thing"] (q0q K spLput) fLput fdLput):SimF P w K mg base k "_law_put" ["_law_term_here", "_law_own", "_law_thing"] sLput (q3c spLput) f:=by
 intro cdv A outer s H E G hr hx
 have hu:=hu_r hr
 unfold q3c
 exact (q0f (q1a (q0o (q1e hu) (q0b 0) (q0x (q0a q0m (q0a (q0b 1) q0c))) (q0u _)) (q0h (q0p (q0b 2))) q0r)
 (q0f (q1a (q0o (q1e hu) (q0i hu (q0b 0) q0e) q0m (q0u _)) (q0h (q0p (q0x (q0a q0m (q0a (q0i hu (q0b 0) q0e) (q0a (q0i hu (q0b 0) q0e) (q0a (q0k C_law_put hr hx (q0a (q0i hu (q0b 0) q0e) (q0a (q0b 1) (q0a (q0b 2) q0c)))) q0c))))))) q0r)
 (q0f (q1a (q0o (q1e hu) (q0i hu (q0b 0) q0e) q0m (q0u _)) (q0h (q0p (q0x (q0a q0m (q0a (q0k C_law_put hr hx (q0a (q0i hu (q0b 0) q0e) (q0a (q0b 1) (q0a (q0b 2) q0c)))) (q0a (q0k C_law_put hr hx (q0a (q0i hu (q0b 0) q0e) (q0a (q0b 1) (q0a (q0b 2) q0c)))) q0c)))))) q0r)
 (q0h (q0p (q0b 0))))))
theorem simLdone_apart (C_law_put:Cal P w K mg base k "_law_put" ["_law_term_here", "_law_own", "_law_thing"] (q0q K spLput) fLput fdLput) (C_law_done_apart:Cal P w K mg base k "_law_done_apart" ["_law_term_here", "_law_place"] (q0q K spLdone_apart) fLdone_apart fdLdone_apart):SimF P w K mg base k "_law_done_apart" ["_law_term_here", "_law_place"] q2v (q1n spLput spLdone_apart) f:=by
 intro cdv A outer s H E G hr hx
 have hu:=hu_r hr
 unfold q1n
 exact (q0f (q1a (q0o (q1e hu) (q0b 1) (q0x q0c) (q0u _)) (q0h (q0p (q0k C_law_put hr hx (q0a (q0i hu (q0i hu (q0b 0) q0e) q0e) (q0a (q0i hu (q0i hu (q0b 0) q0e) q0e) (q0a (q0i hu (q0b 0) q0e) q0c)))))) q0r)
 (q0f (q1a (q0o (q1e hu) (q0i hu (q0b 0) q0e) q0m (q0u _)) (q0h (q0p (q0x (q0a q0m (q0a (q0i hu (q0b 0) q0e) (q0a (q0i hu (q0b 0) q0e) (q0a (q0k C_law_done_apart hr hx (q0a (q0i hu (q0b 0) q0e) (q0a (q6f (q0b 1) (q6g q0e) q6h) q0c))) q0c))))))) q0r)
 (q0f (q1a (q0o (q1e hu) (q0i hu (q0b 1) q0e) q0e (q0u _)) (q0h (q0p (q0x (q0a q0m (q0a (q0k C_law_done_apart hr hx (q0a (q0i hu (q0b 0) q0e) (q0a (q6f (q0b 1) (q6g q0e) q6h) q0c))) (q0a (q0i hu (q0b 0) q0e) q0c)))))) q0r)
 (q0h (q0p (q0x (q0a q0m (q0a (q0i hu (q0b 0) q0e) (q0a (q0k C_law_done_apart hr hx (q0a (q0i hu (q0b 0) q0e) (q0a (q6f (q0b 1) (q6g q0e) q6h) q0c))) q0c)))))))))
theorem simLapart (z_len:mg "len" = none) (C_law_apart:Cal P w K mg base k "_law_apart" ["_law_term_here", "_law_around", "_law_count"] (q0q K spLapart) fLapart fdLapart):SimF P w K mg base k "_law_apart" ["_law_term_here", "_law_around", "_law_count", "_law_own", "_law_f"] q7b (q2j spLapart) f:=by
 intro cdv A outer s H E G hr hx
 have hu:=hu_r hr
 unfold q2j
 exact (q0f (q1a (q0o (q1e hu) (q0i hu (q0b 0) q0e) q0m (q0u _)) (q0h (q0p (q0x (q0a q0m (q0a (q0i hu (q0b 1) (q0n q3f (q6v q0e) (q0i hu (q0b 0) q0e))) q0c))))) q0r)
 (q0f (q1a (q0o (q1e hu) (q0i hu (q0b 0) q0e) q0m (q0u _)) (q0f (q2e (q4c PySem.F.plainAttrs_list PySem.F.slot_list_append PySem.F.type_list_append q2a (q0b 2) (q0a (q0w q1r z_len PySem.boot_len (q0a (q0b 2) q0c)) q0c)))
 (q0f (q0s 3 scLapart.nd (q0w q1r z_len PySem.boot_len (q0a (q0b 2) q0c)))
 (q0h (q0p (q0x (q0a q0m (q0a (q0i hu (q0b 0) q0e) (q0a (q0b 3) (q0a (q0k C_law_apart hr hx (q0a (q0i hu (q0b 0) q0e) (q0a (q0n q1l (q0b 1) (q1p (q0a (q0b 3) q0c))) (q0a (q0b 2) q0c)))) q0c))))))))) q0r)
 (q0f (q1a (q0o (q1e hu) (q0i hu (q0b 0) q0e) q0m (q0u _)) (q0f (q0s 4 scLapart.nd (q0k C_law_apart hr hx (q0a (q0i hu (q0b 0) q0e) (q0a (q0b 1) (q0a (q0b 2) q0c)))))
 (q0h (q0p (q0x (q0a q0m (q0a (q0b 4) (q0a (q0k C_law_apart hr hx (q0a (q0i hu (q0b 0) q0e) (q0a (q0b 1) (q0a (q0b 2) q0c)))) q0c))))))) q0r)
 (q0h (q0p (q0b 0))))))
theorem simLdone (C_law_together:Cal P w K mg base k "_law_together" ["_law_term_here", "_law_around"] (q0q K spLtogether) fLtogether fdLtogether) (C_law_done_apart:Cal P w K mg base k "_law_done_apart" ["_law_term_here", "_law_place"] (q0q K spLdone_apart) fLdone_apart fdLdone_apart) (C_law_apart:Cal P w K mg base k "_law_apart" ["_law_term_here", "_law_around", "_law_count"] (q0q K spLapart) fLapart fdLapart):SimF P w K mg base k "_law_done" ["_law_term_here", "_law_place"] q9k (q5f spLtogether spLdone_apart spLapart) f:=by
 intro cdv A outer s H E G hr hx
 have hu:=hu_r hr
 unfold q5f
 exact (q0h (q0p (q0k C_law_together hr hx (q0a (q0k C_law_done_apart hr hx (q0a (q0k C_law_apart hr hx (q0a (q0b 0) (q0a (q1p q0c) (q0a (q1p q0c) q0c)))) (q0a (q0b 1) q0c))) (q0a (q1p q0c) q0c)))))
theorem simLsize (C_law_size:Cal P w K mg base k "_law_size" ["_law_term_here"] (q0q K spLsize) fLsize fdLsize):SimF P w K mg base k "_law_size" ["_law_term_here"] q9e (q2u spLsize) f:=by
 intro cdv A outer s H E G hr hx
 have hu:=hu_r hr
 unfold q2u
 exact (q0f (q1a (q0o (q1e hu) (q0i hu (q0b 0) q0e) q0m (q0u _)) (q0h (q0p (q0n q1l q0e (q0k C_law_size hr hx (q0a (q0i hu (q0b 0) q0e) q0c))))) q0r)
 (q0f (q1a (q0o (q1e hu) (q0i hu (q0b 0) q0e) q0m (q0u _)) (q0h (q0p (q0n q1l (q0n q1l q0e (q0k C_law_size hr hx (q0a (q0i hu (q0b 0) q0e) q0c))) (q0k C_law_size hr hx (q0a (q0i hu (q0b 0) q0e) q0c))))) q0r)
 (q0h (q0p q0e))))
theorem simLgoing (z_len:mg "len" = none) (z_range:mg "range" = none) (C_law_places:Cal P w K mg base k "_law_places" ["_law_term_here"] (q0q K spLplaces) fLplaces fdLplaces) (C_law_truth:Cal P w K mg base k "_law_truth" ["_law_found", "_law_due"] (q0q K spLtruth) fLtruth fdLtruth) (Cis_plain_term:Cal P w K mg base k "is_plain_term" ["term"] (q0q K spis_plain_term) fis_plain_term fdis_plain_term) (C_law_sparing:Cal P w K mg base k "_law_sparing" ["_law_term_here"] (q0q K spLsparing) fLsparing fdLsparing) (C_law_kind_of:Cal P w K mg base k "_law_kind_of" ["_law_known", "_law_term_here", "_law_around"] (q0q K spLkind_of) fLkind_of fdLkind_of) (C_law_same:Cal P w K mg base k "_law_same" ["_law_one", "_law_other"] (q0q K spLsame) fLsame fdLsame) (C_law_done:Cal P w K mg base k "_law_done" ["_law_term_here", "_law_place"] (q0q K spLdone) fLdone fdLdone) (C_law_size:Cal P w K mg base k "_law_size" ["_law_term_here"] (q0q K spLsize) fLsize fdLsize):SimF P w K mg base k "_law_going" ["_law_found", "_law_known", "_law_kind_here", "_law_k", "_law_left"] q7a (q4k spLplaces spLtruth spis_plain_term spLsparing spLkind_of spLsame spLdone spLsize) f:=by
 intro cdv A outer s H E G hr hx
 have hu:=hu_r hr
 unfold q4k
 exact (q0f (q8o PassesOwn.leaving rfl (q7x z_range (q0a (q0w q1r z_len PySem.boot_len (q0a (q0b 0) q0c)) q0c)) (q1d (i:=3) scLgoing.nd) (q0f (q0s 4 scLgoing.nd (q0k C_law_places hr hx (q0a (q0i hu (q0b 0) (q0b 3)) q0c)))
 (q0f (q1a (SimW.t (q4v (q4x (q1y (q0k C_law_truth hr hx (q0a (q0k Cis_plain_term hr hx (q0a (q0i hu (q0b 0) (q0b 3)) q0c)) (q0a (q5o (q1e hu) (q0b 4) (q1p q0c) (q0u _)) q0c))))) (q4w (q0o (z1k hu) (q5o (q1e hu) (q0b 4) (q1p q0c) (q0u _)) (q5o (q1e hu) (q0b 3) (q0n q3f (q0w q1r z_len PySem.boot_len (q0a (q0b 0) q0c)) q0e) (q0u _)) (q0u _))))) (q0h (q0p q7n)) q0r)
 (q0f (q1a (SimW.t (q4v (q4x (q1y (q0k C_law_sparing hr hx (q0a (q0i hu (q0b 0) (q0b 3)) q0c)))) (q4w (q0o (z1k hu) (q0k C_law_kind_of hr hx (q0a (q0b 1) (q0a (q0i hu (q0b 0) (q0b 3)) (q0a (q1p q0c) q0c)))) (q0b 2) (q0u _))))) (q0h (q0p q7n)) q0r)
 (q0h (q1a (q0o (z1k hu) (q0b 4) (q1p q0c) (q0u _)) (q0f (q1a (q4x (q1y (q0k C_law_same hr hx (q0a (q0k C_law_done hr hx (q0a (q0i hu (q0b 0) (q0b 3)) (q0a (q0i hu (q0b 4) q0e) q0c))) (q0a (q0i hu (q0b 0) (q0n q1l (q0b 3) q0e)) q0c))))) (q0h (q0p q7n)) q0r)
 (q0h (q1a (q0o q9m (q0k C_law_size hr hx (q0a (q0i hu (q0b 0) (q0n q1l (q0b 3) q0e)) q0c)) (q0n q3f (q0k C_law_size hr hx (q0a (q0i hu (q0b 0) (q0b 3)) q0c)) q0e) (q0u _)) (q0h (q0p q7n)) q0r))) q0r))))))
 (q0h (q0p q7n)))
theorem simplain_of (Csteps_of:Cal P w K mg base k "steps_of" ["term"] (q0q K spsteps_of) fsteps_of fdsteps_of):SimF P w K mg base k "plain_of" ["term"] q4m (q3k spsteps_of) f:=by
 intro cdv A outer s H E G hr hx
 have hu:=hu_r hr
 unfold q3k
 exact (q0h (q0p (q0i hu (q0k Csteps_of hr hx (q0a (q0b 0) q0c)) (q6v q0e))))
theorem simlaw (z_isinstance:mg "isinstance" = none) (z_list:mg "list" = none) (C_law_deck:Cal P w K mg base k "_law_deck" ["_law_script"] (q0q K spLdeck) fLdeck fdLdeck) (C_law_world:Cal P w K mg base k "_law_world" ["_law_deck_here", "_law_uses_here", "_law_leaves"] (q0q K spLworld) fLworld fdLworld) (C_law_kind:Cal P w K mg base k "_law_kind" ["_law_deck_here", "_law_basics", "_law_deep"] (q0q K spLkind) fLkind fdLkind) (C_law_term:Cal P w K mg base k "_law_term" ["_law_deck_here", "_law_world_here", "_law_kind_here", "_law_around", "_law_deep"] (q0q K spLterm) fLterm fdLterm) (Csteps_of:Cal P w K mg base k "steps_of" ["term"] (q0q K spsteps_of) fsteps_of fdsteps_of) (C_law_same:Cal P w K mg base k "_law_same" ["_law_one", "_law_other"] (q0q K spLsame) fLsame fdLsame) (C_law_going:Cal P w K mg base k "_law_going" ["_law_found", "_law_known", "_law_kind_here"] (q0q K spLgoing) fLgoing fdLgoing) (Cplain_of:Cal P w K mg base k "plain_of" ["term"] (q0q K spplain_of) fplain_of fdplain_of):SimF P w K mg base k "law" ["_law_script", "_law_deck_here", "_law_world_here", "_law_kind_here", "_law_term_here", "_law_known", "_law_name", "_law_other", "_law_found", "_law_kept"] slaw (q6c spLdeck spLworld spLkind spLterm spsteps_of spLsame spLgoing spplain_of) f:=by
 intro cdv A outer s H E G hr hx
 have hu:=hu_r hr
 unfold q6c
 exact (q0f (q0s 1 sclaw.nd (q0k C_law_deck hr hx (q0a (q0b 0) q0c)))
 (q0f (q0s 2 sclaw.nd (q0k C_law_world hr hx (q0a (q0b 1) (q0a q0e (q0a q7n q0c)))))
 (q0f (q0s 3 sclaw.nd (q0k C_law_kind hr hx (q0a (q0b 1) (q0a (q0i hu (q0b 2) q0m) (q0a q0e q0c)))))
 (q0f (q0s 4 sclaw.nd (q0k C_law_term hr hx (q0a (q0b 1) (q0a (q0b 2) (q0a (q0b 3) (q0a (q1p q0c) (q0a q0e q0c)))))))
 (q0f (q0s 5 sclaw.nd sim_dnew)
 (q0f (q8o PassesOwn.leaving rfl (q4y (q0i hu (q0b 2) q0m)) (q4z 2 rfl (q1j (q1d (i:=6) sclaw.nd) (q1j (q1d (i:=7) sclaw.nd) q3w))) (q0h (q5p (q0b 7) (q5j (sets hu) (q0b 5) (q0b 6)))))
 (q0f (q0s 8 sclaw.nd (q0k Csteps_of hr hx (q0a (q0b 4) q0c)))
 (q0f (q1a (SimW.t (q4v (q4x (q1y (q0w q3h z_isinstance L2.q2g (q0a (q0b 8) (q0a (q7h z_list L2.z1z) q0c))))) (q4v (q0o (q1e hu) (q0b 8) (q1p q0c) (q0u _)) (q4w (q4x (q1y (q0k C_law_same hr hx (q0a (q0b 4) (q0a (q0i hu (q0b 8) q0e) q0c))))))))) (q0h (q0p q7n)) q0r)
 (q0f (q1a (SimW.t (q4v (q4x (q1y (q0k C_law_going hr hx (q0a (q0b 8) (q0a (q0b 5) (q0a (q0b 3) q0c)))))) (q4w (q4x (q1y (q0k C_law_same hr hx (q0a (q0i hu (q0b 8) (q6v q0e)) (q0a (q0k Cplain_of hr hx (q0a (q0b 4) q0c)) q0c)))))))) (q0h (q0p q7n)) q0r)
 (q0f (q0s 9 sclaw.nd (sim_callTy calls_list z_list L2.z1z (q0a (q0b 8) q0c)))
 (q0f (q2e (q5x PySem.F.plainAttrs_list PySem.F.slot_list_clear PySem.F.type_list_clear mts_clear (q0b 8)))
 (q0h (q0p (q5o (q1e hu) (q0k Csteps_of hr hx (q0a (q0b 4) q0c)) (q0b 9) (q0u _)))))))))))))))
structure Tab where
 dLdeck:Den
 dLnext:Den
 dLspelled:Den
 dLword:Den
 dLwords:Den
 dLworld:Den
 dLkind:Den
 dLfn:Den
 dLof:Den
 dLwidth:Den
 dLform:Den
 dLlone:Den
 dLterm:Den
 dis_to_do:Den
 dinner_of:Den
 dplaces:Den
 dway_to:Den
 dparts_and_fns:Den
 dwith_bound_ones:Den
 dbound_ones:Den
 draised:Den
 dput_for:Den
 dput_in:Den
 dwith_inner:Den
 ddone_at:Den
 dsteps_of:Den
 dLsame:Den
 dLplaces:Den
 dLtruth:Den
 dis_plain_term:Den
 dLuses:Den
 dLsparing:Den
 dLkind_of_form:Den
 dLkind_of:Den
 dLtogether:Den
 dLput:Den
 dLdone_apart:Den
 dLapart:Den
 dLdone:Den
 dLsize:Den
 dLgoing:Den
 dplain_of:Den
 dlaw:Den
def tabS (t:Tab):Tab where
 dLdeck:=fnP 1 3 (q5g)
 dLnext:=fnP 1 4 (q5d)
 dLspelled:=fnP 2 4 (q5n)
 dLword:=fnP 2 7 (q5a t.dLnext t.dLspelled)
 dLwords:=fnP 2 4 (q4i t.dLword)
 dLworld:=fnP 3 4 (q6p t.dLwords)
 dLkind:=fnP 3 4 (q4a t.dLnext t.dLkind)
 dLfn:=fnP 5 6 (q6e t.dLterm)
 dLof:=fnP 5 8 (q6d t.dLkind t.dLnext t.dLfn t.dLterm)
 dLwidth:=fnP 1 1 (q3o t.dLwidth)
 dLform:=fnP 2 2 (q4b t.dLform)
 dLlone:=fnP 3 6 (q5e t.dLwidth t.dLform t.dLword)
 dLterm:=fnP 5 8 (q5b t.dLnext t.dLfn t.dLof t.dLlone)
 dis_to_do:=fnP 1 1 (q2n)
 dinner_of:=fnP 1 1 (q1k)
 dplaces:=fnP 1 6 (q4h t.dis_to_do t.dinner_of)
 dway_to:=fnP 2 5 (q4e t.dinner_of)
 dparts_and_fns:=fnP 1 5 (q2h)
 dwith_bound_ones:=fnP 2 7 (q1z t.dparts_and_fns)
 dbound_ones:=fnP 1 1 (q3a t.dparts_and_fns)
 draised:=fnP 2 2 (q4f t.dwith_bound_ones t.dbound_ones)
 dput_for:=fnP 3 3 (q3t t.draised)
 dput_in:=fnP 2 2 (q4g t.dwith_bound_ones t.dput_for t.dbound_ones)
 dwith_inner:=fnP 3 3 (q2z)
 ddone_at:=fnP 2 6 (q3u t.dway_to t.dis_to_do t.dput_in t.dwith_inner)
 dsteps_of:=fnP 1 3 (q3j t.dplaces t.ddone_at)
 dLsame:=fnP 2 2 (q5c t.dLsame)
 dLplaces:=fnP 1 2 (q2l t.dLplaces)
 dLtruth:=fnP 2 2 (q4j)
 dis_plain_term:=fnP 1 1 (q2i t.dplaces)
 dLuses:=fnP 3 4 (q2t t.dLuses)
 dLsparing:=fnP 1 2 (q3l t.dLuses)
 dLkind_of_form:=fnP 1 1 (q1x t.dLkind_of_form)
 dLkind_of:=fnP 3 6 (q1w t.dLkind_of_form t.dLkind_of)
 dLtogether:=fnP 2 2 (q1s t.dLtogether)
 dLput:=fnP 3 3 (q3c t.dLput)
 dLdone_apart:=fnP 2 2 (q1n t.dLput t.dLdone_apart)
 dLapart:=fnP 3 5 (q2j t.dLapart)
 dLdone:=fnP 2 2 (q5f t.dLtogether t.dLdone_apart t.dLapart)
 dLsize:=fnP 1 1 (q2u t.dLsize)
 dLgoing:=fnP 3 5 (q4k t.dLplaces t.dLtruth t.dis_plain_term t.dLsparing t.dLkind_of t.dLsame t.dLdone t.dLsize)
 dplain_of:=fnP 1 1 (q3k t.dsteps_of)
 dlaw:=fnP 1 10 (q6c t.dLdeck t.dLworld t.dLkind t.dLterm t.dsteps_of t.dLsame t.dLgoing t.dplain_of)
def tab:Nat→Tab
 | 0=>⟨fun _ _ _ _=>False,fun _ _ _ _=>False,fun _ _ _ _=>False,fun _ _ _ _=>False,fun _ _ _ _=>False,fun _ _ _ _=>False,fun _ _ _ _=>False,fun _ _ _ _=>False,fun _ _ _ _=>False,fun _ _ _ _=>False,fun _ _ _ _=>False,fun _ _ _ _=>False,fun _ _ _ _=>False,fun _ _ _ _=>False,fun _ _ _ _=>False,fun _ _ _ _=>False,fun _ _ _ _=>False,fun _ _ _ _=>False,fun _ _ _ _=>False,fun _ _ _ _=>False,fun _ _ _ _=>False,fun _ _ _ _=>False,fun _ _ _ _=>False,fun _ _ _ _=>False,fun _ _ _ _=>False,fun _ _ _ _=>False,fun _ _ _ _=>False,fun _ _ _ _=>False,fun _ _ _ _=>False,fun _ _ _ _=>False,fun _ _ _ _=>False,fun _ _ _ _=>False,fun _ _ _ _=>False,fun _ _ _ _=>False,fun _ _ _ _=>False,fun _ _ _ _=>False,fun _ _ _ _=>False,fun _ _ _ _=>False,fun _ _ _ _=>False,fun _ _ _ _=>False,fun _ _ _ _=>False,fun _ _ _ _=>False,fun _ _ _ _=>False⟩
 | k+1=>tabS (tab k)
theorem good {P:Program} {w:World} {K:PySem.W.Frag} {mg:Str→Option Value} {base:Heap} {fLdeck:Addr} {fdLdeck:FuncData} {fLnext:Addr} {fdLnext:FuncData} {fLspelled:Addr} {fdLspelled:FuncData} {fLword:Addr} {fdLword:FuncData} {fLwords:Addr} {fdLwords:FuncData} {fLworld:Addr} {fdLworld:FuncData} {fLkind:Addr} {fdLkind:FuncData} {fLfn:Addr} {fdLfn:FuncData} {fLof:Addr} {fdLof:FuncData} {fLwidth:Addr} {fdLwidth:FuncData} {fLform:Addr} {fdLform:FuncData} {fLlone:Addr} {fdLlone:FuncData} {fLterm:Addr} {fdLterm:FuncData} {fis_to_do:Addr} {fdis_to_do:FuncData} {finner_of:Addr} {fdinner_of:FuncData} {fplaces:Addr} {fdplaces:FuncData} {fway_to:Addr} {fdway_to:FuncData} {fparts_and_fns:Addr} {fdparts_and_fns:FuncData} {fwith_bound_ones:Addr} {fdwith_bound_ones:FuncData} {fbound_ones:Addr} {fdbound_ones:FuncData} {fraised:Addr} {fdraised:FuncData} {fput_for:Addr} {fdput_for:FuncData} {fput_in:Addr} {fdput_in:FuncData} {fwith_inner:Addr} {fdwith_inner:FuncData} {fdone_at:Addr} {fddone_at:FuncData} {fsteps_of:Addr} {fdsteps_of:FuncData} {fLsame:Addr} {fdLsame:FuncData} {fLplaces:Addr} {fdLplaces:FuncData} {fLtruth:Addr} {fdLtruth:FuncData} {fis_plain_term:Addr} {fdis_plain_term:FuncData} {fLuses:Addr} {fdLuses:FuncData} {fLsparing:Addr} {fdLsparing:FuncData} {fLkind_of_form:Addr} {fdLkind_of_form:FuncData} {fLkind_of:Addr} {fdLkind_of:FuncData} {fLtogether:Addr} {fdLtogether:FuncData} {fLput:Addr} {fdLput:FuncData} {fLdone_apart:Addr} {fdLdone_apart:FuncData} {fLapart:Addr} {fdLapart:FuncData} {fLdone:Addr} {fdLdone:FuncData} {fLsize:Addr} {fdLsize:FuncData} {fLgoing:Addr} {fdLgoing:FuncData} {fplain_of:Addr} {fdplain_of:FuncData} {flaw:Addr} {fdlaw:FuncData} (L_law_deck:Loc2 K mg "_law_deck" q9l ["_law_script"] fLdeck fdLdeck) (L_law_next:Loc2 K mg "_law_next" q9g ["_law_deck_here"] fLnext fdLnext) (L_law_spelled:Loc2 K mg "_law_spelled" q4p ["_law_number", "_law_size_here"] fLspelled fdLspelled) (L_law_word:Loc2 K mg "_law_word" q9b ["_law_deck_here", "_law_words_here"] fLword fdLword) (L_law_words:Loc2 K mg "_law_words" q6x ["_law_deck_here", "_law_many"] fLwords fdLwords) (L_law_world:Loc2 K mg "_law_world" q6w ["_law_deck_here", "_law_uses_here", "_law_leaves"] fLworld fdLworld) (L_law_kind:Loc2 K mg "_law_kind" q9i ["_law_deck_here", "_law_basics", "_law_deep"] fLkind fdLkind) (L_law_fn:Loc2 K mg "_law_fn" sLfn ["_law_deck_here", "_law_world_here", "_law_kind_here", "_law_around", "_law_deep"] fLfn fdLfn) (L_law_of:Loc2 K mg "_law_of" sLof ["_law_deck_here", "_law_world_here", "_law_kind_here", "_law_around", "_law_deep"] fLof fdLof) (L_law_width:Loc2 K mg "_law_width" q6y ["_law_kind_here"] fLwidth fdLwidth) (L_law_form:Loc2 K mg "_law_form" q9j ["_law_kind_here", "_law_cell"] fLform fdLform) (L_law_lone:Loc2 K mg "_law_lone" q9h ["_law_world_here", "_law_kind_here", "_law_cell"] fLlone fdLlone) (L_law_term:Loc2 K mg "_law_term" q9d ["_law_deck_here", "_law_world_here", "_law_kind_here", "_law_around", "_law_deep"] fLterm fdLterm) (Lis_to_do:Loc2 K mg "is_to_do" q4n ["part"] fis_to_do fdis_to_do) (Linner_of:Loc2 K mg "inner_of" q4o ["part"] finner_of fdinner_of) (Lplaces:Loc2 K mg "places" q6u ["term"] fplaces fdplaces) (Lway_to:Loc2 K mg "way_to" q6r ["term", "place"] fway_to fdway_to) (Lparts_and_fns:Loc2 K mg "parts_and_fns" q2b ["term"] fparts_and_fns fdparts_and_fns) (Lwith_bound_ones:Loc2 K mg "with_bound_ones" q1t ["term", "news"] fwith_bound_ones fdwith_bound_ones) (Lbound_ones:Loc2 K mg "bound_ones" q3e ["term"] fbound_ones fdbound_ones) (Lraised:Loc2 K mg "raised" q6s ["term", "more"] fraised fdraised) (Lput_for:Loc2 K mg "put_for" q5i ["k", "fns", "a"] fput_for fdput_for) (Lput_in:Loc2 K mg "put_in" q6t ["body", "a"] fput_in fdput_in) (Lwith_inner:Loc2 K mg "with_inner" q3d ["part", "k", "new"] fwith_inner fdwith_inner) (Ldone_at:Loc2 K mg "done_at" q5k ["term", "place"] fdone_at fddone_at) (Lsteps_of:Loc2 K mg "steps_of" q4l ["term"] fsteps_of fdsteps_of) (L_law_same:Loc2 K mg "_law_same" q9f ["_law_one", "_law_other"] fLsame fdLsame) (L_law_places:Loc2 K mg "_law_places" q5l ["_law_term_here"] fLplaces fdLplaces) (L_law_truth:Loc2 K mg "_law_truth" q6z ["_law_found", "_law_due"] fLtruth fdLtruth) (Lis_plain_term:Loc2 K mg "is_plain_term" q2c ["term"] fis_plain_term fdis_plain_term) (L_law_uses:Loc2 K mg "_law_uses" q9c ["_law_term_here", "_law_around", "_law_uses_here"] fLuses fdLuses) (L_law_sparing:Loc2 K mg "_law_sparing" q4q ["_law_term_here"] fLsparing fdLsparing) (L_law_kind_of_form:Loc2 K mg "_law_kind_of_form" q2d ["_law_form_here"] fLkind_of_form fdLkind_of_form) (L_law_kind_of:Loc2 K mg "_law_kind_of" q4r ["_law_known", "_law_term_here", "_law_around"] fLkind_of fdLkind_of) (L_law_together:Loc2 K mg "_law_together" q3q ["_law_term_here", "_law_around"] fLtogether fdLtogether) (L_law_put:Loc2 K mg "_law_put" sLput ["_law_term_here", "_law_own", "_law_thing"] fLput fdLput) (L_law_done_apart:Loc2 K mg "_law_done_apart" q2v ["_law_term_here", "_law_place"] fLdone_apart fdLdone_apart) (L_law_apart:Loc2 K mg "_law_apart" q7b ["_law_term_here", "_law_around", "_law_count"] fLapart fdLapart) (L_law_done:Loc2 K mg "_law_done" q9k ["_law_term_here", "_law_place"] fLdone fdLdone) (L_law_size:Loc2 K mg "_law_size" q9e ["_law_term_here"] fLsize fdLsize) (L_law_going:Loc2 K mg "_law_going" q7a ["_law_found", "_law_known", "_law_kind_here"] fLgoing fdLgoing) (Lplain_of:Loc2 K mg "plain_of" q4m ["term"] fplain_of fdplain_of) (Llaw:Loc2 K mg "law" slaw ["_law_script"] flaw fdlaw) (z_all:mg "all" = none) (z_bool:mg "bool" = none) (z_int:mg "int" = none) (z_isinstance:mg "isinstance" = none) (z_len:mg "len" = none) (z_list:mg "list" = none) (z_max:mg "max" = none) (z_range:mg "range" = none) (z_reversed:mg "reversed" = none) (z_str:mg "str" = none) (z_sum:mg "sum" = none) (z_tuple:mg "tuple" = none) (z_zip:mg "zip" = none) (x_NoPlace:ExcC K mg "NoPlace"):∀k:Nat,
  Cal P w K mg base k "_law_deck" ["_law_script"] (q0q K (tab k).dLdeck) fLdeck fdLdeck∧
  Cal P w K mg base k "_law_next" ["_law_deck_here"] (q0q K (tab k).dLnext) fLnext fdLnext∧
  Cal P w K mg base k "_law_spelled" ["_law_number", "_law_size_here"] (q0q K (tab k).dLspelled) fLspelled fdLspelled∧
  Cal P w K mg base k "_law_word" ["_law_deck_here", "_law_words_here"] (q0q K (tab k).dLword) fLword fdLword∧
  Cal P w K mg base k "_law_words" ["_law_deck_here", "_law_many"] (q0q K (tab k).dLwords) fLwords fdLwords∧
  Cal P w K mg base k "_law_world" ["_law_deck_here", "_law_uses_here", "_law_leaves"] (q0q K (tab k).dLworld) fLworld fdLworld∧
  Cal P w K mg base k "_law_kind" ["_law_deck_here", "_law_basics", "_law_deep"] (q0q K (tab k).dLkind) fLkind fdLkind∧
  Cal P w K mg base k "_law_fn" ["_law_deck_here", "_law_world_here", "_law_kind_here", "_law_around", "_law_deep"] (q0q K (tab k).dLfn) fLfn fdLfn∧
  Cal P w K mg base k "_law_of" ["_law_deck_here", "_law_world_here", "_law_kind_here", "_law_around", "_law_deep"] (q0q K (tab k).dLof) fLof fdLof∧
  Cal P w K mg base k "_law_width" ["_law_kind_here"] (q0q K (tab k).dLwidth) fLwidth fdLwidth∧
  Cal P w K mg base k "_law_form" ["_law_kind_here", "_law_cell"] (q0q K (tab k).dLform) fLform fdLform∧
  Cal P w K mg base k "_law_lone" ["_law_world_here", "_law_kind_here", "_law_cell"] (q0q K (tab k).dLlone) fLlone fdLlone∧
  Cal P w K mg base k "_law_term" ["_law_deck_here", "_law_world_here", "_law_kind_here", "_law_around", "_law_deep"] (q0q K (tab k).dLterm) fLterm fdLterm∧
  Cal P w K mg base k "is_to_do" ["part"] (q0q K (tab k).dis_to_do) fis_to_do fdis_to_do∧
  Cal P w K mg base k "inner_of" ["part"] (q0q K (tab k).dinner_of) finner_of fdinner_of∧
  Cal P w K mg base k "places" ["term"] (q0q K (tab k).dplaces) fplaces fdplaces∧
  Cal P w K mg base k "way_to" ["term", "place"] (q0q K (tab k).dway_to) fway_to fdway_to∧
  Cal P w K mg base k "parts_and_fns" ["term"] (q0q K (tab k).dparts_and_fns) fparts_and_fns fdparts_and_fns∧
  Cal P w K mg base k "with_bound_ones" ["term", "news"] (q0q K (tab k).dwith_bound_ones) fwith_bound_ones fdwith_bound_ones∧
  Cal P w K mg base k "bound_ones" ["term"] (q0q K (tab k).dbound_ones) fbound_ones fdbound_ones∧
  Cal P w K mg base k "raised" ["term", "more"] (q0q K (tab k).draised) fraised fdraised∧
  Cal P w K mg base k "put_for" ["k", "fns", "a"] (q0q K (tab k).dput_for) fput_for fdput_for∧
  Cal P w K mg base k "put_in" ["body", "a"] (q0q K (tab k).dput_in) fput_in fdput_in∧
  Cal P w K mg base k "with_inner" ["part", "k", "new"] (q0q K (tab k).dwith_inner) fwith_inner fdwith_inner∧
  Cal P w K mg base k "done_at" ["term", "place"] (q0q K (tab k).ddone_at) fdone_at fddone_at∧
  Cal P w K mg base k "steps_of" ["term"] (q0q K (tab k).dsteps_of) fsteps_of fdsteps_of∧
  Cal P w K mg base k "_law_same" ["_law_one", "_law_other"] (q0q K (tab k).dLsame) fLsame fdLsame∧
  Cal P w K mg base k "_law_places" ["_law_term_here"] (q0q K (tab k).dLplaces) fLplaces fdLplaces∧
  Cal P w K mg base k "_law_truth" ["_law_found", "_law_due"] (q0q K (tab k).dLtruth) fLtruth fdLtruth∧
  Cal P w K mg base k "is_plain_term" ["term"] (q0q K (tab k).dis_plain_term) fis_plain_term fdis_plain_term∧
  Cal P w K mg base k "_law_uses" ["_law_term_here", "_law_around", "_law_uses_here"] (q0q K (tab k).dLuses) fLuses fdLuses∧
  Cal P w K mg base k "_law_sparing" ["_law_term_here"] (q0q K (tab k).dLsparing) fLsparing fdLsparing∧
  Cal P w K mg base k "_law_kind_of_form" ["_law_form_here"] (q0q K (tab k).dLkind_of_form) fLkind_of_form fdLkind_of_form∧
  Cal P w K mg base k "_law_kind_of" ["_law_known", "_law_term_here", "_law_around"] (q0q K (tab k).dLkind_of) fLkind_of fdLkind_of∧
  Cal P w K mg base k "_law_together" ["_law_term_here", "_law_around"] (q0q K (tab k).dLtogether) fLtogether fdLtogether∧
  Cal P w K mg base k "_law_put" ["_law_term_here", "_law_own", "_law_thing"] (q0q K (tab k).dLput) fLput fdLput∧
  Cal P w K mg base k "_law_done_apart" ["_law_term_here", "_law_place"] (q0q K (tab k).dLdone_apart) fLdone_apart fdLdone_apart∧
  Cal P w K mg base k "_law_apart" ["_law_term_here", "_law_around", "_law_count"] (q0q K (tab k).dLapart) fLapart fdLapart∧
  Cal P w K mg base k "_law_done" ["_law_term_here", "_law_place"] (q0q K (tab k).dLdone) fLdone fdLdone∧
  Cal P w K mg base k "_law_size" ["_law_term_here"] (q0q K (tab k).dLsize) fLsize fdLsize∧
  Cal P w K mg base k "_law_going" ["_law_found", "_law_known", "_law_kind_here"] (q0q K (tab k).dLgoing) fLgoing fdLgoing∧
  Cal P w K mg base k "plain_of" ["term"] (q0q K (tab k).dplain_of) fplain_of fdplain_of∧
  Cal P w K mg base k "law" ["_law_script"] (q0q K (tab k).dlaw) flaw fdlaw
 | 0=>⟨L_law_deck.cal q2x,L_law_next.cal q2x,L_law_spelled.cal q2x,L_law_word.cal q2x,L_law_words.cal q2x,L_law_world.cal q2x,L_law_kind.cal q2x,L_law_fn.cal q2x,L_law_of.cal q2x,L_law_width.cal q2x,L_law_form.cal q2x,L_law_lone.cal q2x,L_law_term.cal q2x,Lis_to_do.cal q2x,Linner_of.cal q2x,Lplaces.cal q2x,Lway_to.cal q2x,Lparts_and_fns.cal q2x,Lwith_bound_ones.cal q2x,Lbound_ones.cal q2x,Lraised.cal q2x,Lput_for.cal q2x,Lput_in.cal q2x,Lwith_inner.cal q2x,Ldone_at.cal q2x,Lsteps_of.cal q2x,L_law_same.cal q2x,L_law_places.cal q2x,L_law_truth.cal q2x,Lis_plain_term.cal q2x,L_law_uses.cal q2x,L_law_sparing.cal q2x,L_law_kind_of_form.cal q2x,L_law_kind_of.cal q2x,L_law_together.cal q2x,L_law_put.cal q2x,L_law_done_apart.cal q2x,L_law_apart.cal q2x,L_law_done.cal q2x,L_law_size.cal q2x,L_law_going.cal q2x,Lplain_of.cal q2x,Llaw.cal q2x⟩
 | k+1=>by
  have IH:=good (P:=P) (w:=w) (base:=base) L_law_deck L_law_next L_law_spelled L_law_word L_law_words L_law_world L_law_kind L_law_fn L_law_of L_law_width L_law_form L_law_lone L_law_term Lis_to_do Linner_of Lplaces Lway_to Lparts_and_fns Lwith_bound_ones Lbound_ones Lraised Lput_for Lput_in Lwith_inner Ldone_at Lsteps_of L_law_same L_law_places L_law_truth Lis_plain_term L_law_uses L_law_sparing L_law_kind_of_form L_law_kind_of L_law_together L_law_put L_law_done_apart L_law_apart L_law_done L_law_size L_law_going Lplain_of Llaw z_all z_bool z_int z_isinstance z_len z_list z_max z_range z_reversed z_str z_sum z_tuple z_zip x_NoPlace k
  exact ⟨L_law_deck.cal (q1q L_law_deck.F scLdeck fun _ _ _ _ _ _ _ hr hx=>simLdeck z_sum hr hx),
   L_law_next.cal (q1q L_law_next.F z1e fun _ _ _ _ _ _ _ hr hx=>simLnext z_len hr hx),
   L_law_spelled.cal (q1q L_law_spelled.F q6j fun _ _ _ _ _ _ _ hr hx=>simLspelled z_range hr hx),
   L_law_word.cal (q1q L_law_word.F q5y fun _ _ _ _ _ _ _ hr hx=>simLword z_len IH.2.1 IH.2.2.1 hr hx),
   L_law_words.cal (q1q L_law_words.F scLwords fun _ _ _ _ _ _ _ hr hx=>simLwords z_range IH.2.2.2.1 hr hx),
   L_law_world.cal (q1q L_law_world.F scLworld fun _ _ _ _ _ _ _ hr hx=>simLworld IH.2.2.2.2.1 hr hx),
   L_law_kind.cal (q1q L_law_kind.F scLkind fun _ _ _ _ _ _ _ hr hx=>simLkind z_len IH.2.1 IH.2.2.2.2.2.2.1 hr hx),
   L_law_fn.cal (q1q L_law_fn.F scLfn fun _ _ _ _ _ _ _ hr hx=>simLfn IH.2.2.2.2.2.2.2.2.2.2.2.2.1 hr hx),
   L_law_of.cal (q1q L_law_of.F scLof fun _ _ _ _ _ _ _ hr hx=>simLof IH.2.2.2.2.2.2.1 IH.2.1 IH.2.2.2.2.2.2.2.1 IH.2.2.2.2.2.2.2.2.2.2.2.2.1 hr hx),
   L_law_width.cal (q1q L_law_width.F scLwidth fun _ _ _ _ _ _ _ hr hx=>simLwidth z_isinstance z_str IH.2.2.2.2.2.2.2.2.2.1 hr hx),
   L_law_form.cal (q1q L_law_form.F scLform fun _ _ _ _ _ _ _ hr hx=>simLform z_isinstance z_str IH.2.2.2.2.2.2.2.2.2.2.1 hr hx),
   L_law_lone.cal (q1q L_law_lone.F scLlone fun _ _ _ _ _ _ _ hr hx=>simLlone IH.2.2.2.2.2.2.2.2.2.1 IH.2.2.2.2.2.2.2.2.2.2.1 IH.2.2.2.1 hr hx),
   L_law_term.cal (q1q L_law_term.F scLterm fun _ _ _ _ _ _ _ hr hx=>simLterm z_isinstance z_len z_range z_tuple IH.2.1 IH.2.2.2.2.2.2.2.1 IH.2.2.2.2.2.2.2.2.1 IH.2.2.2.2.2.2.2.2.2.2.2.1 hr hx),
   Lis_to_do.cal (q1q Lis_to_do.F scis_to_do fun _ _ _ _ _ _ _ hr hx=>simis_to_do hr hx),
   Linner_of.cal (q1q Linner_of.F scinner_of fun _ _ _ _ _ _ _ hr hx=>siminner_of hr hx),
   Lplaces.cal (q1q Lplaces.F q7z fun _ _ _ _ _ _ _ hr hx=>simplaces z_len z_range z_reversed IH.2.2.2.2.2.2.2.2.2.2.2.2.2.1 IH.2.2.2.2.2.2.2.2.2.2.2.2.2.2.1 hr hx),
   Lway_to.cal (q1q Lway_to.F z0t fun _ _ _ _ _ _ _ hr hx=>simway_to z_len x_NoPlace IH.2.2.2.2.2.2.2.2.2.2.2.2.2.2.1 hr hx),
   Lparts_and_fns.cal (q1q Lparts_and_fns.F q3m fun _ _ _ _ _ _ _ hr hx=>z0j z_len hr hx),
   Lwith_bound_ones.cal (q1q Lwith_bound_ones.F q2m fun _ _ _ _ _ _ _ hr hx=>q8y z_list z_reversed IH.2.2.2.2.2.2.2.2.2.2.2.2.2.2.2.2.2.1 hr hx),
   Lbound_ones.cal (q1q Lbound_ones.F scbound_ones fun _ _ _ _ _ _ _ hr hx=>simbound_ones z_len IH.2.2.2.2.2.2.2.2.2.2.2.2.2.2.2.2.2.1 hr hx),
   Lraised.cal (q1q Lraised.F scraised fun _ _ _ _ _ _ _ hr hx=>simraised IH.2.2.2.2.2.2.2.2.2.2.2.2.2.2.2.2.2.2.1 IH.2.2.2.2.2.2.2.2.2.2.2.2.2.2.2.2.2.2.2.1 hr hx),
   Lput_for.cal (q1q Lput_for.F scput_for fun _ _ _ _ _ _ _ hr hx=>simput_for IH.2.2.2.2.2.2.2.2.2.2.2.2.2.2.2.2.2.2.2.2.1 hr hx),
   Lput_in.cal (q1q Lput_in.F scput_in fun _ _ _ _ _ _ _ hr hx=>simput_in IH.2.2.2.2.2.2.2.2.2.2.2.2.2.2.2.2.2.2.1 IH.2.2.2.2.2.2.2.2.2.2.2.2.2.2.2.2.2.2.2.2.2.1 IH.2.2.2.2.2.2.2.2.2.2.2.2.2.2.2.2.2.2.2.1 hr hx),
   Lwith_inner.cal (q1q Lwith_inner.F scwith_inner fun _ _ _ _ _ _ _ hr hx=>simwith_inner hr hx),
   Ldone_at.cal (q1q Ldone_at.F q6i fun _ _ _ _ _ _ _ hr hx=>simdone_at z_len x_NoPlace IH.2.2.2.2.2.2.2.2.2.2.2.2.2.2.2.2.1 IH.2.2.2.2.2.2.2.2.2.2.2.2.2.1 IH.2.2.2.2.2.2.2.2.2.2.2.2.2.2.2.2.2.2.2.2.2.2.1 IH.2.2.2.2.2.2.2.2.2.2.2.2.2.2.2.2.2.2.2.2.2.2.2.1 hr hx),
   Lsteps_of.cal (q1q Lsteps_of.F q7y fun _ _ _ _ _ _ _ hr hx=>simsteps_of IH.2.2.2.2.2.2.2.2.2.2.2.2.2.2.2.1 IH.2.2.2.2.2.2.2.2.2.2.2.2.2.2.2.2.2.2.2.2.2.2.2.2.1 hr hx),
   L_law_same.cal (q1q L_law_same.F scLsame fun _ _ _ _ _ _ _ hr hx=>simLsame z_all z_bool z_int z_isinstance z_len z_str z_tuple z_zip IH.2.2.2.2.2.2.2.2.2.2.2.2.2.2.2.2.2.2.2.2.2.2.2.2.2.2.1 hr hx),
   L_law_places.cal (q1q L_law_places.F q7o fun _ _ _ _ _ _ _ hr hx=>simLplaces IH.2.2.2.2.2.2.2.2.2.2.2.2.2.2.2.2.2.2.2.2.2.2.2.2.2.2.2.1 hr hx),
   L_law_truth.cal (q1q L_law_truth.F scLtruth fun _ _ _ _ _ _ _ hr hx=>simLtruth z_bool z_isinstance hr hx),
   Lis_plain_term.cal (q1q Lis_plain_term.F z1d fun _ _ _ _ _ _ _ hr hx=>z0k IH.2.2.2.2.2.2.2.2.2.2.2.2.2.2.2.1 hr hx),
   L_law_uses.cal (q1q L_law_uses.F scLuses fun _ _ _ _ _ _ _ hr hx=>simLuses z_len IH.2.2.2.2.2.2.2.2.2.2.2.2.2.2.2.2.2.2.2.2.2.2.2.2.2.2.2.2.2.2.1 hr hx),
   L_law_sparing.cal (q1q L_law_sparing.F scLsparing fun _ _ _ _ _ _ _ hr hx=>simLsparing z_max IH.2.2.2.2.2.2.2.2.2.2.2.2.2.2.2.2.2.2.2.2.2.2.2.2.2.2.2.2.2.2.1 hr hx),
   L_law_kind_of_form.cal (q1q L_law_kind_of_form.F z1f fun _ _ _ _ _ _ _ hr hx=>z0l IH.2.2.2.2.2.2.2.2.2.2.2.2.2.2.2.2.2.2.2.2.2.2.2.2.2.2.2.2.2.2.2.2.1 hr hx),
   L_law_kind_of.cal (q1q L_law_kind_of.F q8a fun _ _ _ _ _ _ _ hr hx=>simLkind_of z_isinstance z_str IH.2.2.2.2.2.2.2.2.2.2.2.2.2.2.2.2.2.2.2.2.2.2.2.2.2.2.2.2.2.2.2.2.1 IH.2.2.2.2.2.2.2.2.2.2.2.2.2.2.2.2.2.2.2.2.2.2.2.2.2.2.2.2.2.2.2.2.2.1 hr hx),
   L_law_together.cal (q1q L_law_together.F scLtogether fun _ _ _ _ _ _ _ hr hx=>simLtogether z_len IH.2.2.2.2.2.2.2.2.2.2.2.2.2.2.2.2.2.2.2.2.2.2.2.2.2.2.2.2.2.2.2.2.2.2.1 hr hx),
   L_law_put.cal (q1q L_law_put.F scLput fun _ _ _ _ _ _ _ hr hx=>simLput IH.2.2.2.2.2.2.2.2.2.2.2.2.2.2.2.2.2.2.2.2.2.2.2.2.2.2.2.2.2.2.2.2.2.2.2.1 hr hx),
   L_law_done_apart.cal (q1q L_law_done_apart.F scLdone_apart fun _ _ _ _ _ _ _ hr hx=>simLdone_apart IH.2.2.2.2.2.2.2.2.2.2.2.2.2.2.2.2.2.2.2.2.2.2.2.2.2.2.2.2.2.2.2.2.2.2.2.1 IH.2.2.2.2.2.2.2.2.2.2.2.2.2.2.2.2.2.2.2.2.2.2.2.2.2.2.2.2.2.2.2.2.2.2.2.2.1 hr hx),
   L_law_apart.cal (q1q L_law_apart.F scLapart fun _ _ _ _ _ _ _ hr hx=>simLapart z_len IH.2.2.2.2.2.2.2.2.2.2.2.2.2.2.2.2.2.2.2.2.2.2.2.2.2.2.2.2.2.2.2.2.2.2.2.2.2.1 hr hx),
   L_law_done.cal (q1q L_law_done.F scLdone fun _ _ _ _ _ _ _ hr hx=>simLdone IH.2.2.2.2.2.2.2.2.2.2.2.2.2.2.2.2.2.2.2.2.2.2.2.2.2.2.2.2.2.2.2.2.2.2.1 IH.2.2.2.2.2.2.2.2.2.2.2.2.2.2.2.2.2.2.2.2.2.2.2.2.2.2.2.2.2.2.2.2.2.2.2.2.1 IH.2.2.2.2.2.2.2.2.2.2.2.2.2.2.2.2.2.2.2.2.2.2.2.2.2.2.2.2.2.2.2.2.2.2.2.2.2.1 hr hx),
   L_law_size.cal (q1q L_law_size.F scLsize fun _ _ _ _ _ _ _ hr hx=>simLsize IH.2.2.2.2.2.2.2.2.2.2.2.2.2.2.2.2.2.2.2.2.2.2.2.2.2.2.2.2.2.2.2.2.2.2.2.2.2.2.2.1 hr hx),
   L_law_going.cal (q1q L_law_going.F scLgoing fun _ _ _ _ _ _ _ hr hx=>simLgoing z_len z_range IH.2.2.2.2.2.2.2.2.2.2.2.2.2.2.2.2.2.2.2.2.2.2.2.2.2.2.2.1 IH.2.2.2.2.2.2.2.2.2.2.2.2.2.2.2.2.2.2.2.2.2.2.2.2.2.2.2.2.1 IH.2.2.2.2.2.2.2.2.2.2.2.2.2.2.2.2.2.2.2.2.2.2.2.2.2.2.2.2.2.1 IH.2.2.2.2.2.2.2.2.2.2.2.2.2.2.2.2.2.2.2.2.2.2.2.2.2.2.2.2.2.2.2.1 IH.2.2.2.2.2.2.2.2.2.2.2.2.2.2.2.2.2.2.2.2.2.2.2.2.2.2.2.2.2.2.2.2.2.1 IH.2.2.2.2.2.2.2.2.2.2.2.2.2.2.2.2.2.2.2.2.2.2.2.2.2.2.1 IH.2.2.2.2.2.2.2.2.2.2.2.2.2.2.2.2.2.2.2.2.2.2.2.2.2.2.2.2.2.2.2.2.2.2.2.2.2.2.1 IH.2.2.2.2.2.2.2.2.2.2.2.2.2.2.2.2.2.2.2.2.2.2.2.2.2.2.2.2.2.2.2.2.2.2.2.2.2.2.2.1 hr hx),
   Lplain_of.cal (q1q Lplain_of.F scplain_of fun _ _ _ _ _ _ _ hr hx=>simplain_of IH.2.2.2.2.2.2.2.2.2.2.2.2.2.2.2.2.2.2.2.2.2.2.2.2.2.1 hr hx),
   Llaw.cal (q1q Llaw.F sclaw fun _ _ _ _ _ _ _ hr hx=>simlaw z_isinstance z_list IH.1 IH.2.2.2.2.2.1 IH.2.2.2.2.2.2.1 IH.2.2.2.2.2.2.2.2.2.2.2.2.1 IH.2.2.2.2.2.2.2.2.2.2.2.2.2.2.2.2.2.2.2.2.2.2.2.2.2.1 IH.2.2.2.2.2.2.2.2.2.2.2.2.2.2.2.2.2.2.2.2.2.2.2.2.2.2.1 IH.2.2.2.2.2.2.2.2.2.2.2.2.2.2.2.2.2.2.2.2.2.2.2.2.2.2.2.2.2.2.2.2.2.2.2.2.2.2.2.2.1 IH.2.2.2.2.2.2.2.2.2.2.2.2.2.2.2.2.2.2.2.2.2.2.2.2.2.2.2.2.2.2.2.2.2.2.2.2.2.2.2.2.2.1 hr hx)⟩
theorem q8j {P:List Value→Prop} {ps:List Str} (hp:ps.length=1) (h:∀a0,P [a0]) (us:List Value) (hl:us.length=ps.length):P us:=by
 rw [hp] at hl
 cases us with | nil=>exact absurd hl (by simp) | cons a r=>cases r with | nil=>exact h _ | cons b r=>exact absurd hl (by simp)
theorem q9q {P:List Value→Prop} {ps:List Str} (hp:ps.length=2) (h:∀a0 a1,P [a0,a1]) (us:List Value) (hl:us.length=ps.length):P us:=by
 rw [hp] at hl
 cases us with | nil=>exact absurd hl (by simp) | cons a r=>cases r with | nil=>exact absurd hl (by simp) | cons b r=>cases r with | nil=>exact h _ _ | cons b r=>exact absurd hl (by simp)
theorem len_3 {P:List Value→Prop} {ps:List Str} (hp:ps.length=3) (h:∀a0 a1 a2,P [a0,a1,a2]) (us:List Value) (hl:us.length=ps.length):P us:=by
 rw [hp] at hl
 cases us with | nil=>exact absurd hl (by simp) | cons a r=>cases r with | nil=>exact absurd hl (by simp) | cons b r=>cases r with | nil=>exact absurd hl (by simp) | cons b r=>cases r with | nil=>exact h _ _ _ | cons b r=>exact absurd hl (by simp)
theorem len_5 {P:List Value→Prop} {ps:List Str} (hp:ps.length=5) (h:∀a0 a1 a2 a3 a4,P [a0,a1,a2,a3,a4]) (us:List Value) (hl:us.length=ps.length):P us:=by
 rw [hp] at hl
 cases us with | nil=>exact absurd hl (by simp) | cons a r=>cases r with | nil=>exact absurd hl (by simp) | cons b r=>cases r with | nil=>exact absurd hl (by simp) | cons b r=>cases r with | nil=>exact absurd hl (by simp) | cons b r=>cases r with | nil=>exact absurd hl (by simp) | cons b r=>cases r with | nil=>exact h _ _ _ _ _ | cons b r=>exact absurd hl (by simp)
theorem all_mk {l:PySem.W.OpenLaw} {w:World} {K:PySem.W.Frag} {h:Heap} {mg:Str→Option Value} {fa f0 f1 f2 f3 f4 f5 f6 f7 f8 f9 f10 f11 f12 f13 f14 f15 f16 f17 f18 f19 f20 f21 f22 f23 f24 f25 f26 f27 f28 f29 f30 f31 f32 f33 f34 f35 f36 f37 f38 f39 f40 f41 f42:Addr} (X:K.In h) (G:h.Ns mainGlobals mg) (hfa:mg "law" = some (.ref fa))
    {od0 an0 od1 an1 od2 an2 od3 an3 od4 an4 od5 an5 od6 an6 od7 an7 od8 an8 od9 an9 od10 an10 od11 an11 od12 an12 od13 an13 od14 an14 od15 an15 od16 an16 od17 an17 od18 an18 od19 an19 od20 an20 od21 an21 od22 an22 od23 an23 od24 an24 od25 an25 od26 an26 od27 an27 od28 an28 od29 an29 od30 an30 od31 an31 od32 an32 od33 an33 od34 an34 od35 an35 od36 an36 od37 an37 od38 an38 od39 an39 od40 an40 od41 an41 od42 an42:Option Addr} {sl0 sl1 sl2 sl3 sl4 sl5 sl6 sl7 sl8 sl9 sl10 sl11 sl12 sl13 sl14 sl15 sl16 sl17 sl18 sl19 sl20 sl21 sl22 sl23 sl24 sl25 sl26 sl27 sl28 sl29 sl30 sl31 sl32 sl33 sl34 sl35 sl36 sl37 sl38 sl39 sl40 sl41 sl42:Array (Option Value)} {oc0 kV0 dc0 pm0 cd0 ct0 oc1 kV1 dc1 pm1 cd1 ct1 oc2 kV2 dc2 pm2 cd2 ct2 oc3 kV3 dc3 pm3 cd3 ct3 oc4 kV4 dc4 pm4 cd4 ct4 oc5 kV5 dc5 pm5 cd5 ct5 oc6 kV6 dc6 pm6 cd6 ct6 oc7 kV7 dc7 pm7 cd7 ct7 oc8 kV8 dc8 pm8 cd8 ct8 oc9 kV9 dc9 pm9 cd9 ct9 oc10 kV10 dc10 pm10 cd10 ct10 oc11 kV11 dc11 pm11 cd11 ct11 oc12 kV12 dc12 pm12 cd12 ct12 oc13 kV13 dc13 pm13 cd13 ct13 oc14 kV14 dc14 pm14 cd14 ct14 oc15 kV15 dc15 pm15 cd15 ct15 oc16 kV16 dc16 pm16 cd16 ct16 oc17 kV17 dc17 pm17 cd17 ct17 oc18 kV18 dc18 pm18 cd18 ct18 oc19 kV19 dc19 pm19 cd19 ct19 oc20 kV20 dc20 pm20 cd20 ct20 oc21 kV21 dc21 pm21 cd21 ct21 oc22 kV22 dc22 pm22 cd22 ct22 oc23 kV23 dc23 pm23 cd23 ct23 oc24 kV24 dc24 pm24 cd24 ct24 oc25 kV25 dc25 pm25 cd25 ct25 oc26 kV26 dc26 pm26 cd26 ct26 oc27 kV27 dc27 pm27 cd27 ct27 oc28 kV28 dc28 pm28 cd28 ct28 oc29 kV29 dc29 pm29 cd29 ct29 oc30 kV30 dc30 pm30 cd30 ct30 oc31 kV31 dc31 pm31 cd31 ct31 oc32 kV32 dc32 pm32 cd32 ct32 oc33 kV33 dc33 pm33 cd33 ct33 oc34 kV34 dc34 pm34 cd34 ct34 oc35 kV35 dc35 pm35 cd35 ct35 oc36 kV36 dc36 pm36 cd36 ct36 oc37 kV37 dc37 pm37 cd37 ct37 oc38 kV38 dc38 pm38 cd38 ct38 oc39 kV39 dc39 pm39 cd39 ct39 oc40 kV40 dc40 pm40 cd40 ct40 oc41 kV41 dc41 pm41 cd41 ct41 oc42 kV42 dc42 pm42 cd42 ct42:Value}
    (a0:PySem.W.nsIn K mainGlobals "_law_deck" = some (some (.ref f0))) (l0:K.lookup f0=some ⟨oc0,od0,.func (PySem.W.fnOf "_law_deck" "_law_deck" (q0z q9l) (q0y q9l) (q0j q9l) .none kV0 dc0 pm0 an0 cd0 ct0),sl0⟩) (c0:PySem.W.codeIn K cd0 "_law_deck" = true) (k0:PySem.W.keepIn K (.ref f0)=true)
    (a1:PySem.W.nsIn K mainGlobals "_law_next" = some (some (.ref f1))) (l1:K.lookup f1=some ⟨oc1,od1,.func (PySem.W.fnOf "_law_next" "_law_next" (q0z q9g) (q0y q9g) (q0j q9g) .none kV1 dc1 pm1 an1 cd1 ct1),sl1⟩) (c1:PySem.W.codeIn K cd1 "_law_next" = true) (k1:PySem.W.keepIn K (.ref f1)=true)
    (a2:PySem.W.nsIn K mainGlobals "_law_spelled" = some (some (.ref f2))) (l2:K.lookup f2=some ⟨oc2,od2,.func (PySem.W.fnOf "_law_spelled" "_law_spelled" (q0z q4p) (q0y q4p) (q0j q4p) .none kV2 dc2 pm2 an2 cd2 ct2),sl2⟩) (c2:PySem.W.codeIn K cd2 "_law_spelled" = true) (k2:PySem.W.keepIn K (.ref f2)=true)
    (a3:PySem.W.nsIn K mainGlobals "_law_word" = some (some (.ref f3))) (l3:K.lookup f3=some ⟨oc3,od3,.func (PySem.W.fnOf "_law_word" "_law_word" (q0z q9b) (q0y q9b) (q0j q9b) .none kV3 dc3 pm3 an3 cd3 ct3),sl3⟩) (c3:PySem.W.codeIn K cd3 "_law_word" = true) (k3:PySem.W.keepIn K (.ref f3)=true)
    (a4:PySem.W.nsIn K mainGlobals "_law_words" = some (some (.ref f4))) (l4:K.lookup f4=some ⟨oc4,od4,.func (PySem.W.fnOf "_law_words" "_law_words" (q0z q6x) (q0y q6x) (q0j q6x) .none kV4 dc4 pm4 an4 cd4 ct4),sl4⟩) (c4:PySem.W.codeIn K cd4 "_law_words" = true) (k4:PySem.W.keepIn K (.ref f4)=true)
    (a5:PySem.W.nsIn K mainGlobals "_law_world" = some (some (.ref f5))) (l5:K.lookup f5=some ⟨oc5,od5,.func (PySem.W.fnOf "_law_world" "_law_world" (q0z q6w) (q0y q6w) (q0j q6w) .none kV5 dc5 pm5 an5 cd5 ct5),sl5⟩) (c5:PySem.W.codeIn K cd5 "_law_world" = true) (k5:PySem.W.keepIn K (.ref f5)=true)
    (a6:PySem.W.nsIn K mainGlobals "_law_kind" = some (some (.ref f6))) (l6:K.lookup f6=some ⟨oc6,od6,.func (PySem.W.fnOf "_law_kind" "_law_kind" (q0z q9i) (q0y q9i) (q0j q9i) .none kV6 dc6 pm6 an6 cd6 ct6),sl6⟩) (c6:PySem.W.codeIn K cd6 "_law_kind" = true) (k6:PySem.W.keepIn K (.ref f6)=true)
    (a7:PySem.W.nsIn K mainGlobals "_law_fn" = some (some (.ref f7))) (l7:K.lookup f7=some ⟨oc7,od7,.func (PySem.W.fnOf "_law_fn" "_law_fn" (q0z sLfn) (q0y sLfn) (q0j sLfn) .none kV7 dc7 pm7 an7 cd7 ct7),sl7⟩) (c7:PySem.W.codeIn K cd7 "_law_fn" = true) (k7:PySem.W.keepIn K (.ref f7)=true)
    (a8:PySem.W.nsIn K mainGlobals "_law_of" = some (some (.ref f8))) (l8:K.lookup f8=some ⟨oc8,od8,.func (PySem.W.fnOf "_law_of" "_law_of" (q0z sLof) (q0y sLof) (q0j sLof) .none kV8 dc8 pm8 an8 cd8 ct8),sl8⟩) (c8:PySem.W.codeIn K cd8 "_law_of" = true) (k8:PySem.W.keepIn K (.ref f8)=true)
    (a9:PySem.W.nsIn K mainGlobals "_law_width" = some (some (.ref f9))) (l9:K.lookup f9=some ⟨oc9,od9,.func (PySem.W.fnOf "_law_width" "_law_width" (q0z q6y) (q0y q6y) (q0j q6y) .none kV9 dc9 pm9 an9 cd9 ct9),sl9⟩) (c9:PySem.W.codeIn K cd9 "_law_width" = true) (k9:PySem.W.keepIn K (.ref f9)=true)
    (a10:PySem.W.nsIn K mainGlobals "_law_form" = some (some (.ref f10))) (l10:K.lookup f10=some ⟨oc10,od10,.func (PySem.W.fnOf "_law_form" "_law_form" (q0z q9j) (q0y q9j) (q0j q9j) .none kV10 dc10 pm10 an10 cd10 ct10),sl10⟩) (c10:PySem.W.codeIn K cd10 "_law_form" = true) (k10:PySem.W.keepIn K (.ref f10)=true)
    (a11:PySem.W.nsIn K mainGlobals "_law_lone" = some (some (.ref f11))) (l11:K.lookup f11=some ⟨oc11,od11,.func (PySem.W.fnOf "_law_lone" "_law_lone" (q0z q9h) (q0y q9h) (q0j q9h) .none kV11 dc11 pm11 an11 cd11 ct11),sl11⟩) (c11:PySem.W.codeIn K cd11 "_law_lone" = true) (k11:PySem.W.keepIn K (.ref f11)=true)
    (a12:PySem.W.nsIn K mainGlobals "_law_term" = some (some (.ref f12))) (l12:K.lookup f12=some ⟨oc12,od12,.func (PySem.W.fnOf "_law_term" "_law_term" (q0z q9d) (q0y q9d) (q0j q9d) .none kV12 dc12 pm12 an12 cd12 ct12),sl12⟩) (c12:PySem.W.codeIn K cd12 "_law_term" = true) (k12:PySem.W.keepIn K (.ref f12)=true)
    (a13:PySem.W.nsIn K mainGlobals "is_to_do" = some (some (.ref f13))) (l13:K.lookup f13=some ⟨oc13,od13,.func (PySem.W.fnOf "is_to_do" "is_to_do" (q0z q4n) (q0y q4n) (q0j q4n) .none kV13 dc13 pm13 an13 cd13 ct13),sl13⟩) (c13:PySem.W.codeIn K cd13 "is_to_do" = true) (k13:PySem.W.keepIn K (.ref f13)=true)
    (a14:PySem.W.nsIn K mainGlobals "inner_of" = some (some (.ref f14))) (l14:K.lookup f14=some ⟨oc14,od14,.func (PySem.W.fnOf "inner_of" "inner_of" (q0z q4o) (q0y q4o) (q0j q4o) .none kV14 dc14 pm14 an14 cd14 ct14),sl14⟩) (c14:PySem.W.codeIn K cd14 "inner_of" = true) (k14:PySem.W.keepIn K (.ref f14)=true)
    (a15:PySem.W.nsIn K mainGlobals "places" = some (some (.ref f15))) (l15:K.lookup f15=some ⟨oc15,od15,.func (PySem.W.fnOf "places" "places" (q0z q6u) (q0y q6u) (q0j q6u) .none kV15 dc15 pm15 an15 cd15 ct15),sl15⟩) (c15:PySem.W.codeIn K cd15 "places" = true) (k15:PySem.W.keepIn K (.ref f15)=true)
    (a16:PySem.W.nsIn K mainGlobals "way_to" = some (some (.ref f16))) (l16:K.lookup f16=some ⟨oc16,od16,.func (PySem.W.fnOf "way_to" "way_to" (q0z q6r) (q0y q6r) (q0j q6r) .none kV16 dc16 pm16 an16 cd16 ct16),sl16⟩) (c16:PySem.W.codeIn K cd16 "way_to" = true) (k16:PySem.W.keepIn K (.ref f16)=true)
    (a17:PySem.W.nsIn K mainGlobals "parts_and_fns" = some (some (.ref f17))) (l17:K.lookup f17=some ⟨oc17,od17,.func (PySem.W.fnOf "parts_and_fns" "parts_and_fns" (q0z q2b) (q0y q2b) (q0j q2b) .none kV17 dc17 pm17 an17 cd17 ct17),sl17⟩) (c17:PySem.W.codeIn K cd17 "parts_and_fns" = true) (k17:PySem.W.keepIn K (.ref f17)=true)
    (a18:PySem.W.nsIn K mainGlobals "with_bound_ones" = some (some (.ref f18))) (l18:K.lookup f18=some ⟨oc18,od18,.func (PySem.W.fnOf "with_bound_ones" "with_bound_ones" (q0z q1t) (q0y q1t) (q0j q1t) .none kV18 dc18 pm18 an18 cd18 ct18),sl18⟩) (c18:PySem.W.codeIn K cd18 "with_bound_ones" = true) (k18:PySem.W.keepIn K (.ref f18)=true)
    (a19:PySem.W.nsIn K mainGlobals "bound_ones" = some (some (.ref f19))) (l19:K.lookup f19=some ⟨oc19,od19,.func (PySem.W.fnOf "bound_ones" "bound_ones" (q0z q3e) (q0y q3e) (q0j q3e) .none kV19 dc19 pm19 an19 cd19 ct19),sl19⟩) (c19:PySem.W.codeIn K cd19 "bound_ones" = true) (k19:PySem.W.keepIn K (.ref f19)=true)
    (a20:PySem.W.nsIn K mainGlobals "raised" = some (some (.ref f20))) (l20:K.lookup f20=some ⟨oc20,od20,.func (PySem.W.fnOf "raised" "raised" (q0z q6s) (q0y q6s) (q0j q6s) .none kV20 dc20 pm20 an20 cd20 ct20),sl20⟩) (c20:PySem.W.codeIn K cd20 "raised" = true) (k20:PySem.W.keepIn K (.ref f20)=true)
    (a21:PySem.W.nsIn K mainGlobals "put_for" = some (some (.ref f21))) (l21:K.lookup f21=some ⟨oc21,od21,.func (PySem.W.fnOf "put_for" "put_for" (q0z q5i) (q0y q5i) (q0j q5i) .none kV21 dc21 pm21 an21 cd21 ct21),sl21⟩) (c21:PySem.W.codeIn K cd21 "put_for" = true) (k21:PySem.W.keepIn K (.ref f21)=true)
    (a22:PySem.W.nsIn K mainGlobals "put_in" = some (some (.ref f22))) (l22:K.lookup f22=some ⟨oc22,od22,.func (PySem.W.fnOf "put_in" "put_in" (q0z q6t) (q0y q6t) (q0j q6t) .none kV22 dc22 pm22 an22 cd22 ct22),sl22⟩) (c22:PySem.W.codeIn K cd22 "put_in" = true) (k22:PySem.W.keepIn K (.ref f22)=true)
    (a23:PySem.W.nsIn K mainGlobals "with_inner" = some (some (.ref f23))) (l23:K.lookup f23=some ⟨oc23,od23,.func (PySem.W.fnOf "with_inner" "with_inner" (q0z q3d) (q0y q3d) (q0j q3d) .none kV23 dc23 pm23 an23 cd23 ct23),sl23⟩) (c23:PySem.W.codeIn K cd23 "with_inner" = true) (k23:PySem.W.keepIn K (.ref f23)=true)
    (a24:PySem.W.nsIn K mainGlobals "done_at" = some (some (.ref f24))) (l24:K.lookup f24=some ⟨oc24,od24,.func (PySem.W.fnOf "done_at" "done_at" (q0z q5k) (q0y q5k) (q0j q5k) .none kV24 dc24 pm24 an24 cd24 ct24),sl24⟩) (c24:PySem.W.codeIn K cd24 "done_at" = true) (k24:PySem.W.keepIn K (.ref f24)=true)
    (a25:PySem.W.nsIn K mainGlobals "steps_of" = some (some (.ref f25))) (l25:K.lookup f25=some ⟨oc25,od25,.func (PySem.W.fnOf "steps_of" "steps_of" (q0z q4l) (q0y q4l) (q0j q4l) .none kV25 dc25 pm25 an25 cd25 ct25),sl25⟩) (c25:PySem.W.codeIn K cd25 "steps_of" = true) (k25:PySem.W.keepIn K (.ref f25)=true)
    (a26:PySem.W.nsIn K mainGlobals "_law_same" = some (some (.ref f26))) (l26:K.lookup f26=some ⟨oc26,od26,.func (PySem.W.fnOf "_law_same" "_law_same" (q0z q9f) (q0y q9f) (q0j q9f) .none kV26 dc26 pm26 an26 cd26 ct26),sl26⟩) (c26:PySem.W.codeIn K cd26 "_law_same" = true) (k26:PySem.W.keepIn K (.ref f26)=true)
    (a27:PySem.W.nsIn K mainGlobals "_law_places" = some (some (.ref f27))) (l27:K.lookup f27=some ⟨oc27,od27,.func (PySem.W.fnOf "_law_places" "_law_places" (q0z q5l) (q0y q5l) (q0j q5l) .none kV27 dc27 pm27 an27 cd27 ct27),sl27⟩) (c27:PySem.W.codeIn K cd27 "_law_places" = true) (k27:PySem.W.keepIn K (.ref f27)=true)
    (a28:PySem.W.nsIn K mainGlobals "_law_truth" = some (some (.ref f28))) (l28:K.lookup f28=some ⟨oc28,od28,.func (PySem.W.fnOf "_law_truth" "_law_truth" (q0z q6z) (q0y q6z) (q0j q6z) .none kV28 dc28 pm28 an28 cd28 ct28),sl28⟩) (c28:PySem.W.codeIn K cd28 "_law_truth" = true) (k28:PySem.W.keepIn K (.ref f28)=true)
    (a29:PySem.W.nsIn K mainGlobals "is_plain_term" = some (some (.ref f29))) (l29:K.lookup f29=some ⟨oc29,od29,.func (PySem.W.fnOf "is_plain_term" "is_plain_term" (q0z q2c) (q0y q2c) (q0j q2c) .none kV29 dc29 pm29 an29 cd29 ct29),sl29⟩) (c29:PySem.W.codeIn K cd29 "is_plain_term" = true) (k29:PySem.W.keepIn K (.ref f29)=true)
    (a30:PySem.W.nsIn K mainGlobals "_law_uses" = some (some (.ref f30))) (l30:K.lookup f30=some ⟨oc30,od30,.func (PySem.W.fnOf "_law_uses" "_law_uses" (q0z q9c) (q0y q9c) (q0j q9c) .none kV30 dc30 pm30 an30 cd30 ct30),sl30⟩) (c30:PySem.W.codeIn K cd30 "_law_uses" = true) (k30:PySem.W.keepIn K (.ref f30)=true)
    (a31:PySem.W.nsIn K mainGlobals "_law_sparing" = some (some (.ref f31))) (l31:K.lookup f31=some ⟨oc31,od31,.func (PySem.W.fnOf "_law_sparing" "_law_sparing" (q0z q4q) (q0y q4q) (q0j q4q) .none kV31 dc31 pm31 an31 cd31 ct31),sl31⟩) (c31:PySem.W.codeIn K cd31 "_law_sparing" = true) (k31:PySem.W.keepIn K (.ref f31)=true)
    (a32:PySem.W.nsIn K mainGlobals "_law_kind_of_form" = some (some (.ref f32))) (l32:K.lookup f32=some ⟨oc32,od32,.func (PySem.W.fnOf "_law_kind_of_form" "_law_kind_of_form" (q0z q2d) (q0y q2d) (q0j q2d) .none kV32 dc32 pm32 an32 cd32 ct32),sl32⟩) (c32:PySem.W.codeIn K cd32 "_law_kind_of_form" = true) (k32:PySem.W.keepIn K (.ref f32)=true)
    (a33:PySem.W.nsIn K mainGlobals "_law_kind_of" = some (some (.ref f33))) (l33:K.lookup f33=some ⟨oc33,od33,.func (PySem.W.fnOf "_law_kind_of" "_law_kind_of" (q0z q4r) (q0y q4r) (q0j q4r) .none kV33 dc33 pm33 an33 cd33 ct33),sl33⟩) (c33:PySem.W.codeIn K cd33 "_law_kind_of" = true) (k33:PySem.W.keepIn K (.ref f33)=true)
    (a34:PySem.W.nsIn K mainGlobals "_law_together" = some (some (.ref f34))) (l34:K.lookup f34=some ⟨oc34,od34,.func (PySem.W.fnOf "_law_together" "_law_together" (q0z q3q) (q0y q3q) (q0j q3q) .none kV34 dc34 pm34 an34 cd34 ct34),sl34⟩) (c34:PySem.W.codeIn K cd34 "_law_together" = true) (k34:PySem.W.keepIn K (.ref f34)=true)
    (a35:PySem.W.nsIn K mainGlobals "_law_put" = some (some (.ref f35))) (l35:K.lookup f35=some ⟨oc35,od35,.func (PySem.W.fnOf "_law_put" "_law_put" (q0z sLput) (q0y sLput) (q0j sLput) .none kV35 dc35 pm35 an35 cd35 ct35),sl35⟩) (c35:PySem.W.codeIn K cd35 "_law_put" = true) (k35:PySem.W.keepIn K (.ref f35)=true)
    (a36:PySem.W.nsIn K mainGlobals "_law_done_apart" = some (some (.ref f36))) (l36:K.lookup f36=some ⟨oc36,od36,.func (PySem.W.fnOf "_law_done_apart" "_law_done_apart" (q0z q2v) (q0y q2v) (q0j q2v) .none kV36 dc36 pm36 an36 cd36 ct36),sl36⟩) (c36:PySem.W.codeIn K cd36 "_law_done_apart" = true) (k36:PySem.W.keepIn K (.ref f36)=true)
    (a37:PySem.W.nsIn K mainGlobals "_law_apart" = some (some (.ref f37))) (l37:K.lookup f37=some ⟨oc37,od37,.func (PySem.W.fnOf "_law_apart" "_law_apart" (q0z q7b) (q0y q7b) (q0j q7b) .none kV37 dc37 pm37 an37 cd37 ct37),sl37⟩) (c37:PySem.W.codeIn K cd37 "_law_apart" = true) (k37:PySem.W.keepIn K (.ref f37)=true)
    (a38:PySem.W.nsIn K mainGlobals "_law_done" = some (some (.ref f38))) (l38:K.lookup f38=some ⟨oc38,od38,.func (PySem.W.fnOf "_law_done" "_law_done" (q0z q9k) (q0y q9k) (q0j q9k) .none kV38 dc38 pm38 an38 cd38 ct38),sl38⟩) (c38:PySem.W.codeIn K cd38 "_law_done" = true) (k38:PySem.W.keepIn K (.ref f38)=true)
    (a39:PySem.W.nsIn K mainGlobals "_law_size" = some (some (.ref f39))) (l39:K.lookup f39=some ⟨oc39,od39,.func (PySem.W.fnOf "_law_size" "_law_size" (q0z q9e) (q0y q9e) (q0j q9e) .none kV39 dc39 pm39 an39 cd39 ct39),sl39⟩) (c39:PySem.W.codeIn K cd39 "_law_size" = true) (k39:PySem.W.keepIn K (.ref f39)=true)
    (a40:PySem.W.nsIn K mainGlobals "_law_going" = some (some (.ref f40))) (l40:K.lookup f40=some ⟨oc40,od40,.func (PySem.W.fnOf "_law_going" "_law_going" (q0z q7a) (q0y q7a) (q0j q7a) .none kV40 dc40 pm40 an40 cd40 ct40),sl40⟩) (c40:PySem.W.codeIn K cd40 "_law_going" = true) (k40:PySem.W.keepIn K (.ref f40)=true)
    (a41:PySem.W.nsIn K mainGlobals "plain_of" = some (some (.ref f41))) (l41:K.lookup f41=some ⟨oc41,od41,.func (PySem.W.fnOf "plain_of" "plain_of" (q0z q4m) (q0y q4m) (q0j q4m) .none kV41 dc41 pm41 an41 cd41 ct41),sl41⟩) (c41:PySem.W.codeIn K cd41 "plain_of" = true) (k41:PySem.W.keepIn K (.ref f41)=true)
    (a42:PySem.W.nsIn K mainGlobals "law" = some (some (.ref f42))) (l42:K.lookup f42=some ⟨oc42,od42,.func (PySem.W.fnOf "law" "law" (q0z slaw) (q0y slaw) (q0j slaw) .none kV42 dc42 pm42 an42 cd42 ct42),sl42⟩) (c42:PySem.W.codeIn K cd42 "law" = true) (k42:PySem.W.keepIn K (.ref f42)=true)
     {C_NoPlace:Addr}
    (xa_NoPlace:PySem.W.nsIn K mainGlobals "NoPlace" = some (some (.ref C_NoPlace)))
    (xe_NoPlace:PySem.W.excIn K C_NoPlace vErr "ValueError.__new__" = true)
    (z_all:PySem.W.nsIn K mainGlobals "all" = some none)
    (z_bool:PySem.W.nsIn K mainGlobals "bool" = some none)
    (z_int:PySem.W.nsIn K mainGlobals "int" = some none)
    (z_isinstance:PySem.W.nsIn K mainGlobals "isinstance" = some none)
    (z_len:PySem.W.nsIn K mainGlobals "len" = some none)
    (z_list:PySem.W.nsIn K mainGlobals "list" = some none)
    (z_max:PySem.W.nsIn K mainGlobals "max" = some none)
    (z_range:PySem.W.nsIn K mainGlobals "range" = some none)
    (z_reversed:PySem.W.nsIn K mainGlobals "reversed" = some none)
    (z_str:PySem.W.nsIn K mainGlobals "str" = some none)
    (z_sum:PySem.W.nsIn K mainGlobals "sum" = some none)
    (z_tuple:PySem.W.nsIn K mainGlobals "tuple" = some none)
    (z_zip:PySem.W.nsIn K mainGlobals "zip" = some none)
    : ∃fd:FuncData,(∀(s:Shared) (v:Value),BindsTo s fd ⟨[v],[]⟩ [("_law_script",v)])∧∀base:Heap,K.In base→base.Ns mainGlobals mg→FnOk l.prog w K mg base (CXE l.prog w) 200 fa fd ["_law_script"] (q0q K (tab 200).dlaw):=by
  have e:=hfa.symm.trans (PySem.W.mg_of X G a42)
  cases e
  have x_NoPlace:ExcC K mg "NoPlace" :=⟨⟨C_NoPlace,xa_NoPlace,PySem.W.mg_of X G xa_NoPlace,xe_NoPlace⟩⟩
  refine ⟨PySem.W.fnOf "law" "law" (q0z slaw) (q0y slaw) (q0j slaw) .none kV42 dc42 pm42 an42 cd42 ct42,fun s v=>.of_eq rfl,fun base _ _=>?_⟩
  have T:=good (P:=l.prog) (w:=w) (base:=base) (⟨q0t (st:=q9l) l0 c0 k0,PySem.W.mg_of X G a0,(q0t (st:=q9l) l0 c0 k0).binds (ps:=["_law_script"]) fun _ _ _ _ _ _=>q8j rfl fun _=>rfl⟩:Loc2 K mg "_law_deck" q9l ["_law_script"] _ _) (⟨q0t (st:=q9g) l1 c1 k1,PySem.W.mg_of X G a1,(q0t (st:=q9g) l1 c1 k1).binds (ps:=["_law_deck_here"]) fun _ _ _ _ _ _=>q8j rfl fun _=>rfl⟩:Loc2 K mg "_law_next" q9g ["_law_deck_here"] _ _) (⟨q0t (st:=q4p) l2 c2 k2,PySem.W.mg_of X G a2,(q0t (st:=q4p) l2 c2 k2).binds (ps:=["_law_number", "_law_size_here"]) fun _ _ _ _ _ _=>q9q rfl fun _ _=>rfl⟩:Loc2 K mg "_law_spelled" q4p ["_law_number", "_law_size_here"] _ _) (⟨q0t (st:=q9b) l3 c3 k3,PySem.W.mg_of X G a3,(q0t (st:=q9b) l3 c3 k3).binds (ps:=["_law_deck_here", "_law_words_here"]) fun _ _ _ _ _ _=>q9q rfl fun _ _=>rfl⟩:Loc2 K mg "_law_word" q9b ["_law_deck_here", "_law_words_here"] _ _) (⟨q0t (st:=q6x) l4 c4 k4,PySem.W.mg_of X G a4,(q0t (st:=q6x) l4 c4 k4).binds (ps:=["_law_deck_here", "_law_many"]) fun _ _ _ _ _ _=>q9q rfl fun _ _=>rfl⟩:Loc2 K mg "_law_words" q6x ["_law_deck_here", "_law_many"] _ _) (⟨q0t (st:=q6w) l5 c5 k5,PySem.W.mg_of X G a5,(q0t (st:=q6w) l5 c5 k5).binds (ps:=["_law_deck_here", "_law_uses_here", "_law_leaves"]) fun _ _ _ _ _ _=>len_3 rfl fun _ _ _=>rfl⟩:Loc2 K mg "_law_world" q6w ["_law_deck_here", "_law_uses_here", "_law_leaves"] _ _) (⟨q0t (st:=q9i) l6 c6 k6,PySem.W.mg_of X G a6,(q0t (st:=q9i) l6 c6 k6).binds (ps:=["_law_deck_here", "_law_basics", "_law_deep"]) fun _ _ _ _ _ _=>len_3 rfl fun _ _ _=>rfl⟩:Loc2 K mg "_law_kind" q9i ["_law_deck_here", "_law_basics", "_law_deep"] _ _) (⟨q0t (st:=sLfn) l7 c7 k7,PySem.W.mg_of X G a7,(q0t (st:=sLfn) l7 c7 k7).binds (ps:=["_law_deck_here", "_law_world_here", "_law_kind_here", "_law_around", "_law_deep"]) fun _ _ _ _ _ _=>len_5 rfl fun _ _ _ _ _=>rfl⟩:Loc2 K mg "_law_fn" sLfn ["_law_deck_here", "_law_world_here", "_law_kind_here", "_law_around", "_law_deep"] _ _) (⟨q0t (st:=sLof) l8 c8 k8,PySem.W.mg_of X G a8,(q0t (st:=sLof) l8 c8 k8).binds (ps:=["_law_deck_here", "_law_world_here", "_law_kind_here", "_law_around", "_law_deep"]) fun _ _ _ _ _ _=>len_5 rfl fun _ _ _ _ _=>rfl⟩:Loc2 K mg "_law_of" sLof ["_law_deck_here", "_law_world_here", "_law_kind_here", "_law_around", "_law_deep"] _ _) (⟨q0t (st:=q6y) l9 c9 k9,PySem.W.mg_of X G a9,(q0t (st:=q6y) l9 c9 k9).binds (ps:=["_law_kind_here"]) fun _ _ _ _ _ _=>q8j rfl fun _=>rfl⟩:Loc2 K mg "_law_width" q6y ["_law_kind_here"] _ _) (⟨q0t (st:=q9j) l10 c10 k10,PySem.W.mg_of X G a10,(q0t (st:=q9j) l10 c10 k10).binds (ps:=["_law_kind_here", "_law_cell"]) fun _ _ _ _ _ _=>q9q rfl fun _ _=>rfl⟩:Loc2 K mg "_law_form" q9j ["_law_kind_here", "_law_cell"] _ _) (⟨q0t (st:=q9h) l11 c11 k11,PySem.W.mg_of X G a11,(q0t (st:=q9h) l11 c11 k11).binds (ps:=["_law_world_here", "_law_kind_here", "_law_cell"]) fun _ _ _ _ _ _=>len_3 rfl fun _ _ _=>rfl⟩:Loc2 K mg "_law_lone" q9h ["_law_world_here", "_law_kind_here", "_law_cell"] _ _) (⟨q0t (st:=q9d) l12 c12 k12,PySem.W.mg_of X G a12,(q0t (st:=q9d) l12 c12 k12).binds (ps:=["_law_deck_here", "_law_world_here", "_law_kind_here", "_law_around", "_law_deep"]) fun _ _ _ _ _ _=>len_5 rfl fun _ _ _ _ _=>rfl⟩:Loc2 K mg "_law_term" q9d ["_law_deck_here", "_law_world_here", "_law_kind_here", "_law_around", "_law_deep"] _ _) (⟨q0t (st:=q4n) l13 c13 k13,PySem.W.mg_of X G a13,(q0t (st:=q4n) l13 c13 k13).binds (ps:=["part"]) fun _ _ _ _ _ _=>q8j rfl fun _=>rfl⟩:Loc2 K mg "is_to_do" q4n ["part"] _ _) (⟨q0t (st:=q4o) l14 c14 k14,PySem.W.mg_of X G a14,(q0t (st:=q4o) l14 c14 k14).binds (ps:=["part"]) fun _ _ _ _ _ _=>q8j rfl fun _=>rfl⟩:Loc2 K mg "inner_of" q4o ["part"] _ _) (⟨q0t (st:=q6u) l15 c15 k15,PySem.W.mg_of X G a15,(q0t (st:=q6u) l15 c15 k15).binds (ps:=["term"]) fun _ _ _ _ _ _=>q8j rfl fun _=>rfl⟩:Loc2 K mg "places" q6u ["term"] _ _) (⟨q0t (st:=q6r) l16 c16 k16,PySem.W.mg_of X G a16,(q0t (st:=q6r) l16 c16 k16).binds (ps:=["term", "place"]) fun _ _ _ _ _ _=>q9q rfl fun _ _=>rfl⟩:Loc2 K mg "way_to" q6r ["term", "place"] _ _) (⟨q0t (st:=q2b) l17 c17 k17,PySem.W.mg_of X G a17,(q0t (st:=q2b) l17 c17 k17).binds (ps:=["term"]) fun _ _ _ _ _ _=>q8j rfl fun _=>rfl⟩:Loc2 K mg "parts_and_fns" q2b ["term"] _ _) (⟨q0t (st:=q1t) l18 c18 k18,PySem.W.mg_of X G a18,(q0t (st:=q1t) l18 c18 k18).binds (ps:=["term", "news"]) fun _ _ _ _ _ _=>q9q rfl fun _ _=>rfl⟩:Loc2 K mg "with_bound_ones" q1t ["term", "news"] _ _) (⟨q0t (st:=q3e) l19 c19 k19,PySem.W.mg_of X G a19,(q0t (st:=q3e) l19 c19 k19).binds (ps:=["term"]) fun _ _ _ _ _ _=>q8j rfl fun _=>rfl⟩:Loc2 K mg "bound_ones" q3e ["term"] _ _) (⟨q0t (st:=q6s) l20 c20 k20,PySem.W.mg_of X G a20,(q0t (st:=q6s) l20 c20 k20).binds (ps:=["term", "more"]) fun _ _ _ _ _ _=>q9q rfl fun _ _=>rfl⟩:Loc2 K mg "raised" q6s ["term", "more"] _ _) (⟨q0t (st:=q5i) l21 c21 k21,PySem.W.mg_of X G a21,(q0t (st:=q5i) l21 c21 k21).binds (ps:=["k", "fns", "a"]) fun _ _ _ _ _ _=>len_3 rfl fun _ _ _=>rfl⟩:Loc2 K mg "put_for" q5i ["k", "fns", "a"] _ _) (⟨q0t (st:=q6t) l22 c22 k22,PySem.W.mg_of X G a22,(q0t (st:=q6t) l22 c22 k22).binds (ps:=["body", "a"]) fun _ _ _ _ _ _=>q9q rfl fun _ _=>rfl⟩:Loc2 K mg "put_in" q6t ["body", "a"] _ _) (⟨q0t (st:=q3d) l23 c23 k23,PySem.W.mg_of X G a23,(q0t (st:=q3d) l23 c23 k23).binds (ps:=["part", "k", "new"]) fun _ _ _ _ _ _=>len_3 rfl fun _ _ _=>rfl⟩:Loc2 K mg "with_inner" q3d ["part", "k", "new"] _ _) (⟨q0t (st:=q5k) l24 c24 k24,PySem.W.mg_of X G a24,(q0t (st:=q5k) l24 c24 k24).binds (ps:=["term", "place"]) fun _ _ _ _ _ _=>q9q rfl fun _ _=>rfl⟩:Loc2 K mg "done_at" q5k ["term", "place"] _ _) (⟨q0t (st:=q4l) l25 c25 k25,PySem.W.mg_of X G a25,(q0t (st:=q4l) l25 c25 k25).binds (ps:=["term"]) fun _ _ _ _ _ _=>q8j rfl fun _=>rfl⟩:Loc2 K mg "steps_of" q4l ["term"] _ _) (⟨q0t (st:=q9f) l26 c26 k26,PySem.W.mg_of X G a26,(q0t (st:=q9f) l26 c26 k26).binds (ps:=["_law_one", "_law_other"]) fun _ _ _ _ _ _=>q9q rfl fun _ _=>rfl⟩:Loc2 K mg "_law_same" q9f ["_law_one", "_law_other"] _ _) (⟨q0t (st:=q5l) l27 c27 k27,PySem.W.mg_of X G a27,(q0t (st:=q5l) l27 c27 k27).binds (ps:=["_law_term_here"]) fun _ _ _ _ _ _=>q8j rfl fun _=>rfl⟩:Loc2 K mg "_law_places" q5l ["_law_term_here"] _ _) (⟨q0t (st:=q6z) l28 c28 k28,PySem.W.mg_of X G a28,(q0t (st:=q6z) l28 c28 k28).binds (ps:=["_law_found", "_law_due"]) fun _ _ _ _ _ _=>q9q rfl fun _ _=>rfl⟩:Loc2 K mg "_law_truth" q6z ["_law_found", "_law_due"] _ _) (⟨q0t (st:=q2c) l29 c29 k29,PySem.W.mg_of X G a29,(q0t (st:=q2c) l29 c29 k29).binds (ps:=["term"]) fun _ _ _ _ _ _=>q8j rfl fun _=>rfl⟩:Loc2 K mg "is_plain_term" q2c ["term"] _ _) (⟨q0t (st:=q9c) l30 c30 k30,PySem.W.mg_of X G a30,(q0t (st:=q9c) l30 c30 k30).binds (ps:=["_law_term_here", "_law_around", "_law_uses_here"]) fun _ _ _ _ _ _=>len_3 rfl fun _ _ _=>rfl⟩:Loc2 K mg "_law_uses" q9c ["_law_term_here", "_law_around", "_law_uses_here"] _ _) (⟨q0t (st:=q4q) l31 c31 k31,PySem.W.mg_of X G a31,(q0t (st:=q4q) l31 c31 k31).binds (ps:=["_law_term_here"]) fun _ _ _ _ _ _=>q8j rfl fun _=>rfl⟩:Loc2 K mg "_law_sparing" q4q ["_law_term_here"] _ _) (⟨q0t (st:=q2d) l32 c32 k32,PySem.W.mg_of X G a32,(q0t (st:=q2d) l32 c32 k32).binds (ps:=["_law_form_here"]) fun _ _ _ _ _ _=>q8j rfl fun _=>rfl⟩:Loc2 K mg "_law_kind_of_form" q2d ["_law_form_here"] _ _) (⟨q0t (st:=q4r) l33 c33 k33,PySem.W.mg_of X G a33,(q0t (st:=q4r) l33 c33 k33).binds (ps:=["_law_known", "_law_term_here", "_law_around"]) fun _ _ _ _ _ _=>len_3 rfl fun _ _ _=>rfl⟩:Loc2 K mg "_law_kind_of" q4r ["_law_known", "_law_term_here", "_law_around"] _ _) (⟨q0t (st:=q3q) l34 c34 k34,PySem.W.mg_of X G a34,(q0t (st:=q3q) l34 c34 k34).binds (ps:=["_law_term_here", "_law_around"]) fun _ _ _ _ _ _=>q9q rfl fun _ _=>rfl⟩:Loc2 K mg "_law_together" q3q ["_law_term_here", "_law_around"] _ _) (⟨q0t (st:=sLput) l35 c35 k35,PySem.W.mg_of X G a35,(q0t (st:=sLput) l35 c35 k35).binds (ps:=["_law_term_here", "_law_own", "_law_thing"]) fun _ _ _ _ _ _=>len_3 rfl fun _ _ _=>rfl⟩:Loc2 K mg "_law_put" sLput ["_law_term_here", "_law_own", "_law_thing"] _ _) (⟨q0t (st:=q2v) l36 c36 k36,PySem.W.mg_of X G a36,(q0t (st:=q2v) l36 c36 k36).binds (ps:=["_law_term_here", "_law_place"]) fun _ _ _ _ _ _=>q9q rfl fun _ _=>rfl⟩:Loc2 K mg "_law_done_apart" q2v ["_law_term_here", "_law_place"] _ _) (⟨q0t (st:=q7b) l37 c37 k37,PySem.W.mg_of X G a37,(q0t (st:=q7b) l37 c37 k37).binds (ps:=["_law_term_here", "_law_around", "_law_count"]) fun _ _ _ _ _ _=>len_3 rfl fun _ _ _=>rfl⟩:Loc2 K mg "_law_apart" q7b ["_law_term_here", "_law_around", "_law_count"] _ _) (⟨q0t (st:=q9k) l38 c38 k38,PySem.W.mg_of X G a38,(q0t (st:=q9k) l38 c38 k38).binds (ps:=["_law_term_here", "_law_place"]) fun _ _ _ _ _ _=>q9q rfl fun _ _=>rfl⟩:Loc2 K mg "_law_done" q9k ["_law_term_here", "_law_place"] _ _) (⟨q0t (st:=q9e) l39 c39 k39,PySem.W.mg_of X G a39,(q0t (st:=q9e) l39 c39 k39).binds (ps:=["_law_term_here"]) fun _ _ _ _ _ _=>q8j rfl fun _=>rfl⟩:Loc2 K mg "_law_size" q9e ["_law_term_here"] _ _) (⟨q0t (st:=q7a) l40 c40 k40,PySem.W.mg_of X G a40,(q0t (st:=q7a) l40 c40 k40).binds (ps:=["_law_found", "_law_known", "_law_kind_here"]) fun _ _ _ _ _ _=>len_3 rfl fun _ _ _=>rfl⟩:Loc2 K mg "_law_going" q7a ["_law_found", "_law_known", "_law_kind_here"] _ _) (⟨q0t (st:=q4m) l41 c41 k41,PySem.W.mg_of X G a41,(q0t (st:=q4m) l41 c41 k41).binds (ps:=["term"]) fun _ _ _ _ _ _=>q8j rfl fun _=>rfl⟩:Loc2 K mg "plain_of" q4m ["term"] _ _) (⟨q0t (st:=slaw) l42 c42 k42,PySem.W.mg_of X G a42,(q0t (st:=slaw) l42 c42 k42).binds (ps:=["_law_script"]) fun _ _ _ _ _ _=>q8j rfl fun _=>rfl⟩:Loc2 K mg "law" slaw ["_law_script"] _ _) (PySem.W.mg_none_of X G z_all) (PySem.W.mg_none_of X G z_bool) (PySem.W.mg_none_of X G z_int) (PySem.W.mg_none_of X G z_isinstance) (PySem.W.mg_none_of X G z_len) (PySem.W.mg_none_of X G z_list) (PySem.W.mg_none_of X G z_max) (PySem.W.mg_none_of X G z_range) (PySem.W.mg_none_of X G z_reversed) (PySem.W.mg_none_of X G z_str) (PySem.W.mg_none_of X G z_sum) (PySem.W.mg_none_of X G z_tuple) (PySem.W.mg_none_of X G z_zip) x_NoPlace 200
  exact (T.2.2.2.2.2.2.2.2.2.2.2.2.2.2.2.2.2.2.2.2.2.2.2.2.2.2.2.2.2.2.2.2.2.2.2.2.2.2.2.2.2.2).G
theorem walk {l:PySem.W.OpenLaw} {q:Program} {loose:List Str} {XP:(Str→Option Value)→Heap→Prop} {YP:World→Heap→Prop} {d:DefRec} {K:Params→PySem.W.Frag} (hlaw:LawP (tab 200).dlaw) (hn:l.most=some 63) (hdf:d.params.defaults=[])
  (hY:∀(w:World) (h:Heap),YP w h→(K w.params).In h)
  (F:∀(w:World) (mg:Str→Option Value) (fa:Addr) (h:Heap),(K w.params).In h→h.Ns mainGlobals mg→mg d.name=some (.ref fa)→
   ∃fd:FuncData,(∀(s:Shared) (u:Value),BindsTo s fd ⟨[u],[]⟩ [("_law_script",u)])∧∀base:Heap,(K w.params).In base→base.Ns mainGlobals mg→FnOk l.prog w (K w.params) mg base (CXE l.prog w) 200 fa fd ["_law_script"] (q0q (K w.params) (tab 200).dlaw)) :
  PySem.W.WalkO q loose XP YP l.row.toRowW d [] (fun f vs=>PySem.call f vs):=
 L2.walk_of (n:=63) (k:=200) (x:= "_law_script") (CX:=fun w=>CXE l.prog w) (sp:=fun w=>q0q (K w.params) (tab 200).dlaw) hn (by decide) hdf ⟨rfl,by decide,by decide⟩ hY F (fun _ H a ns hl hO hS=>law_sp hlaw H a ns hl hO hS) fun _ _ _ _ _ hh1=>by obtain ⟨_,_,_,_,_,_,_,_,_,_,_,z⟩:=hh1; exact (z)
end
theorem k_next (n:Nat):NextD (tab (n+1)).dLnext:=next_ok
theorem k_spelled (n:Nat):SpelledD (tab (n+1)).dLspelled:=spelled_ok
theorem k_word (n:Nat):WordD2 (tab (n+2)).dLword:=word_ok2 (k_next n) (k_spelled n)
theorem k_words (n:Nat):WordsD (tab (n+3)).dLwords:=words_ok (word_of2 (k_word n))
theorem k_deck (n:Nat):DeckD (tab (n+1)).dLdeck:=deck_ok
theorem k_world (n:Nat):WorldQ (tab (n+4)).dLworld:=world_ok2 (k_words n)
theorem k_kind (n:Nat):KindP (tab (n+4)).dLkind:=fun d c b ws S E Q h1 h2 h3 h4 h5 h6=>kind_ok (T:=fun n=>(tab n).dLkind) (N:=fun n=>(tab n).dLnext) (fun _=>rfl) (fun n=>k_next n) 2 (n+4) (by omega) d c b ws S E Q h1 h2 h3 h4 h5 h6
theorem k_lone (n:Nat):LoneQ (tab (n+9)).dLlone:=lone_ok2 (fun k S E Q h1 h2=>width_ok (T:=fun n=>(tab n).dLwidth) (fun _=>rfl) k (n+8) (by omega) S E Q h2) (fun k x S E Q h1 h2=>form_ok2 (T:=fun n=>(tab n).dLform) (fun _=>rfl) k (n+8) (by omega) x S E Q h2) (k_word (n+6))
theorem k_term:∀(dd n:Nat),dd≤5→TermQ (tab (n+10+3*dd)).dLterm dd
 | 0,n,_=>term_ok2 (k_next (n+8)) (k_lone n) (fun e h=>by omega) (fun e h=>by omega) (by omega)
 | dd+1,n,h5=>by
  have ih:=fun n=>k_term dd n (by omega)
  rw [show n+10+3*(dd+1)=n+10+3*dd+2+1 by omega]
  have hf:∀j,FnQ (tab (j+10+3*dd+1)).dLfn dd:=fun j=>fn_ok2 (ih j)
  refine term_ok2 (k_next (n+10+3*dd+1)) (by have:=k_lone (n+3+3*dd); rw [show n+3+3*dd+9=n+10+3*dd+2 by omega] at this; exact this) (fun e h=>?_) (fun e h=>?_) h5
  ·obtain rfl:e=dd:=by omega
   have:=hf (n+1)
   rw [show n+1+10+3*e+1=n+10+3*e+2 by omega] at this
   exact this
  ·obtain rfl:e=dd:=by omega
   refine of_ok2 (by have:=k_kind (n+7+3*e); rw [show n+7+3*e+4=n+10+3*e+1 by omega] at this; exact this) (k_next (n+10+3*e)) (hf n) ?_
   have:=ih (n+1)
   rw [show n+1+10+3*e=n+10+3*e+1 by omega] at this
   exact this
theorem k_parts (n:Nat):PartsD (tab (n+1)).dparts_and_fns:=parts_ok
theorem k_wbo (n:Nat):WboD (tab (n+2)).dwith_bound_ones:=wbo_ok (k_parts n)
theorem k_bo (n:Nat):BoD (tab (n+2)).dbound_ones:=bo_ok (k_parts n)
theorem k_raised (n:Nat):RaisedD (tab (n+3)).draised:=raised_ok (k_wbo n) (k_bo n)
theorem k_putfor (n:Nat):PutForD (tab (n+4)).dput_for:=putfor_ok (k_raised n)
theorem k_putin (n:Nat):PutInD (tab (n+5)).dput_in:=putin_ok (k_wbo (n+2)) (k_putfor n) (k_bo (n+2))
theorem k_way (n:Nat):WayD (tab (n+2)).dway_to:=way_ok (inner_ok)
theorem k_done (n:Nat):DoneD (tab (n+6)).ddone_at:=done_ok (k_way (n+3)) (fun _ _ _ _ _ _ h=>todo_ok h) (k_putin n) (fun _ _ _ _ _ _ h1 h2=>within_ok h1 h2)
theorem k_pls (n:Nat):PlsD (tab (n+2)).dplaces:=pls_ok todo_okV in_ok
theorem k_steps (n:Nat):StepsD (tab (n+7)).dsteps_of:=steps_ok (k_pls (n+4)) (k_done n)
theorem k_ldone:LDoneD (tab 198).dLdone:=ldone_ok2 (fun x hx p S E Q e1 e2 e4=>together_ok (T:=fun n=>(tab n).dLtogether) (fun _=>rfl) x 197 (by omega) [] p S E Q e1 e2 (by simp) (by simp; omega) e4) (fun hP hg hd S E Q h=>dapart_ok (T:=fun n=>(tab n).dLdone_apart) (P:=fun n=>(tab n).dLput) (fun _=>rfl) (fun n o x y d1 d2 d3=>put_ok (T:=fun n=>(tab n).dLput) (fun _=>rfl) o y x n d1 d2 d3) hP [] 0 197 _ hg (by omega) (by omega) S E Q h) (fun t d1 d2 d3 p q S E Q e1 e2 e3 e4=>apart_ok (T:=fun n=>(tab n).dLapart) (fun _=>rfl) q t 197 (by omega) [] 0 p [] S E Q e1 e2 rfl e3 d2 (by simpa using d3) (by simpa using d3) fun _ S' _ _ hx=>e4 S' hx)
theorem k_lpls:LPlsD (tab 198).dLplaces:=fun t h1 h2=>lpl_ok (T:=fun n=>(tab n).dLplaces) (fun _=>rfl) t 198 (by omega) (by omega) h2
theorem k_lsz:LSzD (tab 198).dLsize:=fun t h1=>size_ok (T:=fun n=>(tab n).dLsize) (fun _=>rfl) t 198 (by omega)
theorem k_same (n:Nat) (h:130≤n):SameD (tab n).dLsame:=fun x h1 h2=>same_pv (T:=fun n=>(tab n).dLsame) (fun _=>rfl) n x h1 (by omega)
theorem k_uses:UsesD (tab 197).dLuses 140:=fun q t ht hz p S E Q h1 h2 h3 h4=>uses_ok (T:=fun n=>(tab n).dLuses) (fun _=>rfl) q t 197 (by omega) 0 [] [] [] (fun _=>0) p S E Q h1 h2 h3 (by simp) (by simp) rfl (by simp; omega) (by simp; omega) (fun _ _=>rfl) h4
theorem k_lsp:LSpD (tab 198).dLsparing 140:=lsp_ok k_uses
theorem k_kof:KofD (tab 198).dLkind_of:=fun ps t k q a S E Q h1 h2 h3 h4 h5 h6=>kof_ok (T:=fun n=>(tab n).dLkind_of) (F:=fun n=>(tab n).dLkind_of_form) (fun _=>rfl) (fun n f k hf hk S E Q h=>kfk_ok (T:=fun n=>(tab n).dLkind_of_form) (fun _=>rfl) hf n hk S E Q h) h1 h2 198 q a S E Q (by omega) (by omega) (by simp; omega) (by simp) h4 h5 h6
theorem k_ipl:IplD2 (tab 198).dis_plain_term:=ipl_ok2 (k_pls 195)
theorem k_going:GoingD (tab 199).dLgoing:=going_ok k_lpls (fun a b S E Q h=>truth_ok a b S E Q h) k_ipl k_lsp k_kof (k_same 198 (by decide)) k_ldone k_lsz
theorem law_ok : LawP (tab 200).dlaw := by
  intro ns hns
  have hdeck := k_deck 198
  have hworld := k_world 195
  have hkind := k_kind 195
  have hterm : TermQ (tab 199).dLterm 5 := k_term 5 174 (by omega)
  have hsteps := k_steps 192
  have hplain : PlainD (tab 199).dplain_of := plain_ok (k_steps 191)
  have hsame := k_same 199 (by decide)
  have hgoing := k_going
  show fnP 1 10 (q6c (tab 199).dLdeck (tab 199).dLworld (tab 199).dLkind (tab 199).dLterm (tab 199).dsteps_of (tab 199).dLsame (tab 199).dLgoing (tab 199).dplain_of) _ _ _ _
  generalize (tab 199).dLdeck = s1, (tab 199).dLworld = s2, (tab 199).dLkind = s3, (tab 199).dLterm = s4, (tab 199).dsteps_of = s5, (tab 199).dLsame = s6, (tab 199).dLgoing = s7, (tab 199).dplain_of = s8 at *
  refine ⟨rfl, ?_⟩
  unfold q6c
  refine seqI fun K hK => ?_
  dsimp! [true_and]
  refine hdeck ns _ _ _ hns fun d c S1 hd1 _ _ _ => hK _ _ ?_
  clear hK K
  refine seqI fun K hK => ?_
  dsimp! [true_and]
  refine hworld d c 1 _ _ _ hd1 fun w b m S3 hW3 => hK _ _ ?_
  clear hK K
  have gw := hW3.wd
  obtain ⟨ws, gb, hws⟩ := hW3.bs
  refine seqI fun K hK => ?_
  dsimp! [gw, wk_basics]
  refine hkind d c b ws _ _ _ hW3.dk gb (by rintro rfl; simp at hws) hW3.ne.2.1.1 hW3.ne.2.1.2 fun k S4 k2 hd4 hx4 => hK _ _ ?_
  clear hK K
  have hW4 := hW3.nx hd4 hx4
  refine seqI fun K hK => ?_
  dsimp! [true_and]
  refine ⟨big (by decide), ?_⟩
  refine hterm w b m d c 1 S4.length [] [] (fun _ => 0) k _ _ _ (hW4.new _) (fresh_at hW4 _) (by decide) (by omega) (by decide) fun t qs g' S5 t1 t2 t3 t4 hW5 _ => hK _ _ ?_
  clear hK K
  have tz : t.sz ≤ 94 := by have : 3 * 2 ^ 5 = 96 := by decide
                            omega
  have tn := nd_sz t
  rw [List.nil_append] at hW5 t3
  have T0 : Th qs k t := ⟨t3.af, t3.ty, by omega, tz⟩
  have q32 : qs.length ≤ 32 := by have : 2 ^ 5 = 32 := by decide
                                  omega
  clear t1 t2 t3 t4 hW3 hW4 gw gb hd4 hx4 hd1
  refine seqI fun K hK => ?_
  dsimp! [true_and]
  refine hK _ _ ?_
  clear hK K
  have gw := hW5.wd
  have gm := hW5.nm
  have l5 := hW5.lt
  have gw6 := q1m gw [SO.dK []]
  have gm6 := q1m gm [SO.dK []]
  have gd6 := q1f S5 (SO.dK [])
  refine seqI fun K hK => ?_
  dsimp! [gw6, z0q, q1c gm6]
  refine forI (fun rest σ S6 => ∃ (us vs : List (Str × Kd)) (kvs : List (Key × PV)) (j6 j7 : Option PV), rest = us.map encN ∧ vs ++ us = qs ∧ σ = [some (.frl (ns.map .int)), some (.ref d), some (.ref w), some k.pv, some t.pv, some (.ref S5.length), j6, j7, none, none] ∧ S6[m]? = some (.lst (qs.map encN)) ∧ S6[S5.length]? = some (.dK kvs) ∧ kvs.length ≤ vs.length ∧ (∀ p ∈ vs, valP kvs (.inr p.1) = some p.2.pv)) ?_ ?_ _ _ _ ⟨qs, [], [], none, none, rfl, rfl, rfl, gm6, gd6, Nat.le_refl _, by simp⟩
  case refine_2 =>
    rintro x rest σ S6 ⟨us, vs, kvs, j6, j7, hr, hvs, rfl, g1, g2, g3, g4⟩ N hN
    obtain ⟨p, us, rfl⟩ : ∃ p r, us = p :: r := by
      cases us with
      | nil => simp at hr
      | cons a b => exact ⟨a, b, rfl⟩
    simp only [List.map_cons, List.cons.injEq] at hr
    obtain ⟨rfl, rfl⟩ := hr
    have hvl := congrArg List.length hvs
    simp only [List.length_append, List.length_cons] at hvl
    refine ⟨q1c g1, ?_⟩
    dsimp! [encN, g2]
    refine ⟨bigl (by omega), ?_⟩
    refine hN _ _ ⟨us, vs ++ [p], putP kvs (.inr p.1) p.2.pv, _, _, rfl, by rw [← hvs]; simp, rfl, q2r _ g1 (by omega), q1v _ g2, ?_, ?_⟩
    · have := pP_len kvs (.inr p.1) p.2.pv
      simp only [List.length_append, List.length_singleton]; omega
    · intro p' hp'
      rcases List.mem_append.mp hp' with z | z
      · have hne : p'.1 ≠ p.1 := fun y => by
          have nd := hW5.nd
          rw [← hvs, List.map_append, List.nodup_append] at nd
          exact nd.2.2 p'.1 (List.mem_map.mpr ⟨p', z, rfl⟩) p.1 (by simp) y
        rw [vP_other _ _ _ _ (by simpa using hne)]
        exact g4 p' z
      · rw [List.mem_singleton] at z
        subst z
        exact vP_same _ _ _
  rintro σ S6 ⟨us, vs, kvs, j6, j7, hr, hvs, rfl, g1, g2, g3, g4⟩
  obtain rfl : us = [] := by cases us with
    | nil => rfl
    | cons a b => simp at hr
  rw [List.append_nil] at hvs
  subst hvs
  refine ⟨q1c g1, hK _ _ ?_⟩
  clear hK K
  have kn : Kn vs S5.length S6 := ⟨kvs, g2, fun w' k' hk' => by
    unfold lkN at hk'
    cases q : vs.find? fun p => decide (p.1 = w') with
    | none => rw [q] at hk'; cases hk'
    | some p =>
      rw [q] at hk'
      cases hk'
      have := g4 p (List.mem_of_find?_eq_some q)
      have e : p.1 = w' := by simpa using List.find?_some q
      rw [e] at this
      exact this⟩
  have hps : ∀ p ∈ vs, p.2.dp ≤ 20 := fun p hp => (hW5.ok p hp).2
  have tg0 := T0.gd
  have tnd := T0.nd
  refine seqI fun K hK => ?_
  dsimp! [true_and]
  refine hsteps t _ _ _ T0.af (by omega) (by omega) fun r L S7 e7 hr7 hL hll hx7 => hK _ _ ?_
  clear hK K
  have kn7 : Kn vs S5.length S7 := by obtain ⟨kvs, a, b⟩ := kn; exact ⟨kvs, hx7.get a (by simp), b⟩
  obtain ⟨M, eM⟩ := hL.ne
  have hTL : ∀ u ∈ L, u.gd 0 ∧ u.nd ≤ 158 := fun u hu => by
    obtain ⟨i, hi, e⟩ := List.getElem_of_mem hu
    have := (hL.at i u (by rw [List.getElem?_eq_getElem hi, e])).1
    have Tu := T0.rs this
    have := Tu.nd
    exact ⟨Tu.gd, by omega⟩
  obtain ⟨eq1, eq2⟩ := eqBs_tms L hTL
  have nE : eqBs (L.map Tm.pv) [] = false := by rw [eM]; rfl
  refine seqI fun K hK => ?_
  have e7' := q1m e7 [SO.lst []]
  have hx7' : Ex [] S7 (S7 ++ [SO.lst []]) := Ex.new [] _ _
  have at0 : atI (L.map Tm.pv) 0 = some t.pv := by rw [eM]; exact q0g _ _
  dsimp! [e7, q1c e7', nE]
  refine ⟨big (by decide), eq2, ?_⟩
  dsimp! [e7', at0]
  refine same_tm hsame tg0 (by omega) fun S8 hx8 => ?_
  dsimp! [true_and]
  refine hK _ _ ?_
  clear hK K
  have hx78 : Ex [] S7 S8 := hx7'.trans hx8
  have e8 := hx78.get e7 (by simp)
  have kn8 : Kn vs S5.length S8 := by obtain ⟨kvs, a, b⟩ := kn7; exact ⟨kvs, hx78.get a (by simp), b⟩
  refine seqI fun K hK => ?_
  dsimp! [true_and]
  refine hgoing vs k t L r S5.length _ _ _ hps (by omega) T0 hL hll e8 kn8 fun S9 hx9 => ?_
  have e9 := hx9.get e8 (by simp)
  obtain ⟨M2, u, eL, hu, nu⟩ := hL.last
  have e9' : S9[r]? = some (.lst (M2.map Tm.pv ++ [u.pv])) := by rw [e9, eL]; simp
  dsimp! [e9', q8c]
  have Tu := T0.rs hu
  refine hplain t _ _ _ T0.af (by omega) (by omega) fun v S10 hv nv hx10 => ?_
  have : v = u := nf_uniq t.sz t (Nat.le_refl _) T0.af v u hv nv hu nu
  subst this
  refine same_tm hsame Tu.gd Tu.nd fun S11 hx11 => ?_
  dsimp! [true_and]
  refine hK _ _ ?_
  clear hK K
  have e11 := (hx10.trans hx11).get e9 (by simp)
  refine seqI fun K hK => ?_
  dsimp! [q1c e11]
  refine hK _ _ ?_
  clear hK K
  have e12 := q1m e11 [SO.lst (L.map Tm.pv)]
  have f12 := q1f S11 (SO.lst (L.map Tm.pv))
  have l11 := q2k e11
  refine seqI fun K hK => ?_
  dsimp! [e12, q1g e12]
  refine hK _ _ ?_
  clear hK K
  have f13 := q2r (.lst []) f12 (show r ≠ S11.length by omega)
  dsimp! [true_and]
  refine hsteps t _ _ _ T0.af (by omega) (by omega) fun r' L' S14 e14 hr14 hL' _ hx14 => ?_
  have f14 := hx14.get f13 (by simp)
  have : L' = L := hL.uniq hL'
  subst this
  dsimp! [q1c e14, q1c f14, eq1]
  exact eq2
end My
open PySem PySem.W PyProof.Rows
def PySem.W.Fast.tw12634805701044303454:Unit:=()
def PySem.W.Fast.tw599380206075977018:Unit:=()
def PySem.W.Fast.tw4335479672568023394:Unit:=()
def PySem.W.Fast.tw14285419463250095463:Unit:=()
def PySem.W.Fast.tw2897386689793147167:Unit:=()
def PySem.W.Fast.tw7100189911246043259:Unit:=()
def PySem.W.Fast.tw11736346216007658658:Unit:=()
def PySem.W.Fast.tw17568662790837950047:Unit:=()
def PySem.W.Fast.tw5290493064302243607:Unit:=()
def PySem.W.Fast.tw3673498207072267247:Unit:=()
def PySem.W.Fast.tw4969420101087344607:Unit:=()
def PySem.W.Fast.tw12967847767837323630:Unit:=()
def PySem.W.Fast.tw7656147610924851261:Unit:=()
def PySem.W.Fast.tw884142323041588682:Unit:=()
def PySem.W.Fast.tw13928862286390517412:Unit:=()
def PySem.W.Fast.tw13203824072072701980:Unit:=()
def PySem.W.Fast.tw1878082479891527366:Unit:=()
def PySem.W.Fast.tw5203615620493957950:Unit:=()
def PySem.W.Fast.tw18010380965045387416:Unit:=()
def PySem.W.Fast.tw532375809224934595:Unit:=()
def PySem.W.Fast.tw11489079830536040712:Unit:=()
def PySem.W.Fast.tw15123405088739821063:Unit:=()
def PySem.W.Fast.tw14611018172113231131:Unit:=()
def PySem.W.Fast.tw2787244329815671684:Unit:=()
def PySem.W.Fast.tw2788328403641017096:Unit:=()
def PySem.W.Fast.tw2196533623629402129:Unit:=()
def PySem.W.Fast.tw5798944569604228065:Unit:=()
def PySem.W.Fast.tw7491357765448475581:Unit:=()
def PySem.W.Fast.tw8650363729693852280:Unit:=()
def PySem.W.Fast.tw12730000702655477846:Unit:=()
def PySem.W.Fast.tw5080821884391084111:Unit:=()
def PySem.W.Fast.tw10945681617595131079:Unit:=()
def PySem.W.Fast.tw3710726557174162641:Unit:=()
def PySem.W.Fast.tw6594909121761384066:Unit:=()
def PySem.W.Fast.tw3137178075995340309:Unit:=()
def PySem.W.Fast.tw15885568466583008022:Unit:=()
def PySem.W.Fast.tw11823962994829331388:Unit:=()
def PySem.W.Fast.tw16093409974296144126:Unit:=()
def PySem.W.Fast.tw2100381204075667188:Unit:=()
def PySem.W.Fast.tw3317145113089665668:Unit:=()
def PySem.W.Fast.tw10374948476148990419:Unit:=()
def PySem.W.Fast.tw14781362262029043784:Unit:=()
def PySem.W.Fast.tw7698596999266712922:Unit:=()
def PySem.W.Fast.tw15581843072520439805:Unit:=()
def PySem.W.Fast.tw5272263671817620004:Unit:=()
def PySem.W.Fast.tw17472173125934257689:Unit:=()
def PySem.W.Fast.tw4311988718895357028:Unit:=()
set_option maxRecDepth 100000 in
set_option maxHeartbeats 0 in
theorem PySem.Challenge.cw_slashwise_k16_whole_steps_holds : PySem.Challenge.rw_slashwise_k16_whole_steps.Holds := by
 w_on; o_law; k_head; (case hw => w_witness2)
 k_fill
 refine My.walk (l := PySem.Challenge.rw_slashwise_k16_whole_steps) My.law_ok rfl rfl (fun w h Y => PySem.W.kIn_of Y) ?F
 case F =>
  intro w mg fa h KX G hmg
  refine' My.all_mk KX G hmg ?a0 ?l0 ?c0 ?k0 ?a1 ?l1 ?c1 ?k1 ?a2 ?l2 ?c2 ?k2 ?a3 ?l3 ?c3 ?k3 ?a4 ?l4 ?c4 ?k4 ?a5 ?l5 ?c5 ?k5 ?a6 ?l6 ?c6 ?k6 ?a7 ?l7 ?c7 ?k7 ?a8 ?l8 ?c8 ?k8 ?a9 ?l9 ?c9 ?k9 ?a10 ?l10 ?c10 ?k10 ?a11 ?l11 ?c11 ?k11 ?a12 ?l12 ?c12 ?k12 ?a13 ?l13 ?c13 ?k13 ?a14 ?l14 ?c14 ?k14 ?a15 ?l15 ?c15 ?k15 ?a16 ?l16 ?c16 ?k16 ?a17 ?l17 ?c17 ?k17 ?a18 ?l18 ?c18 ?k18 ?a19 ?l19 ?c19 ?k19 ?a20 ?l20 ?c20 ?k20 ?a21 ?l21 ?c21 ?k21 ?a22 ?l22 ?c22 ?k22 ?a23 ?l23 ?c23 ?k23 ?a24 ?l24 ?c24 ?k24 ?a25 ?l25 ?c25 ?k25 ?a26 ?l26 ?c26 ?k26 ?a27 ?l27 ?c27 ?k27 ?a28 ?l28 ?c28 ?k28 ?a29 ?l29 ?c29 ?k29 ?a30 ?l30 ?c30 ?k30 ?a31 ?l31 ?c31 ?k31 ?a32 ?l32 ?c32 ?k32 ?a33 ?l33 ?c33 ?k33 ?a34 ?l34 ?c34 ?k34 ?a35 ?l35 ?c35 ?k35 ?a36 ?l36 ?c36 ?k36 ?a37 ?l37 ?c37 ?k37 ?a38 ?l38 ?c38 ?k38 ?a39 ?l39 ?c39 ?k39 ?a40 ?l40 ?c40 ?k40 ?a41 ?l41 ?c41 ?k41 ?a42 ?l42 ?c42 ?k42 ?xa_NoPlace ?xe_NoPlace ?z_all ?z_bool ?z_int ?z_isinstance ?z_len ?z_list ?z_max ?z_range ?z_reversed ?z_str ?z_sum ?z_tuple ?z_zip
  (case a0 => k_is)
  (case l0 => k_is)
  (case c0 => k_is)
  (case k0 => k_is)
  (case a1 => k_is)
  (case l1 => k_is)
  (case c1 => k_is)
  (case k1 => k_is)
  (case a2 => k_is)
  (case l2 => k_is)
  (case c2 => k_is)
  (case k2 => k_is)
  (case a3 => k_is)
  (case l3 => k_is)
  (case c3 => k_is)
  (case k3 => k_is)
  (case a4 => k_is)
  (case l4 => k_is)
  (case c4 => k_is)
  (case k4 => k_is)
  (case a5 => k_is)
  (case l5 => k_is)
  (case c5 => k_is)
  (case k5 => k_is)
  (case a6 => k_is)
  (case l6 => k_is)
  (case c6 => k_is)
  (case k6 => k_is)
  (case a7 => k_is)
  (case l7 => k_is)
  (case c7 => k_is)
  (case k7 => k_is)
  (case a8 => k_is)
  (case l8 => k_is)
  (case c8 => k_is)
  (case k8 => k_is)
  (case a9 => k_is)
  (case l9 => k_is)
  (case c9 => k_is)
  (case k9 => k_is)
  (case a10 => k_is)
  (case l10 => k_is)
  (case c10 => k_is)
  (case k10 => k_is)
  (case a11 => k_is)
  (case l11 => k_is)
  (case c11 => k_is)
  (case k11 => k_is)
  (case a12 => k_is)
  (case l12 => k_is)
  (case c12 => k_is)
  (case k12 => k_is)
  (case a13 => k_is)
  (case l13 => k_is)
  (case c13 => k_is)
  (case k13 => k_is)
  (case a14 => k_is)
  (case l14 => k_is)
  (case c14 => k_is)
  (case k14 => k_is)
  (case a15 => k_is)
  (case l15 => k_is)
  (case c15 => k_is)
  (case k15 => k_is)
  (case a16 => k_is)
  (case l16 => k_is)
  (case c16 => k_is)
  (case k16 => k_is)
  (case a17 => k_is)
  (case l17 => k_is)
  (case c17 => k_is)
  (case k17 => k_is)
  (case a18 => k_is)
  (case l18 => k_is)
  (case c18 => k_is)
  (case k18 => k_is)
  (case a19 => k_is)
  (case l19 => k_is)
  (case c19 => k_is)
  (case k19 => k_is)
  (case a20 => k_is)
  (case l20 => k_is)
  (case c20 => k_is)
  (case k20 => k_is)
  (case a21 => k_is)
  (case l21 => k_is)
  (case c21 => k_is)
  (case k21 => k_is)
  (case a22 => k_is)
  (case l22 => k_is)
  (case c22 => k_is)
  (case k22 => k_is)
  (case a23 => k_is)
  (case l23 => k_is)
  (case c23 => k_is)
  (case k23 => k_is)
  (case a24 => k_is)
  (case l24 => k_is)
  (case c24 => k_is)
  (case k24 => k_is)
  (case a25 => k_is)
  (case l25 => k_is)
  (case c25 => k_is)
  (case k25 => k_is)
  (case a26 => k_is)
  (case l26 => k_is)
  (case c26 => k_is)
  (case k26 => k_is)
  (case a27 => k_is)
  (case l27 => k_is)
  (case c27 => k_is)
  (case k27 => k_is)
  (case a28 => k_is)
  (case l28 => k_is)
  (case c28 => k_is)
  (case k28 => k_is)
  (case a29 => k_is)
  (case l29 => k_is)
  (case c29 => k_is)
  (case k29 => k_is)
  (case a30 => k_is)
  (case l30 => k_is)
  (case c30 => k_is)
  (case k30 => k_is)
  (case a31 => k_is)
  (case l31 => k_is)
  (case c31 => k_is)
  (case k31 => k_is)
  (case a32 => k_is)
  (case l32 => k_is)
  (case c32 => k_is)
  (case k32 => k_is)
  (case a33 => k_is)
  (case l33 => k_is)
  (case c33 => k_is)
  (case k33 => k_is)
  (case a34 => k_is)
  (case l34 => k_is)
  (case c34 => k_is)
  (case k34 => k_is)
  (case a35 => k_is)
  (case l35 => k_is)
  (case c35 => k_is)
  (case k35 => k_is)
  (case a36 => k_is)
  (case l36 => k_is)
  (case c36 => k_is)
  (case k36 => k_is)
  (case a37 => k_is)
  (case l37 => k_is)
  (case c37 => k_is)
  (case k37 => k_is)
  (case a38 => k_is)
  (case l38 => k_is)
  (case c38 => k_is)
  (case k38 => k_is)
  (case a39 => k_is)
  (case l39 => k_is)
  (case c39 => k_is)
  (case k39 => k_is)
  (case a40 => k_is)
  (case l40 => k_is)
  (case c40 => k_is)
  (case k40 => k_is)
  (case a41 => k_is)
  (case l41 => k_is)
  (case c41 => k_is)
  (case k41 => k_is)
  (case a42 => k_is)
  (case l42 => k_is)
  (case c42 => k_is)
  (case k42 => k_is)
  (case xa_NoPlace => k_is)
  (case xe_NoPlace => k_exc)
  (case z_all => k_is)
  (case z_bool => k_is)
  (case z_int => k_is)
  (case z_isinstance => k_is)
  (case z_len => k_is)
  (case z_list => k_is)
  (case z_max => k_is)
  (case z_range => k_is)
  (case z_reversed => k_is)
  (case z_str => k_is)
  (case z_sum => k_is)
  (case z_tuple => k_is)
  (case z_zip => k_is)
#print axioms PySem.Challenge.cw_slashwise_k16_whole_steps_holds
