import PyProof.Rows.All
import PyProof.DictRoadsH
import Wide.All
import OpenK.AllK
import Wide.FinOn
import Lean
import PyProof.EqAt
import PyProof.EqKinds
import PyProof.TupleCall
import KE.KTryMore
import PyProof.StationsW
import PyProof.ExcBaseAll.ValueError
import PyProof.Rows.CatchOwn
import PyProof.ZipIter
import PyProof.Rows.TupAdd
import PyProof.NeKinds
import KE.KUnpack
import KE.KRevSl
import PyProof.FitsBits
import PyProof.RulesAs
import PyProof.NsDelKeeps
import PyProof.ExcArgsOwn
import OpenK.KDescr
import KE.KIsNot
import PyProof.ExcAttrAll.ValueError
import PyProof.StrOps2
import PyProof.EnumFor
import PyProof.EnumMake
import PyProof.DictCompW
import PyProof.ListRange
import PySem.Challenge.RW_slashwise_k61_meaning_by_a_book
set_option Elab.async false
set_option linter.all false
set_option maxRecDepth 100000
set_option maxHeartbeats 4000000
namespace L2
open PySem PySem.Spec PyProof.Rows
noncomputable abbrev Key := Sum Int Str
noncomputable def keyIs : Key → Value → Bool
 | .inl k, v => Value.isInt k v
 | .inr x, v => Value.isStrOf x v
noncomputable def keyH (w : World) : Key → Int
 | .inl k => hashInt k
 | .inr x => hashStr w x
theorem keyIs_shape : ∀ {k : Key} {v : Value}, keyIs k v = true → (∃ i t, k = Sum.inl i ∧ v = Value.int i t) ∨ (∃ x t, k = Sum.inr x ∧ v = Value.str x t)
 | .inl i, v, h => by
  obtain ⟨t, e⟩ := Value.isInt_shape (k := i) (v := v) h
  exact .inl ⟨i, t, rfl, e⟩
 | .inr x, v, h => by
  obtain ⟨t, e⟩ := Value.isStrOf_shape (x := x) (v := v) h
  exact .inr ⟨x, t, rfl, e⟩
theorem keyIs_int (i : Int) (t : Tok) : keyIs (.inl i) (.int i t) = true := by simp [keyIs, Value.isInt]
theorem keyIs_str (x : Str) (t : Tok) : keyIs (.inr x) (.str x t) = true := by simp [keyIs, Value.isStrOf]
theorem key_ll (a b : Int) : decide ((Sum.inl a : Key) = Sum.inl b) = (a == b) := by
 by_cases e : a = b
 ·subst e; simp
 ·have h : ¬ (Sum.inl a : Key) = Sum.inl b := fun q => e (Sum.inl.inj q)
  rw [decide_eq_false h]
  exact (beq_eq_false_iff_ne.mpr e).symm
theorem key_rr (a b : Str) : decide ((Sum.inr a : Key) = Sum.inr b) = decide (a = b) := by
 by_cases e : a = b
 ·subst e; simp
 ·have h : ¬ (Sum.inr a : Key) = Sum.inr b := fun q => e (Sum.inr.inj q)
  rw [decide_eq_false h, decide_eq_false e]
theorem key_lr (a : Int) (b : Str) : decide ((Sum.inl a : Key) = Sum.inr b) = false := decide_eq_false (fun q => nomatch q)
theorem key_rl (a : Str) (b : Int) : decide ((Sum.inr a : Key) = Sum.inl b) = false := decide_eq_false (fun q => nomatch q)
noncomputable def mixKind (prog : Program) (w : World) : PySem.KeyKind prog w Key where
 is := keyIs
 hash := keyH w
 inj := fun v a b ha hb => by
  rcases keyIs_shape ha with ⟨i, t, rfl, rfl⟩ | ⟨x, t, rfl, rfl⟩
  ·rcases keyIs_shape hb with ⟨j, u, rfl, e⟩ | ⟨y, u, rfl, e⟩
   ·injection e with e1 _; rw [e1]
   ·exact nomatch e
  ·rcases keyIs_shape hb with ⟨j, u, rfl, e⟩ | ⟨y, u, rfl, e⟩
   ·exact nomatch e
   ·injection e with e1 _; rw [e1]
 byValue := fun k v h => by
  rcases keyIs_shape h with ⟨i, t, rfl, rfl⟩ | ⟨x, t, rfl, rfl⟩ <;> rfl
 pyHash := fun hv h => by
  rcases keyIs_shape hv with ⟨i, t, rfl, rfl⟩ | ⟨x, t, rfl, rfl⟩
  ·exact wpAny_pyHash_int h
  ·exact wpAny_pyHash_str h
 eqBool := fun hu hv h => by
  rcases keyIs_shape hu with ⟨i, t, rfl, rfl⟩ | ⟨x, t, rfl, rfl⟩
  ·rcases keyIs_shape hv with ⟨j, u, rfl, rfl⟩ | ⟨y, u, rfl, rfl⟩
   ·rw [key_ll] at h; exact wpAny_eqBool_int h
   ·rw [key_lr] at h; exact SeqAt.EqAt.int_str i t y u _ _ _ _ h
  ·rcases keyIs_shape hv with ⟨j, u, rfl, rfl⟩ | ⟨y, u, rfl, rfl⟩
   ·rw [key_rl] at h; exact SeqAt.EqAt.str_int x t j u _ _ _ _ h
   ·rw [key_rr] at h; exact wpAny_eqBool_str h
 «strs» := fun k x t v h => by
  rcases keyIs_shape h with ⟨i, u, rfl, e⟩ | ⟨y, u, rfl, e⟩
  ·exact nomatch e
  ·injection e with e1 _
   subst e1
   cases v <;> rfl
theorem mixKind_int (prog : Program) (w : World) (i : Int) (t : Tok) : (mixKind prog w).is (.inl i) (.int i t) = true := keyIs_int i t
theorem mixKind_str (prog : Program) (w : World) (x : Str) (t : Tok) : (mixKind prog w).is (.inr x) (.str x t) = true := keyIs_str x t
end L2
namespace L2
open PySem PySem.Spec PyProof.Rows
inductive V where
 | non | bl (b : Bool) | int (i : Int) | str (x : Str) | byt (b : Array UInt8) | flt (b : UInt64) | ref (a : Addr) | ty (n : String)
 deriving DecidableEq
noncomputable def RelV : V → Value → Prop
 | .non, u => u = Value.none
 | .bl b, u => u = Value.bool b
 | .int i, u => ∃ t, u = Value.int i t
 | .str x, u => ∃ t, u = Value.str x t
 | .byt b, u => ∃ t, u = Value.bytes b t
 | .flt b, u => ∃ t, u = Value.float b t
 | .ref a, u => u = Value.ref a
 | .ty n, u => u = Value.type n
noncomputable abbrev Vals : List V → List Value → Prop := Paired RelV
theorem Vals.length {xs : List V} {us : List Value} (r : Vals xs us) : xs.length = us.length := Paired.length r
theorem Vals.get : ∀ {xs : List V} {us : List Value} {i : Nat} {x : V}, Vals xs us → xs[i]? = some x → ∃ u, us[i]? = some u ∧ RelV x u
 | _, _, _, _, .nil, e => by simp at e
 | _, _, 0, _, .cons r _, e => by simp at e; subst e; exact ⟨_, rfl, r⟩
 | _, _, i + 1, x, .cons _ t, e => by
  obtain ⟨u, h1, h2⟩ := Vals.get (i := i) (x := x) t (by simpa using e)
  exact ⟨u, by simpa using h1, h2⟩
theorem Vals.set {x : V} {u : Value} (r : RelV x u) : ∀ {xs : List V} {us : List Value} (i : Nat), Vals xs us → Vals (xs.set i x) (us.set i u)
 | _, _, _, .nil => .nil
 | _, _, 0, .cons _ t => .cons r t
 | _, _, i + 1, .cons q t => .cons q (Vals.set r i t)
theorem Vals.append : ∀ {xs ys : List V} {us ws : List Value}, Vals xs us → Vals ys ws → Vals (xs ++ ys) (us ++ ws)
 | _, _, _, _, .nil, s => s
 | _, _, _, _, .cons r t, s => .cons r (Vals.append t s)
theorem Vals.take : ∀ {xs : List V} {us : List Value} (n : Nat), Vals xs us → Vals (xs.take n) (us.take n)
 | _, _, 0, _ => .nil
 | _, _, _ + 1, .nil => .nil
 | _, _, n + 1, .cons r t => .cons r (Vals.take n t)
theorem Vals.drop : ∀ {xs : List V} {us : List Value} (n : Nat), Vals xs us → Vals (xs.drop n) (us.drop n)
 | _, _, 0, r => r
 | _, _, _ + 1, .nil => .nil
 | _, _, n + 1, .cons _ t => Vals.drop n t
noncomputable def RelO : Option V → Option Value → Prop
 | some v, some u => RelV v u
 | none, none => True
 | _, _ => False
noncomputable def KV {κ : Type} : List (κ × V) → List (κ × Value) → Prop := Paired fun (p : κ × V) (q : κ × Value) => p.1 = q.1 ∧ RelV p.2 q.2
noncomputable def kV : Key → V
 | .inl i => .int i
 | .inr x => .str x
inductive KTr where
 | int (i : Int) | str (x : Str) | tup (xs : List KTr)
noncomputable instance ktDec : DecidableEq KTr := fun _ _ => Classical.propDecidable _
mutual
noncomputable def kdep : KTr → Nat
 | .tup xs => 1 + kdeps xs
 | _ => 0
noncomputable def kdeps : List KTr → Nat
 | [] => 0
 | x :: xs => max (kdep x) (kdeps xs)
end
theorem kdeps_get : ∀ {xs : List KTr} {j : Nat} {x : KTr}, xs[j]? = some x → kdep x ≤ kdeps xs
 | [], _, _, e => by simp at e
 | x :: xs, 0, y, e => by simp at e; subst e; simp only [kdeps]; omega
 | x :: xs, j + 1, y, e => by simp at e; have := kdeps_get e; simp only [kdeps]; omega
theorem kin1_units (A : Around) : A.in1.units = A.units + 1 := rfl
theorem kgetD_some {xs : List KTr} {j : Nat} {x : KTr} (e : xs[j]? = some x) : xs.getD j (.int 0) = x := by rw [List.getD_eq_getElem?_getD, e]; rfl
mutual
noncomputable def TrA (h : Heap) : KTr → Value → Prop
 | .int i, v => ∃ t, v = .int i t
 | .str x, v => ∃ t, v = .str x t
 | .tup xs, v => ∃ (a : Addr) (its : List Value), v = .ref a ∧ IsTup h a its.toArray ∧ TrAs h xs its
noncomputable def TrAs (h : Heap) : List KTr → List Value → Prop
 | [], vs => vs = []
 | x :: xs, vs => ∃ y ys, vs = y :: ys ∧ TrA h x y ∧ TrAs h xs ys
end
theorem IsTup.same {h : Heap} {a : Addr} {xs ys : List Value} (p : IsTup h a xs.toArray) (q : IsTup h a ys.toArray) : xs = ys := by
 obtain ⟨o, e, _, n, d⟩ := p
 obtain ⟨o', e', _, n', d'⟩ := q
 obtain rfl : o = o' := Option.some.inj (e.symm.trans e')
 rw [d] at d'
 injection d' with h1 _
 simpa using h1
mutual
theorem TrA.inj {h : Heap} : ∀ {x y : KTr} {v : Value}, TrA h x v → TrA h y v → x = y
 | .int i, y, v, ⟨t, e⟩, q => by
  subst e
  cases y with
  | int j => obtain ⟨t', e⟩ := q; cases e; rfl
  | str z => obtain ⟨t', e⟩ := q; cases e
  | tup ys => obtain ⟨a, its, e, _⟩ := q; cases e
 | .str x, y, v, ⟨t, e⟩, q => by
  subst e
  cases y with
  | int j => obtain ⟨t', e⟩ := q; cases e
  | str z => obtain ⟨t', e⟩ := q; cases e; rfl
  | tup ys => obtain ⟨a, its, e, _⟩ := q; cases e
 | .tup xs, y, v, ⟨a, its, e, p, r⟩, q => by
  subst e
  cases y with
  | int j => obtain ⟨t', e⟩ := q; cases e
  | str z => obtain ⟨t', e⟩ := q; cases e
  | tup ys =>
   obtain ⟨b, its2, e, p2, r2⟩ := q
   cases e
   have := IsTup.same p p2
   subst this
   rw [TrAs.inj r r2]
theorem TrAs.inj {h : Heap} : ∀ {xs ys : List KTr} {vs : List Value}, TrAs h xs vs → TrAs h ys vs → xs = ys
 | [], [], _, _, _ => rfl
 | [], _ :: _, _, h, ⟨_, _, e, _⟩ => by rw [show _ = [] from h] at e; cases e
 | _ :: _, [], _, ⟨_, _, e, _⟩, h => by rw [show _ = [] from h] at e; cases e
 | x :: xs, y :: ys, _, ⟨a, b, e, r, t⟩, ⟨a', b', e', r', t'⟩ => by
  subst e
  cases e'
  rw [TrA.inj r r', TrAs.inj t t']
end
mutual
theorem TrA.at {h h' : Heap} (k : ∀ a its, IsTup h a its → IsTup h' a its) : ∀ {x : KTr} {v : Value}, TrA h x v → TrA h' x v
 | .int i, _, h => h
 | .str x, _, h => h
 | .tup xs, _, ⟨a, its, e, p, r⟩ => ⟨a, its, e, k _ _ p, TrAs.at k r⟩
theorem TrAs.at {h h' : Heap} (k : ∀ a its, IsTup h a its → IsTup h' a its) : ∀ {xs : List KTr} {vs : List Value}, TrAs h xs vs → TrAs h' xs vs
 | [], _, h => h
 | x :: xs, _, ⟨y, ys, e, r, t⟩ => ⟨y, ys, e, TrA.at k r, TrAs.at k t⟩
end
theorem TrAs.length {h : Heap} : ∀ {xs : List KTr} {vs : List Value}, TrAs h xs vs → xs.length = vs.length
 | [], _, h => by rw [show _ = [] from h]; rfl
 | _ :: xs, _, ⟨y, ys, e, _, t⟩ => by rw [e, List.length_cons, List.length_cons, TrAs.length t]
theorem TrAs.get {h : Heap} : ∀ {xs : List KTr} {vs : List Value} {i : Nat} {x : KTr}, TrAs h xs vs → xs[i]? = some x → ∃ y, vs[i]? = some y ∧ TrA h x y
 | [], _, _, _, _, e => by simp at e
 | x :: xs, _, 0, x', ⟨y, ys, e, r, t⟩, q => by
  simp at q; subst q; subst e
  exact ⟨y, by simp, r⟩
 | x :: xs, _, i + 1, x', ⟨y, ys, e, r, t⟩, q => by
  subst e
  obtain ⟨z, h1, h2⟩ := TrAs.get (i := i) t (by simpa using q)
  exact ⟨z, by simpa using h1, h2⟩
theorem all_dec (xs ys : List KTr) : ((List.range (min xs.length ys.length)).all (fun j => decide (xs.getD j (.int 0) = ys.getD j (.int 0))) && xs.length == ys.length) = decide (KTr.tup xs = KTr.tup ys) := by
 rw [Bool.eq_iff_iff]
 simp only [Bool.and_eq_true, List.all_eq_true, List.mem_range, decide_eq_true_eq, beq_iff_eq, KTr.tup.injEq]
 constructor
 ·rintro ⟨h, hl⟩
  apply List.ext_getElem hl
  intro n h1 h2
  have := h n (by omega)
  rw [List.getD_eq_getElem?_getD, List.getD_eq_getElem?_getD, List.getElem?_eq_getElem h1, List.getElem?_eq_getElem h2] at this
  exact this
 ·rintro rfl
  exact ⟨fun _ _ => rfl, rfl⟩
theorem tr_eq {s : Shared} : ∀ (d : Nat) (A : Around) (x y : KTr) (v u : Value), kdep x ≤ d → A.units + d < cLine → TrA s.heap x v → TrA s.heap y u → SeqAt.EqAt A s v u (decide (x = y)) := by
 intro d
 induction d with
 | zero =>
  intro A x y v u hd hu rx ry
  cases x with
  | tup xs => simp [kdep] at hd
  | int a =>
   obtain ⟨t, rfl⟩ := rx
   cases y with
   | int b => obtain ⟨t', rfl⟩ := ry; rw [show decide (KTr.int a = KTr.int b) = (a == b) by rw [Bool.eq_iff_iff]; simp]; exact .int_int a t b t'
   | str b => obtain ⟨t', rfl⟩ := ry; simpa using SeqAt.EqAt.int_str (A := A) (s := s) a t b t'
   | tup ys => obtain ⟨b, its, rfl, p, _⟩ := ry; simpa using SeqAt.EqAt.int_tuple (A := A) (s := s) a t p (by omega)
  | str a =>
   obtain ⟨t, rfl⟩ := rx
   cases y with
   | int b => obtain ⟨t', rfl⟩ := ry; simpa using SeqAt.EqAt.str_int (A := A) (s := s) a t b t'
   | str b => obtain ⟨t', rfl⟩ := ry; rw [show decide (KTr.str a = KTr.str b) = (a == b) by rw [Bool.eq_iff_iff]; simp]; exact .str_str a t b t'
   | tup ys => obtain ⟨b, its, rfl, p, _⟩ := ry; simpa using SeqAt.EqAt.str_tuple (A := A) (s := s) a t p (by omega)
 | succ d ih =>
  intro A x y v u hd hu rx ry
  cases x with
  | tup xs =>
   obtain ⟨a, its, rfl, p1, r1⟩ := id rx
   cases y with
   | int b => obtain ⟨t', rfl⟩ := ry; simpa using SeqAt.EqAt.tuple_int (A := A) (s := s) b t' p1 (by omega)
   | str b => obtain ⟨t', rfl⟩ := ry; simpa using SeqAt.EqAt.tuple_str (A := A) (s := s) b t' p1 (by omega)
   | tup ys =>
    obtain ⟨b, its2, rfl, p2, r2⟩ := id ry
    by_cases hab : a = b
    ·subst hab
     rw [decide_eq_true (TrA.inj rx ry)]
     exact .same _
    ·refine .of_refs hab ?_
     have e : decide (KTr.tup xs = KTr.tup ys) = ((List.range (min its.toArray.size its2.toArray.size)).all (fun j => decide (xs.getD j (.int 0) = ys.getD j (.int 0))) && its.toArray.size == its2.toArray.size) := by
      rw [List.size_toArray, List.size_toArray, ← r1.length, ← r2.length, all_dec]
     rw [e]
     refine .tuples p1 p2 (by omega) fun j h1 h2 => ?_
     have hj1 : j < xs.length := by rw [r1.length]; simpa using h1
     have hj2 : j < ys.length := by rw [r2.length]; simpa using h2
     have e1 : xs[j]? = some xs[j] := List.getElem?_eq_getElem hj1
     have e2 : ys[j]? = some ys[j] := List.getElem?_eq_getElem hj2
     obtain ⟨v1, g1, q1⟩ := r1.get e1
     obtain ⟨v2, g2, q2⟩ := r2.get e2
     have l1 : j < its.length := by simpa using h1
     have l2 : j < its2.length := by simpa using h2
     rw [kgetD_some e1, kgetD_some e2]
     rw [List.getElem?_eq_getElem l1] at g1
     rw [List.getElem?_eq_getElem l2] at g2
     cases g1
     cases g2
     have hdd := kdeps_get e1
     simp only [kdep] at hd
     exact ih A.in1 _ _ _ _ (by omega) (by rw [kin1_units]; omega) (by simpa using q1) (by simpa using q2)
  | int a => exact ih A _ _ v u (Nat.zero_le _) (by omega) rx ry
  | str a => exact ih A _ _ v u (Nat.zero_le _) (by omega) rx ry
mutual
noncomputable def trH (P : Program) (w : World) : KTr → Int
 | .int i => (mixKind P w).hash (.inl i)
 | .str x => (mixKind P w).hash (.inr x)
 | .tup xs => reduceHash (Builtin.Tuple.tupleHashOf (trHs P w xs))
noncomputable def trHs (P : Program) (w : World) : List KTr → List Int
 | [] => []
 | x :: xs => trH P w x :: trHs P w xs
end
mutual
noncomputable def trD : KTr → Nat
 | .tup xs => trDs xs + 1
 | _ => 1
noncomputable def trDs : List KTr → Nat
 | [] => 0
 | x :: xs => trD x + trDs xs
end
noncomputable def HsAt (P : Program) (w : World) (A : Around) (h : Heap) (v : Value) (x : Int) (d : Nat) : Prop := ∀ (E : Value → Shared → Prop) (s : Shared) (Q : Int → Shared → Prop), s.heap = h → Q x { s with toks := s.toks + d } → wpAny (model P w) A (pyHash v) Q E s
theorem hs_tup {P : Program} {w : World} {A : Around} {h : Heap} {a : Addr} {its : List Value} {xs : List KTr} (hu : A.units < cLine) (p : IsTup h a its.toArray) (hl : xs.length = its.length) (hi : ∀ (j : Nat) (x : KTr) (v : Value), xs[j]? = some x → its[j]? = some v → HsAt P w A.in1 h v (trH P w x) (trD x)) :
  HsAt P w A h (.ref a) (trH P w (.tup xs)) (trD (.tup xs)) := by
 intro E s Q eh hQ
 subst eh
 obtain ⟨o, ho, hc, n, hd⟩ := p
 have hT : s.TypeIs (.ref a) "tuple" := ⟨o, ho, hc⟩
 unfold pyHash
 first | unfold pyHashByItsType | skip
 first | refine wpAny_bind (wpAny_cRoomFor_or (.inr hu) ?_) | skip
 refine wpAny_bind (wpAny_specialOf hT F.slot_tuple_hash.lookup ?_)
 show wpAny _ _ (if (some (Value.builtin "tuple.__hash__") == some Value.none) = true then _ else _) Q E s
 rw [if_neg (by rw [beq_builtin_none]; exact Bool.false_ne_true)]
 refine wpAny_bind (wpAny_specialOf hT F.slot_tuple_hash.lookup ?_)
 show wpAny _ _ (callSpecialIfBoundUnlessNone? (.ref a) "__hash__" _ >>= _) Q E s
 refine wpAny_bind (wpAny_callSpecialIfBoundUnlessNone?_slot hT F.slot_tuple_hash (wpAny_call_entry F.slot_tuple_hash hT F.entry_tuple_hash ?_ (F.args_tuple_hash_1 _)))
 show wpAny _ _ (Builtin.Tuple.tupleItemsOf (.ref a) >>= _) _ _ s
 refine wpAny_bind (wpAny_tupleItemsOf ho hd ?_)
 refine wpAny_bind ?_
 rw [← Array.forIn_toList]
 refine wpAny_forIn_list _
  (fun rest (b : Array Int) s' => ∃ (done left : List KTr), xs = done ++ left ∧ its.drop done.length = rest ∧ b.toList = trHs P w done ∧ s' = { s with toks := s.toks + trDs done })
  _ ?_ ?_ _ _ ⟨[], xs, rfl, rfl, rfl, rfl⟩
 ·rintro v rest b s' ⟨done, left, e1, e2, hb, rfl⟩
  have hlt : done.length < its.length := by
   rcases Nat.lt_or_ge done.length its.length with z | z
   ·exact z
   ·rw [List.drop_eq_nil_of_le z] at e2; cases e2
  rw [List.drop_eq_getElem_cons hlt] at e2
  obtain ⟨ev, er⟩ := List.cons.inj e2
  obtain ⟨x, left', rfl⟩ : ∃ x l, left = x :: l := by
   cases left with
   | nil => rw [List.append_nil] at e1; subst e1; omega
   | cons x l => exact ⟨x, l, rfl⟩
  have hx : xs[done.length]? = some x := by rw [e1, List.getElem?_append_right (Nat.le_refl _), Nat.sub_self]; rfl
  have hv : its[done.length]? = some v := by rw [List.getElem?_eq_getElem hlt, ev]
  have sn : ∀ (l : List KTr), trHs P w (l ++ [x]) = trHs P w l ++ [trH P w x] := fun l => by
   induction l with
   | nil => rfl
   | cons a r ih => simp only [List.cons_append, trHs, ih]
  have sd : ∀ (l : List KTr), trDs (l ++ [x]) = trDs l + trD x := fun l => by
   induction l with
   | nil => simp [trDs]
   | cons a r ih => simp only [List.cons_append, trDs, ih]; omega
  refine wpAny_bind (hi done.length x v hx hv _ _ _ rfl ?_)
  have fin : ∃ (done' left'' : List KTr), xs = done' ++ left'' ∧ its.drop done'.length = rest ∧ (b.push (trH P w x)).toList = trHs P w done' ∧ ({ s with toks := s.toks + trDs done + trD x } : Shared) = { s with toks := s.toks + trDs done' } :=
   ⟨done ++ [x], left', by rw [e1]; simp, by rw [List.length_append, List.length_singleton]; exact er, by rw [sn, Array.toList_push, hb], by rw [sd, Nat.add_assoc]⟩
  first
   | exact wpAny_pure fin
   | exact wpAny_bind (wpAny_pure (wpAny_pure fin))
 ·rintro b s' ⟨done, left, e1, e2, hb, rfl⟩
  have hz : left = [] := by
   have h1 : its.length ≤ done.length := List.drop_eq_nil_iff.mp e2
   have h2 := congrArg List.length e1
   rw [List.length_append] at h2
   cases left with
   | nil => rfl
   | cons _ _ => simp at h2; omega
  subst hz
  rw [List.append_nil] at e1
  subst e1
  show wpAny _ _ (retInt (Builtin.Tuple.tupleHashOf b.toList)) _ _ _
  rw [hb]
  refine wpAny_ret_mkInt ?_
  show wpAny _ _ (if (decide (-(2 : Int) ^ 63 ≤ Builtin.Tuple.tupleHashOf (trHs P w xs)) && decide (Builtin.Tuple.tupleHashOf (trHs P w xs) < 2 ^ 63)) = true then _ else _) Q E _
  simp only [trH, trD] at hQ
  unfold reduceHash at hQ
  by_cases hr : (decide (-(2 : Int) ^ 63 ≤ Builtin.Tuple.tupleHashOf (trHs P w xs)) && decide (Builtin.Tuple.tupleHashOf (trHs P w xs) < 2 ^ 63)) = true
  ·rw [if_pos hr]
   rw [if_pos hr] at hQ
   exact wpAny_pure (by simpa [Nat.add_assoc] using hQ)
  ·rw [if_neg hr]
   rw [if_neg hr] at hQ
   exact wpAny_bind (wpAny_rule (wpAny_pure (by simpa [Nat.add_assoc] using hQ)))
theorem tr_hash {P : Program} {w : World} {h : Heap} : ∀ (d : Nat) (A : Around) (x : KTr) (v : Value), kdep x ≤ d → A.units + d < cLine → TrA h x v → HsAt P w A h v (trH P w x) (trD x) := by
 intro d
 have atom : ∀ (A : Around) (k : Key) (v : Value), (mixKind P w).is k v = true → HsAt P w A h v ((mixKind P w).hash k) 1 := fun A k v hk E s Q eh hQ => (mixKind P w).pyHash hk hQ
 induction d with
 | zero =>
  intro A x v hd hu r
  cases x with
  | tup xs => simp [kdep] at hd
  | int a => obtain ⟨t, rfl⟩ := r; exact atom A (.inl a) _ (mixKind_int P w a t)
  | str a => obtain ⟨t, rfl⟩ := r; exact atom A (.inr a) _ (mixKind_str P w a t)
 | succ d ih =>
  intro A x v hd hu r
  cases x with
  | tup xs =>
   obtain ⟨a, its, rfl, p, q⟩ := r
   refine hs_tup (by omega) p q.length fun j x v e1 e2 => ?_
   obtain ⟨v', g, q'⟩ := q.get e1
   rw [e2] at g
   cases g
   have := kdeps_get e1
   simp only [kdep] at hd
   exact ih A.in1 x v (by omega) (by rw [kin1_units]; omega) q'
  | int a => exact ih A _ v (Nat.zero_le _) (by omega) r
  | str a => exact ih A _ v (Nat.zero_le _) (by omega) r
theorem tr_quiet {P : Program} {w : World} {A : Around} {E : Value → Shared → Prop} {s : Shared} : ∀ (n : Nat) (x : KTr) (v : Value) (Q : Bool → Shared → Prop), kdep x ≤ n → TrA s.heap x v → Q true s → wpAny (model P w) A (eqIsQuiet n v) Q E s := by
 intro n
 induction n with
 | zero =>
  intro x v Q hd r hQ
  cases x with
  | tup xs => simp [kdep] at hd
  | int a => obtain ⟨t, rfl⟩ := r; rw [eqIsQuiet_byValue 0 rfl]; exact wpAny_pure hQ
  | str a => obtain ⟨t, rfl⟩ := r; rw [eqIsQuiet_byValue 0 rfl]; exact wpAny_pure hQ
 | succ n ih =>
  intro x v Q hd r hQ
  cases x with
  | int a => obtain ⟨t, rfl⟩ := r; rw [eqIsQuiet_byValue _ rfl]; exact wpAny_pure hQ
  | str a => obtain ⟨t, rfl⟩ := r; rw [eqIsQuiet_byValue _ rfl]; exact wpAny_pure hQ
  | tup xs =>
   obtain ⟨a, its, rfl, ⟨o, ho, hc, n', hd'⟩, q⟩ := r
   have hT : s.TypeIs (.ref a) "tuple" := ⟨o, ho, hc⟩
   simp only [kdep] at hd
   unfold eqIsQuiet
   refine wpAny_bind (wpAny_specialOf hT F.slot_tuple_eq.lookup ?_)
   show wpAny _ _ (isInstance (.ref a) (.type "tuple") >>= _) _ _ s
   refine wpAny_bind (wpAny_isInstance hT isSubtype_tuple_tuple ?_)
   simp only [Bool.not_true, Bool.false_eq_true, if_false]
   refine wpAny_bind (wpAny_seqItems ho hd' ?_)
   refine wpAny_bind ?_
   show wpAny _ _ (forIn its.toArray _ _) _ _ s
   rw [← Array.forIn_toList]
   refine wpAny_forIn_list _ (fun rest r s' => r.1 = none ∧ s' = s ∧ ∀ v ∈ rest, ∃ y, kdep y ≤ n ∧ TrA s.heap y v) _ ?_ ?_ _ _ ⟨rfl, rfl, fun v hv => ?_⟩
   ·rintro v rest r s' ⟨hr, rfl, hall⟩
    obtain ⟨y, h1, h2⟩ := hall v List.mem_cons_self
    refine wpAny_bind (ih y v _ h1 h2 ?_)
    simp only [Bool.not_true, Bool.false_eq_true, if_false]
    exact wpAny_pure ⟨rfl, rfl, fun u hu' => hall u (List.mem_cons_of_mem _ hu')⟩
   ·rintro ⟨r1, r2⟩ s' ⟨hr, rfl, _⟩
    simp only at hr
    subst hr
    exact wpAny_pure hQ
   ·obtain ⟨j, hj⟩ := List.mem_iff_getElem?.mp hv
    have hjl : j < its.length := by
     have := (List.getElem?_eq_some_iff.mp hj).1
     simpa using this
    have hjx : j < xs.length := by rw [q.length]; exact hjl
    obtain ⟨v', g, q'⟩ := q.get (List.getElem?_eq_getElem hjx)
    have : v' = v := by
     have hj' : its[j]? = some v := by simpa using hj
     rw [hj'] at g
     exact (Option.some.inj g).symm
    subst this
    have := kdeps_get (List.getElem?_eq_getElem hjx)
    exact ⟨_, by omega, q'⟩
noncomputable def treeKind (P : Program) (w : World) : HeapKind P w KTr where
 is := fun h x a => (∃ xs, x = .tup xs) ∧ kdep x ≤ 8 ∧ TrA h x (.ref a)
 hash := trH P w
 draws := trD
 room := fun A => A.units + 8 < cLine
 inj := fun hx hy => TrA.inj hx.2.2 hy.2.2
 keeps := fun {h h' k a d o es ep} hk ho hd hs => ⟨hk.1, hk.2.1, TrA.at (fun b its ⟨o', e, c, n, q⟩ => ⟨o', (hs.2 b (by
  rintro rfl
  obtain rfl : o' = o := Option.some.inj (e.symm.trans ho)
  rw [hd] at q; exact nomatch q)).trans e, c, n, q⟩) hk.2.2⟩
 pyHash := fun hu hk h => tr_hash 8 _ _ _ hk.2.1 hu hk.2.2 _ _ _ rfl h
 eqBool := fun {A E s x y a b Q} hu hx hy h => tr_eq 8 A x y _ _ hx.2.1 hu hx.2.2 hy.2.2 _ _ _ _ h
 quiet := fun hk h => tr_quiet 8 _ _ _ hk.2.1 hk.2.2 h
inductive HO where
 | lst (xs : List V)
 | tup (xs : List V)
 | dK (kvs : List (Key × V)) | dT (kvs : List (List Key × V)) | dH (kvs : List (KTr × Addr × V))
 | set (S : Int → Bool) (n : Nat)
 | ins (C dx : Addr) (fs : List (Str × V))
 | own (x : Addr)
 | xd (fs : List (Str × V))
 | met (f x : Addr)
 | rng (lo hi : Int)
 | frz (o : Obj) (u : HO)
 | tbl (ps : Array Value)
 | ext (φ : Heap → Prop)
noncomputable abbrev Hp := Addr → Option HO
noncomputable def upd (H : Hp) (a : Addr) (o : HO) : Hp := fun b => if b = a then some o else H b
theorem upd_same {H : Hp} {a : Addr} {o : HO} : upd H a o a = some o := by unfold upd; rw [if_pos rfl]
theorem upd_ne {H : Hp} {a b : Addr} {o : HO} (h : b ≠ a) : upd H a o b = H b := by unfold upd; rw [if_neg h]
theorem ne_of {H : Hp} {a b : Addr} {o u : HO} (h : H a = some o) (h' : H b = some u) (d : o ≠ u) : a ≠ b := by
 intro e; subst e; rw [h] at h'; exact d (Option.some.inj h')
theorem ne_of_none {H : Hp} {a b : Addr} {o : HO} (h : H a = some o) (h' : H b = none) : a ≠ b := by
 intro e; subst e; rw [h] at h'; cases h'
section
variable (P : Program) (w : World)
noncomputable def ObjOk (H : Hp) (h : Heap) (a : Addr) : HO → Prop
 | .lst xs => xs.length ≤ sizeLine ∧ ∃ (its : List Value) (n : Nat), Vals xs its ∧ h.get? a = some { cls := .type "list", data := .seq its.toArray n }
 | .tup xs => xs.length ≤ sizeLine ∧ ∃ its : List Value, Vals xs its ∧ IsTup h a its.toArray
 | .dK kvs => kvs.length ≤ sizeLine ∧ (a == sysModules) = false ∧ ∃ vs, KV kvs vs ∧ h.DictOf (mixKind P w) a vs
 | .dT kvs => kvs.length ≤ sizeLine ∧ (a == sysModules) = false ∧ ∃ xs : List (List Key × Addr × Value),
   Paired (fun (p : List Key × V) (q : List Key × Addr × Value) => p.1 = q.1 ∧ H q.2.1 = some (.tup (p.1.map kV)) ∧ RelV p.2 q.2.2) kvs xs ∧
   ∃ o es ep, h.get? a = some o ∧ o.ExactDict ∧ o.data = .dict es ep ∧ es.toList = xs.map (entryOfKey (tupleKind (mixKind P w))) ∧ (xs.map (·.1)).Nodup
 | .dH kvs => kvs.length ≤ sizeLine ∧ (a == sysModules) = false ∧ ∃ xs : List (KTr × Addr × Value),
   Paired (fun (p : KTr × Addr × V) (q : KTr × Addr × Value) => p.1 = q.1 ∧ p.2.1 = q.2.1 ∧ RelV p.2.2 q.2.2) kvs xs ∧
   ∃ o es ep, h.get? a = some o ∧ o.ExactDict ∧ o.data = .dict es ep ∧ es.toList = xs.map (entryOfKey (treeKind P w)) ∧ (xs.map (·.1)).Nodup
 | .set S n => h.SetOf (intKind P w) a S n
 | .ins C dx fs => H dx = some (.own a) ∧ fs.length ≤ 1000 ∧ dx ≠ a ∧ h.get? a = some (PySem.W.instObj C dx) ∧
   ∃ mA, h.Ns1 dx mA ∧ (∀ f, RelO (fs.lookup f) (mA f)) ∧ PySem.Within mA (fs.map (·.1))
 | .own _ => ∃ o, h.get? a = some o
 | .xd fs => ∃ mA, h.Ns1 a mA ∧ ∀ f, RelO (fs.lookup f) (mA f)
 | .rng lo hi => ∃ t u v, h.get? a = some { cls := .type "range", data := .fields #[.int lo t, .int hi u, .int 1 v] }
 | .frz o u => h.get? a = some o ∧ ObjOk H h a u
 | .tbl ps => h.get? a = some { cls := .none, data := .fields ps }
 | .met f x => h.get? a = some (PySem.W.methodObj (.ref f) (.ref x))
 | .ext φ => φ h ∧ (∃ o, h.get? a = some o) ∧ ∀ h1 h2 : Heap, φ h1 → (∀ o, h1.get? a = some o → h2.get? a = some o) → φ h2
noncomputable def HOk (H : Hp) (h : Heap) : Prop := ∀ a o, H a = some o → ObjOk P w H h a o
end
section
variable {P : Program} {w : World} {H H' : Hp} {h h' : Heap} {a : Addr} {o : HO}
theorem ObjOk.lt (x : ObjOk P w H h a o) : a < h.objs.size := by
 cases o with
 | lst xs => obtain ⟨_, _, _, _, e⟩ := x; exact Heap.lt_size e
 | tup xs => obtain ⟨_, _, _, p⟩ := x; exact p.lt
 | dK kvs => obtain ⟨_, _, _, _, o, _, _, e, _⟩ := x; exact Heap.lt_size e
 | dT kvs => obtain ⟨_, _, _, _, o, _, _, e, _⟩ := x; exact Heap.lt_size e
 | dH kvs => obtain ⟨_, _, _, _, o, _, _, e, _⟩ := x; exact Heap.lt_size e
 | set S n => obtain ⟨o, _, _, _, e, _⟩ := x; exact Heap.lt_size e
 | ins C dx fs => obtain ⟨_, _, _, e, _⟩ := x; exact Heap.lt_size e
 | own y => obtain ⟨_, e⟩ := x; exact Heap.lt_size e
 | xd fs => obtain ⟨_, ⟨_, _, _, e, _⟩, _⟩ := x; exact Heap.lt_size e
 | rng lo hi => obtain ⟨_, _, _, e⟩ := x; exact Heap.lt_size e
 | frz ob u => obtain ⟨e, _⟩ := x; exact Heap.lt_size e
 | tbl ps => exact Heap.lt_size (show h.get? a = some _ from x)
 | met f y => exact Heap.lt_size (show h.get? a = some _ from x)
 | ext φ => obtain ⟨_, ⟨_, e⟩, _⟩ := x; exact Heap.lt_size e
theorem Paired.mapP {α β : Type} {F G : α → β → Prop} : ∀ {l₁ : List α} {l₂ : List β}, Paired F l₁ l₂ → (∀ a b, F a b → G a b) → Paired G l₁ l₂
 | _, _, .nil, _ => .nil
 | _, _, .cons r t, f => .cons (f _ _ r) (Paired.mapP t f)
theorem ObjOk.stay (x : ObjOk P w H h a o) (k : ∀ b u, (b = a ∨ H b = some (.own a)) → h.get? b = some u → h'.get? b = some u)
  (ho : ∀ b, H b = some (.own a) → H' b = some (.own a)) (ht : ∀ b xs, H b = some (.tup xs) → H' b = some (.tup xs)) : ObjOk P w H' h' a o := by
 induction o with
 | lst xs => obtain ⟨z, its, n, r, e⟩ := x; exact ⟨z, its, n, r, k _ _ (.inl rfl) e⟩
 | tup xs => obtain ⟨z, its, r, ob, e, c⟩ := x; exact ⟨z, its, r, ob, k _ _ (.inl rfl) e, c⟩
 | dK kvs => obtain ⟨z, y, vs, r, ob, es, ep, e, c⟩ := x; exact ⟨z, y, vs, r, ob, es, ep, k _ _ (.inl rfl) e, c⟩
 | dT kvs =>
  obtain ⟨z, y, xs, r, ob, es, ep, e, c⟩ := x
  exact ⟨z, y, xs, Paired.mapP r fun p q z => ⟨z.1, ht _ _ z.2.1, z.2.2⟩, ob, es, ep, k _ _ (.inl rfl) e, c⟩
 | dH kvs => obtain ⟨z, y, xs, r, ob, es, ep, e, c⟩ := x; exact ⟨z, y, xs, r, ob, es, ep, k _ _ (.inl rfl) e, c⟩
 | set S n => obtain ⟨ob, es, ep, t, e, c⟩ := x; exact ⟨ob, es, ep, t, k _ _ (.inl rfl) e, c⟩
 | ins C dx fs =>
  obtain ⟨d, z, ne, e, mA, ⟨od, es, ep, e2, c⟩, r⟩ := x
  exact ⟨ho _ d, z, ne, k _ _ (.inl rfl) e, mA, ⟨od, es, ep, k _ _ (.inr d) e2, c⟩, r⟩
 | own y => obtain ⟨ob, e⟩ := x; exact ⟨ob, k _ _ (.inl rfl) e⟩
 | xd fs => obtain ⟨mA, ⟨od, es, ep, e, c⟩, r⟩ := x; exact ⟨mA, ⟨od, es, ep, k _ _ (.inl rfl) e, c⟩, r⟩
 | rng lo hi => obtain ⟨t, u, v, e⟩ := x; exact ⟨t, u, v, k _ _ (.inl rfl) e⟩
 | frz ob u ih => obtain ⟨e, q⟩ := x; exact ⟨k _ _ (.inl rfl) e, ih q⟩
 | tbl ps =>
  have e : h.get? a = some { cls := .none, data := .fields ps } := x
  show h'.get? a = some { cls := .none, data := .fields ps }
  exact k a _ (.inl rfl) e
 | met f y =>
  have e : h.get? a = some (PySem.W.methodObj (.ref f) (.ref y)) := x
  show h'.get? a = some (PySem.W.methodObj (.ref f) (.ref y))
  exact k a _ (.inl rfl) e
 | ext φ => obtain ⟨p, ⟨o, e⟩, st⟩ := x; exact ⟨st _ _ p fun o q => k _ _ (.inl rfl) q, ⟨o, k _ _ (.inl rfl) e⟩, st⟩
theorem HOk.lt (x : HOk P w H h) (e : H a = some o) : a < h.objs.size := (x a o e).lt
theorem HOk.fresh (x : HOk P w H h) (e : h.objs.size ≤ a) : H a = none := by
 cases q : H a with
 | none => rfl
 | some u => exact absurd (Nat.lt_of_lt_of_le (x.lt q) e) (Nat.lt_irrefl _)
theorem HOk.kept (x : HOk P w H h) (k : ∀ b u, h.get? b = some u → h'.get? b = some u) : HOk P w H h' := fun a o e =>
 (x a o e).stay (fun b u _ q => k b u q) (fun _ q => q) fun _ _ q => q
theorem HOk.laid (x : HOk P w H h) (k : ∀ b u, h.get? b = some u → h'.get? b = some u) (hp : h.objs.size ≤ a) (new : ObjOk P w (upd H a o) h' a o) : HOk P w (upd H a o) h' := fun b u e => by
 have hn := x.fresh hp
 by_cases hb : b = a
 ·subst hb; rw [upd_same] at e; cases e; exact new
 ·rw [upd_ne hb] at e
  exact (x b u e).stay (fun c v _ q => k c v q) (fun c q => by rw [upd_ne (ne_of_none q hn)]; exact q) fun c xs q => by rw [upd_ne (ne_of_none q hn)]; exact q
end
noncomputable def Rd (H : Hp) (a : Addr) (u : HO) : Prop := H a = some u ∨ ∃ o, H a = some (.frz o u)
theorem Rd.ok {P : Program} {w : World} {H : Hp} {h : Heap} {a : Addr} {u : HO} (r : Rd H a u) (x : HOk P w H h) : ObjOk P w H h a u := by
 rcases r with r | ⟨o, r⟩
 ·exact x a u r
 ·obtain ⟨_, q⟩ := x a _ r
  exact q
noncomputable def Mut : Option HO → Prop
 | some (.lst _) => True
 | some (.dK _) => True
 | some (.dT _) => True
 | some (.dH _) => True
 | some (.set _ _) => True
 | some (.ins _ _ _) => True
 | some (.ext _) => True
 | _ => False
section
variable {P : Program} {w : World} {H : Hp} {h h' : Heap} {x e : Addr} {o' : HO}
theorem HOk.write (ok : HOk P w H h) (mu : Mut (H x)) (he : e = x ∨ H e = some (.own x)) (k : ∀ b u, b ≠ e → h.get? b = some u → h'.get? b = some u) (heo : ∃ u, h'.get? e = some u)
  (new : ObjOk P w (upd H x o') h' x o') : HOk P w (upd H x o') h' := fun b u q => by
 have nown : ∀ c y, H c = some (.own y) → c ≠ x := fun c y r z => by subst z; rw [r] at mu; exact mu
 have ntup : ∀ c xs, H c = some (.tup xs) → c ≠ x := fun c xs r z => by subst z; rw [r] at mu; exact mu
 by_cases hb : b = x
 ·subst hb; rw [upd_same] at q; cases q; exact new
 ·rw [upd_ne hb] at q
  by_cases hbe : b = e
  ·have q' : H b = some (.own x) := by
    rcases he with z | z
    ·exact absurd (hbe.trans z) hb
    ·rw [hbe]; exact z
   rw [q] at q'; cases q'
   obtain ⟨v, hv⟩ := heo
   exact ⟨v, by rw [hbe]; exact hv⟩
  ·refine (ok b u q).stay (fun c v hc r => k c v ?_ r) (fun c r => by rw [upd_ne (nown c b r)]; exact r) fun c xs r => by rw [upd_ne (ntup c xs r)]; exact r
   rcases hc with rfl | hc
   ·exact hbe
   ·rintro rfl
    rcases he with z | z
    ·exact nown c b hc z
    ·rw [hc] at z; cases z; exact hb rfl
end
structure Un (fs ex : List Addr) (H H' : Hp) (h h' : Heap) : Prop where
 keep : ∀ b o, h.get? b = some o → H b = none → b ∉ fs → b ∉ ex → h'.get? b = some o
 slot : ∀ b o, h.get? b = some o → H b = none → b ∈ fs → b ∉ ex → ∃ sl, h'.get? b = some { o with slots := sl }
 free : ∀ b o, h.get? b = some o → H b = none → b ∉ ex → H' b = none
 there : ∀ b o, h.get? b = some o → b ∉ ex → ∃ o', h'.get? b = some o'
 tups : ∀ b xs, H b = some (.tup xs) → H' b = some (.tup xs)
 frzs : ∀ b o u, H b = some (.frz o u) → H' b = some (.frz o u)
 tbls : ∀ b ps, H b = some (.tbl ps) → ∃ more, H' b = some (.tbl (ps ++ more))
section
variable {fs fs' ex ex' : List Addr} {H H1 H2 : Hp} {h h1 h2 h' : Heap} {a x e : Addr} {o : HO}
theorem Un.any (u : Un fs ex H H1 h h1) {b : Addr} {ob : Obj} (q : h.get? b = some ob) (n : H b = none) (hx : b ∉ ex) : ∃ sl, h1.get? b = some { ob with slots := sl } := by
 by_cases hb : b ∈ fs
 ·exact u.slot b ob q n hb hx
 ·exact ⟨ob.slots, u.keep b ob q n hb hx⟩
theorem Un.kept (k : ∀ b u, h.get? b = some u → h'.get? b = some u) : Un fs ex H H h h' :=
 ⟨fun b ob q _ _ _ => k b ob q, fun b ob q _ _ _ => ⟨ob.slots, k b ob q⟩, fun _ _ _ n _ => n, fun b ob q _ => ⟨ob, k b ob q⟩, fun _ _ q => q, fun _ _ _ q => q, fun _ ps q => ⟨#[], by rw [q]; simp⟩⟩
theorem Un.refl : Un fs ex H H h h := Un.kept fun _ _ q => q
theorem Un.laid (k : ∀ b u, h.get? b = some u → h'.get? b = some u) (hp : h.objs.size ≤ a) (hn : H a = none) : Un fs ex H (upd H a o) h h' where
 keep := fun b u q _ _ _ => k b u q
 slot := fun b u q _ _ _ => ⟨u.slots, k b u q⟩
 free := fun b u q n _ => by rw [upd_ne (Nat.ne_of_lt (Nat.lt_of_lt_of_le (Heap.lt_size q) hp))]; exact n
 there := fun b u q _ => ⟨u, k b u q⟩
 tups := fun b xs q => by rw [upd_ne (ne_of_none q hn)]; exact q
 frzs := fun b u xs q => by rw [upd_ne (ne_of_none q hn)]; exact q
 tbls := fun b ps q => ⟨#[], by rw [upd_ne (ne_of_none q hn), q]; simp⟩
theorem Un.write (mu : Mut (H x)) (he : e = x ∨ H e = some (.own x)) (k : ∀ b u, b ≠ e → h.get? b = some u → h'.get? b = some u) (heo : ∃ u, h'.get? e = some u) : Un fs ex H (upd H x o) h h' := by
 have hx : ∀ b, H b = none → b ≠ x := fun b n z => by subst z; rw [n] at mu; exact mu
 have hb : ∀ b, H b = none → b ≠ e := fun b n z => by
  subst z
  rcases he with r | r
  ·exact hx b n r
  ·rw [n] at r; cases r
 have hm : ∀ b u, H b = some u → ¬ Mut (some u) → b ≠ x := fun b u q nm z => by subst z; rw [q] at mu; exact nm mu
 refine ⟨fun b u q n _ _ => k b u (hb b n) q, fun b u q n _ _ => ⟨u.slots, k b u (hb b n) q⟩, fun b u q n _ => by rw [upd_ne (hx b n)]; exact n, fun b u q _ => ?_,
  fun b xs q => by rw [upd_ne (hm b _ q fun z => z)]; exact q, fun b u xs q => by rw [upd_ne (hm b _ q fun z => z)]; exact q, fun b ps q => ⟨#[], by rw [upd_ne (hm b _ q fun z => z), q]; simp⟩⟩
 by_cases hbe : b = e
 ·subst hbe; exact heo
 ·exact ⟨u, k b u hbe q⟩
end
noncomputable def trk (h : Heap) (H : Hp) : List Addr := (List.range h.objs.size).filter fun a => (H a).isSome
noncomputable def hidT (h : Heap) (H : Hp) : Heap := PySem.W.hideAll h (trk h H)
theorem hidT_size (h : Heap) (H : Hp) : (hidT h H).objs.size = h.objs.size := PySem.W.hideAll_size _ _
theorem hidT_get {h : Heap} {H : Hp} {b : Addr} {o : Obj} (e : h.get? b = some o) (n : H b = none) : (hidT h H).get? b = some o :=
 PySem.W.hideAll_get _ e fun hm => by
  have q : (H b).isSome = true := (List.mem_filter.mp hm).2
  rw [n] at q; simp at q
theorem of_hidT {h : Heap} {H : Hp} {b : Addr} {o : Obj} (e : (hidT h H).get? b = some o) : h.get? b = some o ∧ H b = none := by
 have e' : h.get? b = some o := PySem.W.of_hideAll (trk h H) e
 refine ⟨e', ?_⟩
 cases q : H b with
 | none => rfl
 | some x =>
  have hm : b ∈ trk h H := List.mem_filter.mpr ⟨List.mem_range.mpr (Heap.lt_size e'), by simp [q]⟩
  have z : (hidT h H).get? b = none := PySem.W.hideAll_none (trk h H) hm
  rw [z] at e; cases e
end L2
namespace L2
open PySem PySem.Spec PyProof.Rows
structure Mod (K : PySem.W.Frag) (mg : Str → Option Value) (base : Heap) : Prop where
 kin : K.In base
 glob : base.Ns mainGlobals mg
 blt : ∃ mb, base.Ns builtinsNs mb ∧ ∀ x : Str, x ≠ "__name__" → mb x = bootBuiltins x
 nolimit : base.NoLimit
/-- the context: a def's body (or a comprehension's block) running. base: fixed through the whole law; s₀, H₀: the entry; outer: the frames whose slots others may change (a def's callers); stack: all frames that run;
   ex: iterators that were made ahead of the entry and are walked here (a comprehension's); fn: the names whose cells were made at the entry (a def: all; a comprehension's block: its own); calm: not within an except suite; pn: pins that every state bears; xe: what is wanted of an exception that leaves the code -/
structure Cx where
 prog : Program
 w : World
 K : PySem.W.Frag
 mg : Str → Option Value
 base : Heap
 A : Around
 N : List Str
 s₀ : Shared
 H₀ : Hp
 env : Env
 outer : List Env
 stack : List Env
 ex : List Addr
 fn : Str → Bool
 calm : Bool
 pn : List (Addr × Obj)
 xe : Value → Shared → Prop
noncomputable def frs (l : List Env) : List Addr := l.filterMap (·.frame)
noncomputable abbrev Cx.fs (X : Cx) : List Addr := frs X.outer
noncomputable def Vis (sc : Scope) (x : Str) : Prop := sc.names.lookup x = some .local ∨ sc.names.lookup x = some .cell ∨ sc.names.lookup x = some .free
noncomputable def Loc (sc : Scope) (x : Str) : Prop := sc.names.lookup x = some .local ∨ sc.names.lookup x = some .cell
noncomputable def Look (env : Env) (h : Heap) (m : Str → Option Value) (x : Str) (u : Value) : Prop :=
 (env.kindOf x = some .local ∧ m x = some u) ∨ ((env.kindOf x = some .cell ∨ env.kindOf x = some .free) ∧ ∃ c, env.cells.lookup x = some c ∧ h.IsCell c (some u))
structure Cx.Ok (X : Cx) : Prop where
 mod : Mod X.K X.mg X.base
 kind : X.env.scope.kind = .function
 glob : X.env.globals = mainGlobals
 blt : X.env.builtins = builtinsNs
 above : X.s₀.heap.objs.size ≤ X.env.locals
 inj : ∀ x y c, X.env.cells.lookup x = some c → X.env.cells.lookup y = some c → x = y
 has : ∀ x, (X.env.kindOf x = some .cell ∨ X.env.kindOf x = some .free) → ∃ c, X.env.cells.lookup x = some c
 cab : ∀ x c, X.fn x = true → X.env.cells.lookup x = some c → X.s₀.heap.objs.size ≤ c
 hd : X.calm = true → X.A.handled = none
 frames : X.A.frames = some X.stack
 stk : X.stack = X.outer ∨ (X.stack = X.env :: X.outer ∧ X.env.frame = some X.env.locals)
 exf : ∀ b ∈ X.ex, b ≠ X.env.locals ∧ ∀ x c, X.env.cells.lookup x = some c → c ≠ b
 bs : ∀ b o, X.base.get? b = some o → X.s₀.heap.get? b = some o ∧ X.H₀ b = none
 bsz : X.base.objs.size ≤ X.s₀.heap.objs.size
 noex : ∀ b o, X.base.get? b = some o → b ∉ X.ex
 exfs : ∀ b ∈ X.ex, b ∉ X.fs
 funs : X.s₀.heap.FunFrames X.base X.outer
 frf : ∀ b ∈ X.fs, X.H₀ b = none
structure Inv (X : Cx) (pins : List (Addr × Obj)) (σ : List (Option V)) (H : Hp) (s : Shared) : Prop where
 ok : X.Ok
 os : s.os = X.s₀.os
 bare : AllBare s.gens
 base : Un X.fs X.ex X.H₀ H X.s₀.heap s.heap
 loc : ∃ m, s.heap.Ns X.env.locals m ∧ ∀ (i : Nat) (x : Str) (v : V), X.N[i]? = some x → σ[i]? = some (some v) → Vis X.env.scope x → ∃ u, RelV v u ∧ Look X.env s.heap m x u
 cell : ∀ x c, X.env.cells.lookup x = some c → ∃ v, s.heap.IsCell c v
 free : H X.env.locals = none
 freeC : ∀ x c, X.env.cells.lookup x = some c → H c = none
 pin : ∀ p ∈ X.pn ++ pins, s.heap.get? p.1 = some p.2 ∧ H p.1 = none ∧ p.1 ≠ X.env.locals ∧ p.1 ∉ X.fs ∧ ∀ v, p.2.data ≠ .cell v
 hok : HOk X.prog X.w H s.heap
 len : σ.length = X.N.length
section
variable {X : Cx} {pins : List (Addr × Obj)} {σ : List (Option V)} {H H' : Hp} {s : Shared} {h' : Heap}
theorem Cx.Ok.nofr (ok : X.Ok) {b : Addr} {o : Obj} (e : X.base.get? b = some o) : b ∉ X.fs := fun hb => by
 have := (ok.funs.mem hb).1
 rw [e] at this; cases this
theorem Inv.bs (I : Inv X pins σ H s) : ∀ b o, X.base.get? b = some o → s.heap.get? b = some o ∧ H b = none := fun b o e =>
 ⟨I.base.keep b o (I.ok.bs b o e).1 (I.ok.bs b o e).2 (I.ok.nofr e) (I.ok.noex b o e), I.base.free b o (I.ok.bs b o e).1 (I.ok.bs b o e).2 (I.ok.noex b o e)⟩
theorem Inv.bk (I : Inv X pins σ H s) : ∀ b o, X.base.get? b = some o → s.heap.get? b = some o := fun b o e => (I.bs b o e).1
theorem Inv.mod (I : Inv X pins σ H s) : Mod X.K X.mg X.base := I.ok.mod
theorem Inv.kIn (I : Inv X pins σ H s) : X.K.In s.heap := I.ok.mod.kin.keeps I.bk
theorem Inv.lt (I : Inv X pins σ H s) : X.env.locals < s.heap.objs.size := let ⟨_, hn, _⟩ := I.loc; hn.lt
theorem Inv.sz (I : Inv X pins σ H s) : X.s₀.heap.objs.size ≤ s.heap.objs.size := Nat.le_trans I.ok.above (Nat.le_of_lt I.lt)
theorem Inv.nofs (I : Inv X pins σ H s) {a : Addr} (h : s.heap.objs.size ≤ a) : a ∉ X.fs := fun hb => by
 obtain ⟨_, o, ho, _⟩ := I.ok.funs.mem hb
 exact absurd (Nat.lt_of_lt_of_le (Heap.lt_size ho) (Nat.le_trans I.sz h)) (Nat.lt_irrefl _)
theorem Inv.cne (I : Inv X pins σ H s) : ∀ x c, X.env.cells.lookup x = some c → c ≠ X.env.locals := fun x c e z => by
 obtain ⟨v, o, ho, hd⟩ := I.cell x c e
 obtain ⟨m, ⟨o', es, ep, ho', hd', _⟩, _⟩ := I.loc
 rw [z, ho'] at ho; cases ho; rw [hd'] at hd; cases hd
theorem Inv.funs (I : Inv X pins σ H s) : s.heap.FunFrames X.base X.outer := by
 have all : ∀ (l : List Env), (∀ b ∈ frs l, b ∈ X.fs) → X.s₀.heap.FunFrames X.base l → s.heap.FunFrames X.base l := by
  intro l
  induction l with
  | nil => intro _ _; trivial
  | cons env r ih =>
   intro hs hl
   obtain ⟨hk, ⟨L, o, hf, hn, ho, hd⟩, hr⟩ := hl
   have hL : L ∈ X.fs := hs L (by unfold frs; rw [List.filterMap_cons, hf]; exact List.mem_cons_self)
   obtain ⟨sl, e⟩ := I.base.slot L o ho (I.ok.frf L hL) hL fun z => I.ok.exfs L z hL
   exact ⟨hk, ⟨L, _, hf, hn, e, hd⟩, ih (fun b hb => hs b (by unfold frs; rw [List.filterMap_cons, hf]; exact List.mem_cons_of_mem _ hb)) hr⟩
 exact all X.outer (fun _ hb => hb) I.ok.funs
theorem Inv.stack (I : Inv X pins σ H s) : s.heap.FunFrames X.base X.stack := by
 rcases I.ok.stk with e | ⟨e, hf⟩
 ·rw [e]; exact I.funs
 ·rw [e]
  obtain ⟨m, hn, _⟩ := I.loc
  refine .cons (by rw [I.ok.kind]; decide) hf hn ?_ I.funs
  exact Heap.get?_none_of_le (Nat.le_trans I.ok.bsz I.ok.above)
theorem Inv.stkSub (I : Inv X pins σ H s) : ∀ b ∈ frs X.stack, b ∈ X.env.locals :: X.fs := fun b hb => by
 rcases I.ok.stk with e | ⟨e, hf⟩
 ·rw [e] at hb; exact List.mem_cons_of_mem _ hb
 ·rw [e] at hb
  unfold frs at hb
  rw [List.filterMap_cons, hf] at hb
  exact hb
theorem Inv.stkFree (I : Inv X pins σ H s) : ∀ b ∈ frs X.stack, H b = none := fun b hb => by
 rcases List.mem_cons.mp (I.stkSub b hb) with e | hb
 ·rw [e]; exact I.free
 ·obtain ⟨_, o, ho, _⟩ := I.ok.funs.mem hb
  exact I.base.free b o ho (I.ok.frf b hb) fun z => I.ok.exfs b z hb
theorem Inv.step {g' : Array GenState} {t' : Nat} {d' : Drawn} {ch : List Addr} (I : Inv X pins σ H s)
  (hch : ∀ b ∈ ch, (b ∈ X.ex ∨ X.s₀.heap.objs.size ≤ b) ∧ b ≠ X.env.locals ∧ (∀ x c, X.env.cells.lookup x = some c → c ≠ b) ∧ ∀ p ∈ X.pn ++ pins, p.1 ≠ b)
  (keep : ∀ b o, b ≠ X.env.locals → b ∉ X.fs → b ∉ ch → s.heap.get? b = some o → H b = none → h'.get? b = some o)
  (slot : ∀ b o, b ≠ X.env.locals → b ∈ X.fs → b ∉ ch → s.heap.get? b = some o → H b = none → ∃ sl, h'.get? b = some { o with slots := sl }) (free : ∀ b o, b ∉ ch → s.heap.get? b = some o → H b = none → H' b = none)
  (there : ∀ b o, b ∉ ch → s.heap.get? b = some o → ∃ o', h'.get? b = some o')
  (tups : ∀ b xs, H b = some (.tup xs) → H' b = some (.tup xs)) (frzs : ∀ b o u, H b = some (.frz o u) → H' b = some (.frz o u)) (tbls : ∀ b ps, H b = some (.tbl ps) → ∃ more, H' b = some (.tbl (ps ++ more)))
  (ns : ∀ m, s.heap.Ns X.env.locals m → h'.Ns X.env.locals m) (hok : HOk X.prog X.w H' h') (hg : AllBare g') :
  Inv X pins σ H' { s with heap := h', gens := g', drawn := d', toks := t' } := by
 have neL : ∀ b o, X.s₀.heap.get? b = some o → b ≠ X.env.locals := fun b o e => Nat.ne_of_lt (Nat.lt_of_lt_of_le (Heap.lt_size e) I.ok.above)
 have neC : ∀ b o, X.s₀.heap.get? b = some o → b ∉ X.ex → b ∉ ch := fun b o e hx hb => by
  rcases (hch b hb).1 with z | z
  ·exact hx z
  ·exact absurd (Nat.lt_of_lt_of_le (Heap.lt_size e) z) (Nat.lt_irrefl _)
 have cellK : ∀ x c, X.env.cells.lookup x = some c → ∀ v, s.heap.IsCell c v → h'.IsCell c v := fun x c e v hh1 => by
  obtain ⟨o, ho, hd⟩ := hh1
  have nch : c ∉ ch := fun z => (hch c z).2.2.1 x c e rfl
  by_cases hc : c ∈ X.fs
  ·obtain ⟨sl, q⟩ := slot c o (I.cne x c e) hc nch ho (I.freeC x c e)
   exact ⟨_, q, hd⟩
  ·exact ⟨o, keep c o (I.cne x c e) hc nch ho (I.freeC x c e), hd⟩
 refine ⟨I.ok, I.os, hg, ⟨fun b o e n hb hx => ?_, fun b o e n hb hx => ?_, fun b o e n hx => ?_, fun b o e hx => ?_, fun b xs e => tups b xs (I.base.tups b xs e), fun b o xs e => frzs b o xs (I.base.frzs b o xs e), fun b ps e => ?_⟩, ?_, fun x c e => ?_, ?_, fun x c e => ?_, fun p hp => ?_, hok, I.len⟩
 ·exact keep b o (neL b o e) hb (neC b o e hx) (I.base.keep b o e n hb hx) (I.base.free b o e n hx)
 ·obtain ⟨sl, e1⟩ := I.base.slot b o e n hb hx
  obtain ⟨sl', e2⟩ := slot b _ (neL b o e) hb (neC b o e hx) e1 (I.base.free b o e n hx)
  exact ⟨sl', e2⟩
 ·obtain ⟨o', e1⟩ := I.base.there b o e hx
  exact free b o' (neC b o e hx) e1 (I.base.free b o e n hx)
 ·obtain ⟨o', e1⟩ := I.base.there b o e hx
  exact there b o' (neC b o e hx) e1
 ·obtain ⟨m1, e1⟩ := I.base.tbls b ps e
  obtain ⟨m2, e2⟩ := tbls b _ e1
  exact ⟨m1 ++ m2, by rw [e2, Array.append_assoc]⟩
 ·obtain ⟨m, hn, hl⟩ := I.loc
  refine ⟨m, ns m hn, fun i x v e1 e2 e3 => ?_⟩
  obtain ⟨u, r, l⟩ := hl i x v e1 e2 e3
  refine ⟨u, r, ?_⟩
  rcases l with l | ⟨k, c, e, z⟩
  ·exact .inl l
  ·exact .inr ⟨k, c, e, cellK x c e _ z⟩
 ·obtain ⟨v, z⟩ := I.cell x c e
  exact ⟨v, cellK x c e v z⟩
 ·obtain ⟨m, ⟨o, _, _, ho, _⟩, _⟩ := I.loc
  exact free _ o (fun z => (hch _ z).2.1 rfl) ho I.free
 ·obtain ⟨v, o, ho, hd⟩ := I.cell x c e
  exact free c o (fun z => (hch c z).2.2.1 x c e rfl) ho (I.freeC x c e)
 ·obtain ⟨e, n, ne, nf, d⟩ := I.pin p hp
  have nch : p.1 ∉ ch := fun z => (hch p.1 z).2.2.2 p hp rfl
  exact ⟨keep p.1 p.2 ne nf nch e n, free p.1 p.2 nch e n, ne, nf, d⟩
theorem Inv.un {t' : Nat} (I : Inv X pins σ H s) (u : Un X.fs [] H H' s.heap h') (hok : HOk X.prog X.w H' h') : Inv X pins σ H' { s with heap := h', toks := t' } := by
 obtain ⟨m, ⟨o, es, ep, ho, r⟩, _⟩ := id I.loc
 obtain ⟨sl, hL⟩ := u.any ho I.free (by simp)
 exact I.step (g' := s.gens) (d' := s.drawn) (ch := []) (fun _ z => nomatch z) (fun b o _ hb _ e n => u.keep b o e n hb (by simp)) (fun b o _ hb _ e n => u.slot b o e n hb (by simp)) (fun b o _ e n => u.free b o e n (by simp)) (fun b o _ e => u.there b o e (by simp)) u.tups u.frzs u.tbls (fun m' hm => by
  obtain ⟨o', es', ep', ho', r'⟩ := hm
  rw [ho] at ho'; cases ho'
  exact ⟨_, es', ep', hL, r'⟩) hok I.bare
theorem Inv.call {g' : Array GenState} {t' : Nat} {d' : Drawn} {ch : List Addr} (I : Inv X pins σ H s) (u : Un (frs X.stack) ch H H' s.heap h') (hok : HOk X.prog X.w H' h') (hg : AllBare g')
  (hch : ∀ b ∈ ch, (b ∈ X.ex ∨ X.s₀.heap.objs.size ≤ b) ∧ b ≠ X.env.locals ∧ (∀ x c, X.env.cells.lookup x = some c → c ≠ b) ∧ ∀ p ∈ X.pn ++ pins, p.1 ≠ b) :
  Inv X pins σ H' { s with heap := h', gens := g', drawn := d', toks := t' } := by
 obtain ⟨m, ⟨o, es, ep, ho, r⟩, _⟩ := id I.loc
 obtain ⟨sl, hL⟩ := u.any ho I.free fun z => (hch _ z).2.1 rfl
 exact I.step (ch := ch) hch (fun b o hL hb hc e n => u.keep b o e n (fun z => (List.mem_cons.mp (I.stkSub b z)).elim hL hb) hc) (fun b o _ _ hc e n => u.any e n hc) (fun b o hc e n => u.free b o e n hc) (fun b o hc e => u.there b o e hc) u.tups u.frzs u.tbls (fun m' hm => by
  obtain ⟨o', es', ep', ho', r'⟩ := hm
  rw [ho] at ho'; cases ho'
  exact ⟨_, es', ep', hL, r'⟩) hok hg
theorem Inv.turned {t' : Nat} {it : Addr} (I : Inv X pins σ H s) (k : ∀ b o, b ≠ it → s.heap.get? b = some o → h'.get? b = some o) (hn : H it = none) (hL : it ≠ X.env.locals)
  (h1 : it ∈ X.ex ∨ X.s₀.heap.objs.size ≤ it) (h2 : ∀ x c, X.env.cells.lookup x = some c → c ≠ it) (h3 : ∀ p ∈ X.pn ++ pins, p.1 ≠ it) : Inv X pins σ H { s with heap := h', toks := t' } := by
 have nit : ∀ b u, H b = some u → b ≠ it := fun b u e z => by rw [z, hn] at e; cases e
 refine I.step (g' := s.gens) (d' := s.drawn) (ch := [it]) (fun b hb => ?_) (fun b o _ _ hc e _ => k b o (fun z => hc (by simp [z])) e) (fun b o _ _ hc e _ => ⟨o.slots, k b o (fun z => hc (by simp [z])) e⟩) (fun _ _ _ _ n => n)
  (fun b o hc e => ⟨o, k b o (fun z => hc (by simp [z])) e⟩) (fun _ _ e => e) (fun _ _ _ e => e) (fun b ps e => ⟨#[], by rw [e]; simp⟩) (fun m hm => ?_) (fun b u e => ?_) I.bare
 ·have e : b = it := by simpa using hb
  subst e
  exact ⟨h1, hL, h2, h3⟩
 ·obtain ⟨o, es, ep, ho, r⟩ := hm
  exact ⟨o, es, ep, k _ o (Ne.symm hL) ho, r⟩
 ·refine (I.hok b u e).stay (fun c v hc q => k c v ?_ q) (fun _ q => q) fun _ _ q => q
  rcases hc with z | z
  ·rw [z]; exact nit b u e
  ·exact nit c _ z
theorem Inv.tok (I : Inv X pins σ H s) (t : Nat) : Inv X pins σ H { s with toks := t } := I.un (h' := s.heap) (t' := t) Un.refl I.hok
theorem Inv.kept {t' : Nat} (I : Inv X pins σ H s) (k : ∀ b u, s.heap.get? b = some u → h'.get? b = some u) : Inv X pins σ H { s with heap := h', toks := t' } := I.un (Un.kept k) (I.hok.kept k)
theorem Inv.laid {a : Addr} {o : HO} {t' : Nat} (I : Inv X pins σ H s) (k : ∀ b u, s.heap.get? b = some u → h'.get? b = some u) (hp : s.heap.objs.size ≤ a) (new : ObjOk X.prog X.w (upd H a o) h' a o) :
  Inv X pins σ (upd H a o) { s with heap := h', toks := t' } := I.un (Un.laid k hp (I.hok.fresh hp)) (I.hok.laid k hp new)
theorem Inv.write {x e : Addr} {o : HO} {t' : Nat} (I : Inv X pins σ H s) (mu : Mut (H x)) (he : e = x ∨ H e = some (.own x)) (k : ∀ b u, b ≠ e → s.heap.get? b = some u → h'.get? b = some u) (heo : ∃ u, h'.get? e = some u)
  (new : ObjOk X.prog X.w (upd H x o) h' x o) : Inv X pins σ (upd H x o) { s with heap := h', toks := t' } := I.un (Un.write mu he k heo) (I.hok.write mu he k heo new)
theorem Inv.pins_of {pins' : List (Addr × Obj)} (I : Inv X pins σ H s) (h : ∀ p ∈ pins', s.heap.get? p.1 = some p.2 ∧ H p.1 = none ∧ p.1 ≠ X.env.locals ∧ p.1 ∉ X.fs ∧ ∀ v, p.2.data ≠ .cell v) : Inv X pins' σ H s :=
 ⟨I.ok, I.os, I.bare, I.base, I.loc, I.cell, I.free, I.freeC, fun p hp => (List.mem_append.mp hp).elim (fun z => I.pin p (List.mem_append_left _ z)) (h p), I.hok, I.len⟩
theorem nodup_ix {N : List Str} (hN : N.Nodup) {i j : Nat} {x : Str} (a : N[i]? = some x) (b : N[j]? = some x) : i = j := by
 obtain ⟨h1, e1⟩ := List.getElem?_eq_some_iff.mp a
 obtain ⟨h2, e2⟩ := List.getElem?_eq_some_iff.mp b
 exact (List.getElem_inj hN).mp (e1.trans e2.symm)
theorem store_ok2 {M : Model} {A : Around} {E : Value → Shared → Prop} {i : Nat} {x : Str} {v : V} {u : Value} {Q : Unit → Shared → Prop} (I : Inv X pins σ H s) (hN : X.N.Nodup) (hi : X.N[i]? = some x) (hx : Loc X.env.scope x) (r : RelV v u)
  (h : ∀ s', Inv X pins (σ.set i (some v)) H s' → (∃ a, Heap.SameBut a s.heap s'.heap ∧ (a = X.env.locals ∨ X.env.cells.lookup x = some a)) → Q () s') (hf : X.fn x = true ∨ X.env.scope.names.lookup x = some .local := by first | exact .inl rfl | exact .inr rfl | assumption) : wpAny M A (storeName X.env x u) Q E s := by
 obtain ⟨m, hn, hl⟩ := id I.loc
 have hcls : (X.env.scope.kind == .class || (X.env.scope.kind == .module && X.env.locals != X.env.globals)) = false := by rw [I.ok.kind]; rfl
 have hiσ : i < σ.length := by rw [I.len]; exact (List.getElem?_eq_some_iff.mp hi).1
 have cne := I.cne
 have tracked : ∀ {a : Addr} {h' : Heap}, (∃ o, s.heap.get? a = some o ∧ H a = none) → Heap.SameBut a s.heap h' → HOk X.prog X.w H h' := fun {a h'} ha hs b ob e => by
  obtain ⟨_, _, hfree⟩ := ha
  refine (I.hok b ob e).stay (fun c w' hc q => (hs.2 c ?_).trans q) (fun _ q => q) fun _ _ q => q
  rintro rfl
  rcases hc with rfl | hc
  ·rw [hfree] at e; cases e
  ·rw [hfree] at hc; cases hc
 rcases hx with hk | hk
 ·refine wpAny_storeName_local hk hn (fun h' hn' hs => ?_) hcls
  obtain ⟨oL, _, _, hoL, _⟩ := id hn
  refine h _ ⟨I.ok, I.os, I.bare, ⟨fun b o e n hb hx => ?_, fun b o e n hb hx => ?_, I.base.free, fun b o e hx => ?_, I.base.tups, I.base.frzs, I.base.tbls⟩, ⟨_, hn', fun j y v' e1 e2 e3 => ?_⟩, fun y c e => ?_, I.free, I.freeC, fun p hp => ?_, tracked ⟨oL, hoL, I.free⟩ hs, by simpa using I.len⟩ ⟨_, hs, .inl rfl⟩
  ·exact (hs.2 b (Nat.ne_of_lt (Nat.lt_of_lt_of_le (Heap.lt_size e) I.ok.above))).trans (I.base.keep b o e n hb hx)
  ·obtain ⟨sl, e1⟩ := I.base.slot b o e n hb hx
   exact ⟨sl, (hs.2 b (Nat.ne_of_lt (Nat.lt_of_lt_of_le (Heap.lt_size e) I.ok.above))).trans e1⟩
  ·obtain ⟨o', e1⟩ := I.base.there b o e hx
   exact ⟨o', (hs.2 b (Nat.ne_of_lt (Nat.lt_of_lt_of_le (Heap.lt_size e) I.ok.above))).trans e1⟩
  ·by_cases hj : j = i
   ·subst hj
    rw [hi] at e1; cases e1
    rw [List.getElem?_set_self hiσ] at e2
    cases e2
    exact ⟨u, r, .inl ⟨hk, by simp⟩⟩
   ·rw [List.getElem?_set_ne (Ne.symm hj)] at e2
    obtain ⟨u', r', q⟩ := hl j y v' e1 e2 e3
    refine ⟨u', r', ?_⟩
    rcases q with ⟨k, e⟩ | ⟨k, c, e, z⟩
    ·refine .inl ⟨k, ?_⟩
     have : y ≠ x := fun e => hj (nodup_ix hN e1 (e ▸ hi))
     simp [this, e]
    ·exact .inr ⟨k, c, e, z.sameBut hs (cne y c e)⟩
  ·obtain ⟨w', z⟩ := I.cell y c e
   exact ⟨w', z.sameBut hs (cne y c e)⟩
  ·obtain ⟨e, n, ne, nf, d⟩ := I.pin p hp
   exact ⟨(hs.2 p.1 ne).trans e, n, ne, nf, d⟩
 ·have hfn : X.fn x = true := by
   rcases hf with z | z
   ·exact z
   ·rw [z] at hk; cases hk
  obtain ⟨c, hc⟩ := I.ok.has x (.inl hk)
  obtain ⟨w', z⟩ := I.cell x c hc
  refine wpAny_storeName_cell I.ok.kind hk hc z (fun h' hc' hs => ?_)
  obtain ⟨oc, hoc, hocd⟩ := id z
  refine h { s with heap := h' } ⟨I.ok, I.os, I.bare, ⟨fun b o e n hb hx => ?_, fun b o e n hb hx => ?_, I.base.free, fun b o e hx => ?_, I.base.tups, I.base.frzs, I.base.tbls⟩, ⟨m, hn.sameBut hs (Ne.symm (cne x c hc)), fun j y v' e1 e2 e3 => ?_⟩, fun y c' e => ?_, I.free, I.freeC, fun p hp => ?_, tracked ⟨oc, hoc, I.freeC x c hc⟩ hs, by simpa using I.len⟩ ⟨c, hs, .inr hc⟩
  ·exact (hs.2 b (Nat.ne_of_lt (Nat.lt_of_lt_of_le (Heap.lt_size e) (I.ok.cab x c hfn hc)))).trans (I.base.keep b o e n hb hx)
  ·obtain ⟨sl, e1⟩ := I.base.slot b o e n hb hx
   exact ⟨sl, (hs.2 b (Nat.ne_of_lt (Nat.lt_of_lt_of_le (Heap.lt_size e) (I.ok.cab x c hfn hc)))).trans e1⟩
  ·obtain ⟨o', e1⟩ := I.base.there b o e hx
   exact ⟨o', (hs.2 b (Nat.ne_of_lt (Nat.lt_of_lt_of_le (Heap.lt_size e) (I.ok.cab x c hfn hc)))).trans e1⟩
  ·by_cases hj : j = i
   ·subst hj
    rw [hi] at e1; cases e1
    rw [List.getElem?_set_self hiσ] at e2
    cases e2
    exact ⟨u, r, .inr ⟨.inl hk, c, hc, hc'⟩⟩
   ·rw [List.getElem?_set_ne (Ne.symm hj)] at e2
    obtain ⟨u', r', q⟩ := hl j y v' e1 e2 e3
    refine ⟨u', r', ?_⟩
    rcases q with q | ⟨k, c', e, z'⟩
    ·exact .inl q
    ·refine .inr ⟨k, c', e, z'.sameBut hs ?_⟩
     rintro rfl
     exact hj (nodup_ix hN e1 (I.ok.inj _ _ _ e hc ▸ hi))
  ·by_cases hcc : c' = c
   ·subst hcc; exact ⟨_, hc'⟩
   ·obtain ⟨w2, z2⟩ := I.cell y c' e
    exact ⟨w2, z2.sameBut hs hcc⟩
  ·obtain ⟨e, n, ne, nf, d⟩ := I.pin p hp
   refine ⟨(hs.2 p.1 ?_).trans e, n, ne, nf, d⟩
   intro q
   rw [q, hoc] at e
   have q' : oc = p.2 := Option.some.inj e
   exact d w' (by rw [← q']; exact hocd)
theorem store_ok {M : Model} {A : Around} {E : Value → Shared → Prop} {i : Nat} {x : Str} {v : V} {u : Value} {Q : Unit → Shared → Prop} (I : Inv X pins σ H s) (hN : X.N.Nodup) (hi : X.N[i]? = some x) (hx : Loc X.env.scope x) (r : RelV v u)
  (h : ∀ s', Inv X pins (σ.set i (some v)) H s' → Q () s') (hf : X.fn x = true ∨ X.env.scope.names.lookup x = some .local := by first | exact .inl rfl | exact .inr rfl | assumption) : wpAny M A (storeName X.env x u) Q E s :=
 store_ok2 I hN hi hx r (fun s' I' _ => h s' I') hf
theorem Inv.call' {s' : Shared} {ch : List Addr} (I : Inv X pins σ H s) (ho : s'.os = s.os) (u : Un (frs X.stack) ch H H' s.heap s'.heap) (hok : HOk X.prog X.w H' s'.heap) (hg : AllBare s'.gens)
  (hch : ∀ b ∈ ch, (b ∈ X.ex ∨ X.s₀.heap.objs.size ≤ b) ∧ b ≠ X.env.locals ∧ (∀ x c, X.env.cells.lookup x = some c → c ≠ b) ∧ ∀ p ∈ X.pn ++ pins, p.1 ≠ b) : Inv X pins σ H' s' := by
 obtain ⟨h', g', d', t', o'⟩ := s'
 have e : o' = s.os := ho
 subst e
 exact I.call (g' := g') (t' := t') (d' := d') u hok hg hch
end
noncomputable abbrev XK := Value → Option Addr → Hp → Prop
noncomputable abbrev St := List (Option V)
noncomputable abbrev VK := V → Hp → Prop
noncomputable abbrev TE := St → Hp → VK → Prop
noncomputable abbrev TT := St → Hp → (Bool → Hp → Prop) → Prop
noncomputable abbrev TA := St → Hp → (List V → Hp → Prop) → Prop
structure Ends where
 nx : St → Hp → Prop
 rt : VK
 bk : St → Hp → Prop := fun _ _ => False
 ct : St → Hp → Prop := fun _ _ => False
noncomputable abbrev TS := Ends → St → Hp → Prop
noncomputable def EP (X : Cx) (pins : List (Addr × Obj)) (σ : St) (Q : VK) (u : Value) (s' : Shared) : Prop := ∃ v H', Inv X pins σ H' s' ∧ RelV v u ∧ Q v H'
noncomputable def TP (X : Cx) (pins : List (Addr × Obj)) (σ : St) (Q : Bool → Hp → Prop) (b : Bool) (s' : Shared) : Prop := ∃ H', Inv X pins σ H' s' ∧ Q b H'
noncomputable def AP (X : Cx) (pins : List (Addr × Obj)) (σ : St) (Q : List V → Hp → Prop) (us : List Value) (s' : Shared) : Prop := ∃ vs H', Inv X pins σ H' s' ∧ Vals vs us ∧ Q vs H'
noncomputable def SP (X : Cx) (pins : List (Addr × Obj)) (D : Ends) (f : Flow) (s' : Shared) : Prop :=
 match f with
 | .next => ∃ σ' H', Inv X pins σ' H' s' ∧ D.nx σ' H'
 | .brk => ∃ σ' H', Inv X pins σ' H' s' ∧ D.bk σ' H'
 | .cont => ∃ σ' H', Inv X pins σ' H' s' ∧ D.ct σ' H'
 | .ret u => ∃ v σ' H', Inv X pins σ' H' s' ∧ RelV v u ∧ D.rt v H'
noncomputable def PE (X : Cx) (e : Expr) (t : TE) : Prop :=
 ∀ (pins : List (Addr × Obj)) (s : Shared) (σ : St) (H : Hp) (Q : VK), Inv X pins σ H s → t σ H Q → wpAny (model X.prog X.w) X.A (eval e X.env) (EP X pins σ Q) X.xe s
noncomputable def PT (X : Cx) (e : Expr) (t : TT) : Prop :=
 ∀ (pins : List (Addr × Obj)) (s : Shared) (σ : St) (H : Hp) (Q : Bool → Hp → Prop), Inv X pins σ H s → t σ H Q → wpAny (model X.prog X.w) X.A (isTrue e X.env (eval e X.env)) (TP X pins σ Q) X.xe s
noncomputable def PW (X : Cx) (e : Expr) (t : TT) : Prop :=
 ∀ (whole : Sem Value) (pins : List (Addr × Obj)) (s : Shared) (σ : St) (H : Hp) (Q : Bool → Hp → Prop), Inv X pins σ H s → t σ H Q → wpAny (model X.prog X.w) X.A (isTrue e X.env whole) (TP X pins σ Q) X.xe s
noncomputable def PA (X : Cx) (es : List Expr) (t : TA) : Prop :=
 ∀ (pos : Pos) (pins : List (Addr × Obj)) (s : Shared) (σ : St) (H : Hp) (Q : List V → Hp → Prop), Inv X pins σ H s → t σ H Q → wpAny (model X.prog X.w) X.A (spliced (backTo pos (starEach es X.env))) (AP X pins σ Q) X.xe s
noncomputable def PS (X : Cx) (st : Stmt) (t : TS) : Prop :=
 ∀ (pins : List (Addr × Obj)) (s : Shared) (σ : St) (H : Hp) (D : Ends), Inv X pins σ H s → t D σ H → wpAny (model X.prog X.w) X.A (exec st X.env) (SP X pins D) X.xe s
noncomputable def PSs (X : Cx) (st : List Stmt) (t : TS) : Prop :=
 ∀ (pins : List (Addr × Obj)) (s : Shared) (σ : St) (H : Hp) (D : Ends), Inv X pins σ H s → t D σ H → wpAny (model X.prog X.w) X.A (execs st X.env) (SP X pins D) X.xe s
theorem thn {α : Type} {t : Sem α} {Q Q' : α → Shared → Prop} {M : Model} {A : Around} {E : Value → Shared → Prop} {s : Shared} (h : wpAny M A t Q E s) (hQ : ∀ a s, Q a s → Q' a s) : wpAny M A t Q' E s := wpAny_mono h hQ fun _ _ x => x
end L2
namespace L2
open PySem PySem.Spec PyProof.Rows
section
variable {X : Cx}
noncomputable def tVar (i : Nat) : TE := fun σ H Q => ∃ v, σ[i]? = some (some v) ∧ Q v H
noncomputable def tC (v : V) : TE := fun _ H Q => Q v H
theorem pe_var {i : Nat} {x : Str} {pos : Pos} (hN : X.N[i]? = some x) (hv : Vis X.env.scope x) (hd : (x == ("__debug__" : Str)) = false := by decide) (hcd : (x == ("__classdict__" : Str)) = false := by decide) : PE X (.Name x pos) (tVar i) := by
 intro pins s σ H Q I h
 obtain ⟨v, e, h⟩ := h
 obtain ⟨m, hn, hl⟩ := I.loc
 obtain ⟨u, r, l⟩ := hl i x v hN e hv
 have fin : EP X pins σ Q u s := ⟨v, H, I, r, h⟩
 rcases l with ⟨hk, hm⟩ | ⟨hk, c, hc, hcell⟩
 ·exact wpAny_Name (wpAny_loadName_local I.ok.kind hk hn hm fin) hd
 ·rcases hk with hk | hk
  ·exact wpAny_Name (wpAny_loadName_cell I.ok.kind hk hc hcell fin) hd
  ·exact wpAny_Name (wpAny_loadName_free I.ok.kind hk hc hcell fin hcd) hd
theorem pe_int {i j pos} : PE X (.Constant (.int i) j pos) (tC (.int i)) := fun _ _ _ H _ I h => wpAny_Constant_int ⟨.int i, H, I.tok _, ⟨_, rfl⟩, h⟩
theorem pe_bl {b j pos} : PE X (.Constant (.bool b) j pos) (tC (.bl b)) := fun _ _ _ H _ I h => Constant_bool ⟨.bl b, H, I, rfl, h⟩
theorem pe_non {j pos} : PE X (.Constant .none j pos) (tC .non) := fun _ _ _ H _ I h => Constant_none ⟨.non, H, I, rfl, h⟩
theorem pe_str {x j pos} : PE X (.Constant (.str x) j pos) (tC (.str x)) := fun _ _ _ H _ I h => Calls.Constant_str ⟨.str x, H, I.tok _, ⟨_, rfl⟩, h⟩
noncomputable def Gl (X : Cx) (x : Str) : Prop := X.env.kindOf x = some .globalImplicit
theorem ld_glob {E : Value → Shared → Prop} {pins : List (Addr × Obj)} {s : Shared} {σ : St} {H : Hp} {x : Str} {u : Value} {pos : Pos} {Q : Value → Shared → Prop} (I : Inv X pins σ H s) (hg : Gl X x) (hm : X.mg x = some u) (h : Q u s)
  (hd : (x == ("__debug__" : Str)) = false := by decide) : wpAny (model X.prog X.w) X.A (eval (.Name x pos) X.env) Q E s :=
 Calls.Name_function_global I.ok.kind hg (Calls.loadGlobal_global (by rw [I.ok.glob]; exact I.mod.glob.keeps I.bk) hm h) hd
theorem ld_blt {E : Value → Shared → Prop} {pins : List (Addr × Obj)} {s : Shared} {σ : St} {H : Hp} {x : Str} {u : Value} {pos : Pos} {Q : Value → Shared → Prop} (I : Inv X pins σ H s) (hg : Gl X x) (hm : X.mg x = none) (hv : bootBuiltins x = some u) (h : Q u s)
  (hn : x ≠ "__name__" := by decide) (hd : (x == ("__debug__" : Str)) = false := by decide) : wpAny (model X.prog X.w) X.A (eval (.Name x pos) X.env) Q E s := by
 obtain ⟨mb, h1, h2⟩ := I.mod.blt
 exact Calls.Name_function_global I.ok.kind hg (Calls.loadGlobal_builtin (by rw [I.ok.glob]; exact I.mod.glob.keeps I.bk) hm (by rw [I.ok.blt]; exact h1.keeps I.bk) ((h2 x hn).trans hv) h) hd
theorem pe_glob {x : Str} {v : V} {u : Value} {pos : Pos} (hg : Gl X x) (hm : X.mg x = some u) (r : RelV v u) (hd : (x == ("__debug__" : Str)) = false := by decide) : PE X (.Name x pos) (tC v) :=
 fun _ _ _ H _ I h => ld_glob I hg hm ⟨v, H, I, r, h⟩ hd
theorem pe_bltn {x : Str} {v : V} {u : Value} {pos : Pos} (hg : Gl X x) (hm : X.mg x = none) (hv : bootBuiltins x = some u) (r : RelV v u) (hn : x ≠ "__name__" := by decide) (hd : (x == ("__debug__" : Str)) = false := by decide) : PE X (.Name x pos) (tC v) :=
 fun _ _ _ H _ I h => ld_blt I hg hm hv ⟨v, H, I, r, h⟩ hn hd
variable {a b : Expr} {ta tb : TE} {pos : Pos}
variable {tA tB' : TT} {rest : List Expr}
noncomputable def tAnd (t u : TT) : TT := fun σ H Q => t σ H fun c H1 => if c = true then u σ H1 Q else Q false H1
noncomputable def tOr (t u : TT) : TT := fun σ H Q => t σ H fun c H1 => if c = true then Q true H1 else u σ H1 Q
noncomputable def tNot (t : TT) : TT := fun σ H Q => t σ H fun c H1 => Q (!c) H1
theorem pw_and1 (ha : PT X a tA) : PW X (.BoolOp .And [a] pos) tA := by
 intro wh pins s σ H Q I h
 refine isTrue_and (thn (ha pins s σ H Q I h) fun c s1 e => ?_)
 cases c with
 | true => exact isTrue_and_nil e
 | false => exact e
theorem pw_or1 (ha : PT X a tA) : PW X (.BoolOp .Or [a] pos) tA := by
 intro wh pins s σ H Q I h
 refine isTrue_or (thn (ha pins s σ H Q I h) fun c s1 e => ?_)
 cases c with
 | false => exact isTrue_or_nil e
 | true => exact e
theorem pw_and (ha : PT X a tA) (hb : PW X (.BoolOp .And (b :: rest) pos) tB') : PW X (.BoolOp .And (a :: b :: rest) pos) (tAnd tA tB') := by
 intro wh pins s σ H Q I h
 refine isTrue_and (thn (ha pins s σ H _ I h) fun c s1 hh1 => ?_)
 obtain ⟨H1, I1, q1⟩ := hh1
 cases c with
 | true => exact hb wh pins s1 σ H1 Q I1 q1
 | false => exact ⟨H1, I1, q1⟩
theorem pw_or (ha : PT X a tA) (hb : PW X (.BoolOp .Or (b :: rest) pos) tB') : PW X (.BoolOp .Or (a :: b :: rest) pos) (tOr tA tB') := by
 intro wh pins s σ H Q I h
 refine isTrue_or (thn (ha pins s σ H _ I h) fun c s1 hh1 => ?_)
 obtain ⟨H1, I1, q1⟩ := hh1
 cases c with
 | true => exact ⟨H1, I1, q1⟩
 | false => exact hb wh pins s1 σ H1 Q I1 q1
theorem pt_not (ha : PT X a tA) : PT X (.UnaryOp .Not a pos) (tNot tA) := by
 intro pins s σ H Q I h
 exact isTrue_not (ha pins s σ H (fun c H1 => Q (!c) H1) I h)
noncomputable def tAndV (ta tb : TE) : TE := fun σ H Q => ta σ H fun x H1 => ∃ c, x = .bl c ∧ if c = true then tb σ H1 Q else Q (.bl false) H1
noncomputable def tNotV (ta : TE) : TE := fun σ H Q => ta σ H fun x H1 => ∃ c, x = .bl c ∧ Q (.bl (!c)) H1
theorem pe_one {op} {t : TE} (h : PE X a t) : PE X (.BoolOp op [a] pos) t := fun pins s σ H Q I hw => BoolOp_one (h pins s σ H Q I hw)
theorem pe_and (ha : PE X a ta) (hb : PE X (.BoolOp .And (b :: rest) pos) tb) : PE X (.BoolOp .And (a :: b :: rest) pos) (tAndV ta tb) := by
 intro pins s σ H Q I h
 refine BoolOp_and (thn (ha pins s σ H _ I h) fun v s1 hh1 => ?_)
 obtain ⟨x, H1, I1, r1, q1⟩ := hh1
 obtain ⟨c, rfl, q1⟩ := q1
 cases r1
 refine wpAny_truthy_bool ?_
 cases c with
 | true => exact hb pins s1 σ H1 Q I1 q1
 | false => exact ⟨.bl false, H1, I1, rfl, q1⟩
theorem pe_not (ha : PE X a ta) : PE X (.UnaryOp .Not a pos) (tNotV ta) := by
 intro pins s σ H Q I h
 refine UnaryOp_ (thn (ha pins s σ H _ I h) fun v s1 hh1 => ?_)
 obtain ⟨x, H1, I1, r1, q1⟩ := hh1
 obtain ⟨c, rfl, q1⟩ := q1
 cases r1
 exact not_of (wpAny_truthy_bool ⟨.bl (!c), H1, I1, rfl, q1⟩)
end
end L2
namespace L2
open PySem PySem.Spec PyProof.Rows
noncomputable def SqL (K : PySem.W.Frag) (H : Hp) (a : Addr) (xs : List V) : Prop :=
 Rd H a (.lst xs) ∨
  ∃ (o : Obj) (its : Array Value) (n : Nat), K.lookup a = some o ∧ o.cls = .type "list" ∧ o.dict = none ∧ o.data = .seq its n ∧ its.size ≤ sizeLine ∧ Vals xs its.toList
noncomputable def SqT (K : PySem.W.Frag) (H : Hp) (a : Addr) (xs : List V) : Prop :=
 Rd H a (.tup xs) ∨
  ∃ (o : Obj) (its : Array Value) (n : Nat), K.lookup a = some o ∧ o.cls = .type "tuple" ∧ o.data = .seq its n ∧ its.size ≤ sizeLine ∧ Vals xs its.toList
noncomputable def absV : Value → Option V
 | .none => some .non
 | .bool b => some (.bl b)
 | .int i _ => some (.int i)
 | .str x _ => some (.str x)
 | .bytes b _ => some (.byt b)
 | .float b _ => some (.flt b)
 | .ref a => some (.ref a)
 | .type n => some (.ty n)
 | _ => none
theorem RelV.abs {x : V} {u : Value} (r : RelV x u) : absV u = some x := by
 cases x with
 | non => cases r; rfl
 | bl _ => cases r; rfl
 | int _ => obtain ⟨t, rfl⟩ := r; rfl
 | str _ => obtain ⟨t, rfl⟩ := r; rfl
 | byt _ => obtain ⟨t, rfl⟩ := r; rfl
 | flt _ => obtain ⟨t, rfl⟩ := r; rfl
 | ref _ => cases r; rfl
 | ty _ => cases r; rfl
theorem RelV.inj {x y : V} {u : Value} (r : RelV x u) (q : RelV y u) : x = y := Option.some.inj (r.abs.symm.trans q.abs)
theorem Vals.inj : ∀ {xs ys : List V} {us : List Value}, Vals xs us → Vals ys us → xs = ys
 | _, _, _, .nil, .nil => rfl
 | _, _, _, .cons r t, .cons r' t' => by rw [r.inj r', Vals.inj t t']
section
variable {X : Cx} {pins : List (Addr × Obj)} {σ : St} {H : Hp} {s : Shared} {a : Addr} {xs ys : List V}
theorem SqL.of {K : PySem.W.Frag} (h : H a = some (.lst xs)) : SqL K H a xs := .inl (.inl h)
theorem SqT.of {K : PySem.W.Frag} (h : H a = some (.tup xs)) : SqT K H a xs := .inl (.inl h)
theorem Inv.list (I : Inv X pins σ H s) (h : SqL X.K H a xs) : ∃ its : List Value, Vals xs its ∧ PlainL s.heap a its.toArray ∧ xs.length ≤ sizeLine := by
 rcases h with h | ⟨o, its, n, hk, hc, hd, hs, hz, r⟩
 ·obtain ⟨z, its, n, r, e⟩ := h.ok I.hok
  exact ⟨its, r, ⟨_, n, e, rfl, rfl, rfl⟩, z⟩
 ·refine ⟨its.toList, r, ⟨o, n, I.kIn a o hk, hc, hd, by simpa using hs⟩, ?_⟩
  have e := r.length
  simp only [Array.length_toList] at e
  omega
theorem Inv.tuple (I : Inv X pins σ H s) (h : SqT X.K H a xs) : ∃ its : List Value, Vals xs its ∧ IsTup s.heap a its.toArray ∧ xs.length ≤ sizeLine := by
 rcases h with h | ⟨o, its, n, hk, hc, hs, hz, r⟩
 ·obtain ⟨z, its, r, p⟩ := h.ok I.hok
  exact ⟨its, r, p, z⟩
 ·refine ⟨its.toList, r, ⟨o, I.kIn a o hk, hc, n, by simpa using hs⟩, ?_⟩
  have e := r.length
  simp only [Array.length_toList] at e
  omega
theorem Inv.list_inj (I : Inv X pins σ H s) (h : SqL X.K H a xs) (h' : SqL X.K H a ys) : xs = ys := by
 obtain ⟨its, r, ⟨o, n, e, _, _, d⟩, _⟩ := I.list h
 obtain ⟨its', r', ⟨o', n', e', _, _, d'⟩, _⟩ := I.list h'
 rw [e] at e'; cases e'
 rw [d] at d'
 injection d' with d1 _
 have : its = its' := by simpa using congrArg Array.toList d1
 subst this
 exact r.inj r'
theorem Inv.tuple_inj (I : Inv X pins σ H s) (h : SqT X.K H a xs) (h' : SqT X.K H a ys) : xs = ys := by
 obtain ⟨its, r, ⟨o, e, _, n, d⟩, _⟩ := I.tuple h
 obtain ⟨its', r', ⟨o', e', _, n', d'⟩, _⟩ := I.tuple h'
 rw [e] at e'; cases e'
 rw [d] at d'
 injection d' with d1 _
 have : its = its' := by simpa using congrArg Array.toList d1
 subst this
 exact r.inj r'
end
section
variable {X : Cx} {pins : List (Addr × Obj)} {σ : St} {H : Hp} {s : Shared} {E : Value → Shared → Prop}
end
section
variable {X : Cx} {st : Stmt} {rest : List Stmt} {t u : TS} {e : Expr} {te : TE} {pos : Pos}
noncomputable def tNext : TS := fun D σ H => D.nx σ H
noncomputable def tSeq (t u : TS) : TS := fun D σ H => t { D with nx := u D } σ H
theorem pss_nil : PSs X [] tNext := fun _ _ σ H _ I h => wpAny_execs_nil ⟨σ, H, I, h⟩
theorem pss_cons (h1 : PS X st t) (h2 : PSs X rest u) : PSs X (st :: rest) (tSeq t u) := by
 intro pins s σ H D I h
 refine wpAny_execs_cons (thn (h1 pins s σ H { D with nx := u D } I h) fun f s1 q => ?_)
 cases f with
 | next =>
  obtain ⟨σ', H', I', q⟩ := q
  exact h2 pins s1 σ' H' D I' q
 | ret v => exact q
 | brk => exact q
 | cont => exact q
theorem pss_one (h1 : PS X st t) : PSs X [st] t := by
 intro pins s σ H D I h
 refine wpAny_execs_cons (thn (h1 pins s σ H D I h) fun f s1 q => ?_)
 cases f with
 | next => exact wpAny_execs_nil q
 | ret v => exact q
 | brk => exact q
 | cont => exact q
theorem Inv.quiet {pins : List (Addr × Obj)} {σ : St} {H : Hp} {s : Shared} (I : Inv X pins σ H s) : interactive X.env = false := by simp [interactive, I.ok.kind]
noncomputable def tDrop (te : TE) : TS := fun D σ H => te σ H fun _ H1 => D.nx σ H1
theorem ps_expr (he : PE X e te) (hs : swapsWith e none pos.line X.env = pure false := by rfl) : PS X (.Expr e pos) (tDrop te) := by
 intro pins s σ H D I h
 exact wpAny_Expr_any (thn (he pins s σ H _ I h) fun v s1 hh1 => by obtain ⟨x, H1, I1, r1, q1⟩ := hh1; exact (⟨σ, H1, I1, q1⟩)) I.quiet hs
noncomputable def tRet (te : TE) : TS := fun D σ H => te σ H D.rt
theorem ps_ret (he : PE X e te) : PS X (.Return (some e) pos) (tRet te) := by
 intro pins s σ H D I h
 exact wpAny_Return_some (thn (he pins s σ H _ I h) fun v s1 hh1 => by obtain ⟨x, H1, I1, r1, q1⟩ := hh1; exact (⟨x, σ, H1, I1, r1, q1⟩))
noncomputable def tIfS (c : TT) (t u : TS) : TS := fun D σ H => c σ H fun b H1 => if b = true then t D σ H1 else u D σ H1
theorem ps_if {c : Expr} {a b : List Stmt} {tc : TT} (hc : PT X c tc) (ha : PSs X a t) (hb : PSs X b u) : PS X (.If c a b pos) (tIfS tc t u) := by
 intro pins s σ H D I h
 refine wpAny_If (thn (hc pins s σ H _ I h) fun d s1 hh1 => ?_)
 obtain ⟨H1, I1, q1⟩ := hh1
 cases d with
 | true => exact ha pins s1 σ H1 D I1 q1
 | false => exact hb pins s1 σ H1 D I1 q1
noncomputable def tNever : TS := fun _ _ _ => False
theorem ps_never : PS X st tNever := fun _ _ _ _ _ _ h => h.elim
end
noncomputable abbrev TG := V → St → Hp → (St → Hp → Prop) → Prop
noncomputable abbrev TGs := List V → St → Hp → (St → Hp → Prop) → Prop
noncomputable def PG (X : Cx) (target : Expr) (t : TG) : Prop :=
 ∀ (pins : List (Addr × Obj)) (s : Shared) (σ : St) (H : Hp) (v : V) (u : Value) (Q : St → Hp → Prop), Inv X pins σ H s → RelV v u → t v σ H Q →
  wpAny (model X.prog X.w) X.A (assign target X.env u) (fun _ s' => ∃ σ' H', Inv X pins σ' H' s' ∧ Q σ' H') X.xe s
noncomputable def PGs (X : Cx) (ts : List Expr) (t : TGs) : Prop :=
 ∀ (pins : List (Addr × Obj)) (s : Shared) (σ : St) (H : Hp) (vs : List V) (us : List Value) (Q : St → Hp → Prop), Inv X pins σ H s → Vals vs us → t vs σ H Q →
  wpAny (model X.prog X.w) X.A (assignInOrder ((assignEach ts X.env).map (·.2)) us) (fun _ s' => ∃ σ' H', Inv X pins σ' H' s' ∧ Q σ' H') X.xe s
noncomputable abbrev TSet := V → V → V → Hp → (Hp → Prop) → Prop
noncomputable def PSet (X : Cx) (t : TSet) : Prop :=
 ∀ (pins : List (Addr × Obj)) (s : Shared) (σ : St) (H : Hp) (o i v : V) (ov iv u : Value) (Q : Hp → Prop), Inv X pins σ H s → RelV o ov → RelV i iv → RelV v u → t o i v H Q →
  wpAny (model X.prog X.w) X.A (setItem ov iv u) (fun _ s' => ∃ H', Inv X pins σ H' s' ∧ Q H') X.xe s
section
variable {X : Cx} {pos : Pos}
noncomputable def gName (i : Nat) : TG := fun v σ H Q => Q (σ.set i (some v)) H
theorem pg_name {i : Nat} {x : Str} (hN : X.N.Nodup) (hi : X.N[i]? = some x) (hx : Loc X.env.scope x) (hf : X.fn x = true ∨ X.env.scope.names.lookup x = some .local := by first | exact .inl rfl | exact .inr rfl | assumption) : PG X (.Name x pos) (gName i) := by
 intro pins s σ H v u Q I r h
 exact wpAny_assign_Name (store_ok I hN hi hx r (fun s' I' => ⟨_, H, I', h⟩) hf)
noncomputable def gNil : TGs := fun vs σ H Q => vs = [] ∧ Q σ H
noncomputable def gCons (t : TG) (u : TGs) : TGs := fun vs σ H Q => ∃ v r, vs = v :: r ∧ t v σ H fun σ' H' => u r σ' H' Q
theorem pgs_nil : PGs X [] gNil := by
 intro pins s σ H vs us Q I r h
 obtain ⟨e, h⟩ := h
 subst e
 cases r
 exact assignInOrder_nil ⟨σ, H, I, h⟩
theorem pgs_cons {e : Expr} {es : List Expr} {t : TG} {u : TGs} (h1 : PG X e t) (h2 : PGs X es u)
  (hs : (assignEach (e :: es) X.env).map (·.2) = assign e X.env :: (assignEach es X.env).map (·.2) := by rfl) : PGs X (e :: es) (gCons t u) := by
 intro pins s σ H vs us Q I r h
 obtain ⟨v, vr, e1, h⟩ := h
 subst e1
 cases r with
 | cons r rr =>
  rw [hs]
  refine assignInOrder_cons (thn (h1 pins s σ H _ _ _ I r h) fun _ s1 hh1 => ?_)
  obtain ⟨σ1, H1, I1, q1⟩ := hh1
  exact h2 pins s1 σ1 H1 _ _ Q I1 rr q1
noncomputable def gTup (K : PySem.W.Frag) (n : Nat) (t : TGs) : TG := fun v σ H Q => ∃ a xs, v = .ref a ∧ SqT K H a xs ∧ xs.length = n ∧ t xs σ H Q
theorem pg_tup {es : List Expr} {k : Nat} {t : TGs} {n : Nat} (hc : X.calm = true) (h : PGs X es t)
  (hn : (assignEach es X.env).length = n := by rfl) (hst : (assignEach es X.env).findIdx? (·.1) = none := by rfl) : PG X (.Tuple es k pos) (gTup X.K n t) := by
 intro pins s σ H v u Q I r hw
 obtain ⟨a, xs, e1, hq, hl, hw⟩ := hw
 subst e1
 cases r
 obtain ⟨its, rv, ht, hz⟩ := I.tuple hq
 refine assign_Tuple_tuple (I.ok.hd hc) ht (by simp [hn, ← hl, rv.length]) hst fun h' hx => ?_
 have I1 : Inv X pins σ H { s with heap := h' } := I.kept (t' := s.toks) fun b o e => hx b o (Nat.ne_of_lt (Heap.lt_size e)) e
 exact h pins _ σ H xs _ Q I1 (by simpa using rv) hw
noncomputable def gSub (to ti : TE) (t : TSet) : TG := fun v σ H Q => to σ H fun o H1 => ti σ H1 fun i H2 => t o i v H2 fun H3 => Q σ H3
theorem pg_sub {o i : Expr} {to ti : TE} {t : TSet} (ho : PE X o to) (hi : PE X i ti) (hs : PSet X t)
  (ha : ∀ v, assign (.Subscript o i pos) X.env v = (do
   let ov ← holding [v] (eval o X.env)
   let iv ← holding [v, ov] (eval i X.env)
   standAt pos
   holding [v, ov, iv] (setItem ov iv v)
   release [v, ov, iv] []) := by intro _; rfl) : PG X (.Subscript o i pos) (gSub to ti t) := by
 intro pins s σ H v u Q I r h
 rw [ha]
 refine wpAny_bind (wpAny_holding (thn (ho pins s σ H _ I h) fun ov s1 hh1 => ?_))
 obtain ⟨x, H1, I1, r1, q1⟩ := hh1
 refine wpAny_bind (wpAny_holding (thn (hi pins s1 σ H1 _ I1 q1) fun iv s2 hh2 => ?_))
 obtain ⟨y, H2, I2, r2, q2⟩ := hh2
 refine wpAny_bind (wpAny_standAt (wpAny_bind (wpAny_holding (thn (hs pins s2 σ H2 x y v ov iv u _ I2 r1 r2 r q2) fun _ s3 hh3 => ?_))))
 obtain ⟨H3, I3, q3⟩ := hh3
 exact wpAny_release ⟨σ, H3, I3, q3⟩
noncomputable def tAsg (te : TE) (g : TG) : TS := fun D σ H => te σ H fun x H1 => g x σ H1 D.nx
theorem ps_asg {tg e : Expr} {te : TE} {g : TG} (he : PE X e te) (hg : PG X tg g) (hs : swapsWithSole [tg] e pos.line X.env = pure false := by rfl) (hw : swappedStores [tg] e X.env = pure none := by rfl)
  (h1 : (assignEach [tg] X.env).map (·.2) = [assign tg X.env] := by rfl) : PS X (.Assign [tg] e pos) (tAsg te g) := by
 intro pins s σ H D I h
 refine wpAny_Assign_stores (thn (he pins s σ H _ I h) fun v s1 ⟨x, H1, I1, r1, q1⟩ => ?_) hs hw
 rw [h1]
 exact thn (hg pins s1 σ H1 x v _ I1 r1 q1) fun _ s2 q => q
theorem ps_set {i : Nat} {x : Str} {e : Expr} {te : TE} {pos' : Pos} (hN : X.N.Nodup) (hi : X.N[i]? = some x) (hx : Loc X.env.scope x) (he : PE X e te) (hs : swapsWith e (some (.Name x pos')) pos.line X.env = pure false := by rfl) (hf : X.fn x = true ∨ X.env.scope.names.lookup x = some .local := by first | exact .inl rfl | exact .inr rfl | assumption) :
  PS X (.Assign [.Name x pos'] e pos) (tAsg te (gName i)) := by
 intro pins s σ H D I h
 refine wpAny_Assign_Name (thn (he pins s σ H _ I h) fun v s1 ⟨y, H1, I1, r1, q1⟩ => ?_) hs
 exact store_ok I1 hN hi hx r1 (fun s2 I2 => ⟨_, H1, I2, q1⟩) hf
noncomputable def tPar (i j : Nat) (ta : TA) : TS := fun D σ H => ta σ H fun vs H1 => ∃ v w, vs = [v, w] ∧ D.nx ((σ.set i (some v)).set j (some w)) H1
theorem ps_par {i j : Nat} {x y : Str} {a b : Expr} {ta : TA} {px py pt : Pos} {kt k2 pt2} (hc : X.calm = true) (hN : X.N.Nodup) (hi : X.N[i]? = some x) (hj : X.N[j]? = some y) (hij : i ≠ j)
  (hx : X.env.scope.names.lookup x = some .local) (hy : X.env.scope.names.lookup y = some .local) (ha : PA X [a, b] ta)
  (hw : swappedStores [.Tuple [.Name x px, .Name y py] kt pt] (.Tuple [a, b] k2 pt2) X.env = pure (some [x, y]))
  (hs : swapsWithSole [.Tuple [.Name x px, .Name y py] kt pt] (.Tuple [a, b] k2 pt2) pos.line X.env = pure false := by rfl) :
  PS X (.Assign [.Tuple [.Name x px, .Name y py] kt pt] (.Tuple [a, b] k2 pt2) pos) (tPar i j ta) := by
 intro pins s σ H D I h
 rw [exec_Assign_arm]
 refine wpAny_bind (wpAny_standAt ?_)
 rw [hs]
 refine wpAny_bind (wpAny_pure ?_)
 rw [if_neg (by decide)]
 refine wpAny_bind (Tuple_ (thn (ha _ pins s σ H _ I h) fun us s1 hh1 => ?_))
 obtain ⟨vs, H1, I1, r1, q1⟩ := hh1
 obtain ⟨v, w, e1, q1⟩ := q1
 subst e1
 obtain ⟨u1, u2, rfl, rv, rw'⟩ : ∃ u1 u2, us = [u1, u2] ∧ RelV v u1 ∧ RelV w u2 := by
  cases r1 with
  | cons p q =>
   cases q with
   | cons p' q' =>
    cases q'
    exact ⟨_, _, rfl, p, p'⟩
 refine wpAny_newObj_type ?_ (by show 2 ≤ sizeLine; decide)
 have I2 : Inv X pins σ H1 { s1 with heap := s1.heap.push { cls := .type "tuple", data := .seq [u1, u2].toArray } } := I1.kept (t' := s1.toks) fun b o e => Heap.get?_push_of_some _ e
 rw [hw]
 refine wpAny_bind (wpAny_pure ?_)
 show wpAny (model X.prog X.w) X.A (do rule "assign.swapped-stores"; let items ← unpackItems (.ref s1.heap.objs.size) 2 none; assignInOrder [fun v => bindName X.env y v, fun v => bindName X.env x v] items.reverse; pure Flow.next) _ _ _
 refine wpAny_bind (wpAny_rule (wpAny_bind (unpackItems_tuple (items := #[u1, u2]) (I.ok.hd hc) (IsTup.new s1.heap _) fun h' hx' => ?_)))
 have I3 := I2.kept (h' := h') (t' := s1.toks) fun b o e => hx' b o (Nat.ne_of_lt (Heap.lt_size e)) e
 show wpAny _ _ (assignInOrder [fun v => bindName X.env y v, fun v => bindName X.env x v] [u2, u1] >>= fun _ => pure Flow.next) _ _ _
 refine wpAny_bind (assignInOrder_cons (wpAny_bindName (store_ok I3 hN hj (.inl hy) rw' (fun s2 I4 => ?_) (.inr hy))))
 refine assignInOrder_cons (wpAny_bindName (store_ok I4 hN hi (.inl hx) rv (fun s3 I5 => assignInOrder_nil (wpAny_pure ?_)) (.inr hx)))
 rw [List.set_comm _ _ (Ne.symm hij)] at I5
 exact ⟨_, H1, I5, q1⟩
end
section
variable {X : Cx} {pos : Pos}
noncomputable def tWhile (c : TT) (tb : TS) : TS := fun D σ H => ∃ W : Nat → St → Hp → Prop, (∃ m, W m σ H) ∧ ∀ m σ H, W m σ H →
 c σ H fun b H1 => if b = true then ∃ N : St → Hp → Prop, (∀ σ' H', N σ' H' → ∃ m', m' < m ∧ W m' σ' H') ∧ tb { D with nx := N, ct := N, bk := D.nx } σ H1 else D.nx σ H1
theorem ps_while {c : Expr} {body : List Stmt} {tc : TT} {tb : TS} (hp : PassesOwn (model X.prog X.w) X.A X.env X.xe) (hc : PT X c tc) (hb : PSs X body tb) : PS X (.While c body [] pos) (tWhile tc tb) := by
 intro pins s σ H D I h
 obtain ⟨W, ⟨m0, w0⟩, turn⟩ := h
 refine wpAny_While (codeAny_whileLoop (fun n s' => ∃ σ' H', Inv X pins σ' H' s' ∧ W n σ' H') ?_ m0 ⟨σ, H, I, w0⟩)
 rintro n s1 ⟨σ1, H1, I1, w1⟩
 refine wpAny_passesOwn hp (thn (hc pins s1 σ1 H1 _ I1 (turn n σ1 H1 w1)) fun b s2 hh1 => ?_)
 obtain ⟨H2, I2, q2⟩ := hh1
 cases b with
 | true =>
  obtain ⟨N, hN, q2⟩ := q2
  rw [if_pos rfl]
  refine wpAny_passesOwn hp (thn (hb pins s2 σ1 H2 _ I2 q2) fun f s3 q3 => ?_)
  cases f with
  | next =>
   obtain ⟨σ3, H3, I3, n3⟩ := q3
   obtain ⟨m', hm, w3⟩ := hN σ3 H3 n3
   exact ⟨m', hm, σ3, H3, I3, w3⟩
  | cont =>
   obtain ⟨σ3, H3, I3, n3⟩ := q3
   obtain ⟨m', hm, w3⟩ := hN σ3 H3 n3
   exact ⟨m', hm, σ3, H3, I3, w3⟩
  | brk => exact q3
  | ret v => exact q3
 | false =>
  rw [if_neg Bool.false_ne_true]
  exact wpAny_execs_nil ⟨σ1, H2, I2, q2⟩
end
structure It where
 go : Nat → Hp → Prop
 yld : Nat → Hp → V → Hp → Prop
 stop : Nat → Hp → Prop
noncomputable def FpOk (X : Cx) (pins : List (Addr × Obj)) (H : Hp) (b : Addr) : Prop :=
 H b = none ∧ b ≠ X.env.locals ∧ b ∉ X.fs ∧ (b ∈ X.ex ∨ X.s₀.heap.objs.size ≤ b) ∧ (∀ x c, X.env.cells.lookup x = some c → c ≠ b) ∧ ∀ p ∈ X.pn ++ pins, p.1 ≠ b
theorem Inv.fpOk {X : Cx} {pins : List (Addr × Obj)} {σ : St} {H H' : Hp} {s : Shared} {b : Addr} (I : Inv X pins σ H s) (hb : s.heap.objs.size ≤ b) (hn : H' b = none) : FpOk X pins H' b := by
 refine ⟨hn, Nat.ne_of_gt (Nat.lt_of_lt_of_le I.lt hb), I.nofs hb, .inr (Nat.le_trans I.sz hb), fun x c e z => ?_, fun p hp z => ?_⟩
 ·obtain ⟨v, q⟩ := I.cell x c e
  exact absurd (Nat.lt_of_lt_of_le q.lt (by rw [z]; exact hb)) (Nat.lt_irrefl _)
 ·exact absurd (Nat.lt_of_lt_of_le (Heap.lt_size (I.pin p hp).1) (by rw [z]; exact hb)) (Nat.lt_irrefl _)
structure Turn (P : Program) (w : World) (K : PySem.W.Frag) (tg : Expr) (J : It) (fp : List Addr) (it : Addr) (tn : Nat → Heap → Prop) : Prop where
 mem : it ∈ fp
 obj : ∀ i h, tn i h → ∀ b ∈ fp, ∃ o, h.get? b = some o ∧ ∀ v, o.data ≠ .cell v
 keep : ∀ i h h', tn i h → (∀ b ∈ fp, ∀ o, h.get? b = some o → h'.get? b = some o) → tn i h'
 item : ∀ (X : Cx), X.prog = P → X.w = w → X.K = K → X.calm = true → ∀ (i : Nat) (pins : List (Addr × Obj)) (s : Shared) (σ : St) (H : Hp) (E : Value → Shared → Prop), Inv X pins σ H s → (∀ b ∈ fp, FpOk X pins H b) → tn i s.heap → J.go i H →
  wpAny (model P w) X.A (pyNext (.ref it)) (fun r s1 => ∃ u, r = some u ∧
   wpAny (model P w) X.A (letOwnedTupleGo tg (.ref it) u) (fun _ s2 => ∃ x H', Inv X pins σ H' s2 ∧ RelV x u ∧ J.yld i H x H' ∧ tn (i + 1) s2.heap ∧ ∀ b ∈ fp, H' b = none) E s1) E s
 done : ∀ (X : Cx), X.prog = P → X.w = w → X.K = K → X.calm = true → ∀ (i : Nat) (pins : List (Addr × Obj)) (s : Shared) (σ : St) (H : Hp) (E : Value → Shared → Prop), Inv X pins σ H s → (∀ b ∈ fp, FpOk X pins H b) → tn i s.heap → J.stop i H →
  wpAny (model P w) X.A (pyNext (.ref it)) (fun r s1 => r = none ∧ Inv X pins σ H s1) E s
 self : ∀ (A : Around) (i : Nat) (s : Shared) (Q : Value → Shared → Prop) (E : Value → Shared → Prop), tn i s.heap → Q (.ref it) s → wpAny (model P w) A (pyIter (.ref it)) Q E s
noncomputable abbrev TI := St → Hp → (It → Hp → Prop) → Prop
noncomputable def PIE (X : Cx) (pins : List (Addr × Obj)) (σ : St) (tg : Expr) (R : It → Hp → Prop) (itv : Value) (s2 : Shared) : Prop :=
 ∃ (it : Addr) (fp : List Addr) (tn : Nat → Heap → Prop) (J : It) (H' : Hp), itv = .ref it ∧ Inv X pins σ H' s2 ∧ Turn X.prog X.w X.K tg J fp it tn ∧ tn 0 s2.heap ∧ (∀ b ∈ fp, FpOk X pins H' b) ∧ R J H'
noncomputable def PI (X : Cx) (tg iter : Expr) (wi : TI) : Prop :=
 ∀ (pins : List (Addr × Obj)) (s : Shared) (σ : St) (H : Hp) (R : It → Hp → Prop), Inv X pins σ H s → wi σ H R →
  wpAny (model X.prog X.w) X.A (eval iter X.env) (fun v s1 => wpAny (model X.prog X.w) X.A (pyIter v) (PIE X pins σ tg R) X.xe s1) X.xe s
theorem go_of {M : Model} {A : Around} {E : Value → Shared → Prop} {s : Shared} {tg : Expr} {it : Addr} {u : Value} {o : Obj} {n : String} {vs : Array Value} {Q : Unit → Shared → Prop} (ho : s.heap.get? it = some o) (hc : o.cls = .type n) (hd : o.data = .fields vs)
    (hn : ["enumerate", "zip", "dict_itemiterator", "dict_reverseitemiterator", "odict_iterator", "itertools.zip_longest", "itertools.pairwise"].contains n = false) (hQ : Q () s) : wpAny M A (letOwnedTupleGo tg (.ref it) u) Q E s := by
  unfold letOwnedTupleGo
  cases tg <;> first
    | exact wpAny_pure hQ
    | (cases u <;> first
        | exact wpAny_pure hQ
        | (refine wpAny_bind (wpAny_load ho ?_)
           rw [hc, hd]
           show wpAny M A (if (["enumerate", "zip", "dict_itemiterator", "dict_reverseitemiterator", "odict_iterator", "itertools.zip_longest", "itertools.pairwise"].contains n && vs[0]? == some (rawInt _)) = true then _ else _) Q E s
           rw [if_neg (by intro h; rw [hn, Bool.false_and] at h; cases h)]
           exact wpAny_pure hQ))
noncomputable def Itl (K : PySem.W.Frag) (a : Addr) : It :=
 ⟨fun i H => ∃ xs x, SqL K H a xs ∧ xs[i]? = some x, fun i H x H' => H' = H ∧ ∀ xs, SqL K H a xs → xs[i]? = some x, fun i H => ∃ xs, SqL K H a xs ∧ xs.length ≤ i⟩
noncomputable def Itt (K : PySem.W.Frag) (a : Addr) : It :=
 ⟨fun i H => ∃ xs x, SqT K H a xs ∧ xs[i]? = some x, fun i H x H' => H' = H ∧ ∀ xs, SqT K H a xs → xs[i]? = some x, fun i H => ∃ xs, SqT K H a xs ∧ xs.length ≤ i⟩
noncomputable def Itr (lo : Int) (n : Nat) : It := ⟨fun i _ => i < n, fun i H x H' => H' = H ∧ x = .int (lo + i), fun i _ => n ≤ i⟩
theorem turn_list {P : Program} {w : World} {K : PySem.W.Frag} {tg : Expr} (a it : Addr) : Turn P w K tg (Itl K a) [it] it (fun i h => h.IsListIter it a i) where
 mem := by simp
 obj := fun i h st b hb => by
  have e : b = it := by simpa using hb
  subst e
  obtain ⟨o, e, c, d⟩ := st
  exact ⟨o, e, fun v z => by rw [d] at z; cases z⟩
 keep := fun i h h' st k => st.at fun o e => k it (by simp) o e
 item := by
  intro X hP hw hK hc i pins s σ H E I hf st hg
  subst hP hw hK
  obtain ⟨xs, x, hq, hx⟩ := hg
  obtain ⟨its, rv, p, hz⟩ := I.list hq
  obtain ⟨u, hu, ru⟩ := rv.get hx
  obtain ⟨f0, f1, f2, f3, f4, f5⟩ := hf it (by simp)
  refine wpAny_pyNext_list_item st p.isList (x := u) (by simpa using hu) fun h' st' sb => ?_
  have I1 : Inv X pins σ H { s with heap := h' } := I.turned (t' := s.toks) (fun b o hb e => (sb.2 b hb).trans e) f0 f1 f3 f4 f5
  obtain ⟨o, e, c, d⟩ := id st'
  exact ⟨u, rfl, go_of (s := { s with heap := h' }) e c d (by decide) ⟨x, H, I1, ru, ⟨rfl, fun ys hy => by rw [I.list_inj hy hq]; exact hx⟩, st', fun b hb => (hf b hb).1⟩⟩
 done := by
  intro X hP hw hK hc i pins s σ H E I hf st hg
  subst hP hw hK
  obtain ⟨xs, hq, hx⟩ := hg
  obtain ⟨its, rv, p, hz⟩ := I.list hq
  obtain ⟨f0, f1, f2, f3, f4, f5⟩ := hf it (by simp)
  have hl := rv.length
  exact wpAny_pyNext_list_end (I.ok.hd hc) st p.isList (by simp; omega) fun h' eb => ⟨rfl, I.turned (t' := s.toks) (fun b o hb e => eb b o hb e) f0 f1 f3 f4 f5⟩
 self := fun _ _ _ _ _ st h => wpAny_pyIter_listiter st h
theorem turn_tuple {P : Program} {w : World} {K : PySem.W.Frag} {tg : Expr} (a it : Addr) : Turn P w K tg (Itt K a) [it] it (fun i h => h.IsTupleIter it a i) where
 mem := by simp
 obj := fun i h st b hb => by
  have e : b = it := by simpa using hb
  subst e
  obtain ⟨o, e, c, d⟩ := st
  exact ⟨o, e, fun v z => by rw [d] at z; cases z⟩
 keep := fun i h h' st k => st.at fun o e => k it (by simp) o e
 item := by
  intro X hP hw hK hc i pins s σ H E I hf st hg
  subst hP hw hK
  obtain ⟨xs, x, hq, hx⟩ := hg
  obtain ⟨its, rv, p, hz⟩ := I.tuple hq
  obtain ⟨u, hu, ru⟩ := rv.get hx
  obtain ⟨f0, f1, f2, f3, f4, f5⟩ := hf it (by simp)
  refine wpAny_pyNext_tuple_item st (show s.heap.IsTuple a its.toArray from p) (x := u) (by simpa using hu) fun h' st' sb => ?_
  have I1 : Inv X pins σ H { s with heap := h' } := I.turned (t' := s.toks) (fun b o hb e => (sb.2 b hb).trans e) f0 f1 f3 f4 f5
  obtain ⟨o, e, c, d⟩ := id st'
  exact ⟨u, rfl, go_of (s := { s with heap := h' }) e c d (by decide) ⟨x, H, I1, ru, ⟨rfl, fun ys hy => by rw [I.tuple_inj hy hq]; exact hx⟩, st', fun b hb => (hf b hb).1⟩⟩
 done := by
  intro X hP hw hK hc i pins s σ H E I hf st hg
  subst hP hw hK
  obtain ⟨xs, hq, hx⟩ := hg
  obtain ⟨its, rv, p, hz⟩ := I.tuple hq
  obtain ⟨f0, f1, f2, f3, f4, f5⟩ := hf it (by simp)
  have hl := rv.length
  exact wpAny_pyNext_tuple_end (I.ok.hd hc) st (show s.heap.IsTuple a its.toArray from p) (by simp; omega) fun h' eb => ⟨rfl, I.turned (t' := s.toks) (fun b o hb e => eb b o hb e) f0 f1 f3 f4 f5⟩
 self := fun _ _ _ _ _ st h => wpAny_pyIter_tupleiter st h
theorem turn_range {P : Program} {w : World} {K : PySem.W.Frag} {tg : Expr} (it : Addr) (lo : Int) (n : Nat) : Turn P w K tg (Itr lo n) [it] it (fun i h => IsRangeIter h it (lo + (i : Nat) * 1) ((n : Int) - (i : Nat)) 1) where
 mem := by simp
 obj := fun i h st b hb => by
  have e : b = it := by simpa using hb
  subst e
  exact ⟨_, st, fun v z => by
   have z' : Data.fields _ = Data.cell v := z
   cases z'⟩
 keep := fun i h h' st k => k it (by simp) _ st
 item := by
  intro X hP hw hK hc i pins s σ H E I hf st hg
  subst hP hw hK
  obtain ⟨f0, f1, f2, f3, f4, f5⟩ := hf it (by simp)
  have W := Walks.range (prog := X.prog) (w := X.w) (I.ok.hd hc) it lo 1 n
  refine W.item i s _ _ hg st fun v h' tk hv st' kk => ?_
  obtain ⟨t, rfl⟩ := hv
  have I1 : Inv X pins σ H { s with heap := h', toks := tk } := I.turned (fun b o hb e => kk b o (by simpa using hb) e) f0 f1 f3 f4 f5
  refine ⟨_, rfl, go_of (s := { s with heap := h', toks := tk }) (n := "range_iterator") st' rfl rfl (by decide) ⟨.int (lo + i), H, I1, ⟨t, ?_⟩, ⟨rfl, rfl⟩, st', fun b hb => (hf b hb).1⟩⟩
  rw [Int.mul_one]
 done := by
  intro X hP hw hK hc i pins s σ H E I hf st hg
  subst hP hw hK
  obtain ⟨f0, f1, f2, f3, f4, f5⟩ := hf it (by simp)
  exact wpAny_pyNext_range_end (I.ok.hd hc) st (by have : n ≤ i := hg; omega) fun h' eb => ⟨rfl, I.turned (t' := s.toks) (fun b o hb e => eb b o hb e) f0 f1 f3 f4 f5⟩
 self := fun _ _ _ _ _ st h => wpAny_pyIter_rangeiter st h
end L2
namespace L2
open PySem PySem.Spec PyProof.Rows
section
variable {X : Cx} {tg : Expr}
theorem range_it {pins : List (Addr × Obj)} {σ : St} {H : Hp} {s : Shared} {R : It → Hp → Prop} {E : Value → Shared → Prop} {lo hi : Int} {t u v : Tok} {tk : Nat} (I : Inv X pins σ H s) (h1 : -(2 ^ 62) ≤ lo) (h2 : lo < 2 ^ 62) (h3 : -(2 ^ 62) ≤ hi) (h4 : hi < 2 ^ 62)
  (q : R (Itr lo (hi - lo).toNat) H) : wpAny (model X.prog X.w) X.A (pyIter (.ref s.heap.objs.size)) (PIE X pins σ tg R) E { s with heap := s.heap.push { cls := .type "range", data := .fields #[.int lo t, .int hi u, .int 1 v] }, toks := tk } := by
 refine wpAny_pyIter_range (IsRange.new ..) (small_one h1 h2 h3 h4) ?_
 have I1 : Inv X pins σ H { s with heap := s.heap.push { cls := .type "range", data := .fields #[.int lo t, .int hi u, .int 1 v] }, toks := tk } := I.kept fun b o e => Heap.get?_push_of_some _ e
 refine ⟨(s.heap.push { cls := .type "range", data := .fields #[.int lo t, .int hi u, .int 1 v] }).objs.size, [(s.heap.push { cls := .type "range", data := .fields #[.int lo t, .int hi u, .int 1 v] }).objs.size], _, _, H, rfl,
  I1.kept (t' := tk) fun b o e => Heap.get?_push_of_some _ e, turn_range _ lo (hi - lo).toNat, ?_, fun b hb => ?_, q⟩
 ·have e1 : lo + ((0 : Nat) : Int) * 1 = lo := by simp
  have e2 : (((hi - lo).toNat : Nat) : Int) - ((0 : Nat) : Int) = Builtin.Range.rangeSize lo hi 1 := by rw [rangeSize_one]; split <;> omega
  show IsRangeIter _ _ (lo + ((0 : Nat) : Int) * 1) ((((hi - lo).toNat : Nat) : Int) - ((0 : Nat) : Int)) 1
  rw [e1, e2]
  exact Heap.get?_push_size _ rfl
 ·have e : b = (s.heap.push { cls := .type "range", data := .fields #[.int lo t, .int hi u, .int 1 v] }).objs.size := by simpa using hb
  subst e
  exact I1.fpOk (Nat.le_refl _) (I1.hok.fresh (Nat.le_refl _))
noncomputable def iRng1 (ta : TA) : TI := fun σ H R => ta σ H fun vs H1 => ∃ j : Int, vs = [.int j] ∧ -(2 ^ 62) ≤ j ∧ j < 2 ^ 62 ∧ R (Itr 0 j.toNat) H1
theorem pi_range1 {a : Expr} {ta : TA} {p pos : Pos} (hg : Gl X "range") (hm : X.mg "range" = none) (ha : PA X [a] ta) (hs : starEach [a] X.env = [(false, eval a X.env)] := by rfl) : PI X tg (.Call (.Name "range" p) [a] [] pos) (iRng1 ta) := by
 intro pins s σ H R I h
 refine Call_ (ld_blt I hg hm boot_range (PyProof.Rows.callWith_type1 (thn (ha pos pins s σ H _ I h) fun us s1 ⟨vs, H1, I1, r1, q1⟩ => ?_) hs rfl))
 obtain ⟨j, e, q1, q2, q⟩ := q1
 subst e
 cases r1 with
 | cons r rr =>
  cases rr
  obtain ⟨t, rfl⟩ := r
  exact call_range_1 (range_it I1 (by omega) (by omega) q1 q2 (by simpa using q))
noncomputable def tFor (wi : TI) (g : TG) (tb : TS) : TS := fun D σ H => wi σ H fun J H1 => ∃ W : Nat → Nat → St → Hp → Prop, (∃ m, W 0 m σ H1) ∧ ∀ i m σ H, W i m σ H →
 (J.stop i H ∧ D.nx σ H) ∨ (J.go i H ∧ ∃ N : St → Hp → Prop, (∀ σ' H', N σ' H' → ∃ m', m' < m ∧ W (i + 1) m' σ' H') ∧ ∀ x H', J.yld i H x H' → g x σ H' fun σ2 H2 => tb { D with nx := N, ct := N, bk := D.nx } σ2 H2)
noncomputable def pinsAt (fp : List Addr) (h : Heap) : List (Addr × Obj) := fp.filterMap fun b => (h.get? b).map fun o => (b, o)
theorem mem_pinsAt {fp : List Addr} {h : Heap} {b : Addr} {o : Obj} (hb : b ∈ fp) (e : h.get? b = some o) : (b, o) ∈ pinsAt fp h := List.mem_filterMap.mpr ⟨b, hb, by rw [e]; rfl⟩
theorem of_pinsAt {fp : List Addr} {h : Heap} {p : Addr × Obj} (hp : p ∈ pinsAt fp h) : p.1 ∈ fp ∧ h.get? p.1 = some p.2 := by
 obtain ⟨b, hb, e⟩ := List.mem_filterMap.mp hp
 cases q : h.get? b with
 | none => rw [q] at e; cases e
 | some o =>
  rw [q] at e
  have e' : (b, o) = p := Option.some.inj e
  subst e'
  exact ⟨hb, q⟩
theorem Inv.pinned {pins : List (Addr × Obj)} {σ : St} {H : Hp} {s : Shared} {fp : List Addr} (I : Inv X pins σ H s) (hf : ∀ b ∈ fp, FpOk X pins H b) (ho : ∀ b ∈ fp, ∃ o, s.heap.get? b = some o ∧ ∀ v, o.data ≠ .cell v) : Inv X (pins ++ pinsAt fp s.heap) σ H s :=
 I.pins_of fun p hp => (List.mem_append.mp hp).elim (fun z => I.pin p (List.mem_append_right _ z)) fun z => by
  obtain ⟨hb, e⟩ := of_pinsAt z
  obtain ⟨f0, f1, f2, _⟩ := hf p.1 hb
  obtain ⟨o, e', d⟩ := ho p.1 hb
  rw [e] at e'; cases e'
  exact ⟨e, f0, f1, f2, d⟩
theorem Inv.unpinned {pins pl : List (Addr × Obj)} {σ : St} {H : Hp} {s : Shared} (I : Inv X (pins ++ pl) σ H s) : Inv X pins σ H s := I.pins_of fun p hp => I.pin p (List.mem_append_right _ (List.mem_append_left _ hp))
theorem ps_for {iter : Expr} {body : List Stmt} {wi : TI} {g : TG} {tb : TS} {pos : Pos} (hp : PassesOwn (model X.prog X.w) X.A X.env X.xe) (hc : X.calm = true) (hi : PI X tg iter wi) (hg : PG X tg g) (hb : PSs X body tb)
  (hs : ∀ x, foldedSetIterable iter X.env x = pure x := by intro _; rfl) : PS X (.For tg iter body [] pos) (tFor wi g tb) := by
 intro pins s σ H D I h
 refine wpAny_For (thn (hi pins s σ H _ I h) fun v s1 h1 => thn h1 fun itv s2 h2 => ?_) hs
 obtain ⟨it, fp, tn, J, H2, e, I2, T, st2, f2, W, ⟨m0, w0⟩, turn⟩ := h2
 subst e
 have stat : ∀ {H' : Hp}, (∀ b ∈ fp, H' b = none) → ∀ b ∈ fp, FpOk X pins H' b := fun hn b hb => ⟨hn b hb, (f2 b hb).2⟩
 refine codeAny_forLoop_any (fun n s' => ∃ i σ' H', Inv X pins σ' H' s' ∧ tn i s'.heap ∧ (∀ b ∈ fp, H' b = none) ∧ W i n σ' H') ?_ m0 ⟨0, σ, H2, I2, st2, fun b hb => (f2 b hb).1, w0⟩
 rintro n s3 ⟨i, σ3, H3, I3, st3, fr3, w3⟩
 rcases turn i n σ3 H3 w3 with ⟨stop, qn⟩ | ⟨go, N, hN, step⟩
 ·refine wpAny_passesOwn hp (thn (T.done X rfl rfl rfl hc i pins s3 σ3 H3 X.xe I3 (stat fr3) st3 stop) fun r s4 hh1 => ?_)
  obtain ⟨hr, I4⟩ := hh1
  subst hr
  exact wpAny_execs_nil ⟨σ3, H3, I4, qn⟩
 ·refine wpAny_passesOwn hp (thn (T.item X rfl rfl rfl hc i pins s3 σ3 H3 X.xe I3 (stat fr3) st3 go) fun r s4 hh2 => ?_)
  obtain ⟨u, hr, h4⟩ := hh2
  subst hr
  refine wpAny_passesOwn hp (thn h4 fun _ s5 hh3 => ?_)
  obtain ⟨x, H5, I5, r5, y5, st5, fr5⟩ := hh3
  have I5' := I5.pinned (stat fr5) (T.obj _ _ st5)
  refine wpAny_passesOwn hp (thn (hg _ s5 σ3 H5 x u _ I5' r5 (step x H5 y5)) fun _ s6 hh4 => ?_)
  obtain ⟨σ6, H6, I6, q6⟩ := hh4
  refine wpAny_passesOwn hp (thn (hb _ s6 σ6 H6 _ I6 q6) fun f s7 q7 => ?_)
  have again : ∀ {σ7 : St} {H7 : Hp}, Inv X (pins ++ pinsAt fp s5.heap) σ7 H7 s7 → N σ7 H7 → ∃ m, m < n ∧ ∃ i σ' H', Inv X pins σ' H' s7 ∧ tn i s7.heap ∧ (∀ b ∈ fp, H' b = none) ∧ W i m σ' H' := fun {σ7 H7} I7 n7 => by
   obtain ⟨m', hm, w7⟩ := hN σ7 H7 n7
   refine ⟨m', hm, i + 1, σ7, H7, I7.unpinned, T.keep _ _ _ st5 fun b hb o e => (I7.pin (b, o) (List.mem_append_right _ (List.mem_append_right _ (mem_pinsAt hb e)))).1, fun b hb => ?_, w7⟩
   obtain ⟨o, e, d⟩ := T.obj _ _ st5 b hb
   exact (I7.pin (b, o) (List.mem_append_right _ (List.mem_append_right _ (mem_pinsAt hb e)))).2.1
  cases f with
  | next => obtain ⟨σ7, H7, I7, n7⟩ := q7; exact again I7 n7
  | cont => obtain ⟨σ7, H7, I7, n7⟩ := q7; exact again I7 n7
  | brk => obtain ⟨σ7, H7, I7, q7⟩ := q7; exact ⟨σ7, H7, I7.unpinned, q7⟩
  | ret v => obtain ⟨x7, σ7, H7, I7, r7, q7⟩ := q7; exact ⟨x7, σ7, H7, I7.unpinned, r7, q7⟩
end
end L2
namespace L2
open PySem PySem.Spec PyProof.Rows
noncomputable abbrev R2 := V → V → Hp → VK → Prop
noncomputable def OpR (X : Cx) (f : Value → Value → Sem Value) (r : R2) : Prop :=
 ∀ (pins : List (Addr × Obj)) (s : Shared) (σ : St) (H : Hp) (x y : V) (v u : Value) (Q : VK), Inv X pins σ H s → RelV x v → RelV y u → r x y H Q →
  wpAny (model X.prog X.w) X.A (f v u) (EP X pins σ Q) X.xe s
noncomputable def UnR (X : Cx) (f : Value → Sem Value) (r : V → Hp → VK → Prop) : Prop :=
 ∀ (pins : List (Addr × Obj)) (s : Shared) (σ : St) (H : Hp) (x : V) (v : Value) (Q : VK), Inv X pins σ H s → RelV x v → r x H Q →
  wpAny (model X.prog X.w) X.A (f v) (EP X pins σ Q) X.xe s
noncomputable def CallR (X : Cx) (f : Value) (r : List V → Hp → VK → Prop) : Prop :=
 ∀ (pins : List (Addr × Obj)) (s : Shared) (σ : St) (H : Hp) (xs : List V) (us : List Value) (Q : VK), Inv X pins σ H s → Vals xs us → r xs H Q →
  wpAny (model X.prog X.w) X.A (call f us) (EP X pins σ Q) X.xe s
noncomputable def TruR (X : Cx) (r : V → Hp → (Bool → Hp → Prop) → Prop) : Prop :=
 ∀ (pins : List (Addr × Obj)) (s : Shared) (σ : St) (H : Hp) (x : V) (v : Value) (Q : Bool → Hp → Prop), Inv X pins σ H s → RelV x v → r x H Q →
  wpAny (model X.prog X.w) X.A (truthy v) (TP X pins σ Q) X.xe s
noncomputable def tOp (r : R2) (ta tb : TE) : TE := fun σ H Q => ta σ H fun x H1 => tb σ H1 fun y H2 => r x y H2 Q
noncomputable def tUn (r : V → Hp → VK → Prop) (ta : TE) : TE := fun σ H Q => ta σ H fun x H1 => r x H1 Q
noncomputable def rI (C : Int → Int → Prop) (g : Int → Int → V) : R2 := fun x y H Q => ∃ i j, x = .int i ∧ y = .int j ∧ C i j ∧ Q (g i j) H
noncomputable def rI0 (g : Int → Int → V) : R2 := fun x y H Q => ∃ i j, x = .int i ∧ y = .int j ∧ Q (g i j) H
noncomputable def rU (g : Int → V) : V → Hp → VK → Prop := fun x H Q => ∃ i, x = .int i ∧ Q (g i) H
section
variable {X : Cx} {a b c : Expr} {ta tb tc : TE} {pos : Pos}
theorem binT (ha : PE X a ta) (hb : PE X b tb) {pins : List (Addr × Obj)} {s : Shared} {σ : St} {H : Hp} {R : V → V → Hp → Prop} (I : Inv X pins σ H s)
  (h : ta σ H fun x H1 => tb σ H1 fun y H2 => R x y H2) {Q : Value → Shared → Prop} {f : Value → Value → Sem Value}
  (hf : ∀ v u s2 x y H2, Inv X pins σ H2 s2 → RelV x v → RelV y u → R x y H2 → wpAny (model X.prog X.w) X.A (f v u) Q X.xe s2) :
  wpAny (model X.prog X.w) X.A (eval a X.env) (fun v s₁ => wpAny (model X.prog X.w) X.A (eval b X.env) (fun u s₂ => wpAny (model X.prog X.w) X.A (f v u) Q X.xe s₂) X.xe s₁) X.xe s := by
 refine thn (ha pins s σ H _ I h) fun v s1 hh1 => ?_
 obtain ⟨x, H1, I1, r1, q1⟩ := hh1
 refine thn (hb pins s1 σ H1 _ I1 q1) fun u s2 hh2 => ?_
 obtain ⟨y, H2, I2, r2, q2⟩ := hh2
 exact hf v u s2 x y H2 I2 r1 r2 q2
theorem pe_op {op : Operator} {r : R2} (ho : OpR X (binaryOp op) r) (ha : PE X a ta) (hb : PE X b tb) : PE X (.BinOp a op b pos) (tOp r ta tb) := by
 intro pins s σ H Q I h
 exact wpAny_BinOp (binT ha hb I h fun v u s2 x y H2 I2 rx ry q => ho pins s2 σ H2 x y v u Q I2 rx ry q)
theorem pe_un {op : UnaryOp} {r : V → Hp → VK → Prop} (ho : UnR X (unaryOp op) r) (ha : PE X a ta) : PE X (.UnaryOp op a pos) (tUn r ta) := by
 intro pins s σ H Q I h
 exact UnaryOp_ (thn (ha pins s σ H _ I h) fun v s1 hh1 => by obtain ⟨x, H1, I1, r1, q1⟩ := hh1; exact (ho pins s1 σ H1 x v Q I1 r1 q1))
theorem opI {f : Value → Value → Sem Value} {C : Int → Int → Prop} {g : Int → Int → Int}
  (rule : ∀ (i j : Int) (t u : Tok) (s : Shared) (Q : Value → Shared → Prop) (E : Value → Shared → Prop), C i j → Q (.int (g i j) s.toks) { s with toks := s.toks + 1 } → wpAny (model X.prog X.w) X.A (f (.int i t) (.int j u)) Q E s) :
  OpR X f (rI C fun i j => .int (g i j)) := by
 intro pins s σ H x y v u Q I rx ry h
 obtain ⟨i, j, rfl, rfl, hc, q⟩ := h
 obtain ⟨t, rfl⟩ := rx
 obtain ⟨t', rfl⟩ := ry
 exact rule i j t t' s _ _ hc ⟨.int (g i j), H, I.tok _, ⟨_, rfl⟩, q⟩
theorem opI0 {f : Value → Value → Sem Value} {g : Int → Int → Int}
  (rule : ∀ (i j : Int) (t u : Tok) (s : Shared) (Q : Value → Shared → Prop) (E : Value → Shared → Prop), Q (.int (g i j) s.toks) { s with toks := s.toks + 1 } → wpAny (model X.prog X.w) X.A (f (.int i t) (.int j u)) Q E s) :
  OpR X f (rI0 fun i j => .int (g i j)) := by
 intro pins s σ H x y v u Q I rx ry h
 obtain ⟨i, j, rfl, rfl, q⟩ := h
 obtain ⟨t, rfl⟩ := rx
 obtain ⟨t', rfl⟩ := ry
 exact rule i j t t' s _ _ ⟨.int (g i j), H, I.tok _, ⟨_, rfl⟩, q⟩
theorem opB0 {f : Value → Value → Sem Value} {g : Int → Int → Bool}
  (rule : ∀ (i j : Int) (t u : Tok) (s : Shared) (Q : Value → Shared → Prop) (E : Value → Shared → Prop), Q (.bool (g i j)) s → wpAny (model X.prog X.w) X.A (f (.int i t) (.int j u)) Q E s) :
  OpR X f (rI0 fun i j => .bl (g i j)) := by
 intro pins s σ H x y v u Q I rx ry h
 obtain ⟨i, j, rfl, rfl, q⟩ := h
 obtain ⟨t, rfl⟩ := rx
 obtain ⟨t', rfl⟩ := ry
 exact rule i j t t' s _ _ ⟨.bl (g i j), H, I, rfl, q⟩
noncomputable def CPow (i j : Int) : Prop := 0 ≤ j ∧ j ≤ 1000000 ∧ i.natAbs < 2 ^ 64
noncomputable def CMul (i j : Int) : Prop := (-(2 ^ 64) < i ∧ i < 2 ^ 64) ∨ (-(2 ^ 64) < j ∧ j < 2 ^ 64)
theorem CMul.ok {i j : Int} (h : CMul i j) : IntMulOk i j := by
 rcases h with ⟨h1, h2⟩ | ⟨h1, h2⟩
 ·exact .of_left (intBits_le_64 h1 h2)
 ·exact .of_right (intBits_le_64 h1 h2)
theorem op_add : OpR X (binaryOp .Add) (rI0 fun i j => .int (i + j)) := opI0 fun _ _ _ _ _ _ _ q => add_int q
theorem op_sub : OpR X (binaryOp .Sub) (rI0 fun i j => .int (i - j)) := opI0 fun _ _ _ _ _ _ _ q => sub_int q
theorem op_mul : OpR X (binaryOp .Mult) (rI CMul fun i j => .int (i * j)) := opI fun _ _ _ _ _ _ _ hc q => mul_int q hc.ok
theorem op_mod : OpR X (binaryOp .Mod) (rI (fun _ j => 0 < j) fun i j => .int (i % j)) := opI fun i j _ _ _ _ _ hc q => by
 have h1 : (0 : Int) < j := hc
 exact mod_int' (by omega) (by rw [Int.fmod_eq_emod_of_nonneg i (by omega)]; exact q)
theorem op_pow : OpR X (binaryOp .Pow) (rI CPow fun i j => .int (i ^ j.toNat)) := opI fun _ _ _ _ _ _ _ hc q => pow_int_small hc.1 hc.2.1 hc.2.2 q
theorem unI {f : Value → Sem Value} {g : Int → Int}
  (rule : ∀ (i : Int) (t : Tok) (s : Shared) (Q : Value → Shared → Prop) (E : Value → Shared → Prop), Q (.int (g i) s.toks) { s with toks := s.toks + 1 } → wpAny (model X.prog X.w) X.A (f (.int i t)) Q E s) :
  UnR X f (rU fun i => .int (g i)) := by
 intro pins s σ H x v Q I rx h
 obtain ⟨i, rfl, q⟩ := h
 obtain ⟨t, rfl⟩ := rx
 exact rule i t s _ _ ⟨.int (g i), H, I.tok _, ⟨_, rfl⟩, q⟩
theorem un_neg : UnR X (unaryOp .USub) (rU fun i => .int (-i)) := unI fun _ _ _ _ _ q => neg_int q
end
section
variable {X : Cx} {a b c : Expr} {ta tb tc : TE} {pos : Pos}
theorem fin_bl {pins : List (Addr × Obj)} {σ : St} {H : Hp} {s : Shared} {Q : VK} {k k' : Bool} (I : Inv X pins σ H s) (q : Q (.bl k) H) (e : k = k') : EP X pins σ Q (.bool k') s := by
 subst e
 exact ⟨.bl k, H, I, rfl, q⟩
theorem op_lt : OpR X (compareOp .Lt) (rI0 fun i j => .bl (decide (i < j))) := opB0 fun _ _ _ _ _ _ _ q => lt_int q
theorem op_gt : OpR X (compareOp .Gt) (rI0 fun i j => .bl (decide (j < i))) := opB0 fun _ _ _ _ _ _ _ q => gt_int q
theorem op_in_str : OpR X (compareOp .In) (fun x y H Q => ∃ i j, x = .str i ∧ y = .str j ∧ Q (.bl (!(Builtin.Str.occurrences j i 0 j.length 1).isEmpty)) H) := by
 intro pins s σ H x y v u Q I rx ry h
 obtain ⟨i, j, rfl, rfl, q⟩ := h
 obtain ⟨t, rfl⟩ := rx
 obtain ⟨t', rfl⟩ := ry
 exact in_str (fin_bl I q rfl)
theorem op_isN : OpR X (compareOp .Is) (fun x y H Q => y = .non ∧ Q (.bl (decide (x = .non))) H) := by
 intro pins s σ H x y v u Q I rx ry h
 obtain ⟨rfl, q⟩ := h
 cases ry
 refine is_none_gen (fin_bl I q ?_)
 cases x <;> first
  | (cases rx; rfl)
  | (obtain ⟨t, rfl⟩ := rx; rfl)
theorem nomark (b : Expr) {op : CmpOp} (h : op ≠ .In := by decide) (h2 : op ≠ .NotIn := by decide) : behindInMarks op b = false := by
 have e1 : (op == CmpOp.In) = false := by cases op <;> first | rfl | exact absurd rfl h
 have e2 : (op == CmpOp.NotIn) = false := by cases op <;> first | rfl | exact absurd rfl h2
 cases b <;> simp [behindInMarks, e1, e2]
theorem pe_cmpR {op : CmpOp} {r : R2} (ho : OpR X (compareOp op) r) (ha : PE X a ta) (hb : PE X b tb) (hm : behindInMarks op b = false) : PE X (.Compare a [op] [b] pos) (tOp r ta tb) := by
 intro pins s σ H Q I h
 exact wpAny_Compare1 (binT ha hb I h fun v u s2 x y H2 I2 rx ry q => ho pins s2 σ H2 x y v u Q I2 rx ry q) hm
noncomputable def tTest (t : TE) : TT := fun σ H Q => t σ H fun x H' => ∃ k, x = .bl k ∧ Q k H'
theorem pt_cmpR {op : CmpOp} {r : R2} (ho : OpR X (compareOp op) r) (ha : PE X a ta) (hb : PE X b tb) (hm : behindInMarks op b = false) : PT X (.Compare a [op] [b] pos) (tTest (tOp r ta tb)) := by
 intro pins s σ H Q I h
 refine wpAny_isTrue_Compare1 (thn (ha pins s σ H _ I h) fun v s1 ⟨x, H1, I1, r1, q1⟩ => thn (hb pins s1 σ H1 _ I1 q1) fun u s2 ⟨y, H2, I2, r2, q2⟩ =>
  thn (ho pins s2 σ H2 x y v u _ I2 r1 r2 q2) fun c s3 ⟨z, H3, I3, r3, k, e, q3⟩ => ?_) hm
 subst e
 cases r3
 exact wpAny_truthy_bool ⟨H3, I3, q3⟩
noncomputable def TruV (K : PySem.W.Frag) (x : V) (H : Hp) (k : Bool) : Prop :=
 match x with
 | .non => k = false
 | .bl b => k = b
 | .int i => k = (i != 0)
 | .str y => y.length ≤ sizeLine ∧ k = ((y.length : Int) != 0)
 | .byt y => y.size ≤ sizeLine ∧ k = ((y.size : Int) != 0)
 | .ref p => (∃ xs, SqL K H p xs ∧ k = !xs.isEmpty) ∨ (∃ xs, SqT K H p xs ∧ k = !xs.isEmpty) ∨ ∃ kvs, H p = some (.dK kvs) ∧ k = !kvs.isEmpty
 | _ => False
theorem isEmpty_kv {κ : Type} {kvs : List (κ × V)} {vs : List (κ × Value)} (r : KV kvs vs) : (!vs.isEmpty) = !kvs.isEmpty := by
 cases r <;> rfl
theorem isEmpty_of {xs : List V} {its : List Value} (r : Vals xs its) : (!its.toArray.isEmpty) = !xs.isEmpty := by
 cases r <;> simp
theorem line63 : (sizeLine : Nat) < 2 ^ 63 := by rw [sizeLine_eq]; decide
theorem tru_ok : TruR X (fun x H Q => ∃ k, TruV X.K x H k ∧ Q k H) := by
 intro pins s σ H x v Q I rx h
 obtain ⟨k, e, q⟩ := h
 have hl := line63
 have hs : sizeLine = 16777216 := sizeLine_eq
 cases x with
 | non =>
  cases rx
  have e' : k = false := e
  subst e'
  exact truthy_none ⟨H, I, q⟩
 | bl b =>
  cases rx
  have e' : k = b := e
  subst e'
  exact wpAny_truthy_bool ⟨H, I, q⟩
 | int i =>
  obtain ⟨t, rfl⟩ := rx
  have e' : k = (i != 0) := e
  subst e'
  exact PySem.P.truthy_int ⟨H, I, q⟩
 | str y =>
  obtain ⟨t, rfl⟩ := rx
  obtain ⟨hy, e'⟩ : y.length ≤ sizeLine ∧ k = ((y.length : Int) != 0) := e
  subst e'
  exact PySem.P.truthy_str (by omega) ⟨H, I.tok _, q⟩
 | byt y =>
  obtain ⟨t, rfl⟩ := rx
  obtain ⟨hy, e'⟩ : y.size ≤ sizeLine ∧ k = ((y.size : Int) != 0) := e
  subst e'
  exact PySem.W.truthy_bytes (by omega) ⟨H, I.tok _, q⟩
 | ref p =>
  cases rx
  have e' : (∃ xs, SqL X.K H p xs ∧ k = !xs.isEmpty) ∨ (∃ xs, SqT X.K H p xs ∧ k = !xs.isEmpty) ∨ ∃ kvs, H p = some (.dK kvs) ∧ k = !kvs.isEmpty := e
  rcases e' with ⟨xs, hx, e'⟩ | ⟨xs, hx, e'⟩ | ⟨kvs, hx, e'⟩
  ·subst e'
   obtain ⟨its, r, pl, hz⟩ := I.list hx
   have hlen := r.length
   exact wpAny_truthy_list pl.isList (by simp only [List.size_toArray]; omega) ⟨H, I.tok _, by rw [isEmpty_of r]; exact q⟩
  ·subst e'
   obtain ⟨its, r, pl, hz⟩ := I.tuple hx
   have hlen := r.length
   exact truthy_tuple pl (by simp only [List.size_toArray]; omega) ⟨H, I.tok _, by rw [isEmpty_of r]; exact q⟩
  ·subst e'
   obtain ⟨hz, hS, vs, r, m⟩ : kvs.length ≤ sizeLine ∧ (p == sysModules) = false ∧ ∃ vs, KV kvs vs ∧ s.heap.DictOf (mixKind X.prog X.w) p vs := I.hok p _ hx
   have hlen : kvs.length = vs.length := Paired.length r
   exact wpAny_truthy_dict hS m (by omega) ⟨H, I.tok _, by rw [isEmpty_kv r]; exact q⟩
 | _ => exact (show False from e).elim
theorem pt_truth (ha : PE X a ta) (he : ∀ whole, isTrue a X.env whole = (do let v ← whole; standAt a.pos; holding [v] (truthy v))) :
  PT X a (fun σ H Q => ta σ H fun x H' => ∃ k, TruV X.K x H' k ∧ Q k H') := by
 intro pins s σ H Q I h
 exact isTrue_plain (thn (ha pins s σ H _ I h) fun v s1 hh1 => by obtain ⟨x, H1, I1, r1, q1⟩ := hh1; exact (tru_ok pins s1 σ H1 x v Q I1 r1 q1)) (he _)
theorem op_add_str : OpR X (binaryOp .Add) (fun x y H Q => ∃ i j, x = .str i ∧ y = .str j ∧ i.length + j.length ≤ sizeLine ∧ Q (.str (i ++ j)) H) := by
 intro pins s σ H x y v u Q I rx ry h
 obtain ⟨i, j, rfl, rfl, hz, q⟩ := h
 obtain ⟨t, rfl⟩ := rx
 obtain ⟨t', rfl⟩ := ry
 exact add_str (fun t' tk => ⟨.str (i ++ j), H, I.tok _, ⟨_, rfl⟩, q⟩) hz
theorem vals1 {x : V} {us : List Value} (r : Vals [x] us) : ∃ u, us = [u] ∧ RelV x u := by
 cases r with
 | cons r1 r2 => cases r2; exact ⟨_, rfl, r1⟩
theorem vals2 {x y : V} {us : List Value} (r : Vals [x, y] us) : ∃ u w', us = [u, w'] ∧ RelV x u ∧ RelV y w' := by
 cases r with
 | cons r1 r2 =>
  cases r2 with
  | cons r3 r4 => cases r4; exact ⟨_, _, rfl, r1, r3⟩
end
end L2
namespace L2
open PySem PySem.Spec PyProof.Rows
structure ObjM (h : Heap) (x dx C : Addr) (mA : Str → Option Value) : Prop where
 obj : h.get? x = some (PySem.W.instObj C dx)
 ns : h.Ns1 dx mA
 ne : dx ≠ x
theorem lookIn_ns {h : Heap} {dx : Addr} {mA : Str → Option Value} (n : h.Ns1 dx mA) : ∃ od, h.get? dx = some od ∧ ∀ name, PySem.W.lookIn name od = some (mA name) := by
 obtain ⟨o, es, ep, ho, hd, hk, _, hm⟩ := n
 refine ⟨o, ho, fun name => ?_⟩
 have e := hm name
 unfold nsFind findBy at e
 rw [← Array.find?_toList] at e
 unfold PySem.W.lookIn
 rw [hd]
 dsimp only
 split
 ·rename_i y q
  rw [q] at e
  exact congrArg some e
 ·rename_i q
  rw [q] at e
  have a : es.toList.any (·.refKey) = false := by
   rw [List.any_eq_false]
   intro y hy
   obtain ⟨z, t, hkey⟩ := hk y (Array.mem_toList_iff.mp hy)
   simp [DictEntry.refKey, hkey]
  have a' : ¬ es.toList.any (·.refKey) = true := by rw [a]; exact Bool.false_ne_true
  rw [if_neg a']
  exact congrArg some e
theorem ObjM.look {h : Heap} {x dx C : Addr} {mA : Str → Option Value} (I : ObjM h x dx C mA) : ∃ od, PySem.W.InstAt h x (PySem.W.instObj C dx) C (some od) ∧ ∀ name, PySem.W.lookIn name od = some (mA name) :=
 let ⟨od, ho, hl⟩ := lookIn_ns I.ns
 ⟨od, ⟨I.obj, rfl, rfl, ho⟩, hl⟩
section
variable {prog : Program} {w : World} {A : Around} {E : Value → Shared → Prop} {s : Shared} {K : PySem.W.Frag} {x dx C f : Addr} {mA : Str → Option Value} {name : Str} {v : Value}
end
theorem RelO.some_of {v : V} {o : Option Value} (r : RelO (some v) o) : ∃ u, o = some u ∧ RelV v u := by
 cases o with
 | none => exact (show False from r).elim
 | some u => exact ⟨u, rfl, r⟩
section
variable {P : Program} {w : World} {H H' : Hp} {h h' : Heap} {a C dx : Addr} {fs fs' : List (Str × V)}
theorem ins_get (hok : HOk P w H h) (e : H a = some (.ins C dx fs)) : ∃ mA, ObjM h a dx C mA ∧ (∀ f, RelO (fs.lookup f) (mA f)) ∧ PySem.Within mA (fs.map (·.1)) ∧ fs.length ≤ 1000 ∧ H dx = some (.own a) := by
 obtain ⟨d, z, ne, ob, mA, n, r, q⟩ := (show ObjOk P w H h a (.ins C dx fs) from hok a _ e)
 exact ⟨mA, ⟨ob, n, ne⟩, r, q, z, d⟩
end
structure Cls (K : PySem.W.Frag) (C : Addr) : Prop where
 pg : PySem.W.plainGet K C Str.empty = true
 hd : PySem.W.hasDictIn K C = true
 po : PySem.W.plainOver K C = true
 sa : PySem.W.findIn K (.ref C) "__setattr__" = some (some (.builtin "object.__setattr__"))
theorem Cls.get {K : PySem.W.Frag} {C : Addr} (c : Cls K C) (f : Str) : PySem.W.plainGet K C f = true := c.pg
structure Con (K : PySem.W.Frag) (C : Addr) (f : Str) (v : V) (u : Value) : Prop where
 at_ : PySem.W.findIn K (.ref C) f = some (some u)
 rel : RelV v u
 get : PySem.W.specialIn K u "__get__" = some none
 cp : PySem.W.copiedNames.contains f = false
structure Meth (K : PySem.W.Frag) (C : Addr) (m : Str) (f : Addr) : Prop where
 at_ : PySem.W.findIn K (.ref C) m = some (some (.ref f))
 fn : PySem.W.isFn K (.ref f) = true
 kp : PySem.W.keepIn K (.ref f) = true
section
variable {X : Cx} {pins : List (Addr × Obj)} {σ : St} {H : Hp} {s : Shared} {a C dx : Addr} {fs : List (Str × V)} {f : Str} {v : V} {A : Around} {E : Value → Shared → Prop}
end
section
variable {X : Cx} {o e value : Expr} {f : Str} {pos pos' tpos : Pos} {ta tv : TE}
end
section
variable {X : Cx} {pins : List (Addr × Obj)} {σ : St} {H : Hp} {s : Shared} {A : Around} {E : Value → Shared → Prop} {Q : Value → Shared → Prop} {c : Value} {b : Bool}
inductive TyOf (K : PySem.W.Frag) (H : Hp) : V → Value → Prop where
 | non : TyOf K H .non (.type "NoneType")
 | bl (x : Bool) : TyOf K H (.bl x) (.type "bool")
 | int (i : Int) : TyOf K H (.int i) (.type "int")
 | str (x : Str) : TyOf K H (.str x) (.type "str")
 | flt (x : UInt64) : TyOf K H (.flt x) (.type "float")
 | lst {a : Addr} {xs : List V} (e : H a = some (.lst xs)) : TyOf K H (.ref a) (.type "list")
 | frz {a : Addr} {o : Obj} {xs : List V} (e : H a = some (.frz o (.lst xs))) : TyOf K H (.ref a) (.type "list")
 | tup {a : Addr} {xs : List V} (e : H a = some (.tup xs)) : TyOf K H (.ref a) (.type "tuple")
 | dK {a : Addr} {kvs : List (Key × V)} (e : H a = some (.dK kvs)) : TyOf K H (.ref a) (.type "dict")
 | dT {a : Addr} {kvs : List (List Key × V)} (e : H a = some (.dT kvs)) : TyOf K H (.ref a) (.type "dict")
 | ins {a C dx : Addr} {fs : List (Str × V)} (e : H a = some (.ins C dx fs)) (cl : Cls K C) (ha : PySem.W.findIn K (.ref C) "__class__" = some (some (.builtin "object.__class__")))
   (hn : PySem.W.specialIn K (.builtin "object.__class__") "__get__" = some (some (.builtin "getset_descriptor.__get__"))) (htk : PySem.W.takesIn K (.builtin "object.__class__") = some true)
   (hm : PySem.W.mroIn K C (.type "object") = some true) : TyOf K H (.ref a) (.ref C)
theorem isinst_ok {x : V} {u t : Value} (I : Inv X pins σ H s) (rx : RelV x u) (ty : TyOf X.K H x t) (e : PySem.W.kitOne X.K t c = some b) (h : ∀ tk, Q (.bool b) { s with toks := tk }) :
  wpAny (model X.prog X.w) A (call (.builtin "isinstance") [u, c]) Q E s := by
 cases ty with
 | non => cases (show u = Value.none from rx); exact PySem.W.kia_one PySem.W.kitx_none I.kIn True.intro e (fun z => nomatch z) h
 | bl y => cases (show u = Value.bool y from rx); exact PySem.W.kia_one PySem.W.kitx_bool I.kIn True.intro e (fun z => nomatch z) h
 | int i => obtain ⟨t, q⟩ := (show ∃ t, u = Value.int i t from rx); cases q; exact PySem.W.kia_one PySem.W.kitx_int I.kIn True.intro e (fun z => nomatch z) h
 | str y => obtain ⟨t, q⟩ := (show ∃ t, u = Value.str y t from rx); cases q; exact PySem.W.kia_one PySem.W.kitx_str I.kIn True.intro e (fun z => nomatch z) h
 | flt y => obtain ⟨t, q⟩ := (show ∃ t, u = Value.float y t from rx); cases q; exact PySem.W.kia_one PySem.W.kitx_float I.kIn True.intro e (fun z => nomatch z) h
 | @lst a xs ea =>
  cases (show u = Value.ref a from rx)
  obtain ⟨_, _, n, _, h1⟩ := (show ObjOk X.prog X.w H s.heap a (.lst xs) from I.hok a _ ea)
  exact PySem.W.kia_one PySem.W.kitx_list I.kIn ⟨_, h1, rfl⟩ e (fun z => nomatch z) h
 | @frz a ob xs ea =>
  cases (show u = Value.ref a from rx)
  obtain ⟨_, _, _, n, _, h1⟩ := (show ObjOk X.prog X.w H s.heap a (.frz ob (.lst xs)) from I.hok a _ ea)
  exact PySem.W.kia_one PySem.W.kitx_list I.kIn ⟨_, h1, rfl⟩ e (fun z => nomatch z) h
 | @tup a xs ea =>
  cases (show u = Value.ref a from rx)
  obtain ⟨_, _, _, p⟩ := (show ObjOk X.prog X.w H s.heap a (.tup xs) from I.hok a _ ea)
  obtain ⟨o, h1, h2, _⟩ := p
  exact PySem.W.kia_one PySem.W.kitx_tuple I.kIn ⟨o, h1, h2⟩ e (fun z => nomatch z) h
 | @dK a kvs ea =>
  cases (show u = Value.ref a from rx)
  obtain ⟨_, _, vs, _, p⟩ := (show ObjOk X.prog X.w H s.heap a (.dK kvs) from I.hok a _ ea)
  obtain ⟨o, es, ep, h1, h2, _⟩ := p
  exact PySem.W.kia_one PySem.W.kitx_dict I.kIn ⟨o, h1, h2.1⟩ e (fun z => nomatch z) h
 | @dT a kvs ea =>
  cases (show u = Value.ref a from rx)
  obtain ⟨_, _, xs, _, o, es, ep, h1, h2, _⟩ := (show ObjOk X.prog X.w H s.heap a (.dT kvs) from I.hok a _ ea)
  exact PySem.W.kia_one PySem.W.kitx_dict I.kIn ⟨o, h1, h2.1⟩ e (fun z => nomatch z) h
 | @ins a C dx fs ea cl ha hn htk hm =>
  cases (show u = Value.ref a from rx)
  obtain ⟨mA, O, _⟩ := ins_get I.hok ea
  obtain ⟨od, J, _⟩ := O.look
  exact PySem.W.kia_one (PySem.W.kitx_own (cl.get _) cl.hd ha hn htk hm) I.kIn J e (fun z => nomatch z) h
end
end L2
namespace L2
open PySem PySem.Spec PyProof.Rows
structure Room (k : Nat) (A : Around) : Prop where
 hd : A.handled = none
 dp : A.depth + 3 * k + 5 < recursionLimit
 un : A.units + 16 * k + 200 < cLine
theorem Room.mono {j k : Nat} {A : Around} (r : Room k A) (h : j ≤ k) : Room j A := ⟨r.hd, by have := r.dp; omega, by have := r.un; omega⟩
theorem Room.deeper {k : Nat} {A : Around} (r : Room (k + 1) A) (env : Env) : Room k (A.deeper env) :=
 ⟨r.hd, by have := r.dp; show A.depth + 1 + 3 * k + 5 < _; omega, by have := r.un; show A.units + 3 + 16 * k + 200 < _; omega⟩
theorem Room.depth {k : Nat} {A : Around} (r : Room k A) : A.depth < recursionLimit := by have := r.dp; omega
noncomputable def tNil : TA := fun _ H Q => Q [] H
noncomputable def tCons (ta : TE) (tr : TA) : TA := fun σ H Q => ta σ H fun x H1 => tr σ H1 fun xs H2 => Q (x :: xs) H2
section
variable {X : Cx} {e : Expr} {es : List Expr} {te : TE} {t : TA} {pos : Pos}
theorem pa_nil : PA X [] tNil := fun _ _ _ _ H Q I h => Calls.spliced_nil ⟨[], H, I, .nil, h⟩
theorem pa_cons (ha : PE X e te) (hr : PA X es t) (hs : starEach (e :: es) X.env = (false, eval e X.env) :: starEach es X.env := by rfl) : PA X (e :: es) (tCons te t) := by
 intro pos pins s σ H Q I h
 rw [hs]
 show wpAny _ _ (spliced ((false, eval e X.env) :: backTo pos (starEach es X.env))) _ _ s
 refine Calls.spliced_cons (thn (ha pins s σ H _ I h) fun u s1 hh1 => ?_)
 obtain ⟨x, H1, I1, r1, q1⟩ := hh1
 exact thn (hr pos pins s1 σ H1 _ I1 q1) fun us s2 hh2 => by obtain ⟨xs, H2, I2, r2, q2⟩ := hh2; exact (⟨x :: xs, H2, I2, .cons r1 r2, q2⟩)
noncomputable def tTup (t : TA) : TE := fun σ H Q => t σ H fun xs H1 => xs.length ≤ sizeLine ∧ ∀ p, H1 p = none → Q (.ref p) (upd H1 p (.tup xs))
noncomputable def tLst (t : TA) : TE := fun σ H Q => t σ H fun xs H1 => xs.length ≤ sizeLine ∧ ∀ p, H1 p = none → Q (.ref p) (upd H1 p (.lst xs))
theorem pe_tup {x1} (h : PA X es t) : PE X (.Tuple es x1 pos) (tTup t) := by
 intro pins s σ H Q I hq
 refine wpAny_Tuple_spliced (thn (h pos pins s σ H _ I hq) fun us s1 ⟨xs, H1, I1, r, z, q⟩ => ⟨by rw [← r.length]; exact z, ?_⟩)
 have hf : H1 s1.heap.objs.size = none := I1.hok.fresh (Nat.le_refl _)
 refine ⟨.ref s1.heap.objs.size, upd H1 s1.heap.objs.size (.tup xs), I1.laid (t' := s1.toks) (fun b u e => Heap.get?_push_of_some _ e) (Nat.le_refl _) ?_, rfl, q _ hf⟩
 exact ⟨z, us, r, ⟨_, Heap.get?_push_size _ rfl, rfl, _, rfl⟩⟩
theorem pe_lst (h : PA X es t) : PE X (.List es pos) (tLst t) := by
 intro pins s σ H Q I hq
 refine wpAny_List_spliced (thn (h pos pins s σ H _ I hq) fun us s1 ⟨xs, H1, I1, r, z, q⟩ => ⟨by rw [← r.length]; exact z, ?_⟩)
 have hf : H1 s1.heap.objs.size = none := I1.hok.fresh (Nat.le_refl _)
 refine ⟨.ref s1.heap.objs.size, upd H1 s1.heap.objs.size (.lst xs), I1.laid (t' := s1.toks) (fun b u e => Heap.get?_push_of_some _ e) (Nat.le_refl _) ?_, rfl, q _ hf⟩
 exact ⟨z, us, 0, r, Heap.get?_push_size _ rfl⟩
end
noncomputable abbrev Sp := List V → Hp → VK → XK → Prop
noncomputable abbrev CXT := List Env → Hp → Shared → XK → Value → Shared → Prop
structure Env0 (P : Program) (w : World) (K : PySem.W.Frag) (mg : Str → Option Value) (base : Heap) (A : Around) (outer : List Env) (s : Shared) (H : Hp) : Prop where
 frames : A.frames = some outer
 mod : Mod K mg base
 bs : ∀ b o, base.get? b = some o → s.heap.get? b = some o ∧ H b = none
 bsz : base.objs.size ≤ s.heap.objs.size
 funs : s.heap.FunFrames base outer
 frf : ∀ b ∈ frs outer, H b = none
 hok : HOk P w H s.heap
 bare : AllBare s.gens
noncomputable def CE (outer : List Env) (P : Program) (w : World) (H : Hp) (s : Shared) (Q : VK) (u : Value) (s' : Shared) : Prop :=
 ∃ v H', s'.os = s.os ∧ AllBare s'.gens ∧ Un (frs outer) [] H H' s.heap s'.heap ∧ HOk P w H' s'.heap ∧ RelV v u ∧ Q v H'
noncomputable def CR (CX : CXT) (outer : List Env) (P : Program) (w : World) (H : Hp) (s : Shared) (Q : VK) (E : XK) (r : Result) (s' : Shared) : Prop :=
 match r with
 | .ok (.ret u) => CE outer P w H s Q u s'
 | .ok _ => False
 | .error e => CX outer H s E e s'
structure FnOk (P : Program) (w : World) (K : PySem.W.Frag) (mg : Str → Option Value) (base : Heap) (CX : CXT) (k : Nat) (f : Addr) (fd : FuncData) (ps : List Str) (sp : Sp) : Prop where
 len : ∀ vs H Q E, sp vs H Q E → vs.length = ps.length
 run : ∀ (A : Around) (outer : List Env) (s : Shared) (H : Hp) (args : Args) (us : List Value) (vs : List V) (Q : VK) (E : XK), Room k A → Env0 P w K mg base A outer s H → BindsTo s fd args (ps.zip us) → Vals vs us → sp vs H Q E →
  codeAny (model P w) A (.call (.ref f) args) (CR CX outer P w H s Q E) s
theorem FnOk.mono {P : Program} {w : World} {K : PySem.W.Frag} {mg : Str → Option Value} {base : Heap} {CX : CXT} {j k : Nat} {f : Addr} {fd : FuncData} {ps : List Str} {sp : Sp} (F : FnOk P w K mg base CX j f fd ps sp) (h : j ≤ k) :
  FnOk P w K mg base CX k f fd ps sp := ⟨F.len, fun A outer s H args us vs Q E hr => F.run A outer s H args us vs Q E (hr.mono h)⟩
section
variable {X : Cx} {pins : List (Addr × Obj)} {σ : St} {H : Hp} {s s' : Shared}
theorem Inv.env0 (I : Inv X pins σ H s) : Env0 X.prog X.w X.K X.mg X.base X.A X.stack s H :=
 ⟨I.ok.frames, I.ok.mod, I.bs, Nat.le_trans I.ok.bsz I.sz, I.stack, I.stkFree, I.hok, I.bare⟩
theorem Inv.after {Q : VK} {u : Value} (I : Inv X pins σ H s) (h : CE X.stack X.prog X.w H s Q u s') : EP X pins σ Q u s' := by
 obtain ⟨v, H', os, bare, un, hok, r, q⟩ := h
 obtain ⟨hh, g, d, t, os'⟩ := s'
 obtain rfl : os' = s.os := os
 exact ⟨v, H', I.call (h' := hh) (g' := g) (d' := d) (t' := t) (ch := []) un hok bare (fun b z => absurd z (by simp)), r, q⟩
end
noncomputable def tCall (sp : Sp) (dvs : List V) (E : XK) (t : TA) : TE := fun σ H Q => t σ H fun vs H1 => sp (vs ++ dvs) H1 Q E
noncomputable def Binds (K : PySem.W.Frag) (fd : FuncData) (ps : List Str) (ds : List Value) : Prop :=
 ∀ (s : Shared) (us : List Value), K.In s.heap → (us ++ ds).length = ps.length → BindsTo s fd ⟨us, []⟩ (ps.zip (us ++ ds))
theorem Binds.all {K : PySem.W.Frag} {fd : FuncData} {ps : List Str} (h : ∀ us : List Value, us.length = ps.length → bindArgs fd ⟨us, []⟩ = pure (ps.zip us)) : Binds K fd ps [] := fun s us _ hl => by
 rw [List.append_nil] at hl ⊢
 exact .of_eq (h us hl)
noncomputable def Passes (CX : CXT) (X : Cx) (E : XK) : Prop := ∀ (pins : List (Addr × Obj)) (σ : St) (H : Hp) (s : Shared) (e : Value) (s' : Shared), Inv X pins σ H s → CX X.stack H s E e s' → X.xe e s'
section
variable {X : Cx} {CX : CXT} {k : Nat} {f C : Addr} {fd : FuncData} {ps : List Str} {sp : Sp} {dvs : List V} {ds : List Value} {E : XK} {x m : Str} {p pos apos : Pos} {e o : Expr} {es : List Expr} {ta : TE} {t : TA}
theorem run_fn {pins : List (Addr × Obj)} {σ : St} {H : Hp} {s : Shared} {Q : VK} {us : List Value} {vs : List V} (F : FnOk X.prog X.w X.K X.mg X.base CX k f fd ps sp) (hr : Room k X.A) (hb : Binds X.K fd ps ds) (hd : Vals dvs ds) (hx : Passes CX X E)
  (I : Inv X pins σ H s) (r : Vals vs us) (h : sp (vs ++ dvs) H Q E) : wpAny (model X.prog X.w) X.A (call (.ref f) us) (EP X pins σ Q) X.xe s := by
 have r2 : Vals (vs ++ dvs) (us ++ ds) := r.append hd
 have hl : (us ++ ds).length = ps.length := by rw [← r2.length]; exact F.len _ _ _ _ h
 refine wpAny_call (codeAny_mono (F.run X.A X.stack s H ⟨us, []⟩ (us ++ ds) (vs ++ dvs) Q E hr I.env0 (hb s us I.kIn hl) r2 h) fun r s' hq => ?_)
 cases r with
 | error e => exact hx pins σ H s e s' I hq
 | ok fl =>
  cases fl with
  | ret u => exact I.after hq
  | next => exact False.elim hq
  | brk => exact False.elim hq
  | cont => exact False.elim hq
theorem pe_call (F : FnOk X.prog X.w X.K X.mg X.base CX k f fd ps sp) (hr : Room k X.A) (hg : Gl X x) (hm : X.mg x = some (.ref f)) (hk : PySem.W.keepIn X.K (.ref f) = true) (hb : Binds X.K fd ps ds) (hd : Vals dvs ds) (hx : Passes CX X E)
  (ha : PA X (e :: es) t) (hdb : (x == ("__debug__" : Str)) = false := by decide) (he : starEach (e :: es) X.env = (false, eval e X.env) :: starEach es X.env := by rfl) (hpl : (backTo pos (starEach es X.env)).any (·.1) = false := by rfl) :
  PE X (.Call (.Name x p) (e :: es) [] pos) (tCall sp dvs E t) := by
 intro pins s σ H Q I h
 refine wpAny_Call_Name_kw (ld_glob I hg hm ?_ hdb)
 refine PySem.W.callWith_K (h₀ := X.base) I.ok.mod.kin hk (thn (ha pos pins s σ H _ I h) fun us s1 ⟨vs, H1, I1, r, q⟩ => ⟨I1.kIn, ?_⟩) he hpl
 exact run_fn F hr hb hd hx I1 r q
structure Mk (K : PySem.W.Frag) (C f : Addr) : Prop where
 makes : PySem.W.makesIn K C = true
 init : PySem.W.findIn K (.ref C) "__init__" = some (some (.ref f))
 fn : PySem.W.isFn K (.ref f) = true
 kp : PySem.W.keepIn K (.ref C) = true
end
section
variable {X : Cx} {CX : CXT} {k : Nat} {f C : Addr} {fd : FuncData} {ps ks : List Str} {sp : Sp} {E : XK} {x m : Str} {p pos apos kpos : Pos} {e o : Expr} {es : List Expr} {kws : List Keyword} {te ta : TE} {t tk : TA} {nm : Option Str}
structure KBinds (K : PySem.W.Frag) (fd : FuncData) (ps ks : List Str) (g : List Value → List Value → List Value) (gV : List V → List V → List V) : Prop where
 to : ∀ (s : Shared) (us ws : List Value), K.In s.heap → (g us ws).length = ps.length → BindsTo s fd ⟨us, ks.zip ws⟩ (ps.zip (g us ws))
 rel : ∀ {vs : List V} {us : List Value} {zs : List V} {ws : List Value}, Vals vs us → Vals zs ws → Vals (gV vs zs) (g us ws)
variable {g : List Value → List Value → List Value} {gV : List V → List V → List V}
end
structure FnScope (N P : List Str) (sc : Scope) : Prop where
 kind : sc.kind = .function
 co : sc.isCoroutine = false
 gen : sc.isGenerator = false
 nd : N.Nodup
 pre : N.take P.length = P
 par : ∀ x ∈ P, sc.names.lookup x = some .local ∨ sc.names.lookup x = some .cell
 nofree : ∀ y ∈ sc.names, y.2 ≠ .free
theorem bindL_out {kindOf : Str → Option NameKind} {x : Str} : ∀ {binds : List (Str × Value)} {m : Str → Option Value}, (∀ v, (x, v) ∉ binds) → bindL kindOf binds m x = m x
 | [], _, _ => rfl
 | (n, v) :: r, m, h => by
  unfold bindL
  rw [bindL_out fun w hw => h w (List.mem_cons_of_mem _ hw)]
  split
  ·have : x ≠ n := by rintro rfl; exact h v List.mem_cons_self
   simp [this]
  ·rfl
theorem bindC_out {kindOf : Str → Option NameKind} {x : Str} : ∀ {binds : List (Str × Value)} {m : Str → Option Value}, (∀ v, (x, v) ∉ binds) → bindC kindOf binds m x = m x
 | [], _, _ => rfl
 | (n, v) :: r, m, h => by
  unfold bindC
  rw [bindC_out fun w hw => h w (List.mem_cons_of_mem _ hw)]
  split
  ·rfl
  ·have : x ≠ n := by rintro rfl; exact h v List.mem_cons_self
   simp [this]
theorem bindL_get {kindOf : Str → Option NameKind} {x : Str} {v : Value} : ∀ {P : List Str} {vs : List Value} {i : Nat} {m : Str → Option Value}, P.Nodup → P[i]? = some x → vs[i]? = some v → kindOf x = some .local →
  bindL kindOf (P.zip vs) m x = some v
 | [], _, _, _, _, h, _, _ => by simp at h
 | _ :: _, [], _, _, _, _, h, _ => by simp at h
 | p :: P, w :: vs, 0, m, nd, h1, h2, hk => by
  simp at h1 h2; subst h1; subst h2
  show bindL kindOf ((p, w) :: P.zip vs) m p = _
  unfold bindL
  rw [bindL_out fun v hv => (List.nodup_cons.mp nd).1 (List.of_mem_zip hv).1, if_pos hk]
  simp
 | p :: P, w :: vs, i + 1, m, nd, h1, h2, hk => by
  show bindL kindOf ((p, w) :: P.zip vs) m x = _
  unfold bindL
  exact bindL_get (i := i) (List.nodup_cons.mp nd).2 (by simpa using h1) (by simpa using h2) hk
theorem bindC_get {kindOf : Str → Option NameKind} {x : Str} {v : Value} : ∀ {P : List Str} {vs : List Value} {i : Nat} {m : Str → Option Value}, P.Nodup → P[i]? = some x → vs[i]? = some v → kindOf x ≠ some .local →
  bindC kindOf (P.zip vs) m x = some v
 | [], _, _, _, _, h, _, _ => by simp at h
 | _ :: _, [], _, _, _, _, h, _ => by simp at h
 | p :: P, w :: vs, 0, m, nd, h1, h2, hk => by
  simp at h1 h2; subst h1; subst h2
  show bindC kindOf ((p, w) :: P.zip vs) m p = _
  unfold bindC
  rw [bindC_out fun v hv => (List.nodup_cons.mp nd).1 (List.of_mem_zip hv).1, if_neg hk]
  simp
 | p :: P, w :: vs, i + 1, m, nd, h1, h2, hk => by
  show bindC kindOf ((p, w) :: P.zip vs) m x = _
  unfold bindC
  exact bindC_get (i := i) (List.nodup_cons.mp nd).2 (by simpa using h1) (by simpa using h2) hk
noncomputable def start (N : List Str) (vs : List V) : St := vs.map some ++ List.replicate (N.length - vs.length) none
noncomputable def cxOf (CX : CXT) (P : Program) (w : World) (K : PySem.W.Frag) (mg : Str → Option Value) (base : Heap) (N : List Str) (qual : Str) (scope : Scope) (f : Addr) (cd : Value) (A : Around) (outer : List Env) (s : Shared) (H : Hp) (E : XK) : Cx where
 prog := P
 w := w
 K := K
 mg := mg
 base := base
 A := A.deeper (envOfC qual scope s.heap.objs.size f cd)
 N := N
 s₀ := s
 H₀ := H
 env := envOfC qual scope s.heap.objs.size f cd
 outer := outer
 stack := envOfC qual scope s.heap.objs.size f cd :: outer
 ex := []
 calm := true
 fn := fun _ => true
 pn := []
 xe := fun e s' => wpAny (model P w) (A.deeper (envOfC qual scope s.heap.objs.size f cd)) (leaving (envOfC qual scope s.heap.objs.size f cd) e) (fun _ s'' => CX outer H s E e s'') (fun e' s'' => CX outer H s E e' s'') s'
theorem cell_has {sc : Scope} {n : Nat} {x : Str} (h : sc.names.lookup x = some .cell) : ∃ c, (cellsFrom n sc.names []).lookup x = some c := by
 have q := PySem.W.cellsFrom_some sc.names n [] (.inl h)
 exact Option.isSome_iff_exists.mp q
theorem inv_start {CX : CXT} {P : Program} {w : World} {K : PySem.W.Frag} {mg : Str → Option Value} {base : Heap} {N ps : List Str} {qual : Str} {scope : Scope} {f : Addr} {cd : Value} {A : Around} {outer : List Env} {s s1 : Shared} {H : Hp} {E : XK} {us : List Value} {vs : List V}
  (S : FnScope N ps scope) (hd : A.handled = none) (e0 : Env0 P w K mg base A outer s H) (hl : vs.length = ps.length) (r : Vals vs us)
  (x : InCallC s s.heap.objs.size (bindL (envOfC qual scope s.heap.objs.size f cd).kindOf (ps.zip us) fun _ => none) (cellsFrom (s.heap.objs.size + 1) scope.names []) (bindC (envOfC qual scope s.heap.objs.size f cd).kindOf (ps.zip us) fun _ => none) s1) :
  Inv (cxOf CX P w K mg base N qual scope f cd A outer s H E) [] (start N vs) H s1 := by
 have hpl : ps.length ≤ N.length := by have := congrArg List.length S.pre; rw [List.length_take] at this; omega
 obtain ⟨h1, tk, rfl, hk⟩ := x.done
 have noA : ∀ b : Addr, b ∉ (cxOf CX P w K mg base N qual scope f cd A outer s H E).ex := fun b z => absurd (show b ∈ ([] : List Addr) from z) (by simp)
 refine ⟨⟨e0.mod, S.kind, rfl, rfl, Nat.le_refl _, fun y z c h1 h2 => ?_, fun y hy => ?_, fun y c _ h => ?_, fun _ => hd, Around.frames_deeper e0.frames, .inr ⟨rfl, rfl⟩, fun b z => absurd z (noA b), e0.bs, e0.bsz, fun b _ _ => noA b, fun b z => absurd z (noA b), e0.funs, e0.frf⟩,
  rfl, e0.bare, Un.kept hk, ⟨_, x.toInCall.ns, fun i y v h1 h2 h3 => ?_⟩, fun y c h => ⟨_, x.cell y c h⟩, e0.hok.fresh (Nat.le_refl _), fun y c h => ?_, fun p hp => absurd (show p ∈ ([] : List (Addr × Obj)) from hp) (by simp), e0.hok.kept hk, ?_⟩
 ·exact name_of_addr x.apart (PySem.mem_of_lookup h1) (PySem.mem_of_lookup h2)
 ·have hy : scope.names.lookup y = some .cell ∨ scope.names.lookup y = some .free := hy
  rcases hy with hy | hy
  ·exact cell_has hy
  ·exact absurd rfl (S.nofree _ (PySem.mem_of_lookup hy))
 ·exact Nat.le_of_lt (x.above y c (PySem.mem_of_lookup h))
 ·have hi : i < vs.length := by
   unfold start at h2
   by_cases hi : i < vs.length
   ·exact hi
   ·rw [List.getElem?_append_right (by simpa using hi)] at h2
    rw [List.getElem?_replicate] at h2
    split at h2 <;> cases h2
  have ha : vs[i]? = some v := by
   unfold start at h2
   rw [List.getElem?_append_left (by simpa using hi), List.getElem?_map] at h2
   cases e : vs[i]? with
   | none => rw [e] at h2; cases h2
   | some a => rw [e] at h2; cases h2; rfl
  obtain ⟨u, hu, rv⟩ := r.get ha
  have hp : ps[i]? = some y := by
   rw [← S.pre, List.getElem?_take_of_lt (by omega)]; exact h1
  have ndP : ps.Nodup := by rw [← S.pre]; exact S.nd.sublist (List.take_sublist _ _)
  refine ⟨u, rv, ?_⟩
  rcases S.par y (List.mem_of_getElem? hp) with k | k
  ·exact .inl ⟨k, bindL_get ndP hp hu k⟩
  ·obtain ⟨c, e⟩ := cell_has (n := s.heap.objs.size + 1) k
   refine .inr ⟨.inl k, c, e, ?_⟩
   have q := x.cell y c e
   rw [bindC_get ndP hp hu (by show scope.names.lookup y ≠ _; rw [k]; decide)] at q
   exact q
 ·exact e0.hok.fresh (Nat.le_of_lt (x.above y c (PySem.mem_of_lookup h)))
 ·unfold start
  show _ = N.length
  rw [List.length_append, List.length_map, List.length_replicate]
  omega
theorem fn_of {CX : CXT} {P : Program} {w : World} {K : PySem.W.Frag} {mg : Str → Option Value} {base : Heap} {k : Nat} {f : Addr} {name qual : Str} {params : Arguments} {body : List Stmt} {scope : Scope} {dV kV doc pm cdv ct oc : Value} {an od : Option Addr}
  {osl : Array (Option Value)} {N ps : List Str} {sp : Sp} (lk : K.lookup f = some ⟨oc, od, .func (PySem.W.fnOf name qual params body scope dV kV doc pm an cdv ct), osl⟩) (hcd : PySem.W.codeIn K cdv qual = true) (S : FnScope N ps scope)
  (len : ∀ vs H Q E, sp vs H Q E → vs.length = ps.length)
  (hbody : ∀ (A : Around) (outer : List Env) (s : Shared) (H : Hp) (vs : List V) (Q : VK) (E : XK), Room k (A.deeper (envOfC qual scope s.heap.objs.size f cdv)) → sp vs H Q E →
   ∃ t, PSs (cxOf CX P w K mg base N qual scope f cdv A outer s H E) body t ∧ t { nx := fun _ H' => Q .non H', rt := Q } (start N vs) H) :
  FnOk P w K mg base CX (k + 1) f (PySem.W.fnOf name qual params body scope dV kV doc pm an cdv ct) ps sp := by
 refine ⟨len, fun A outer s H args us vs Q E hr e0 hb r hsp => ?_⟩
 have hl := len _ _ _ _ hsp
 have KX : K.In s.heap := e0.mod.kin.keeps fun b o e => (e0.bs b o e).1
 have lim : s.heap.NoLimit := e0.mod.nolimit.keeps fun b o e => (e0.bs b o e).1
 have hkind : ∀ y ∈ ps.zip us, scope.names.lookup y.1 = some .local ∨ (scope.names.lookup y.1 = some .cell ∧ ((cellsFrom (s.heap.objs.size + 1) scope.names []).lookup y.1).isSome = true) := fun hh1 hy => by
  obtain ⟨n, v⟩ := hh1
  rcases S.par n (List.of_mem_zip hy).1 with q | q
  ·exact .inl q
  ·exact .inr ⟨q, PySem.W.cellsFrom_some _ _ _ (.inl q)⟩
 refine codeAny_call_function hr.depth (KX _ _ lk) rfl S.co S.gen rfl (PySem.W.codeRec_of KX hcd) (hb _ _ _ _ ?_)
 refine wpAny_newFunctionEnv_cells S.kind hkind fun env he s1 x => ?_
 subst he
 refine ⟨lim.keeps x.toInCall.keep, codeAny_func ?_⟩
 obtain ⟨t, ht, hq⟩ := hbody A outer s H vs Q E (hr.deeper _) hsp
 have I : Inv (cxOf CX P w K mg base N qual scope f cdv A outer s H E) [] (start N vs) H s1 := inv_start S hr.hd e0 hl r x
 refine wpAny_mono (ht [] s1 (start N vs) H _ I hq) (fun fl s' hs => ?_) fun e s' hs => hs
 have fin : ∀ {σ' : St} {H' : Hp} {v : V} {u : Value}, Inv (cxOf CX P w K mg base N qual scope f cdv A outer s H E) [] σ' H' s' → RelV v u → Q v H' → CE outer P w H s Q u s' :=
  fun {σ' H' v u} J rv q => ⟨v, H', J.os, J.bare, J.base, J.hok, rv, q⟩
 cases fl with
 | ret u =>
  obtain ⟨v, σ', H', J, rv, q⟩ := hs
  exact fin J rv q
 | next =>
  obtain ⟨σ', H', J, q⟩ := hs
  exact fin (v := V.non) (u := Value.none) J rfl q
 | brk =>
  obtain ⟨_, _, _, q⟩ := hs
  exact False.elim q
 | cont =>
  obtain ⟨_, _, _, q⟩ := hs
  exact False.elim q
end L2
namespace L2
open PySem PySem.Spec PyProof.Rows
section
variable {X : Cx} {x : Str} {p pos : Pos} {e : Expr} {es : List Expr} {t : TA} {id T : String} {r : List V → Hp → VK → Prop}
noncomputable def tCB (r : List V → Hp → VK → Prop) (t : TA) : TE := fun σ H Q => t σ H fun vs H1 => r vs H1 Q
theorem pe_callB (hc : CallR X (.builtin id) r) (hg : Gl X x) (hm : X.mg x = none) (hv : bootBuiltins x = some (.builtin id)) (ha : PA X (e :: es) t) (hn : x ≠ "__name__" := by decide) (hdb : (x == ("__debug__" : Str)) = false := by decide)
  (he : starEach (e :: es) X.env = (false, eval e X.env) :: starEach es X.env := by rfl) (hpl : (backTo pos (starEach es X.env)).any (·.1) = false := by rfl) : PE X (.Call (.Name x p) (e :: es) [] pos) (tCB r t) := by
 intro pins s σ H Q I h
 refine wpAny_Call_Name_kw (ld_blt I hg hm hv ?_ hn hdb)
 exact PyProof.Rows.callWith_builtin1 (thn (ha pos pins s σ H _ I h) fun us s1 hh1 => by obtain ⟨vs, H1, I1, r1, q1⟩ := hh1; exact (hc pins s1 σ H1 vs us Q I1 r1 q1)) he hpl
theorem pe_callTy (hc : CallR X (.type T) r) (hg : Gl X x) (hm : X.mg x = none) (hv : bootBuiltins x = some (.type T)) (ha : PA X (e :: es) t) (hn : x ≠ "__name__" := by decide) (hdb : (x == ("__debug__" : Str)) = false := by decide)
  (he : starEach (e :: es) X.env = (false, eval e X.env) :: starEach es X.env := by rfl) (hpl : (backTo pos (starEach es X.env)).any (·.1) = false := by rfl) : PE X (.Call (.Name x p) (e :: es) [] pos) (tCB r t) := by
 intro pins s σ H Q I h
 refine wpAny_Call_Name_kw (ld_blt I hg hm hv ?_ hn hdb)
 exact PyProof.Rows.callWith_type1 (thn (ha pos pins s σ H _ I h) fun us s1 hh1 => by obtain ⟨vs, H1, I1, r1, q1⟩ := hh1; exact (hc pins s1 σ H1 vs us Q I1 r1 q1)) he hpl
end
end L2
namespace HT
open PySem PyProof.Rows
section
open PySem.SeqAt
open PySem.AutoSeq1 (wpAny_loadPart')
open PySem.MeetsSeq PySem.MeetsSeq2 PySem.MeetsSeq3
end
section
variable {prog : Program} {w : World} {A : Around} {E : Value → Shared → Prop} {s : Shared}
theorem cat_tup {t b : Addr} {vs ws : List Value} {Q : Value → Shared → Prop} (ht : IsTup s.heap t vs.toArray) (hb : IsTup s.heap b ws.toArray) (hv : vs ≠ [])
  (h1 : ws = [] → Q (.ref t) s) (h2 : ws ≠ [] → Q (.ref s.heap.objs.size) { s with heap := s.heap.push { cls := .type "tuple", data := .seq (vs ++ ws).toArray } })
  (hsz : vs.length + ws.length ≤ sizeLine) : wpAny (model prog w) A (binaryOp .Add (.ref t) (.ref b)) Q E s := by
 obtain ⟨⟨cls, dd, data, sl⟩, ho, hc, n, hd⟩ := id ht
 obtain ⟨⟨cls2, dd2, data2, sl2⟩, ho2, hc2, n2, hd2⟩ := id hb
 simp only at hc hd hc2 hd2
 subst hc hd hc2 hd2
 have e : vs.toArray ++ ws.toArray = (vs ++ ws).toArray := by simp
 by_cases hw : ws = []
 ·exact concat_meets ⟨_, ho, rfl⟩ ⟨_, ho2, rfl⟩ noFill_tuple_add seq_tuple_add PySem.F.slot_tuple_add PySem.F.entry_tuple_add (PySem.F.args_tuple_add_2 _ _)
   (tuple_addW1 t b vs.toArray ws.toArray n n2 dd dd2 sl sl2 (by simpa using hv) (by simp [hw])) ⟨ho, ho2, h1 hw⟩
 ·refine concat_meets ⟨_, ho, rfl⟩ ⟨_, ho2, rfl⟩ noFill_tuple_add seq_tuple_add PySem.F.slot_tuple_add PySem.F.entry_tuple_add (PySem.F.args_tuple_add_2 _ _)
   (tuple_addW2 t b vs.toArray ws.toArray n n2 dd dd2 sl sl2 (by simpa using hv) (by simpa using hw) (by rw [List.size_toArray, List.size_toArray]; exact hsz)) ⟨ho, ho2, ?_⟩
  rw [e]
  exact h2 hw
noncomputable def sIx (n d : Nat) : Option Int → Nat
 | none => d
 | some v => if v < 0 then (v + (n : Int)).toNat else min v.toNat n
theorem sIx_none (n d : Nat) : sIx n d none = d := rfl
theorem sIx_nat (n d k : Nat) : sIx n d (some (k : Int)) = min k n := by
 show (if (k : Int) < 0 then ((k : Int) + (n : Int)).toNat else min (k : Int).toNat n) = min k n
 rw [if_neg (by omega), Int.toNat_natCast]
theorem sIx_le (n d : Nat) (hd : d ≤ n) (o : Option Int) : sIx n d o ≤ n := by
 cases o with
 | none => exact hd
 | some v =>
  show (if v < 0 then (v + (n : Int)).toNat else min v.toNat n) ≤ n
  by_cases hv : v < 0
  ·rw [if_pos hv]; omega
  ·rw [if_neg hv]; exact Nat.min_le_right _ _
theorem clip_eq (v : Int) (n d : Nat) : (if v < 0 then max (v + (n : Int)) 0 else min v (n : Int)) = ((sIx n d (some v) : Nat) : Int) := by
 show (if v < 0 then max (v + (n : Int)) 0 else min v (n : Int)) = (((if v < 0 then (v + (n : Int)).toNat else min v.toNat n) : Nat) : Int)
 by_cases hv : v < 0
 ·simp only [if_pos hv]; omega
 ·simp only [if_neg hv]; omega
theorem adjust_gen (lo hi : Option Int) (n : Nat) : Builtin.Slice.sliceAdjust lo hi 1 (n : Int) = (((sIx n 0 lo : Nat) : Int), ((sIx n n hi : Nat) : Int)) := by
 have h1 : ¬ ((1 : Int) < 0) := by omega
 unfold Builtin.Slice.sliceAdjust
 simp only [h1, if_false]
 refine Prod.ext ?_ ?_
 ·cases lo with
  | none => rfl
  | some v => exact clip_eq v n 0
 ·cases hi with
  | none => rfl
  | some v => exact clip_eq v n n
theorem places_gen (i j : Nat) : Builtin.Slice.slicePlaces (i : Int) (j : Int) 1 = j - i := by
 unfold Builtin.Slice.slicePlaces
 have h1 : (1 : Int) > 0 := by omega
 simp only [h1, if_true, Int.ediv_one]
 split <;> omega
theorem slicePart_ {v : Value} {o : Option Int} {Q : Option Int → Shared → Prop} (p : IsPart v o) (h : Q o s) : wpAny (model prog w) A (Builtin.Slice.slicePartIndex v) Q E s := by
 cases p with
 | none => exact slicePart_none h
 | int i t => exact slicePart_int h
theorem sliceApplied_gen {sl : Addr} {vl vu : Value} {lo hi : Option Int} {n : Nat} {Q : Int × Int × Nat → Shared → Prop} (hs : s.heap.IsSliceOf sl vl vu .none) (pl : IsPart vl lo) (pu : IsPart vu hi)
  (h : Q (((sIx n 0 lo : Nat) : Int), 1, sIx n n hi - sIx n 0 lo) s) : wpAny (model prog w) A (Builtin.Slice.sliceApplied (.ref sl) (pure (n : Int))) Q E s := by
 obtain ⟨os, hos, hcs, hds⟩ := id hs
 unfold Builtin.Slice.sliceApplied Builtin.Slice.sliceFields
 refine wpAny_bind (wpAny_bind (wpAny_field hos hds (x := vl) rfl (wpAny_bind (wpAny_field hos hds (x := vu) rfl (wpAny_bind (wpAny_field hos hds (x := .none) rfl (wpAny_pure ?_)))))))
 refine wpAny_bind (slicePart_none ?_)
 show wpAny _ _ (if ((1 : Int) == 0) = true then _ else _) _ _ s
 rw [if_neg (by decide)]
 refine wpAny_bind (slicePart_ pl (wpAny_bind (slicePart_ pu (wpAny_bind (wpAny_pure ?_)))))
 show wpAny _ _ (match Builtin.Slice.sliceAdjust lo hi 1 (n : Int) with | (lo, hi) => pure (lo, (1 : Int), Builtin.Slice.slicePlaces lo hi 1)) _ _ s
 rw [adjust_gen lo hi n]
 show wpAny _ _ (pure (((sIx n 0 lo : Nat) : Int), (1 : Int), Builtin.Slice.slicePlaces ((sIx n 0 lo : Nat) : Int) ((sIx n n hi : Nat) : Int) 1)) _ _ s
 rw [places_gen]
 exact wpAny_pure h
theorem pick_gen (xs : Array Value) (i k : Nat) : ((List.range k).filterMap fun (m : Nat) => xs[((i : Int) + (m : Int) * 1).toNat]?).toArray = ((xs.toList.drop i).take k).toArray := by
 have e : (fun (m : Nat) => xs[((i : Int) + (m : Int) * 1).toNat]?) = fun m => xs[i + m]? := by
  funext m
  have : ((i : Int) + (m : Int) * 1).toNat = i + m := by omega
  rw [this]
 rw [e]
 have := pick_run xs i k
 rw [List.filterMap_map] at this
 have e2 : ((fun x => xs[x]?) ∘ fun x => i + x) = fun m => xs[i + m]? := rfl
 rw [e2] at this
 rw [this]
theorem getItem_tuple_cut {t sl : Addr} {items : Array Value} {vl vu : Value} {lo hi : Option Int} {Q : Value → Shared → Prop} (ht : IsTup s.heap t items) (hs : s.heap.IsSliceOf sl vl vu .none) (pl : IsPart vl lo) (pu : IsPart vu hi)
  (hw : ¬ (sIx items.size 0 lo = 0 ∧ sIx items.size items.size hi = items.size))
  (h : Q (.ref s.heap.objs.size) { s with heap := s.heap.push { cls := .type "tuple", data := .seq ((items.toList.drop (sIx items.size 0 lo)).take (sIx items.size items.size hi - sIx items.size 0 lo)).toArray } })
  (hsz : items.size ≤ sizeLine) : wpAny (model prog w) A (getItem (.ref t) (.ref sl)) Q E s := by
 have htake : sizeOk (.seq ((items.toList.drop (sIx items.size 0 lo)).take (sIx items.size items.size hi - sIx items.size 0 lo)).toArray) := by
  show ((items.toList.drop (sIx items.size 0 lo)).take (sIx items.size items.size hi - sIx items.size 0 lo)).toArray.size ≤ sizeLine
  rw [List.size_toArray, List.length_take, List.length_drop, Array.length_toList]
  omega
 have hj : sIx items.size items.size hi ≤ items.size := sIx_le _ _ (Nat.le_refl _) hi
 obtain ⟨os, hos, hcs, hds⟩ := id hs
 have hTs : s.TypeIs (.ref sl) "slice" := ⟨os, hos, hcs⟩
 unfold getItem
 try with_reducible refine wpAny_holding ?_
 first | refine wpAny_bind (wpAny_pure ?_) | skip
 refine wpAny_bind (wpAny_sequenceKey ht.typeIs (by decide) ?_)
 refine wpAny_bind (wpAny_callSpecial?_slot (name := Str.ofString "__getitem__") ht.typeIs PyProof.Rows.slot_tuple_getitem
  (wpAny_call_entry PyProof.Rows.slot_tuple_getitem ht.typeIs entry_tuple_getitem ?_ (args_tuple_getitem _ _)))
 show wpAny _ _ (Builtin.Tuple.tupleItemsOf (.ref t) >>= _) _ _ s
 refine wpAny_bind (tupleItemsOf_ ht ?_)
 refine wpAny_bind (wpAny_typeOf hTs ?_)
 rw [if_pos (by decide)]
 refine wpAny_bind (sliceApplied_gen hs pl pu ?_)
 have hno : ¬ ((((sIx items.size 0 lo : Nat) : Int) == 0 && (1 : Int) == 1 && (sIx items.size items.size hi - sIx items.size 0 lo) == items.size) = true) := by
  intro q
  rw [Bool.and_eq_true, Bool.and_eq_true] at q
  have q1 : ((sIx items.size 0 lo : Nat) : Int) = 0 := eq_of_beq q.1.1
  have q2 : sIx items.size items.size hi - sIx items.size 0 lo = items.size := eq_of_beq q.2
  exact hw ⟨by omega, by omega⟩
 show wpAny _ _ (if (((sIx items.size 0 lo : Nat) : Int) == 0 && (1 : Int) == 1 && (sIx items.size items.size hi - sIx items.size 0 lo) == items.size) = true then _ else _) _ _ s
 rw [if_neg hno, pick_gen]
 first
  | exact wpAny_bind (m := Builtin.Tuple.tupleExact _) (wpAny_newObj_type (wpAny_pure ⟨_, rfl, wpAny_pure h⟩) htake)
  | exact wpAny_bind (m := Builtin.Tuple.tupleExact _) (wpAny_newObj_type (wpAny_bind (wpAny_pure (wpAny_pure ⟨_, rfl, wpAny_pure h⟩))) htake)
  | exact wpAny_bind (wpAny_bind (m := Builtin.Tuple.tupleExact _) (wpAny_newObj_type (wpAny_pure (wpAny_pure ⟨_, rfl, wpAny_pure h⟩)) htake))
  | exact wpAny_bind (wpAny_bind (m := Builtin.Tuple.tupleExact _) (wpAny_newObj_type (wpAny_pure ⟨_, rfl, wpAny_pure h⟩) htake))
end
end HT
namespace L2
open PySem PySem.Spec PyProof.Rows
noncomputable abbrev TO := St → Hp → (Option Int → Hp → Prop) → Prop
noncomputable def PO (X : Cx) (e : Option Expr) (t : TO) : Prop :=
 ∀ (pins : List (Addr × Obj)) (s : Shared) (σ : St) (H : Hp) (Q : Option Int → Hp → Prop), Inv X pins σ H s → t σ H Q →
  wpAny (model X.prog X.w) X.A (evalPart e X.env) (fun u s' => ∃ o H', Inv X pins σ H' s' ∧ IsPart u o ∧ Q o H') X.xe s
noncomputable def tNoPart : TO := fun _ H Q => Q none H
noncomputable def tPart (t : TE) : TO := fun σ H Q => t σ H fun x H1 => ∃ i, x = .int i ∧ Q (some i) H1
theorem intsAre_of {ns : List Int} : ∀ {us : List Value}, Vals (ns.map V.int) us → IntsAre us ns := by
 induction ns with
 | nil => intro us r; rw [List.map_nil] at r; cases r; exact .nil
 | cons n ns ih =>
  intro us r
  rw [List.map_cons] at r
  cases r with
  | cons r1 r2 =>
   obtain ⟨t, e⟩ := r1
   subst e
   exact .cons n t (ih r2)
section
variable {X : Cx} {e : Expr} {te : TE} {lo hi : Option Expr} {tl th : TO} {pos p2 : Pos}
theorem po_none : PO X none tNoPart := by
 intro pins s σ H Q I h
 rw [evalPart_none]
 exact wpAny_pure ⟨none, H, I, .none, h⟩
theorem po_some (h : PE X e te) : PO X (some e) (tPart te) := by
 intro pins s σ H Q I hw
 rw [evalPart_some]
 refine thn (h pins s σ H _ I hw) fun u s1 hh1 => ?_
 obtain ⟨x, H1, I1, r1, q1⟩ := hh1
 obtain ⟨i, rfl, q⟩ := q1
 obtain ⟨t, rfl⟩ := r1
 exact ⟨some i, H1, I1, .int i t, q⟩
noncomputable def SlR (X : Cx) (r : V → Option Int → Option Int → Hp → VK → Prop) : Prop :=
 ∀ (pins : List (Addr × Obj)) (s : Shared) (σ : St) (H : Hp) (x : V) (v vl vu : Value) (lo hi : Option Int) (sl : Addr) (Q : VK), Inv X pins σ H s → RelV x v → s.heap.IsSliceOf sl vl vu .none → IsPart vl lo → IsPart vu hi → r x lo hi H Q →
  ∃ T id, typeLookup (.type T) "__getitem__" = pure (some (.builtin id)) ∧ s.TypeIs v T ∧ wpAny (model X.prog X.w) X.A (getItem v (.ref sl)) (EP X pins σ Q) X.xe s
noncomputable def tSl (r : V → Option Int → Option Int → Hp → VK → Prop) (te : TE) (tl th : TO) : TE := fun σ H Q => te σ H fun x H1 => tl σ H1 fun l H2 => th σ H2 fun u H3 => r x l u H3 Q
theorem pe_slice {r : V → Option Int → Option Int → Hp → VK → Prop} (hr : SlR X r) (he : PE X e te) (hl : PO X lo tl) (hu : PO X hi th) : PE X (.Subscript e (.Slice lo hi none p2) pos) (tSl r te tl th) := by
 intro pins s σ H Q I h
 refine Subscript_ (thn (he pins s σ H _ I h) fun v s1 hh1 => ?_)
 obtain ⟨x, H1, I1, r1, q1⟩ := hh1
 refine wpAny_Slice (thn (hl pins s1 σ H1 _ I1 q1) fun vl s2 ⟨l, H2, I2, pl, q2⟩ => thn (hu pins s2 σ H2 _ I2 q2) fun vu s3 hh2 => ?_)
 obtain ⟨u, H3, I3, pu, q3⟩ := hh2
 rw [evalPart_none]
 refine wpAny_pure ?_
 have I4 : Inv X pins σ H3 { s3 with heap := s3.heap.push { cls := .type "slice", data := .fields #[vl, vu, .none] } } := I3.kept (t' := s3.toks) fun b ob q => Heap.get?_push_of_some _ q
 obtain ⟨T, id, hT, ht, hg⟩ := hr pins { s3 with heap := s3.heap.push { cls := .type "slice", data := .fields #[vl, vu, .none] } } σ H3 x v vl vu l u s3.heap.objs.size Q I4 r1 (Heap.IsSliceOf.new ..) pl pu q3
 show wpAny (model X.prog X.w) X.A (subscriptTail e (.Slice lo hi none p2) v (.ref s3.heap.objs.size)) (EP X pins σ Q) X.xe { s3 with heap := s3.heap.push { cls := .type "slice", data := .fields #[vl, vu, .none] } }
 exact tail_any (ops := [.ref s3.heap.objs.size, v]) ht hT hg (by with_unfolding_all rfl)
noncomputable def cutV (xs : List V) (lo hi : Option Int) : List V := (xs.drop (HT.sIx xs.length 0 lo)).take (HT.sIx xs.length xs.length hi - HT.sIx xs.length 0 lo)
theorem cutV_length (xs : List V) (lo hi : Option Int) : (cutV xs lo hi).length ≤ xs.length := by
 unfold cutV
 rw [List.length_take, List.length_drop]
 omega
noncomputable def rSlT (K : PySem.W.Frag) : V → Option Int → Option Int → Hp → VK → Prop := fun x lo hi H Q => ∃ a xs, x = .ref a ∧ SqT K H a xs ∧
 ¬ (HT.sIx xs.length 0 lo = 0 ∧ HT.sIx xs.length xs.length hi = xs.length) ∧ ∀ p, H p = none → Q (.ref p) (upd H p (.tup (cutV xs lo hi)))
theorem sl_tup : SlR X (rSlT X.K) := by
 intro pins s σ H x v vl vu lo hi sl Q I rx hs pl pu h
 obtain ⟨a, xs, rfl, hx, hw, q⟩ := h
 cases rx
 obtain ⟨its, r, ht, hz⟩ := I.tuple hx
 have hlen : its.toArray.size = xs.length := by rw [List.size_toArray]; exact r.length.symm
 refine ⟨"tuple", _, PyProof.Rows.slot_tuple_getitem.lookup, ht.typeIs, ?_⟩
 refine HT.getItem_tuple_cut ht hs pl pu (by rw [hlen]; exact hw) ?_ (by rw [hlen]; exact hz)
 rw [hlen]
 refine ⟨.ref s.heap.objs.size, _, I.laid (t' := s.toks) (o := .tup (cutV xs lo hi)) (fun b ob q => Heap.get?_push_of_some _ q) (Nat.le_refl _) ?_, rfl, q _ (I.hok.fresh (Nat.le_refl _))⟩
 exact ⟨Nat.le_trans (cutV_length xs lo hi) hz, _, (r.drop (HT.sIx xs.length 0 lo)).take (HT.sIx xs.length xs.length hi - HT.sIx xs.length 0 lo), IsTup.new _ _⟩
noncomputable def rCatT (K : PySem.W.Frag) : R2 := fun x y H Q => ∃ a b xs ys, x = .ref a ∧ y = .ref b ∧ SqT K H a xs ∧ SqT K H b ys ∧ xs ≠ [] ∧ xs.length + ys.length ≤ sizeLine ∧
 (ys = [] → Q (.ref a) H) ∧ (ys ≠ [] → ∀ p, H p = none → Q (.ref p) (upd H p (.tup (xs ++ ys))))
theorem Vals.nil_iff {xs : List V} {us : List Value} (r : Vals xs us) : us = [] ↔ xs = [] := by
 cases r with
 | nil => simp
 | cons _ _ => simp
theorem op_catT : OpR X (binaryOp .Add) (rCatT X.K) := by
 intro pins s σ H x y v u Q I rx ry h
 obtain ⟨a, b, xs, ys, rfl, rfl, ha, hb, hx, hz, q1, q2⟩ := h
 cases rx
 cases ry
 obtain ⟨its, r1, p1, _⟩ := I.tuple ha
 obtain ⟨its2, r2, p2, _⟩ := I.tuple hb
 refine HT.cat_tup p1 p2 (fun z => hx (r1.nil_iff.mp z)) (fun z => ⟨.ref a, H, I, rfl, q1 (r2.nil_iff.mp z)⟩) (fun z => ?_) (by rw [← r1.length, ← r2.length]; exact hz)
 refine ⟨.ref s.heap.objs.size, _, I.laid (t' := s.toks) (o := .tup (xs ++ ys)) (fun b ob q => Heap.get?_push_of_some _ q) (Nat.le_refl _) ?_, rfl, q2 (fun w => z (r2.nil_iff.mpr w)) _ (I.hok.fresh (Nat.le_refl _))⟩
 exact ⟨by rw [List.length_append]; exact hz, _, r1.append r2, IsTup.new _ _⟩
end
end L2
namespace L2
open PySem PySem.Spec PyProof.Rows
noncomputable def ixN (n : Nat) (i : Int) : Option Nat := if 0 ≤ i then (if i < n then some i.toNat else none) else if -(n : Int) ≤ i then some (i + n).toNat else none
noncomputable def atI {α : Type} (xs : List α) (i : Int) : Option α := (ixN xs.length i).bind fun j => xs[j]?
theorem ixN_seq {n : Nat} {i : Int} {j : Nat} (h : ixN n i = some j) : seqIndex? i n = some j ∧ j < n ∧ -(n : Int) ≤ i ∧ i < n := by
 unfold ixN at h
 by_cases h0 : 0 ≤ i
 ·rw [if_pos h0] at h
  by_cases h1 : i < n
  ·rw [if_pos h1] at h
   have e : i.toNat = j := Option.some.inj h
   exact ⟨by rw [seqIndex_of h0 h1, e], by omega, by omega, h1⟩
  ·rw [if_neg h1] at h; cases h
 ·rw [if_neg h0] at h
  by_cases h1 : -(n : Int) ≤ i
  ·rw [if_pos h1] at h
   have e : (i + n).toNat = j := Option.some.inj h
   exact ⟨by rw [seqIndex_neg (by omega) h1, e], by omega, h1, by omega⟩
  ·rw [if_neg h1] at h; cases h
theorem atI_get {α : Type} {xs : List α} {i : Int} {v : α} (h : atI xs i = some v) : ∃ j, seqIndex? i xs.length = some j ∧ xs[j]? = some v ∧ j < xs.length ∧ -(xs.length : Int) ≤ i ∧ i < xs.length := by
 unfold atI at h
 cases e : ixN xs.length i with
 | none => rw [e] at h; cases h
 | some j =>
  rw [e] at h
  obtain ⟨h1, h2, h3, h4⟩ := ixN_seq e
  exact ⟨j, h1, h, h2, h3, h4⟩
theorem atI_nat {α : Type} {xs : List α} {j : Nat} {v : α} (h : xs[j]? = some v) : atI xs (j : Int) = some v := by
 have hj : j < xs.length := (List.getElem?_eq_some_iff.mp h).1
 have e : ixN xs.length (j : Int) = some j := by
  unfold ixN
  rw [if_pos (by omega), if_pos (by omega)]; simp
 unfold atI; rw [e]; exact h
noncomputable def PlainIx (b : Expr) : Prop := ∀ o i, subscripted b false o i = operate [o, i] (getItem o i)
noncomputable def IxR (X : Cx) (r : R2) : Prop :=
 ∀ (value slice : Expr) (pins : List (Addr × Obj)) (s : Shared) (σ : St) (H : Hp) (x y : V) (v u : Value) (Q : VK), Inv X pins σ H s → RelV x v → RelV y u → r x y H Q →
  subscripted slice false v u = operate [v, u] (getItem v u) → wpAny (model X.prog X.w) X.A (subscriptTail value slice v u) (EP X pins σ Q) X.xe s
noncomputable def MtR (X : Cx) (id : String) (r : V → List V → Hp → VK → Prop) : Prop :=
 ∀ (pins : List (Addr × Obj)) (s : Shared) (σ : St) (H : Hp) (x : V) (xs : List V) (v : Value) (us : List Value) (Q : VK), Inv X pins σ H s → RelV x v → Vals xs us → r x xs H Q →
  wpAny (model X.prog X.w) X.A (call (.builtin id) (v :: us)) (EP X pins σ Q) X.xe s
section
variable {X : Cx} {a b : Expr} {ta tb : TE} {pos : Pos}
theorem pe_ix {r : R2} (hr : IxR X r) (ha : PE X a ta) (hb : PE X b tb) (hs : PlainIx b) : PE X (.Subscript a b pos) (tOp r ta tb) := by
 intro pins s σ H Q I h
 exact Subscript_ (binT ha hb I h fun v u s2 x y H2 I2 rx ry q => hr a b pins s2 σ H2 x y v u Q I2 rx ry q (hs _ _))
noncomputable def rIxL (K : PySem.W.Frag) : R2 := fun x y H Q => ∃ p xs i v, x = .ref p ∧ y = .int i ∧ SqL K H p xs ∧ atI xs i = some v ∧ Q v H
noncomputable def rIxT (K : PySem.W.Frag) : R2 := fun x y H Q => ∃ p xs i v, x = .ref p ∧ y = .int i ∧ SqT K H p xs ∧ atI xs i = some v ∧ Q v H
noncomputable def rIxS : R2 := fun x y H Q => ∃ z i c, x = .str z ∧ y = .int i ∧ z.length ≤ sizeLine ∧ atI z.cps.toList i = some c ∧ Q (.str ⟨#[c]⟩) H
theorem ix_list : IxR X (rIxL X.K) := by
 intro value slice pins s σ H x y v u Q I rx ry h hs
 obtain ⟨p, xs, i, z, rfl, rfl, hq, he, q⟩ := h
 cases rx
 obtain ⟨t, rfl⟩ := ry
 obtain ⟨its, r, pl, hz⟩ := I.list hq
 obtain ⟨j, h1, h2, h3, h4, h5⟩ := atI_get he
 obtain ⟨w, ew, rw'⟩ := r.get h2
 have hl := r.length
 have hn := line63
 have fin : EP X pins σ Q w s := ⟨z, H, I, rw', q⟩
 by_cases h0 : 0 ≤ i
 ·have hj : i.toNat = j := by
   rw [seqIndex_of h0 h5] at h1
   exact Option.some.inj h1
  exact item_listR pl.isList h0 (by omega) (by rw [hj]; simpa using ew) fin hs
 ·have hj : (i + (its.toArray.size : Int)).toNat = j := by
   rw [seqIndex_neg (by omega) h4] at h1
   rw [List.size_toArray, ← hl]
   exact Option.some.inj h1
  exact subscriptTail_builtinR (x := w) pl.isList.typeIs slot_list_getitem.lookup
   (wpAny_getItem_list_neg (Q := fun r s' => r = w ∧ EP X pins σ Q r s') pl.isList (by omega) (by rw [List.size_toArray] <;> omega) (by omega) (by rw [hj]; simpa using ew) ⟨rfl, fin⟩) hs
theorem ix_tup : IxR X (rIxT X.K) := by
 intro value slice pins s σ H x y v u Q I rx ry h hs
 obtain ⟨p, xs, i, z, rfl, rfl, hq, he, q⟩ := h
 cases rx
 obtain ⟨t, rfl⟩ := ry
 obtain ⟨its, r, pl, hz⟩ := I.tuple hq
 obtain ⟨j, h1, h2, h3, h4, h5⟩ := atI_get he
 obtain ⟨w, ew, rw'⟩ := r.get h2
 have hl := r.length
 have hn := line63
 have fin : EP X pins σ Q w s := ⟨z, H, I, rw', q⟩
 exact subscriptTail_builtinR (x := w) pl.typeIs slot_tuple_getitem.lookup
  (getItem_tuple (j := j) (Q := fun r s' => r = w ∧ EP X pins σ Q r s') pl (by omega) (by omega) (by rw [List.size_toArray, ← hl]; exact h1) (by simpa using ew) ⟨rfl, fin⟩) hs
theorem ix_str : IxR X rIxS := by
 intro value slice pins s σ H x y v u Q I rx ry h hs
 obtain ⟨z, i, c, rfl, rfl, hz, he, q⟩ := h
 obtain ⟨t, rfl⟩ := rx
 obtain ⟨t', rfl⟩ := ry
 obtain ⟨j, h1, h2, h3, h4, h5⟩ := atI_get he
 have hl : z.cps.toList.length = z.length := by simp [Str.length]
 rw [hl] at h1 h4 h5
 have hn := line63
 exact tail_any (typeIs_str s z t) slot_str_getitem.lookup (getItem_str (c := c) (by
  have e1 : decide (i < -(2 ^ 63 : Int)) = false := decide_eq_false (by omega)
  have e2 : decide (i ≥ 2 ^ 63) = false := decide_eq_false (by omega)
  rw [e1, e2, Bool.or_false]) (by rw [h1]; simpa using h2) ⟨.str ⟨#[c]⟩, H, I.tok _, ⟨_, rfl⟩, q⟩) hs
theorem mapSeq_set (its : List Value) (n j : Nat) (u : Value) : Obj.mapSeq (·.setIfInBounds j u) { cls := .type "list", data := .seq its.toArray n } = { cls := .type "list", data := .seq (its.set j u).toArray n } := by
 simp [Obj.mapSeq]
theorem Inv.lst {pins : List (Addr × Obj)} {σ : St} {H : Hp} {s : Shared} {p : Addr} {xs : List V} (I : Inv X pins σ H s) (h : H p = some (.lst xs)) :
  ∃ (its : List Value) (n : Nat), Vals xs its ∧ s.heap.get? p = some { cls := .type "list", data := .seq its.toArray n } ∧ xs.length ≤ sizeLine := by
 obtain ⟨z, its, n, r, e⟩ := I.hok p _ h
 exact ⟨its, n, r, e, z⟩
theorem Inv.lstUpd {pins : List (Addr × Obj)} {σ : St} {H : Hp} {s : Shared} {p : Addr} {xs ys : List V} {its its' : List Value} {n n' : Nat} {f : Obj → Obj} (I : Inv X pins σ H s) (h : H p = some (.lst xs))
  (ho : s.heap.get? p = some { cls := .type "list", data := .seq its.toArray n }) (hf : f { cls := .type "list", data := .seq its.toArray n } = { cls := .type "list", data := .seq its'.toArray n' }) (r : Vals ys its') (hz : ys.length ≤ sizeLine) (t : Nat) :
  Inv X pins σ (upd H p (.lst ys)) { s with heap := s.heap.update p f, toks := t } := by
 have e : (s.heap.update p f).get? p = some { cls := .type "list", data := .seq its'.toArray n' } := by
  rw [Heap.get?_update_self f ho (by rw [hf] <;> rfl), hf]
 refine I.write (x := p) (e := p) (by rw [h]; trivial) (.inl rfl) (fun b u hb q => (Heap.get?_update_other _ _ (Ne.symm hb)).trans q) ⟨_, e⟩ ?_
 exact ⟨hz, its', n', r, e⟩
noncomputable def rSetL : V → V → V → Hp → (Hp → Prop) → Prop := fun o i v H Q => ∃ p xs k j, o = .ref p ∧ i = .int k ∧ H p = some (.lst xs) ∧ ixN xs.length k = some j ∧ Q (upd H p (.lst (xs.set j v)))
theorem set_list : PSet X rSetL := by
 intro pins s σ H o i v ov iv u Q I ro ri rv h
 obtain ⟨p, xs, k, j, rfl, rfl, hp, hj, q⟩ := h
 cases ro
 obtain ⟨t, rfl⟩ := ri
 obtain ⟨its, n, r, ho, hz⟩ := I.lst hp
 obtain ⟨h1, h2, h3, h4⟩ := ixN_seq hj
 have hl := r.length
 have hn := line63
 have I' : Inv X pins σ (upd H p (.lst (xs.set j v))) { s with heap := s.heap.update p (Obj.mapSeq (·.setIfInBounds j u)) } :=
  I.lstUpd hp ho (mapSeq_set its n j u) (r.set rv j) (by rw [List.length_set]; exact hz) s.toks
 by_cases h0 : 0 ≤ k
 ·have hk : k.toNat = j := by
   rw [seqIndex_of h0 h4] at h1
   exact Option.some.inj h1
  exact PySem.W.ki_setAt ho h0 (by omega) (by rw [List.size_toArray, ← hl]; exact h4) (by rw [hk]; exact ⟨_, I', q⟩)
 ·have hk : (k + (its.toArray.size : Int)).toNat = j := by
   rw [seqIndex_neg (by omega) h3] at h1
   rw [List.size_toArray, ← hl]
   exact Option.some.inj h1
  exact PySem.W.ki_setBack ho (by omega) (by rw [List.size_toArray, ← hl]; exact h3) (by omega) (by rw [hk]; exact ⟨_, I', q⟩)
theorem slice_bounds (lo hi : Option Int) (n : Nat) : (sliceBounds lo hi none n).1 = ((HT.sIx n 0 lo : Nat) : Int) ∧ (sliceBounds lo hi none n).2.1 = ((HT.sIx n n hi : Nat) : Int) ∧ (sliceBounds lo hi none n).2.2 = 1 := by
 refine ⟨?_, ?_, rfl⟩
 ·cases lo with
  | none => simp [sliceBounds, HT.sIx]
  | some i =>
   simp only [sliceBounds, HT.sIx, Option.getD_none, show (1 : Int) > 0 by decide, if_true]
   by_cases h : i < 0
   ·simp only [h, if_true] <;> omega
   ·simp only [h, if_false] <;> omega
 ·cases hi with
  | none => simp [sliceBounds, HT.sIx]
  | some i =>
   simp only [sliceBounds, HT.sIx, Option.getD_none, show (1 : Int) > 0 by decide, if_true]
   by_cases h : i < 0
   ·simp only [h, if_true] <;> omega
   ·simp only [h, if_false] <;> omega
theorem slicePick_cut (its : List Value) (lo hi : Option Int) : slicePick its.toArray lo hi none = ((its.drop (HT.sIx its.length 0 lo)).take (HT.sIx its.length its.length hi - HT.sIx its.length 0 lo)).toArray := by
 obtain ⟨h1, h2, h3⟩ := slice_bounds lo hi its.toArray.size
 unfold slicePick
 rw [h1, h2, h3]
 simp only [sliceRange_one, pick_run, List.size_toArray] <;> rfl
noncomputable def rSlL (K : PySem.W.Frag) : V → Option Int → Option Int → Hp → VK → Prop := fun x lo hi H Q => ∃ a xs, x = .ref a ∧ SqL K H a xs ∧ ∀ p, H p = none → Q (.ref p) (upd H p (.lst (cutV xs lo hi)))
theorem sl_list : SlR X (rSlL X.K) := by
 intro pins s σ H x v vl vu lo hi sl Q I rx hs pl pu h
 obtain ⟨a, xs, rfl, hx, q⟩ := h
 cases rx
 obtain ⟨its, r, ht, hz⟩ := I.list hx
 have hlen := r.length
 refine ⟨"list", _, slot_list_getitem.lookup, ht.isList.typeIs, ?_⟩
 refine wpAny_getItem_list_slice ht.isList hs pl pu .none (by simp) ?_ (by rw [List.size_toArray] <;> omega)
 rw [slicePick_cut, ← hlen]
 refine ⟨.ref s.heap.objs.size, _, I.laid (t' := s.toks) (o := .lst (cutV xs lo hi)) (fun b ob q => Heap.get?_push_of_some _ q) (Nat.le_refl _) ?_, rfl, q _ (I.hok.fresh (Nat.le_refl _))⟩
 exact ⟨Nat.le_trans (cutV_length xs lo hi) hz, _, 0, (r.drop (HT.sIx xs.length 0 lo)).take (HT.sIx xs.length xs.length hi - HT.sIx xs.length 0 lo), Heap.get?_push_size _ rfl⟩
theorem op_notIn_str : OpR X (compareOp .NotIn) (fun x y H Q => ∃ i j, x = .str i ∧ y = .str j ∧ Q (.bl (!(!(Builtin.Str.occurrences j i 0 j.length 1).isEmpty))) H) := by
 intro pins s σ H x y v u Q I rx ry h
 obtain ⟨i, j, rfl, rfl, q⟩ := h
 obtain ⟨t, rfl⟩ := rx
 obtain ⟨t', rfl⟩ := ry
 exact notIn_str ⟨.bl _, H, I, rfl, q⟩
theorem call_len_seq : CallR X (.builtin "len") (fun xs H Q => ∃ p ys, xs = [.ref p] ∧ (SqL X.K H p ys ∨ SqT X.K H p ys) ∧ Q (.int ys.length) H) := by
 intro pins s σ H xs us Q I r h
 obtain ⟨p, ys, rfl, hq, q⟩ := h
 obtain ⟨u, rfl, rx⟩ := vals1 r
 cases rx
 have hn := line63
 rcases hq with hq | hq
 ·obtain ⟨its, r', pl, hz⟩ := I.list hq
  have hlen := r'.length
  exact Calls.call_len_list pl.isList (by simp only [List.size_toArray] <;> omega) ⟨.int ys.length, H, I.tok _, ⟨s.toks + 1, by rw [List.size_toArray, hlen]⟩, q⟩
 ·obtain ⟨its, r', pl, hz⟩ := I.tuple hq
  have hlen := r'.length
  exact len_tuple pl (by simp only [List.size_toArray] <;> omega) ⟨.int ys.length, H, I.tok _, ⟨s.toks + 1, by rw [List.size_toArray, hlen]⟩, q⟩
theorem call_len_str : CallR X (.builtin "len") (fun xs H Q => ∃ z, xs = [.str z] ∧ z.length ≤ sizeLine ∧ Q (.int z.length) H) := by
 intro pins s σ H xs us Q I r h
 obtain ⟨z, rfl, hz, q⟩ := h
 obtain ⟨u, rfl, t, rfl⟩ := vals1 r
 have hn := line63
 exact len_str (by omega) ⟨.int z.length, H, I.tok _, ⟨_, rfl⟩, q⟩
theorem call_tuple_of : CallR X (.type "tuple") (fun xs H Q => ∃ p ys, xs = [.ref p] ∧ ((SqL X.K H p ys ∧ ∀ l, H l = none → Q (.ref l) (upd H l (.tup ys))) ∨ (SqT X.K H p ys ∧ Q (.ref p) H))) := by
 intro pins s σ H xs us Q I r h
 obtain ⟨p, ys, rfl, h⟩ := h
 obtain ⟨u, rfl, rx⟩ := vals1 r
 cases rx
 rcases h with ⟨hq, q⟩ | ⟨hq, q⟩
 ·obtain ⟨its, r', pl, hz⟩ := I.list hq
  have hlen := r'.length
  refine call_tuple_list pl.isList (fun h' kp => ?_) (by simp only [List.size_toArray] <;> omega)
  have I1 : Inv X pins σ H { s with heap := h' } := I.kept (t' := s.toks) kp
  have I2 : Inv X pins σ (upd H h'.objs.size (.tup ys)) { s with heap := h'.push { cls := .type "tuple", data := .seq its.toArray } } :=
   I1.laid (t' := s.toks) (fun b o e => Heap.get?_push_of_some _ e) (Nat.le_refl _) (show ObjOk X.prog X.w _ _ _ (.tup ys) from ⟨hz, its, r', IsTup.new _ _⟩)
  exact ⟨.ref h'.objs.size, _, I2, rfl, q _ (I1.hok.fresh (Nat.le_refl _))⟩
 ·obtain ⟨its, r', pl, hz⟩ := I.tuple hq
  exact call_tuple_same pl ⟨.ref p, H, I, rfl, q⟩
noncomputable def tyV (K : PySem.W.Frag) (T : String) (x : V) (H : Hp) : Prop := match x with
 | .str _ => T = "str"
 | .int _ => T = "int"
 | .ref p => (T = "list" ∧ ∃ xs, SqL K H p xs) ∨ (T = "tuple" ∧ ∃ o, K.lookup p = some o ∧ o.cls = .type "tuple" ∧ o.dict = none) ∨
   (T = "dict" ∧ ((∃ kvs, H p = some (.dK kvs)) ∨ ∃ kvs, H p = some (.dT kvs))) ∨ (T = "set" ∧ ∃ S n, H p = some (.set S n))
 | _ => False
theorem tyV_is {pins : List (Addr × Obj)} {σ : St} {H : Hp} {s : Shared} {T : String} {x : V} {v : Value} (I : Inv X pins σ H s) (r : RelV x v) (ty : tyV X.K T x H) :
  s.TypeIs v T ∧ ∀ a, v = .ref a → ∃ ob, s.heap.get? a = some ob ∧ ob.dict = none := by
 cases x with
 | str z =>
  obtain ⟨t, rfl⟩ := r
  cases (show T = "str" from ty)
  exact ⟨typeIs_str s z t, fun _ e => nomatch e⟩
 | int i =>
  obtain ⟨t, rfl⟩ := r
  cases (show T = "int" from ty)
  exact ⟨typeIs_int s i t, fun _ e => nomatch e⟩
 | ref p =>
  cases r
  rcases ty with ⟨rfl, xs, hq⟩ | ⟨rfl, o, hk, hc, hd⟩ | ⟨rfl, hk⟩ | ⟨rfl, S, n, hk⟩
  ·obtain ⟨its, _, pl, _⟩ := I.list hq
   refine ⟨pl.isList.typeIs, fun a e => ?_⟩
   cases e
   obtain ⟨o, n, e, c, hd, _⟩ := pl
   exact ⟨o, e, hd⟩
  ·refine ⟨⟨o, I.kIn p o hk, hc⟩, fun a e => ?_⟩
   cases e
   exact ⟨o, I.kIn _ o hk, hd⟩
  ·have z : ∃ o, s.heap.get? p = some o ∧ o.ExactDict := by
    rcases hk with ⟨kvs, hk⟩ | ⟨kvs, hk⟩
    ·obtain ⟨_, _, _, _, o, _, _, e, ex, _⟩ := I.hok p _ hk
     exact ⟨o, e, ex⟩
    ·obtain ⟨_, _, _, _, o, _, _, e, ex, _⟩ := I.hok p _ hk
     exact ⟨o, e, ex⟩
   obtain ⟨o, e, ex⟩ := z
   refine ⟨⟨o, e, ex.1⟩, fun a e2 => ?_⟩
   cases e2
   exact ⟨o, e, ex.2.1⟩
  ·obtain ⟨o, _, _, _, e, ex, _⟩ := I.hok p _ hk
   refine ⟨⟨o, e, ex.1⟩, fun a e2 => ?_⟩
   cases e2
   exact ⟨o, e, ex.2.1⟩
 | _ => exact False.elim ty
noncomputable def tBM (K : PySem.W.Frag) (T : String) (r : V → List V → Hp → VK → Prop) (to : TE) (t : TA) : TE := fun σ H Q => to σ H fun x H1 => tyV K T x H1 ∧ t σ H1 fun xs H2 => r x xs H2 Q
variable {o e : Expr} {es : List Expr} {to : TE} {t : TA} {name : Str} {apos cpos : Pos} {T id : String} {r : V → List V → Hp → VK → Prop}
theorem pe_bm (pa : PlainAttrs T) (slot : Slot T name id) (hty : typeOf (.builtin id) = pure (.type "method_descriptor")) (hm : MtR X id r) (ho : PE X o to) (ha : PA X (e :: es) t)
  (hbase : attributeBase o name X.env (eval o X.env) = eval o X.env := by rfl)
  (hfew : ((backTo cpos (starEach (e :: es) X.env)).all (fun x => !x.1) && (backToKw cpos (keywordEach [] X.env)).all (fun x => x.1.isSome)
   && decide ((e :: es).length + ([] : List Keyword).length + (if ([] : List Keyword).isEmpty then 0 else 1) < 30)) = true := by rfl)
  (hline : (apos.endLine == cpos.line) = true := by rfl) (hs : starEach (e :: es) X.env = (false, eval e X.env) :: starEach es X.env := by rfl) (hplain : (backTo cpos (starEach es X.env)).any (·.1) = false := by rfl) :
  PE X (.Call (.Attribute o name apos) (e :: es) [] cpos) (tBM X.K T r to t) := by
 intro pins s σ H Q I h
 refine wpAny_Call_method_late hbase hfew hline rfl (thn (ho pins s σ H _ I h) fun v s1 hh1 => ?_)
 obtain ⟨x, H1, I1, r1, ty, q1⟩ := hh1
 obtain ⟨h1, h2⟩ := tyV_is I1 r1 ty
 refine ⟨T, id, pa, slot, hty, h1, h2, ?_⟩
 have hA := ha cpos pins s1 σ H1 _ I1 q1
 rw [hs] at hA ⊢
 refine Calls.callWith_builtin (by show (false || (backTo cpos (starEach es X.env)).any (·.1)) = false; rw [hplain] <;> rfl) (Calls.evalArgs_plain ?_)
 exact thn hA fun us s2 hh2 => by obtain ⟨vs, H2, I2, r2, q2⟩ := hh2; exact (hm pins s2 σ H2 x vs v us Q I2 r1 r2 q2)
/- xs.append(e), list.index on a module's tuple .. are MtR facts of 06m -/
end
end L2
namespace L2
open PySem PySem.Spec PyProof.Rows
noncomputable def MtM (X : Cx) (id : String) (r : V → List V → Hp → VK → Prop) : Prop :=
 ∀ (pins : List (Addr × Obj)) (s : Shared) (σ : St) (H : Hp) (x : V) (xs : List V) (v : Value) (us : List Value) (Q : VK), Inv X pins σ H s → RelV x v → Vals xs us → r x xs H Q →
  wpAny (model X.prog X.w) X.A (call (.builtin id) (v :: us)) (EP X pins σ Q) X.xe s
theorem Vals.one : ∀ {x : V} {us : List Value}, Vals [x] us → ∃ u, us = [u] ∧ RelV x u
 | _, _, .cons r .nil => ⟨_, rfl, r⟩
theorem Vals.zero : ∀ {us : List Value}, Vals [] us → us = []
 | _, .nil => rfl
theorem Vals.dropLast {xs : List V} {us : List Value} (h : Vals xs us) : Vals xs.dropLast us.dropLast := by
 induction h with
 | nil => exact .nil
 | cons r t ih =>
  cases t with
  | nil => exact .nil
  | cons q t' => exact .cons r ih
theorem Vals.eraseIdx : ∀ {xs : List V} {us : List Value} (i : Nat), Vals xs us → Vals (xs.eraseIdx i) (us.eraseIdx i)
 | _, _, _, .nil => .nil
 | _, _, 0, .cons _ t => t
 | _, _, i + 1, .cons r t => .cons r (Vals.eraseIdx i t)
theorem Vals.reverse {xs : List V} {us : List Value} (h : Vals xs us) : Vals xs.reverse us.reverse := by
 induction h with
 | nil => exact .nil
 | cons r t ih => rw [List.reverse_cons, List.reverse_cons]; exact Vals.append ih (.cons r .nil)
theorem Vals.rep {xs : List V} {us : List Value} (h : Vals xs us) : ∀ k : Nat, Vals (List.replicate k xs).flatten (List.replicate k us).flatten
 | 0 => .nil
 | k + 1 => by
  rw [List.replicate_succ, List.replicate_succ, List.flatten_cons, List.flatten_cons]
  exact Vals.append h (Vals.rep h k)
theorem len_erase {α : Type} : ∀ (l : List α) (i : Nat), (l.eraseIdx i).length ≤ l.length
 | [], _ => Nat.le_refl _
 | _ :: _, 0 => Nat.le_succ _
 | _ :: r, i + 1 => Nat.succ_le_succ (len_erase r i)
theorem foldl_rep (its : List Value) : ∀ (k : Nat) (acc : List Value),
  List.foldl (fun x1 x2 => x1 ++ x2) acc.toArray (List.replicate k its.toArray) = (acc ++ (List.replicate k its).flatten).toArray
 | 0, acc => by simp
 | k + 1, acc => by
  have e : acc.toArray ++ its.toArray = (acc ++ its).toArray := by simp
  have e2 : (acc ++ its) ++ (List.replicate k its).flatten = acc ++ (List.replicate (k + 1) its).flatten := by
   rw [List.replicate_succ, List.flatten_cons, List.append_assoc]
  rw [← e2, ← foldl_rep its k (acc ++ its), ← e, List.replicate_succ, List.foldl_cons]
section
variable {X : Cx} {pins : List (Addr × Obj)} {σ : St} {H : Hp} {s : Shared} {l b : Addr} {xs ys zs : List V}
theorem Inv.lset {its its' : List Value} {n : Nat} {f : Array Value → Array Value} {t' : Nat} (I : Inv X pins σ H s) (hH : H l = some (.lst xs))
  (e : s.heap.get? l = some { cls := .type "list", data := .seq its.toArray n }) (hf : f its.toArray = its'.toArray) (hv : Vals ys its') (hz : ys.length ≤ sizeLine) :
  Inv X pins σ (upd H l (.lst ys)) { s with heap := s.heap.update l (Obj.mapSeq f), toks := t' } := by
 have q := PySem.IsL.update e f
 rw [hf] at q
 refine I.write (x := l) (e := l) (by rw [hH]; exact trivial) (.inl rfl) (fun b' u hb hu => (Heap.get?_update_other s.heap (Obj.mapSeq f) (Ne.symm hb)).trans hu) ⟨_, q⟩ ?_
 exact ⟨hz, its', _, hv, q⟩
theorem Inv.lnew {its : List Value} {t' : Nat} (I : Inv X pins σ H s) (hv : Vals ys its) (hz : ys.length ≤ sizeLine) :
  Inv X pins σ (upd H s.heap.objs.size (.lst ys)) { s with heap := s.heap.push { cls := .type "list", data := .seq its.toArray }, toks := t' } :=
 I.laid (fun _ _ q => Heap.get?_push_of_some _ q) (Nat.le_refl _) ⟨hz, its, 0, hv, Heap.get?_push_size _ rfl⟩
theorem Inv.fresh (I : Inv X pins σ H s) : H s.heap.objs.size = none := I.hok.fresh (Nat.le_refl _)
theorem Inv.lstM (I : Inv X pins σ H s) (hH : H l = some (.lst xs)) : xs.length ≤ sizeLine ∧ ∃ (its : List Value) (n : Nat), Vals xs its ∧ xs.length = its.length ∧ s.heap.get? l = some { cls := .type "list", data := .seq its.toArray n } := by
 obtain ⟨z, its, n, r, e⟩ := I.hok l _ hH
 exact ⟨z, its, n, r, r.length, e⟩
theorem notLongL {n : Nat} (h : n ≤ sizeLine) : Builtin.List.listTooLong n = false := by
 unfold Builtin.List.listTooLong
 exact decide_eq_false (by omega)
end
section
variable {X : Cx}
noncomputable def rAppend : V → List V → Hp → VK → Prop := fun x vs H Q => ∃ l xs y, x = .ref l ∧ vs = [y] ∧ H l = some (.lst xs) ∧ xs.length < sizeLine ∧ Q .non (upd H l (.lst (xs ++ [y])))
theorem mt_append : MtM X "list.append" rAppend := by
 intro pins s σ H x vs v us Q I rx rv h
 obtain ⟨l, xs, y, rfl, rfl, hH, hz, q⟩ := h
 cases rx
 obtain ⟨u, rfl, ru⟩ := rv.one
 obtain ⟨z, its, n, r, hl, e⟩ := I.lstM hH
 refine call_meets F.slot_list_append ⟨_, e, rfl⟩ F.entry_list_append (F.args_list_append_2 _ _) (PySem.list_append l its.toArray n u (by rw [List.size_toArray]; omega)) ⟨e, ?_⟩
 refine ⟨.non, _, I.lset (its' := its ++ [u]) hH e (by simp) (r.append (.cons ru .nil)) ?_, rfl, q⟩
 rw [List.length_append, List.length_singleton]
 omega
noncomputable def rPopAt : V → List V → Hp → VK → Prop := fun x vs H Q => ∃ l xs i k y, x = .ref l ∧ vs = [.int i] ∧ H l = some (.lst xs) ∧ -(2 ^ 63) ≤ i ∧ i < 2 ^ 63 ∧ seqIndex? i xs.length = some k ∧ xs[k]? = some y ∧ Q y (upd H l (.lst (xs.eraseIdx k)))
theorem mt_popAt : MtM X "list.pop" rPopAt := by
 intro pins s σ H x vs v us Q I rx rv h
 obtain ⟨l, xs, i, k, y, rfl, rfl, hH, h1, h2, hk, hy, q⟩ := h
 cases rx
 obtain ⟨u, rfl, ru⟩ := rv.one
 obtain ⟨t, rfl⟩ := ru
 obtain ⟨z, its, n, r, hl, e⟩ := I.lstM hH
 obtain ⟨w, hw, rw'⟩ := r.get hy
 refine call_meets F.slot_list_pop ⟨_, e, rfl⟩ F.entry_list_pop (F.args_list_pop_2 _ _)
  (MeetsSeq.list_pop_at l its.toArray n i t k w (fitsIndex_both h1 h2) (by rw [List.size_toArray, ← hl]; exact hk) (by rw [← Array.getElem?_toList]; exact hw) (by rw [List.size_toArray]; omega)) ⟨e, ?_⟩
 refine ⟨y, _, I.lset (its' := its.eraseIdx k) hH e ?_ (r.eraseIdx k) ?_, rw', q⟩
 ·show its.toArray.eraseIdxIfInBounds k = (its.eraseIdx k).toArray
  rw [List.eraseIdxIfInBounds_toArray]
 ·have := len_erase xs k
  omega
noncomputable def rCat : R2 := fun x y H Q => ∃ l b xs zs, x = .ref l ∧ y = .ref b ∧ H l = some (.lst xs) ∧ H b = some (.lst zs) ∧ xs.length + zs.length ≤ sizeLine ∧ ∀ p, H p = none → Q (.ref p) (upd H p (.lst (xs ++ zs)))
theorem op_cat : OpR X (binaryOp .Add) rCat := by
 intro pins s σ H x y v u Q I rx ry h
 obtain ⟨l, b, xs, zs, rfl, rfl, hH, hB, hz, q⟩ := h
 cases rx
 cases ry
 obtain ⟨z, its, n, r, hl, e⟩ := I.lstM hH
 obtain ⟨z2, its2, n2, r2, hl2, e2⟩ := I.lstM hB
 refine PySem.P.add_list e e2 ?_ (by rw [List.size_toArray, List.size_toArray]; omega)
 have ea : its.toArray ++ its2.toArray = (its ++ its2).toArray := by simp
 rw [ea]
 exact ⟨.ref _, _, I.lnew (t' := s.toks) (r.append r2) (by rw [List.length_append]; omega), rfl, q _ I.fresh⟩
noncomputable def rRep : R2 := fun x y H Q => ∃ l k xs, x = .ref l ∧ y = .int k ∧ H l = some (.lst xs) ∧ -(2 ^ 63) ≤ k ∧ k < 2 ^ 63 ∧ xs.length * k.toNat ≤ sizeLine ∧
 ∀ p, H p = none → Q (.ref p) (upd H p (.lst (List.replicate k.toNat xs).flatten))
theorem len_rep {α : Type} (xs : List α) (k : Nat) : (List.replicate k xs).flatten.length = k * xs.length := by
 induction k with
 | zero => simp
 | succ k ih => rw [List.replicate_succ, List.flatten_cons, List.length_append, ih, Nat.succ_mul, Nat.add_comm]
theorem op_rep : OpR X (binaryOp .Mult) rRep := by
 intro pins s σ H x y v u Q I rx ry h
 obtain ⟨l, k, xs, rfl, rfl, hH, h1, h2, hz, q⟩ := h
 cases rx
 obtain ⟨t, rfl⟩ := ry
 obtain ⟨z, its, n, r, hl, e⟩ := I.lstM hH
 have hlen : its.toArray.size * k.toNat ≤ sizeLine := by rw [List.size_toArray, ← hl]; exact hz
 have hcap : ¬ its.toArray.size * k.toNat > (2 ^ 63 - 1) / 8 := by
  have : (sizeLine : Nat) ≤ (2 ^ 63 - 1) / 8 := by decide
  omega
 have hfit : ¬ (!Builtin.List.listFitsIndex k) = true := by
  rw [fitsIndex_both h1 h2]
  exact Bool.false_ne_true
 have hlong : ¬ Builtin.List.listTooLong (its.toArray.size * k.toNat) = true := by
  rw [notLongL hlen]
  exact Bool.false_ne_true
 have hnew : List.foldl (fun x1 x2 => x1 ++ x2) #[] (List.replicate (if its.toArray.isEmpty = true then 0 else k.toNat) its.toArray) = (List.replicate k.toNat its).flatten.toArray := by
  have f0 : ∀ m : Nat, List.foldl (fun x1 x2 => x1 ++ x2) #[] (List.replicate m its.toArray) = (List.replicate m its).flatten.toArray := fun m => by
   have := foldl_rep its m []
   rw [List.nil_append] at this
   exact this
  rw [f0]
  cases its with
  | nil => simp
  | cons a r' => rw [if_neg (by simp)]
 refine wpAny_binaryOp_repeat_ref (T := "list") (U := "int") (by decide) ⟨_, e, rfl⟩ (fun s' => typeIs_int s' k t) noFill_list_mul F.fills_int_mul F.slot_int_rmul repeat_list F.slot_int_index.lookup
  (call_meets F.slot_int_rmul (typeIs_int s k t) F.entry_int_rmul (F.args_int_rmul_2 _ _) (int___rmul___int_list k t l its.toArray n)
   ⟨e, rfl, ⟨_, e, rfl⟩, call_meets F.slot_list_mul ⟨_, e, rfl⟩ F.entry_list_mul (F.args_list_mul_2 _ _) (AutoListH.list___mul___list_int_3 l its.toArray n k t hfit hcap hlong) ⟨e, ?_⟩⟩)
 rw [hnew]
 exact ⟨.ref _, _, I.lnew (t' := s.toks) (r.rep k.toNat) (by rw [len_rep, Nat.mul_comm]; exact hz), rfl, q _ I.fresh⟩
end
section
variable {prog : Program} {w : World} {A : Around} {E : Value → Shared → Prop} {s : Shared}
end
section
variable {X : Cx}
end
end L2
namespace Att
open PySem PySem.W PySem.Calls PyProof.Rows
theorem ints_of_wellAll {P : Params} {h : Heap} : ∀ (ns : List Int) (vs : List Value), WellAll P h vs (ns.map WData.int) → IntsAre vs ns := by
 intro ns
 induction ns with
 | nil =>
  intro vs w
  rw [List.map_nil] at w
  cases w
  exact .nil
 | cons n ns ih =>
  intro vs w
  rw [List.map_cons] at w
  cases w with
  | cons a b =>
   cases a
   exact .cons _ _ (ih _ b)
theorem script_of {l : OpenLaw} {n : Nat} (hn : l.most = some n) {P : Params} {h : Heap} {args : List WData} {vals : List Value}
  (hpre : l.row.toRowW.claim.pre args = true) (hwl : WellAll P h vals args) :
  ∃ a vs ns, vals = [Value.ref a] ∧ args = [WData.list (ns.map WData.int)] ∧ h.get? a = some { cls := .type "list", data := .seq vs.toArray } ∧ IntsAre vs ns ∧ ns.length ≤ n := by
 have hsh : WShape.hasAll [] args [.list .int] = true := (pre_splitW hpre).1
 have hc : l.pre.holds [] { args := args } = true := (pre_splitW hpre).2
 obtain ⟨d, r, rfl, h1, h2⟩ := hasAllW_cons hsh
 obtain rfl := hasAllW_nil h2
 obtain ⟨xs, rfl, h3⟩ := hasW_list h1
 obtain ⟨ns, rfl⟩ := items_int h3
 have hlen : ns.length ≤ n := by
  unfold OpenLaw.pre at hc
  have h4 : (WTm.not (.lt (.lit (.int (n : Int))) (.len (.arg 0)))).holds [] { args := [.list (ns.map .int)] } = true := by
   have h4 := (holds_andW hc).1
   rw [hn] at h4
   exact h4
  have h5 := condW_of h4 (w_not (w_lt w_lit (w_len_list (w_arg rfl))))
  rw [List.length_map] at h5
  refine Nat.le_of_not_lt fun q => ?_
  have q' : (n : Int) < ((ns.length : Nat) : Int) := by omega
  first
   | (rw [decide_eq_true q'] at h5; exact absurd h5 (by decide))
   | (simp at h5; omega)
 cases hwl with
 | cons w1 w2 =>
  cases w2
  cases w1 with
  | list ho hall => exact ⟨_, _, ns, rfl, rfl, ho, ints_of_wellAll ns _ hall, hlen⟩
theorem post_true (l : OpenLaw) (args : List WData) : l.row.toRowW.claim.post args (.bool true) args = true :=
 postW_of (r := l.row.toRowW) (X := (true == true))
  (show WShape.has [] (.bool true) .bool = true by first | rfl | decide | simp [WShape.has, WShape.arms, WShape.armsAll])
  (show (WTm.eq .res (.lit (.bool true))).value [] { args := args, res := some (.bool true), after := args } = some (.bool (true == true)) from w_eq_bool (w_res rfl) w_lit) rfl
theorem attach_call {l : OpenLaw} {n : Nat} {q : Program} {loose : List Str} {XP : (Str → Option Value) → Heap → Prop} {YP : World → Heap → Prop} {d : DefRec}
  (hn : l.most = some n) (hdf : d.params.defaults = [])
  (call : ∀ (w : World) (s₀ s₁ : Shared) (mg mb : Str → Option Value) (fa : Addr) (o : Obj) (pm cd doc : Value) (a : Addr) (vs : List Value) (ns : List Int),
   Ground q loose [] XP w s₀ mg mb s₁.heap → YP w s₁.heap →
   s₁.heap.get? fa = some o → o.data = .func (docDef d.name d.params d.body d.scope pm cd doc) → s₁.heap.CodeRec cd d.name → mg d.name = some (.ref fa) →
   s₁.heap.get? a = some { cls := .type "list", data := .seq vs.toArray } → IntsAre vs ns → ns.length ≤ n → s₁.gens = #[] →
   codeAny (model l.prog w) callerA (.call (.ref fa) ⟨[.ref a], []⟩) (fun r s' => r = .ok (.ret (.bool true)) ∧ OldK s₁.heap s'.heap ∧ s'.os = s₁.os ∧ AllBare s'.gens) s₁) :
  WalkO q loose XP YP l.row.toRowW d [] (fun f vs => PySem.call f vs) := by
 intro w s₀ s₁ mg mb G Y fa o pm cd doc dV kV ho hd hcd hD hmg hg args vals as hpre hlay hrd hwl hlo
 obtain rfl : dV = .none := Dflts.none hD hdf
 obtain rfl : kV = .none := Dflts.noKw hD
 obtain ⟨a, vs, ns, rfl, rfl, hobj, hints, hlen⟩ := script_of hn hpre hwl
 refine enter_call (codeAny_mono (call w s₀ s₁ mg mb fa o pm cd doc a vs ns G Y ho (fd_plain hd) hcd hmg hobj hints hlen hg) fun r s' hq => ?_)
 obtain ⟨rfl, h2, h3, h4⟩ := hq
 exact ⟨.inl ⟨.bool true, .bool true, [], rfl, fun _ => rfl, .bool true, post_true l _, fun _ => ⟨List.Pairwise.nil, fun _ hm => (nomatch hm)⟩⟩, h2, h3, h4⟩
section
variable {prog : Program} {w : World} {A : Around} {E : Value → Shared → Prop} {s : Shared} {K : Frag}
end
end Att
namespace L2
open PySem PySem.Spec PyProof.Rows
theorem vals_ints : ∀ {vs : List Value} {ns : List Int}, IntsAre vs ns → Vals (ns.map V.int) vs
 | _, _, .nil => .nil
 | _, _, .cons n t h => .cons ⟨t, rfl⟩ (vals_ints h)
noncomputable def Only (H : Hp) : Prop := ∀ b, H b = none ∨ ∃ o xs, H b = some (.frz o (.lst xs))
theorem law_call {P : Program} {w : World} {K : PySem.W.Frag} {mg mb : Str → Option Value} {CX : CXT} {k : Nat} {fa a : Addr} {fd : FuncData} {x : Str} {sp : Sp} {s₁ : Shared} {vs : List Value} {ns : List Int}
  (KX : K.In s₁.heap) (hns : s₁.heap.Ns mainGlobals mg) (hb : s₁.heap.Ns builtinsNs mb) (hbb : ∀ x : Str, x ≠ "__name__" → mb x = bootBuiltins x) (hlim : s₁.heap.NoLimit) (hg : s₁.gens = #[])
  (ha : s₁.heap.get? a = some { cls := .type "list", data := .seq vs.toArray }) (hi : IntsAre vs ns) (hl : ns.length ≤ sizeLine) (hr : Room k callerA)
  (F : ∀ base : Heap, K.In base → base.Ns mainGlobals mg → FnOk P w K mg base CX k fa fd [x] sp) (hbind : ∀ (s : Shared) (u : Value), BindsTo s fd ⟨[u], []⟩ [(x, u)])
  (hsp : ∀ H : Hp, Only H → SqL K H a (ns.map V.int) → sp [.ref a] H (fun v _ => v = .bl true) fun _ _ _ => False)
  (hCX : ∀ H e s', CX [] H s₁ (fun _ _ _ => False) e s' → False) :
  codeAny (model P w) callerA (.call (.ref fa) ⟨[.ref a], []⟩) (fun r s' => r = .ok (.ret (.bool true)) ∧ OldK s₁.heap s'.heap ∧ s'.os = s₁.os ∧ AllBare s'.gens) s₁ := by
 have rv := vals_ints hi
 have lenV := hi.length
 have core : ∀ H : Hp, Only H → SqL K H a (ns.map V.int) → HOk P w H s₁.heap → (∀ b, H b ≠ none → b = a) → (H a ≠ none → K.lookup a = none) →
   codeAny (model P w) callerA (.call (.ref fa) ⟨[.ref a], []⟩) (fun r s' => r = .ok (.ret (.bool true)) ∧ OldK s₁.heap s'.heap ∧ s'.os = s₁.os ∧ AllBare s'.gens) s₁ := by
  intro H hO hS hok hA hK
  have base_of : ∀ {b : Addr} {o : Obj}, s₁.heap.get? b = some o → H b = none → (hidT s₁.heap H).get? b = some o := fun e n => hidT_get e n
  have noA : ∀ {b : Addr} {o : Obj} {es : Array DictEntry} {ep : Nat}, s₁.heap.get? b = some o → o.data = .dict es ep → H b = none := fun {b o es ep} e d => by
   cases q : H b with
   | none => rfl
   | some u =>
    have e' : b = a := hA b (by rw [q]; simp)
    subst e'
    rw [ha] at e; cases e
    have d' : Data.seq vs.toArray _ = Data.dict es ep := d
    cases d'
  have nsK : ∀ {b : Addr} {m : Str → Option Value}, s₁.heap.Ns b m → (hidT s₁.heap H).Ns b m := fun {b m} ⟨o, es, ep, e, d, r⟩ => ⟨o, es, ep, base_of e (noA e d), d, r⟩
  have hKb : K.In (hidT s₁.heap H) := fun b o e => base_of (KX b o e) (by
   cases q : H b with
   | none => rfl
   | some u =>
    have e' : b = a := hA b (by rw [q]; simp)
    subst e'
    rw [hK (by rw [q]; simp)] at e; cases e)
  have hM : Mod K mg (hidT s₁.heap H) := ⟨hKb, nsK hns, ⟨mb, nsK hb, hbb⟩, let ⟨mc, h1, h2⟩ := hlim; ⟨mc, nsK h1, h2⟩⟩
  have e0 : Env0 P w K mg (hidT s₁.heap H) callerA [] s₁ H := ⟨rfl, hM, fun b o e => of_hidT e, Nat.le_of_eq (hidT_size _ _), trivial, fun b hb => absurd (show b ∈ ([] : List Addr) from hb) (by simp), hok, .of_eq hg⟩
  refine codeAny_mono ((F _ hKb (nsK hns)).run callerA [] s₁ H ⟨[.ref a], []⟩ [.ref a] [.ref a] _ _ hr e0 (hbind s₁ (.ref a)) (.cons rfl .nil) (hsp H hO hS)) fun r s' h => ?_
  cases r with
  | error e => exact (hCX H e s' h).elim
  | ok fl =>
   cases fl with
   | next => exact False.elim h
   | brk => exact False.elim h
   | cont => exact False.elim h
   | ret u =>
    obtain ⟨v, H', os, bare, un, hok', r', q⟩ := h
    have q' : v = .bl true := q
    subst q'
    obtain rfl : u = Value.bool true := r'
    refine ⟨rfl, OldK.of_keep fun b o e => ?_, os, bare⟩
    cases q : H b with
    | none => exact un.keep b o e q (by intro z; exact absurd (show b ∈ ([] : List Addr) from z) (by simp)) (by simp)
    | some u =>
     rcases hO b with z | ⟨ob, xs, z⟩
     ·rw [q] at z; cases z
     ·have z2 := un.frzs b ob _ z
      obtain ⟨e1, _⟩ := hok b _ z
      obtain ⟨e2, _⟩ := hok' b _ z2
      rw [e] at e1; cases e1
      exact e2
 cases hk : K.lookup a with
 | some o =>
  have e := KX a o hk
  rw [ha] at e
  cases e
  refine core (fun _ => none) (fun _ => .inl rfl) (.inr ⟨_, vs.toArray, _, hk, rfl, rfl, rfl, by rw [List.size_toArray, lenV]; exact hl, by simpa using rv⟩) (fun b u z => by have z' : (none : Option HO) = some u := z; cases z') (fun b z => absurd rfl z) fun z => absurd rfl z
 | none =>
  refine core (fun b => if b = a then some (.frz { cls := .type "list", data := .seq vs.toArray } (.lst (ns.map V.int))) else none) (fun b => ?_) (.inl (.inr ⟨{ cls := .type "list", data := .seq vs.toArray }, if_pos rfl⟩)) (fun b u z => ?_) (fun b z => ?_) fun _ => hk
  ·by_cases hb : b = a
   ·exact .inr ⟨_, _, if_pos hb⟩
   ·exact .inl (if_neg hb)
  ·by_cases hb : b = a
   ·have z' := (if_pos hb).symm.trans z
    cases z'
    subst hb
    exact ⟨ha, by rw [List.length_map]; exact hl, vs, _, rv, ha⟩
   ·have z' := (if_neg hb).symm.trans z
    cases z'
  ·by_cases hb : b = a
   ·exact hb
   ·exact absurd (if_neg hb) z
end L2
namespace L2
open PySem PySem.Spec PyProof.Rows
theorem walk_of {l : PySem.W.OpenLaw} {n k : Nat} {q : Program} {loose : List Str} {XP : (Str → Option Value) → Heap → Prop} {YP : World → Heap → Prop} {d : DefRec} {K : Params → PySem.W.Frag} {CX : World → CXT} {sp : World → Sp} {x : Str}
  (hn : l.most = some n) (hn2 : n ≤ sizeLine) (hdf : d.params.defaults = []) (hr : Room k callerA)
  (hY : ∀ (w : World) (h : Heap), YP w h → (K w.params).In h)
  (F : ∀ (w : World) (mg : Str → Option Value) (fa : Addr) (h : Heap), (K w.params).In h → h.Ns mainGlobals mg → mg d.name = some (.ref fa) →
   ∃ fd : FuncData, (∀ (s : Shared) (u : Value), BindsTo s fd ⟨[u], []⟩ [(x, u)]) ∧
    ∀ base : Heap, (K w.params).In base → base.Ns mainGlobals mg → FnOk l.prog w (K w.params) mg base (CX w) k fa fd [x] (sp w))
  (hsp : ∀ (w : World) (H : Hp) (a : Addr) (ns : List Int), ns.length ≤ n → Only H → SqL (K w.params) H a (ns.map V.int) → sp w [.ref a] H (fun v _ => v = .bl true) fun _ _ _ => False)
  (hCX : ∀ (w : World) (H : Hp) (s : Shared) (e : Value) (s' : Shared), CX w [] H s (fun _ _ _ => False) e s' → False) :
  PySem.W.WalkO q loose XP YP l.row.toRowW d [] (fun f vs => PySem.call f vs) := by
 refine Att.attach_call hn hdf fun w s₀ s₁ mg mb fa o pm cd doc a vs ns G Y ho hd hcd hmg hobj hints hlen hg => ?_
 have KX := hY w _ Y
 obtain ⟨fd, hb, hF⟩ := F w mg fa _ KX G.T.g hmg
 exact law_call KX G.T.g G.T.b G.T.builtins G.T.nolimit hg hobj hints (Nat.le_trans hlen hn2) hr hF hb (fun H hO hS => hsp w H a ns hlen hO hS) fun H e s' => hCX w H s₁ e s'
end L2
/- THE LAST THEOREM (shape; LID, My.* are yours):
   My.Adr: a structure of the addresses that your layer names (classes, functions); My.Txt K t: a structure (Prop) of the equations over K;
   My.txt_mk : {K} {implicit addresses ..} (e1 : nsIn K mainGlobals "law" = some (some (.ref f))) (e2 : K.lookup f = some ⟨oc, od, .func (fnOf "law" "law" params body scope dV kV doc pm an cdv ct), sl⟩) (e3 : codeIn K cdv "law" = true) .. : ∃ t, My.Txt K t
set_option maxRecDepth 100000 in
set_option maxHeartbeats 0 in
theorem PySem.Challenge.cw_LID_holds : PySem.Challenge.rw_LID.Holds := by
 w_on; o_law; k_head; (case hw => w_witness2)
 k_fill
 refine L2.walk_of (l := PySem.Challenge.rw_LID) (n := 63) (k := 40) (x := "script") (CX := fun w => ..) (sp := fun _ => My.sp_law) rfl (by decide) rfl ⟨rfl, by decide, by decide⟩ (fun w h Y => PySem.W.kIn_of Y) ?F ?S ?C
 case F =>
  intro w mg fa h KX G hmg
  have T : ∃ t, My.Txt (L2.KOf KX) t := by
   dsimp only [L2.KOf]                          -- K must stand as «<heap const> w.params» for k_is
   refine' My.txt_mk ?e1 ?e2 ?e3 ..
   (case e1 => PySem.W.k_is)                    -- in the order: a name -> its address -> its object -> its parts
   (case e2 => PySem.W.k_is)
   ..
  obtain ⟨t, T⟩ := T
  have e0 := hmg.symm.trans (PySem.W.mg_of KX G T.law)
  cases e0                                       -- fa is the law's own address
  exact ⟨_, fun s u => .of_eq rfl, fun base kb nb => My.law_fn T kb nb⟩     -- if «.of_eq rfl» comes too early: refine' ⟨_, ?b, fun base kb nb => My.law_fn T kb nb⟩; exact fun s u => .of_eq rfl
 case S => exact fun w H a ns hl hO hS => ..
 case C => exact ..
(the tactic k_is has no namespace: write k_is) -/
namespace L2
open PySem PySem.Spec PyProof.Rows
noncomputable def defArgs (s : Stmt) : Arguments := match s with
 | .FunctionDef _ a _ _ _ _ _ _ _ _ => a
 | _ => { posonlyargs := [], args := [], vararg := none, kwonlyargs := [], kw_defaults := [], kwarg := none, defaults := [] }
noncomputable def defBody (s : Stmt) : List Stmt := match s with
 | .FunctionDef _ _ b _ _ _ _ _ _ _ => b
 | _ => []
noncomputable def defScope (s : Stmt) : Scope := match s with
 | .FunctionDef _ _ _ _ _ _ sc _ _ _ => sc
 | _ => { kind := .function, names := [], isGenerator := false, isCoroutine := false }
noncomputable abbrev E0 : XK := fun _ _ _ => False
structure Fun (K : PySem.W.Frag) (x qual : Str) (st : Stmt) (f : Addr) (fd : FuncData) : Prop where
 ex : ∃ (oc : Value) (od : Option Addr) (kV doc pm : Value) (an : Option Addr) (cdv ct : Value) (osl : Array (Option Value)),
  fd = PySem.W.fnOf x qual (defArgs st) (defBody st) (defScope st) .none kV doc pm an cdv ct ∧ K.lookup f = some ⟨oc, od, .func fd, osl⟩ ∧ PySem.W.codeIn K cdv qual = true
 kp : PySem.W.keepIn K (.ref f) = true
section
variable {P : Program} {w : World} {K : PySem.W.Frag} {mg : Str → Option Value} {base : Heap}
theorem Fun.binds {x qual : Str} {st : Stmt} {f : Addr} {fd : FuncData} {ps : List Str} (F : Fun K x qual st f fd)
  (h : ∀ (kV doc pm : Value) (an : Option Addr) (cdv ct : Value) (us : List Value), us.length = ps.length → bindArgs (PySem.W.fnOf x qual (defArgs st) (defBody st) (defScope st) .none kV doc pm an cdv ct) ⟨us, []⟩ = pure (ps.zip us)) : Binds K fd ps [] := by
 obtain ⟨oc, od, kV, doc, pm, an, cdv, ct, osl, rfl, lk, hcd⟩ := F.ex
 exact .all (h kV doc pm an cdv ct)
theorem fun_mk {x qual : Str} {st : Stmt} {f : Addr} {oc : Value} {od an : Option Addr} {osl : Array (Option Value)} {kV doc pm cdv ct : Value} (l : K.lookup f = some ⟨oc, od, .func (PySem.W.fnOf x qual (defArgs st) (defBody st) (defScope st) .none kV doc pm an cdv ct), osl⟩)
  (c : PySem.W.codeIn K cdv qual = true) (k : PySem.W.keepIn K (.ref f) = true) : Fun K x qual st f (PySem.W.fnOf x qual (defArgs st) (defBody st) (defScope st) .none kV doc pm an cdv ct) := ⟨⟨oc, od, kV, doc, pm, an, cdv, ct, osl, rfl, l, c⟩, k⟩
end
theorem small1000 {n : Nat} (h : n ≤ 1000) : n < sizeLine := Nat.lt_of_le_of_lt h (by decide)
section
variable {X : Cx}
end
theorem ite2 {c A B : Prop} [Decidable c] (h1 : c → A) (h2 : ¬ c → B) : if c then A else B := by
 by_cases h : c
 ·rw [if_pos h]
  exact h1 h
 ·rw [if_neg h]
  exact h2 h
noncomputable def Same (H H' : Hp) : Prop := ∀ b o, H b = some o → H' b = some o
end L2
namespace L2
open PySem PySem.Spec PyProof.Rows
structure Fly (e : Addr) (cls : Value) (own : List Addr) (h : Heap) : Prop where
 is : ∃ (oe : Obj) (vs : Array Value) (hd : Value), h.get? e = some oe ∧ oe.cls = cls ∧ oe.data = .fields vs ∧ vs[1]? = some hd ∧
  (hd = .none ∨ ∃ (T : Addr) (oT : Obj) (ts : Array Value), hd = .ref T ∧ T ∈ own ∧ T ≠ e ∧ h.get? T = some oT ∧ oT.data = .fields ts ∧ ts[3]? = some .none)
structure Past (fs own : List Addr) (h h' : Heap) : Prop where
 keep : ∀ b o, h.get? b = some o → b ∉ own → b ∉ fs → h'.get? b = some o
 slot : ∀ b o, h.get? b = some o → b ∉ own → b ∈ fs → ∃ sl, h'.get? b = some { o with slots := sl }
 there : ∀ b o, h.get? b = some o → ∃ o', h'.get? b = some o'
theorem Past.refl (fs own : List Addr) (h : Heap) : Past fs own h h := ⟨fun _ _ q _ _ => q, fun _ o q _ _ => ⟨o.slots, q⟩, fun _ o q => ⟨o, q⟩⟩
theorem Past.trans {fs own : List Addr} {h1 h2 h3 : Heap} (a : Past fs own h1 h2) (b : Past fs own h2 h3) : Past fs own h1 h3 where
 keep := fun c o q n m => b.keep c o (a.keep c o q n m) n m
 slot := fun c o q n m => by
  obtain ⟨sl, q1⟩ := a.slot c o q n m
  obtain ⟨sl2, q2⟩ := b.slot c _ q1 n m
  exact ⟨sl2, q2⟩
 there := fun c o q => by
  obtain ⟨o1, q1⟩ := a.there c o q
  exact b.there c o1 q1
theorem Past.mono {fs own own' : List Addr} {h h' : Heap} (a : Past fs own h h') (k : ∀ b ∈ own, b ∈ own') : Past fs own' h h' :=
 ⟨fun b o q n m => a.keep b o q (fun z => n (k b z)) m, fun b o q n m => a.slot b o q (fun z => n (k b z)) m, a.there⟩
theorem past_slots {fs own : List Addr} {h h' : Heap} (x : Heap.SlotsOnly fs h h') : Past fs own h h' where
 keep := fun b o q _ m => by rw [x.2.1 b m]; exact q
 slot := fun b o q _ _ => x.2.2 b o q
 there := fun b o q => let ⟨_, z⟩ := x.2.2 b o q; ⟨_, z⟩
theorem past_push {fs own : List Addr} (h : Heap) (o : Obj) : Past fs own h (h.push o) where
 keep := fun b u q _ _ => Heap.get?_push_of_some o q
 slot := fun b u q _ _ => ⟨u.slots, Heap.get?_push_of_some o q⟩
 there := fun b u q => ⟨u, Heap.get?_push_of_some o q⟩
theorem past_field {fs own : List Addr} {h : Heap} {a : Addr} {oa : Obj} {vs : Array Value} (g : Array Value → Array Value) (ha : a ∈ own) (q : h.get? a = some oa) (hd : oa.data = .fields vs) : Past fs own h (h.update a (Obj.mapFields g)) where
 keep := fun b u z n _ => by rw [Heap.get?_update_other _ _ (fun w => n (by rw [← w]; exact ha))]; exact z
 slot := fun b u z n _ => ⟨u.slots, by rw [Heap.get?_update_other _ _ (fun w => n (by rw [← w]; exact ha))]; exact z⟩
 there := fun b u z => by
  by_cases w : a = b
  ·subst w
   exact ⟨_, Heap.get?_update_self _ q (Obj.isFreed_of_fields (Obj.data_mapFields hd g))⟩
  ·exact ⟨u, by rw [Heap.get?_update_other _ _ w]; exact z⟩
section
variable {M : Model} {A : Around} {E : Value → Shared → Prop} {s : Shared}
theorem note_new {base : Heap} {env : Env} {outer : List Env} {L e : Addr} {oe : Obj} {vs : Array Value} {head : Value} {hn : Bool} {own : List Addr} {Q : Unit → Shared → Prop} (hfr : A.frames = some (env :: outer)) (hl : s.heap.FunFrames base (env :: outer))
  (hf : env.frame = some L) (he : s.heap.get? e = some oe) (hd : oe.data = .fields vs) (hsz : 1 < vs.size) (ho : e ∈ own)
  (h : ∀ h' T, s.heap.get? T = none → Past ((env :: outer).filterMap (·.frame)) own s.heap h' → Fly e oe.cls [T] h' → Q () { s with heap := h' }) :
  wpAny M A (do let a ← frameOf env; let pl ← entryPlaceOf L hn; let b ← EntryCells.newEntry head a .none (rawInt L) .none pl; setField (.ref e) 1 b) (fun _ s' => wpAny M A (setFlight (.ref e) none) Q E s') E s := by
 have nfr : e ∉ (env :: outer).filterMap (·.frame) := fun z => by
  obtain ⟨-, o, q, nd⟩ := hl.mem z
  rw [he] at q; cases q
  exact nd vs hd
 refine wpAny_bind (wpAny_frameOf_fun hfr hl hf fun g1 s1 => wpAny_bind (wpAny_entryPlaceOf fun pl hpl => ?_))
 have P1 : Past ((env :: outer).filterMap (·.frame)) own s.heap g1 := past_slots s1
 unfold EntryCells.newEntry newFields
 refine wpAny_bind (wpAny_newObj_type ?_ (hpl.sizeOk5 _ _ _ _ _))
 have e1 : g1.get? e = some oe := by rw [s1.2.1 e nfr]; exact he
 generalize hto : ({ cls := .type "traceback", dict := none, data := .fields ([head, .ref L, .none, rawInt L, .none] ++ (if pl.isEmpty then List.replicate 6 Value.none else pl)).toArray } : Obj) = to
 have P2 : Past ((env :: outer).filterMap (·.frame)) own g1 (g1.push to) := past_push g1 to
 have e2 := Heap.get?_push_of_some (h := g1) to e1
 have Tnew : s.heap.get? g1.objs.size = none := by
  cases q : s.heap.get? g1.objs.size with
  | none => rfl
  | some o => exact absurd (Heap.lt_size q) (by rw [s1.1]; exact Nat.lt_irrefl _)
 have T2 : (g1.push to).get? g1.objs.size = some to := Heap.get?_push_size g1 (by subst hto; rfl)
 refine wpAny_setField e2 hd hsz ?_
 have Te : g1.objs.size ≠ e := Nat.ne_of_gt (Heap.lt_size e1)
 have P3 : Past ((env :: outer).filterMap (·.frame)) own (g1.push to) _ := past_field (·.setIfInBounds 1 (Value.ref g1.objs.size)) ho e2 hd
 have d3 := Obj.data_mapFields hd (·.setIfInBounds 1 (Value.ref g1.objs.size))
 have e3 := Heap.get?_update_self (Obj.mapFields (·.setIfInBounds 1 (Value.ref g1.objs.size))) e2 (Obj.isFreed_of_fields d3)
 have T3 := (Heap.get?_update_other (g1.push to) (Obj.mapFields (·.setIfInBounds 1 (Value.ref g1.objs.size))) (Ne.symm Te)).trans T2
 have tod : to.data = .fields ([head, .ref L, .none, rawInt L, .none] ++ (if pl.isEmpty then List.replicate 6 Value.none else pl)).toArray := by subst hto; rfl
 unfold setFlight
 refine wpAny_bind (wpAny_field e3 d3 (x := .ref g1.objs.size) (by simp [hsz]) ?_)
 rw [if_pos (show (Value.ref g1.objs.size != Value.none) = true by simp)]
 have sz3 : 3 < ([head, .ref L, .none, rawInt L, .none] ++ (if pl.isEmpty then List.replicate 6 Value.none else pl)).toArray.size := by
  simp only [List.size_toArray, List.length_append, List.length_cons, List.length_nil]; omega
 refine wpAny_setField T3 tod sz3 (h _ g1.objs.size Tnew ?_ ?_)
 ·have P := (P1.trans P2).trans P3
  have nT : ∀ b u, s.heap.get? b = some u → g1.objs.size ≠ b := fun b u z w => by rw [w, z] at Tnew; cases Tnew
  refine ⟨fun b u z n m => ?_, fun b u z n m => ?_, fun b u z => ?_⟩
  ·rw [Heap.get?_update_other _ _ (nT b u z)]
   exact P.keep b u z n m
  ·obtain ⟨sl, q⟩ := P.slot b u z n m
   exact ⟨sl, by rw [Heap.get?_update_other _ _ (nT b u z)]; exact q⟩
  ·obtain ⟨o', q⟩ := P.there b u z
   exact ⟨o', by rw [Heap.get?_update_other _ _ (nT b u z)]; exact q⟩
 ·have T4 := Heap.get?_update_self (Obj.mapFields (·.setIfInBounds 3 ((none : Option Addr).elim Value.none fun f => rawInt f))) T3 (Obj.isFreed_of_fields (Obj.data_mapFields tod _))
  refine ⟨_, _, .ref g1.objs.size, ?_, Obj.cls_mapFields _ _, d3, by simp [hsz], .inr ⟨g1.objs.size, _, _, rfl, by simp, Te, T4, Obj.data_mapFields tod _, ?_⟩⟩
  ·rw [Heap.get?_update_other _ _ Te]
   exact e3
  ·rw [Array.getElem?_setIfInBounds_self_of_lt sz3]
   rfl
theorem note_fly {base : Heap} {env : Env} {outer : List Env} {L e : Addr} {cls : Value} {own : List Addr} {Q : Unit → Shared → Prop} (hfr : A.frames = some (env :: outer)) (hl : s.heap.FunFrames base (env :: outer)) (hf : env.frame = some L) (F : Fly e cls own s.heap)
  (h : ∀ h' T, s.heap.get? T = none → Past ((env :: outer).filterMap (·.frame)) (e :: own) s.heap h' → Fly e cls [T] h' → Q () { s with heap := h' }) : wpAny M A (noteFrame (.ref e) env) (fun _ s2 => wpAny M A (setFlight (.ref e) none) Q E s2) E s := by
 obtain ⟨oe, vs, hd, he, hc, hdt, h1, hh⟩ := F.is
 subst hc
 have hsz : 1 < vs.size := (Array.getElem?_eq_some_iff.mp h1).1
 unfold noteFrame
 simp only [hf]
 refine wpAny_bind (wpAny_field he hdt h1 ?_)
 rcases hh with rfl | ⟨T, oT, ts, rfl, hT, Te, gT, dT, h3⟩
 ·rw [if_neg (by decide)]
  exact note_new hfr hl hf he hdt hsz (by simp) h
 ·rw [if_pos (show (Value.ref T != Value.none) = true by simp)]
  refine wpAny_bind (wpAny_field gT dT h3 ?_)
  rw [if_neg (show ¬ ((Value.none == rawInt L) = true) by simp [rawInt])]
  refine wpAny_bind (wpAny_setField gT dT (Array.getElem?_eq_some_iff.mp h3).1 ?_)
  have P : Past ((env :: outer).filterMap (·.frame)) (e :: own) s.heap _ := past_field (·.setIfInBounds 3 Value.none) (List.mem_cons_of_mem _ hT) gT dT
  have hl2 : (s.heap.update T (Obj.mapFields (·.setIfInBounds 3 Value.none))).FunFrames base (env :: outer) := hl.of_keeps fun b o q nd => ⟨o, by
   rw [Heap.get?_update_other _ _ (fun w => by subst w; rw [gT] at q; cases q; exact nd ts dT)]; exact q, rfl⟩
  refine note_new (own := e :: own) hfr hl2 hf (oe := oe) (by rw [Heap.get?_update_other _ _ Te]; exact he) hdt hsz (by simp) fun h' T' n' P' F' => h h' T' ?_ (P.trans P') F'
  cases q : s.heap.get? T' with
  | none => rfl
  | some o =>
   obtain ⟨o', z⟩ := P.there T' o q
   rw [z] at n'
   cases n'
theorem leave_fly {base : Heap} {env : Env} {outer : List Env} {L e : Addr} {cls : Value} {own : List Addr} {Q : Unit → Shared → Prop} (hfr : A.frames = some (env :: outer)) (hl : s.heap.FunFrames base (env :: outer)) (hf : env.frame = some L) (F : Fly e cls own s.heap)
  (h : ∀ h' T, s.heap.get? T = none → Past ((env :: outer).filterMap (·.frame)) (e :: own) s.heap h' → Fly e cls [T] h' → Q () { s with heap := h' }) : wpAny M A (leaving env (.ref e)) Q E s := by
 unfold leaving
 exact wpAny_bind (note_fly hfr hl hf F h)
end
noncomputable def CXE (P : Program) (w : World) : CXT := fun outer H s E e s' => ∃ (a : Addr) (cls : Value) (own : List Addr) (H' : Hp), e = .ref a ∧ s'.os = s.os ∧ AllBare s'.gens ∧ Un (frs outer) [] H H' s.heap s'.heap ∧ HOk P w H' s'.heap ∧ Fly a cls own s'.heap ∧
 (∀ b ∈ a :: own, s.heap.get? b = none ∧ H' b = none) ∧ E cls none H'
theorem HOk.past {P : Program} {w : World} {H : Hp} {h h' : Heap} {fs own : List Addr} (ok : HOk P w H h) (p : Past fs own h h') (n1 : ∀ b ∈ fs, H b = none) (n2 : ∀ b ∈ own, H b = none) : HOk P w H h' := fun a o q =>
 (ok a o q).stay (fun b u hb z => p.keep b u z (fun m => by
   rcases hb with rfl | hb
   ·rw [n2 _ m] at q; cases q
   ·rw [n2 _ m] at hb; cases hb) (fun m => by
   rcases hb with rfl | hb
   ·rw [n1 _ m] at q; cases q
   ·rw [n1 _ m] at hb; cases hb)) (fun _ q => q) fun _ _ q => q
theorem ObjOk.ex {P : Program} {w : World} {H : Hp} {h : Heap} {a : Addr} {o : HO} (x : ObjOk P w H h a o) : ∃ u, h.get? a = some u := by
 cases o with
 | lst xs => obtain ⟨_, _, _, _, e⟩ := x; exact ⟨_, e⟩
 | tup xs => obtain ⟨_, _, _, _, e, _⟩ := x; exact ⟨_, e⟩
 | dK kvs => obtain ⟨_, _, _, _, o, _, _, e, _⟩ := x; exact ⟨_, e⟩
 | dT kvs => obtain ⟨_, _, _, _, o, _, _, e, _⟩ := x; exact ⟨_, e⟩
 | dH kvs => obtain ⟨_, _, _, _, o, _, _, e, _⟩ := x; exact ⟨_, e⟩
 | set S n => obtain ⟨o, _, _, _, e, _⟩ := x; exact ⟨_, e⟩
 | ins C dx fs => obtain ⟨_, _, _, e, _⟩ := x; exact ⟨_, e⟩
 | own _ => exact x
 | xd fs => obtain ⟨_, ⟨_, _, _, e, _⟩, _⟩ := x; exact ⟨_, e⟩
 | rng lo hi => obtain ⟨_, _, _, e⟩ := x; exact ⟨_, e⟩
 | frz o u => exact ⟨_, x.1⟩
 | tbl ps => exact ⟨_, x⟩
 | met f y => exact ⟨_, x⟩
 | ext φ => exact x.2.1
theorem HOk.none_of {P : Program} {w : World} {H : Hp} {h : Heap} {b : Addr} (ok : HOk P w H h) (n : h.get? b = none) : H b = none := by
 cases q : H b with
 | none => rfl
 | some o =>
  obtain ⟨u, z⟩ := ObjOk.ex (ok b o q)
  rw [n] at z; cases z
theorem passX {P : Program} {w : World} {K : PySem.W.Frag} {mg : Str → Option Value} {base : Heap} {N : List Str} {qual : Str} {scope : Scope} {f : Addr} {cd : Value} {A : Around} {outer : List Env} {s : Shared} {H : Hp} {E : XK} :
  Passes (CXE P w) (cxOf (CXE P w) P w K mg base N qual scope f cd A outer s H E) E := by
 intro pins σ H1 s1 e s2 I1 hx
 obtain ⟨a, cls, own, H2, rfl, os, bare, un, hok, F, new, q⟩ := hx
 have I2 := I1.call' os un hok bare (fun b z => absurd z (by simp))
 have n0 : ∀ b, (∃ o, s.heap.get? b = some o) → ∃ o, s1.heap.get? b = some o := fun b ⟨o, z⟩ => I1.base.there b o z (by intro y; cases y)
 have old : ∀ b, (∃ o, s.heap.get? b = some o) → b ∉ a :: own := fun b z m => by
  obtain ⟨o, y⟩ := n0 b z
  rw [(new b m).1] at y; cases y
 have n2 : ∀ b, (∃ o, s.heap.get? b = some o) → ∃ o, s2.heap.get? b = some o := fun b ⟨o, z⟩ => I2.base.there b o z (by intro y; cases y)
 refine leave_fly (base := base) I2.ok.frames I2.stack rfl F fun h' T nT P' F' => ?_
 have hfr : ∀ b, (∃ o, s.heap.get? b = some o) → b ∉ frs outer → b ∉ frs (envOfC qual scope s.heap.objs.size f cd :: outer) := fun b ⟨o, z⟩ m y => by
  have lt := Heap.lt_size z
  have y' : b ∈ s.heap.objs.size :: frs outer := y
  rcases List.mem_cons.mp y' with r | r
  ·rw [r] at lt; exact absurd lt (Nat.lt_irrefl _)
  ·exact m r
 refine ⟨a, cls, [T], H2, rfl, I2.os, I2.bare, ⟨fun b o z n m _ => ?_, fun b o z n m _ => ?_, fun b o z n x => I2.base.free b o z n x, fun b o z x => ?_, I2.base.tups, I2.base.frzs, I2.base.tbls⟩, ?_, F', ?_, q⟩
 ·exact P'.keep b o (I2.base.keep b o z n m (by intro y; cases y)) (old b ⟨o, z⟩) (hfr b ⟨o, z⟩ m)
 ·obtain ⟨sl, y⟩ := I2.base.slot b o z n m (by intro y; cases y)
  obtain ⟨sl2, y2⟩ := P'.slot b _ y (old b ⟨o, z⟩) (show b ∈ s.heap.objs.size :: frs outer from List.mem_cons_of_mem _ m)
  exact ⟨sl2, y2⟩
 ·obtain ⟨o2, y⟩ := n2 b ⟨o, z⟩
  exact P'.there b o2 y
 ·exact HOk.past I2.hok P' I2.stkFree fun b m => (new b m).2
 ·intro b m
  simp only [List.mem_cons, List.not_mem_nil, or_false] at m
  rcases m with rfl | rfl
  ·refine ⟨?_, (new b (by simp)).2⟩
   cases z : s.heap.get? b with
   | none => rfl
   | some o => exact absurd (by simp) (old b ⟨o, z⟩)
  ·refine ⟨?_, HOk.none_of I2.hok nT⟩
   cases z : s.heap.get? b with
   | none => rfl
   | some o =>
    obtain ⟨o', y⟩ := n2 b ⟨o, z⟩
    rw [nT] at y; cases y
theorem exc_obj {K : PySem.W.Frag} {h : Heap} {C : Addr} {bmB : List Value} {newId : String} (X : K.In h) (q : PySem.W.excIn K C bmB newId = true) :
  ∃ bm N nm qn bs hd sn sub ab col dd k0 k1 k2 k3 k5 mN, h.get? C = some (excClassObj nm qn C N bs bm hd sn sub ab col dd k0 k1 k2 k3 k5 newId) ∧ h.Ns N mN ∧ mN "__init__" = none ∧ OwnTail h bmB bm := by
 unfold PySem.W.excIn at q
 split at q
 ·rename_i d0 cl slots lk
  split at q
  ·rename_i C1 rest j0 j1 j2 j3 id j5 hm hs
   simp only [Bool.and_eq_true, beq_iff_eq, Bool.not_eq_true'] at q
   obtain ⟨⟨⟨⟨⟨rfl, rfl⟩, nodel⟩, tl⟩, okN⟩, noI⟩ := q
   obtain ⟨c1, c2, c3, c4, c5, c6, c7, c8, c9, c10, c11⟩ := cl
   dsimp only at hm nodel okN noI
   subst hm nodel
   have es : slots = #[j0, j1, j2, j3, some (.builtin id), j5] := by
    cases slots with
    | mk l => simp only at hs; rw [hs]
   subst es
   refine ⟨rest, c4, c1, c5, c2, c6, c7, c8, c9, c10, d0, j0, j1, j2, j3, j5, h.nsMap c4, X _ _ lk, ?_, ?_, ?_⟩
   ·exact Heap.Ns.of_isNs (PySem.W.isNs_of_in X okN)
   ·exact PySem.W.nsMap_none_of_in X okN noI
   ·exact PySem.W.tail_of_in X tl
  ·cases q
 ·cases q
def vErr : List Value := [.type "ValueError", .type "Exception", .type "BaseException", .type "object"]
section
variable {X : Cx} {E : XK}
theorem made_fly {pins : List (Addr × Obj)} {σ : St} {H : Hp} {s : Shared} {h' : Heap} {a C : Addr} {vs : List Value} (I : Inv X pins σ H s) (m : Heap.MadeExcOf s.heap h' a (.ref C) vs) (q : E (.ref C) none H) : CXE X.prog X.w X.stack H s E (.ref a) { s with heap := h' } := by
 obtain ⟨t, he, htn, ht⟩ := m.there
 refine ⟨a, .ref C, [], H, rfl, rfl, I.bare, Un.kept m.keeps, I.hok.kept m.keeps, ⟨_, _, .none, he, rfl, rfl, rfl, .inl rfl⟩, fun b hb => ?_, q⟩
 have : b = a := by simpa using hb
 subst this
 exact ⟨m.new, HOk.none_of I.hok m.new⟩
theorem ps_raise {x : Str} {C : Addr} {np cpos pos : Pos} {e0 : Expr} {ta : TA} (hp : Passes (CXE X.prog X.w) X E) (hc : X.calm = true) (hg : Gl X x) (hm : X.mg x = some (.ref C)) (q : PySem.W.excIn X.K C vErr "ValueError.__new__" = true) (ha : PA X [e0] ta)
  (hd : (x == ("__debug__" : Str)) = false := by decide) (he : starEach [e0] X.env = (false, eval e0 X.env) :: starEach [] X.env := by rfl) :
  PS X (.Raise (some (.Call (.Name x np) [e0] [] cpos)) none pos) (fun _ σ H => ta σ H fun vs H1 => vs.length ≤ sizeLine ∧ E (.ref C) none H1) := by
 intro pins s σ H D I h
 obtain ⟨bm, N, nm, qn, bs, hdd, sn, sub, ab, col, dd, k0, k1, k2, k3, k5, mN, hC, hN, hni, T⟩ := exc_obj I.ok.mod.kin q
 have FB := PySem.F.excBase_ValueError
 refine wpAny_Raise_call_subT (C := C) (N := N) (nm := nm) (q := qn) (bs := bs) (bm := bm) (hdct := hdd) (sn := sn) (sub := sub) (ab := ab) (col := col) (dd := dd) (k0 := k0) (k1 := k1) (k2 := k2) (k3 := k3) (k5 := k5) (mN := mN) FB (T.hasType FB.hasBase) (I.ok.hd hc) (by rw [he]; rfl) hni ?_
 refine ld_glob I hg hm ⟨rfl, ?_⟩ hd
 have hs := ha cpos pins s σ H _ I h
 rw [he] at hs ⊢
 refine Calls.evalArgs_plain (wpAny_mono hs (fun us s2 ⟨vs, H1, I1, r, hl, hE⟩ => ?_) fun _ _ z => z)
 refine ⟨rfl, by rw [← r.length]; exact hl, I1.bk _ _ hC, hN.keeps I1.bk, T.keeps I1.bk, fun h' a m => ?_⟩
 exact hp pins σ H1 s2 (.ref a) _ I1 (made_fly I1 m hE)
end
theorem Inv.stepX {X : Cx} {pins : List (Addr × Obj)} {σ : List (Option V)} {H H' : Hp} {s : Shared} {h' : Heap} {g' : Array GenState} {t' : Nat} {d' : Drawn} {ch : List Addr} (I : Inv X pins σ H s)
  (hch : ∀ b ∈ ch, (b ∈ X.ex ∨ X.s₀.heap.get? b = none) ∧ b ≠ X.env.locals ∧ (∀ x c, X.env.cells.lookup x = some c → c ≠ b) ∧ ∀ p ∈ X.pn ++ pins, p.1 ≠ b)
  (keep : ∀ b o, b ≠ X.env.locals → b ∉ X.fs → b ∉ ch → s.heap.get? b = some o → H b = none → h'.get? b = some o)
  (slot : ∀ b o, b ≠ X.env.locals → b ∈ X.fs → b ∉ ch → s.heap.get? b = some o → H b = none → ∃ sl, h'.get? b = some { o with slots := sl }) (free : ∀ b o, b ∉ ch → s.heap.get? b = some o → H b = none → H' b = none)
  (there : ∀ b o, b ∉ ch → s.heap.get? b = some o → ∃ o', h'.get? b = some o')
  (tups : ∀ b xs, H b = some (.tup xs) → H' b = some (.tup xs)) (frzs : ∀ b o u, H b = some (.frz o u) → H' b = some (.frz o u)) (tbls : ∀ b ps, H b = some (.tbl ps) → ∃ more, H' b = some (.tbl (ps ++ more)))
  (ns : ∀ m, s.heap.Ns X.env.locals m → h'.Ns X.env.locals m) (hok : HOk X.prog X.w H' h') (hg : AllBare g') :
  Inv X pins σ H' { s with heap := h', gens := g', drawn := d', toks := t' } := by
 have neL : ∀ b o, X.s₀.heap.get? b = some o → b ≠ X.env.locals := fun b o e => Nat.ne_of_lt (Nat.lt_of_lt_of_le (Heap.lt_size e) I.ok.above)
 have neC : ∀ b o, X.s₀.heap.get? b = some o → b ∉ X.ex → b ∉ ch := fun b o e hx hb => by
  rcases (hch b hb).1 with z | z
  ·exact hx z
  ·rw [e] at z; cases z
 have cellK : ∀ x c, X.env.cells.lookup x = some c → ∀ v, s.heap.IsCell c v → h'.IsCell c v := fun x c e v hh1 => by
  obtain ⟨o, ho, hd⟩ := hh1
  have nch : c ∉ ch := fun z => (hch c z).2.2.1 x c e rfl
  by_cases hc : c ∈ X.fs
  ·obtain ⟨sl, q⟩ := slot c o (I.cne x c e) hc nch ho (I.freeC x c e)
   exact ⟨_, q, hd⟩
  ·exact ⟨o, keep c o (I.cne x c e) hc nch ho (I.freeC x c e), hd⟩
 refine ⟨I.ok, I.os, hg, ⟨fun b o e n hb hx => ?_, fun b o e n hb hx => ?_, fun b o e n hx => ?_, fun b o e hx => ?_, fun b xs e => tups b xs (I.base.tups b xs e), fun b o xs e => frzs b o xs (I.base.frzs b o xs e), fun b ps e => ?_⟩, ?_, fun x c e => ?_, ?_, fun x c e => ?_, fun p hp => ?_, hok, I.len⟩
 ·exact keep b o (neL b o e) hb (neC b o e hx) (I.base.keep b o e n hb hx) (I.base.free b o e n hx)
 ·obtain ⟨sl, e1⟩ := I.base.slot b o e n hb hx
  obtain ⟨sl', e2⟩ := slot b _ (neL b o e) hb (neC b o e hx) e1 (I.base.free b o e n hx)
  exact ⟨sl', e2⟩
 ·obtain ⟨o', e1⟩ := I.base.there b o e hx
  exact free b o' (neC b o e hx) e1 (I.base.free b o e n hx)
 ·obtain ⟨o', e1⟩ := I.base.there b o e hx
  exact there b o' (neC b o e hx) e1
 ·obtain ⟨m1, e1⟩ := I.base.tbls b ps e
  obtain ⟨m2, e2⟩ := tbls b _ e1
  exact ⟨m1 ++ m2, by rw [e2, Array.append_assoc]⟩
 ·obtain ⟨m, hn, hl⟩ := I.loc
  refine ⟨m, ns m hn, fun i x v e1 e2 e3 => ?_⟩
  obtain ⟨u, r, l⟩ := hl i x v e1 e2 e3
  refine ⟨u, r, ?_⟩
  rcases l with l | ⟨k, c, e, z⟩
  ·exact .inl l
  ·exact .inr ⟨k, c, e, cellK x c e _ z⟩
 ·obtain ⟨v, z⟩ := I.cell x c e
  exact ⟨v, cellK x c e v z⟩
 ·obtain ⟨m, ⟨o, _, _, ho, _⟩, _⟩ := I.loc
  exact free _ o (fun z => (hch _ z).2.1 rfl) ho I.free
 ·obtain ⟨v, o, ho, hd⟩ := I.cell x c e
  exact free c o (fun z => (hch c z).2.2.1 x c e rfl) ho (I.freeC x c e)
 ·obtain ⟨e, n, ne, nf, d⟩ := I.pin p hp
  have nch : p.1 ∉ ch := fun z => (hch p.1 z).2.2.2 p hp rfl
  exact ⟨keep p.1 p.2 ne nf nch e n, free p.1 p.2 nch e n, ne, nf, d⟩
theorem passE0 {P : Program} {w : World} {X : Cx} : Passes (CXE P w) X E0 := fun _ _ _ _ _ _ _ hh1 => by obtain ⟨_, _, _, _, _, _, _, _, _, _, _, q⟩ := hh1; exact (q.elim)
theorem CXE.imp {P : Program} {w : World} {outer : List Env} {H : Hp} {s s' : Shared} {E E' : XK} {e : Value} (h : CXE P w outer H s E e s') (i : ∀ c d H', E c d H' → E' c d H') : CXE P w outer H s E' e s' :=
 let ⟨a, cls, own, H', h1, h2, h3, h4, h5, h6, h7, q⟩ := h; ⟨a, cls, own, H', h1, h2, h3, h4, h5, h6, h7, i _ _ _ q⟩
theorem Passes.imp {P : Program} {w : World} {X : Cx} {E E' : XK} (h : Passes (CXE P w) X E) (i : ∀ c d H', E' c d H' → E c d H') : Passes (CXE P w) X E' := fun pins σ H s e s' I q => h pins σ H s e s' I (q.imp i)
theorem Fun.okX {P : Program} {w : World} {K : PySem.W.Frag} {mg : Str → Option Value} {base : Heap} {x qual : Str} {st : Stmt} {f : Addr} {fd : FuncData} {N ps : List Str} {k : Nat} {sp : Sp} (F : Fun K x qual st f fd) (S : FnScope N ps (defScope st)) (len : ∀ vs H Q E, sp vs H Q E → vs.length = ps.length)
  (hbody : ∀ (cdv : Value) (A : Around) (outer : List Env) (s : Shared) (H : Hp) (vs : List V) (Q : VK) (E : XK), Room k (A.deeper (envOfC qual (defScope st) s.heap.objs.size f cdv)) → sp vs H Q E →
   ∃ t, PSs (cxOf (CXE P w) P w K mg base N qual (defScope st) f cdv A outer s H E) (defBody st) t ∧ t { nx := fun _ H' => Q .non H', rt := Q } (start N vs) H) : FnOk P w K mg base (CXE P w) (k + 1) f fd ps sp := by
 obtain ⟨oc, od, kV, doc, pm, an, cdv, ct, osl, rfl, lk, hcd⟩ := F.ex
 exact fn_of lk hcd S len fun A outer s H vs Q E hr hsp => hbody cdv A outer s H vs Q E hr hsp
end L2
namespace L2
open PySem PySem.Spec PyProof.Rows
end L2
namespace L2
open PySem PySem.Spec PyProof.Rows
section
variable (P : Program) (w : World)
end
section
variable {P : Program} {w : World} {H H' : Hp} {h h' : Heap} {a : Addr} {o : HO}
end
section
variable {P : Program} {w : World} {H : Hp} {h h' : Heap} {x e : Addr} {o' : HO}
end
section
variable {fs fs' ex ex' : List Addr} {H H1 H2 : Hp} {h h1 h2 h' : Heap} {a x e : Addr} {o : HO}
end
end L2
namespace L2
open PySem PySem.Spec PyProof.Rows
section
variable {X : Cx} {pins : List (Addr × Obj)} {σ : List (Option V)} {H H' : Hp} {s : Shared} {h' : Heap}
end
end L2
namespace L2
open PySem PySem.Spec PyProof.Rows
section
variable {X : Cx}
variable {a b : Expr} {ta tb : TE} {pos : Pos}
variable {tA tB' : TT} {rest : List Expr}
end
end L2
namespace L2
open PySem PySem.Spec PyProof.Rows
section
variable {X : Cx} {pins : List (Addr × Obj)} {σ : St} {H : Hp} {s : Shared} {a : Addr} {xs ys : List V}
end
section
variable {X : Cx} {pins : List (Addr × Obj)} {σ : St} {H : Hp} {s : Shared} {E : Value → Shared → Prop}
end
section
variable {X : Cx} {st : Stmt} {rest : List Stmt} {t u : TS} {e : Expr} {te : TE} {pos : Pos}
end
section
variable {X : Cx} {pos : Pos}
end
section
variable {X : Cx} {pos : Pos}
end
end L2
namespace L2
open PySem PySem.Spec PyProof.Rows
section
variable {X : Cx} {tg : Expr}
end
end L2
namespace L2
open PySem PySem.Spec PyProof.Rows
section
variable {X : Cx} {a b c : Expr} {ta tb tc : TE} {pos : Pos}
end
section
variable {X : Cx} {a b c : Expr} {ta tb tc : TE} {pos : Pos}
end
end L2
namespace L2
open PySem PySem.Spec PyProof.Rows
section
variable {prog : Program} {w : World} {A : Around} {E : Value → Shared → Prop} {s : Shared} {K : PySem.W.Frag} {x dx C f : Addr} {mA : Str → Option Value} {name : Str} {v : Value}
end
section
variable {P : Program} {w : World} {H H' : Hp} {h h' : Heap} {a C dx : Addr} {fs fs' : List (Str × V)}
end
section
variable {X : Cx} {pins : List (Addr × Obj)} {σ : St} {H : Hp} {s : Shared} {a C dx : Addr} {fs : List (Str × V)} {f : Str} {v : V} {A : Around} {E : Value → Shared → Prop}
end
section
variable {X : Cx} {o e value : Expr} {f : Str} {pos pos' tpos : Pos} {ta tv : TE}
end
section
variable {X : Cx} {pins : List (Addr × Obj)} {σ : St} {H : Hp} {s : Shared} {A : Around} {E : Value → Shared → Prop} {Q : Value → Shared → Prop} {c : Value} {b : Bool}
end
end L2
namespace L2
open PySem PySem.Spec PyProof.Rows
section
variable {X : Cx} {e : Expr} {es : List Expr} {te : TE} {t : TA} {pos : Pos}
end
section
variable {X : Cx} {pins : List (Addr × Obj)} {σ : St} {H : Hp} {s s' : Shared}
end
section
variable {X : Cx} {CX : CXT} {k : Nat} {f C : Addr} {fd : FuncData} {ps : List Str} {sp : Sp} {dvs : List V} {ds : List Value} {E : XK} {x m : Str} {p pos apos : Pos} {e o : Expr} {es : List Expr} {ta : TE} {t : TA}
end
section
variable {X : Cx} {CX : CXT} {k : Nat} {f C : Addr} {fd : FuncData} {ps ks : List Str} {sp : Sp} {E : XK} {x m : Str} {p pos apos kpos : Pos} {e o : Expr} {es : List Expr} {kws : List Keyword} {te ta : TE} {t tk : TA} {nm : Option Str}
variable {g : List Value → List Value → List Value} {gV : List V → List V → List V}
end
end L2
namespace L2
open PySem PySem.Spec PyProof.Rows
section
variable {X : Cx} {x : Str} {p pos : Pos} {e : Expr} {es : List Expr} {t : TA} {id T : String} {r : List V → Hp → VK → Prop}
end
end L2
namespace L2
open PySem PySem.Spec PyProof.Rows
section
variable {κ : Type} [DecidableEq κ]
noncomputable def valV (kvs : List (κ × V)) (k : κ) : Option V := (kvs.find? fun kv => decide (kv.1 = k)).map (·.2)
noncomputable def putK (kvs : List (κ × V)) (k : κ) (v : V) : List (κ × V) :=
 if (kvs.any fun kv => decide (kv.1 = k)) = true then kvs.map (fun kv => if kv.1 = k then (kv.1, v) else kv) else kvs ++ [(k, v)]
theorem valV_pos {p : κ × V} {r : List (κ × V)} {k : κ} (e : p.1 = k) : valV (p :: r) k = some p.2 := by simp [valV, List.find?_cons, e]
theorem valV_neg {p : κ × V} {r : List (κ × V)} {k : κ} (e : ¬ p.1 = k) : valV (p :: r) k = valV r k := by simp [valV, List.find?_cons, e]
theorem valV_any (k : κ) : ∀ kvs : List (κ × V), (kvs.any fun kv => decide (kv.1 = k)) = (valV kvs k).isSome
 | [] => rfl
 | p :: r => by
  rw [List.any_cons]
  by_cases e : p.1 = k
  ·simp only [valV_pos e, decide_eq_true e, Bool.true_or, Option.isSome_some]
  ·rw [valV_neg e, decide_eq_false e, Bool.false_or]; exact valV_any k r
theorem length_putK (kvs : List (κ × V)) (k : κ) (v : V) : (putK kvs k v).length ≤ kvs.length + 1 := by
 unfold putK
 split
 ·rw [List.length_map]; omega
 ·rw [List.length_append, List.length_cons, List.length_nil]; omega
theorem RelO.isSome_eq {o : Option V} {u : Option Value} (r : RelO o u) : o.isSome = u.isSome := by
 cases o with
 | none => cases u with
  | none => rfl
  | some _ => exact (show False from r).elim
 | some _ => cases u with
  | none => exact (show False from r).elim
  | some _ => rfl
theorem KV.val {kvs : List (κ × V)} {vs : List (κ × Value)} (r : KV kvs vs) (k : κ) : RelO (valV kvs k) (valueAt vs k) := by
 unfold KV at r
 induction r with
 | nil => exact True.intro
 | @cons p q ps qs h t ih =>
  obtain ⟨h1, h2⟩ := h
  by_cases e : p.1 = k
  ·have e' : q.1 = k := h1.symm.trans e
   have b : valueAt (q :: qs) k = some q.2 := by simp [valueAt, List.find?_cons, e']
   rw [valV_pos e, b]; exact h2
  ·have e' : ¬ q.1 = k := fun z => e (h1.trans z)
   have b : valueAt (q :: qs) k = valueAt qs k := by simp [valueAt, List.find?_cons, e']
   rw [valV_neg e, b]; exact ih
theorem KV.any {kvs : List (κ × V)} {vs : List (κ × Value)} (r : KV kvs vs) (k : κ) : (kvs.any fun kv => decide (kv.1 = k)) = vs.any fun kv => decide (kv.1 = k) := by
 unfold KV at r
 induction r with
 | nil => rfl
 | cons h t ih => rw [List.any_cons, List.any_cons, ih, h.1]
theorem KV.repl {kvs : List (κ × V)} {vs : List (κ × Value)} (r : KV kvs vs) (k : κ) {y : V} {u : Value} (ry : RelV y u) :
  KV (kvs.map fun kv => if kv.1 = k then (kv.1, y) else kv) (vs.map fun kv => if kv.1 = k then (kv.1, u) else kv) := by
 unfold KV at r ⊢
 induction r with
 | nil => exact .nil
 | @cons p q ps qs h t ih =>
  rw [List.map_cons, List.map_cons]
  refine .cons ?_ ih
  obtain ⟨h1, h2⟩ := h
  by_cases e : p.1 = k
  ·rw [if_pos e, if_pos (h1.symm.trans e)]; exact ⟨h1, ry⟩
  ·rw [if_neg e, if_neg (fun z => e (h1.trans z))]; exact ⟨h1, h2⟩
theorem KV.put {kvs : List (κ × V)} {vs : List (κ × Value)} (r : KV kvs vs) (k : κ) {y : V} {u : Value} (ry : RelV y u) : KV (putK kvs k y) (stored vs k u) := by
 unfold putK stored
 rw [r.any k]
 by_cases e : (vs.any fun kv => decide (kv.1 = k)) = true
 ·rw [if_pos e, if_pos e]; exact r.repl k ry
 ·rw [if_neg e, if_neg e]; exact Paired.snoc r ⟨rfl, ry⟩
theorem KV.length {kvs : List (κ × V)} {vs : List (κ × Value)} (r : KV kvs vs) : kvs.length = vs.length := Paired.length r
end
theorem kV_is {P : Program} {w : World} {k : Key} {u : Value} (r : RelV (kV k) u) : (mixKind P w).is k u = true := by
 cases k with
 | inl i => obtain ⟨t, e⟩ := (show ∃ t, u = Value.int i t from r); subst e; exact mixKind_int P w i t
 | inr x => obtain ⟨t, e⟩ := (show ∃ t, u = Value.str x t from r); subst e; exact mixKind_str P w x t
theorem items_are {P : Program} {w : World} : ∀ {ks : List Key} {us : List Value}, Vals (ks.map kV) us → ItemsAre (mixKind P w) ks us
 | [], _, r => by rw [List.map_nil] at r; cases r; exact .nil
 | k :: ks, _, r => by
  rw [List.map_cons] at r
  cases r with
  | cons h t => exact .cons (kV_is h) (items_are t)
noncomputable abbrev KT (H : Hp) : List (List Key × V) → List (List Key × Addr × Value) → Prop := Paired fun p q => p.1 = q.1 ∧ H q.2.1 = some (.tup (p.1.map kV)) ∧ RelV p.2 q.2.2
theorem KT.val {H : Hp} {kvs : List (List Key × V)} {xs : List (List Key × Addr × Value)} (r : KT H kvs xs) (k : List Key) : RelO (valV kvs k) ((atKey xs k).map (·.2)) := by
 induction r with
 | nil => exact True.intro
 | @cons p q ps qs h t ih =>
  obtain ⟨h1, _, h2⟩ := h
  by_cases e : p.1 = k
  ·have e' : q.1 = k := h1.symm.trans e
   have b : atKey (q :: qs) k = some q.2 := by simp [atKey, List.find?_cons, e']
   rw [valV_pos e, b]; exact h2
  ·have e' : ¬ q.1 = k := fun z => e (h1.trans z)
   have b : atKey (q :: qs) k = atKey qs k := by simp [atKey, List.find?_cons, e']
   rw [valV_neg e, b]; exact ih
theorem KT.repl {H : Hp} {kvs : List (List Key × V)} {xs : List (List Key × Addr × Value)} (r : KT H kvs xs) (k : List Key) {y : V} {u : Value} (ry : RelV y u) :
  KT H (kvs.map fun kv => if kv.1 = k then (kv.1, y) else kv) (xs.map (putAt k u)) := by
 induction r with
 | nil => exact .nil
 | @cons p q ps qs h t ih =>
  rw [List.map_cons, List.map_cons]
  refine .cons ?_ ih
  obtain ⟨h1, h2, h3⟩ := h
  unfold putAt
  by_cases e : p.1 = k
  ·rw [if_pos e, if_pos (h1.symm.trans e)]; exact ⟨h1, h2, ry⟩
  ·rw [if_neg e, if_neg (fun z => e (h1.trans z))]; exact ⟨h1, h2, h3⟩
theorem KT.put {H : Hp} {kvs : List (List Key × V)} {xs : List (List Key × Addr × Value)} (r : KT H kvs xs) (k : List Key) {b : Addr} {y : V} {u : Value} (hb : H b = some (.tup (k.map kV))) (ry : RelV y u) :
  KT H (putK kvs k y) (storedH xs k b u) := by
 have e : (kvs.any fun kv => decide (kv.1 = k)) = (atKey xs k).isSome := by
  rw [valV_any, (r.val k).isSome_eq, Option.isSome_map]
 unfold putK storedH
 rw [e]
 by_cases q : (atKey xs k).isSome = true
 ·rw [if_pos q, if_pos q]; exact r.repl k ry
 ·rw [if_neg q, if_neg q]; exact Paired.snoc r ⟨rfl, hb, ry⟩
theorem KT.keeps {H H' : Hp} {kvs : List (List Key × V)} {xs : List (List Key × Addr × Value)} (r : KT H kvs xs) (ht : ∀ b ys, H b = some (.tup ys) → H' b = some (.tup ys)) : KT H' kvs xs :=
 Paired.mapP r fun _ _ z => ⟨z.1, ht _ _ z.2.1, z.2.2⟩
section
variable {P : Program} {w : World} {H : Hp} {h : Heap} {a : Addr}
theorem rd_of {u : HO} (ok : HOk P w H h) (e : Rd H a u) : ObjOk P w H h a u := e.ok ok
theorem dk_rd {kvs : List (Key × V)} (ok : HOk P w H h) (e : Rd H a (.dK kvs)) : kvs.length ≤ sizeLine ∧ (a == sysModules) = false ∧ ∃ vs, KV kvs vs ∧ h.DictOf (mixKind P w) a vs :=
 show ObjOk P w H h a (.dK kvs) from rd_of ok e
theorem dk_of {kvs : List (Key × V)} (ok : HOk P w H h) (e : H a = some (.dK kvs)) : kvs.length ≤ sizeLine ∧ (a == sysModules) = false ∧ ∃ vs, KV kvs vs ∧ h.DictOf (mixKind P w) a vs := dk_rd ok (.inl e)
theorem key_of {ks : List Key} (ok : HOk P w H h) (e : H a = some (.tup (ks.map kV))) : (tupleKind (mixKind P w)).is h ks a := by
 obtain ⟨_, its, r, o, h1, h2, n, h3⟩ := (show ObjOk P w H h a (.tup (ks.map kV)) from ok a _ e)
 exact ⟨o, its.toArray, n, h1, h2, h3, by simpa using items_are r⟩
theorem dt_rd {kvs : List (List Key × V)} (ok : HOk P w H h) (e : Rd H a (.dT kvs)) : kvs.length ≤ sizeLine ∧ (a == sysModules) = false ∧
  ∃ xs, KT H kvs xs ∧ h.DictOfH (tupleKind (mixKind P w)) a xs := by
 obtain ⟨z, y, xs, r, o, es, ep, h1, h2, h3, h4, h5⟩ := (show ObjOk P w H h a (.dT kvs) from rd_of ok e)
 refine ⟨z, y, xs, r, o, es, ep, h1, h2, h3, h4, fun x hx => ?_, h5⟩
 have all : ∀ {l : List (List Key × V)} {m : List (List Key × Addr × Value)}, KT H l m → ∀ x ∈ m, (tupleKind (mixKind P w)).is h x.1 x.2.1 := by
  intro l m q
  induction q with
  | nil => intro x hx; exact nomatch hx
  | @cons p q ps qs hq t ih =>
   intro x hx
   rcases List.mem_cons.mp hx with e | hx
   ·subst e
    exact key_of ok (by rw [← hq.1]; exact hq.2.1)
   ·exact ih x hx
 exact all r x hx
theorem dt_of {kvs : List (List Key × V)} (ok : HOk P w H h) (e : H a = some (.dT kvs)) : kvs.length ≤ sizeLine ∧ (a == sysModules) = false ∧
  ∃ xs, KT H kvs xs ∧ h.DictOfH (tupleKind (mixKind P w)) a xs := dt_rd ok (.inl e)
end
noncomputable def DGet (H : Hp) (a : Addr) (y : V) (r : Option V) : Prop :=
 (∃ kvs k, Rd H a (.dK kvs) ∧ y = kV k ∧ r = valV kvs k) ∨ ∃ kvs k b, Rd H a (.dT kvs) ∧ y = .ref b ∧ H b = some (.tup (k.map kV)) ∧ r = valV kvs k
noncomputable def DPut (H : Hp) (a : Addr) (y v : V) (H' : Hp) : Prop :=
 (∃ kvs k, H a = some (.dK kvs) ∧ y = kV k ∧ kvs.length < sizeLine ∧ H' = upd H a (.dK (putK kvs k v))) ∨
 ∃ kvs k b, H a = some (.dT kvs) ∧ y = .ref b ∧ H b = some (.tup (k.map kV)) ∧ kvs.length < sizeLine ∧ H' = upd H a (.dT (putK kvs k v))
theorem DGet.k {H : Hp} {a : Addr} {kvs : List (Key × V)} {k : Key} (e : H a = some (.dK kvs)) : DGet H a (kV k) (valV kvs k) := .inl ⟨kvs, k, .inl e, rfl, rfl⟩
theorem DPut.k {H : Hp} {a : Addr} {kvs : List (Key × V)} {k : Key} {v : V} (e : H a = some (.dK kvs)) (hl : kvs.length < sizeLine) : DPut H a (kV k) v (upd H a (.dK (putK kvs k v))) := .inl ⟨kvs, k, e, rfl, hl, rfl⟩
section
variable {X : Cx} {pins : List (Addr × Obj)} {σ : St} {H : Hp} {s : Shared} {a : Addr} {y v : V} {u r : Value} {o : Option V} {A : Around} {E : Value → Shared → Prop}
theorem Inv.big (I : Inv X pins σ H s) : sysModules < s.heap.objs.size := by
 have h : mainGlobals < s.heap.objs.size := (I.mod.glob.keeps I.bk).lt
 exact Nat.lt_trans (by decide) h
theorem d_getItem {Q : Value → Shared → Prop} (hu : A.units + 1 < cLine) (I : Inv X pins σ H s) (g : DGet H a y (some v)) (ry : RelV y u) (h : ∀ w' s', Inv X pins σ H s' → RelV v w' → Q w' s') :
  wpAny (model X.prog X.w) A (getItem (.ref a) u) Q E s := by
 rcases g with ⟨kvs, k, e, ey, l⟩ | ⟨kvs, k, b, e, ey, eb, l⟩
 ·subst ey
  obtain ⟨z, hd, vs, rel, dd⟩ := dk_rd I.hok e
  obtain ⟨w', hw, rw'⟩ := RelO.some_of (v := v) (o := valueAt vs k) (by rw [l]; exact rel.val k)
  exact wpAny_getItem_of (kV_is ry) dd.mapOf hw (h w' _ (I.tok _) rw')
 ·subst ey
  cases (show u = Value.ref b from ry)
  obtain ⟨z, hd, xs, rel, dd⟩ := dt_rd I.hok e
  obtain ⟨w', hw, rw'⟩ := RelO.some_of (v := v) (o := (atKey xs k).map (·.2)) (by rw [l]; exact rel.val k)
  obtain ⟨p, hp, hp2⟩ := Option.map_eq_some_iff.mp hw
  refine wpAny_getItem_heap (tupleKind_room_in1 hu) (key_of I.hok eb) dd hp ?_
  rw [hp2]
  exact h w' _ (I.tok _) rw'
theorem d_write {h' : Heap} {t' : Nat} {ob : HO} (I : Inv X pins σ H s) (mu : Mut (H a)) (hs : Heap.SameBut a s.heap h') (he : ∃ q, h'.get? a = some q) (new : ObjOk X.prog X.w (upd H a ob) h' a ob) :
  Inv X pins σ (upd H a ob) { s with heap := h', toks := t' } :=
 I.write (x := a) (e := a) mu (.inl rfl) (fun b q hb z => (hs.2 b hb).trans z) he new
theorem dk_new {P : Program} {w : World} {H' : Hp} {h' : Heap} {kvs : List (Key × V)} {vs : List (Key × Value)} (z : kvs.length ≤ sizeLine) (hd : (a == sysModules) = false) (rel : KV kvs vs) (dd : h'.DictOf (mixKind P w) a vs) :
  ObjOk P w H' h' a (.dK kvs) := ⟨z, hd, vs, rel, dd⟩
theorem d_setItem {H' : Hp} {Q : Unit → Shared → Prop} (hu : A.units + 1 < cLine) (I : Inv X pins σ H s) (g : DPut H a y v H') (ry : RelV y u) (rv : RelV v r) (h : ∀ s', Inv X pins σ H' s' → Q () s') :
  wpAny (model X.prog X.w) A (setItem (.ref a) u r) Q E s := by
 rcases g with ⟨kvs, k, e, ey, l, eH⟩ | ⟨kvs, k, b, e, ey, eb, l, eH⟩
 ·subst ey eH
  obtain ⟨z, hd, vs, rel, dd⟩ := dk_of I.hok e
  have hz : vs.length ≤ sizeLine := by rw [← rel.length]; exact z
  have hl : (putK kvs k v).length ≤ sizeLine := by have := length_putK kvs k v; omega
  refine wpAny_setItem_pairs (hsz := hz) (kV_is ry) dd fun h' dd' hs => h _ ?_
  have he : ∃ q, h'.get? a = some q := let ⟨q, _, _, hq, _⟩ := dd'; ⟨q, hq⟩
  exact d_write I (by rw [e]; exact True.intro) hs he (dk_new hl hd (rel.put k rv) dd')
 ·subst ey eH
  cases (show u = Value.ref b from ry)
  obtain ⟨z, hd, xs, rel, dd⟩ := dt_of I.hok e
  have hz : xs.length ≤ sizeLine := by rw [← Paired.length rel]; exact z
  have hl : (putK kvs k v).length ≤ sizeLine := by have := length_putK kvs k v; omega
  refine wpAny_setItem_heap (hsz := hz) (tupleKind_room_in1 hu) (key_of I.hok eb) dd fun h' dd' hs => h _ ?_
  obtain ⟨q, es, ep, hq, h2, h3, h4, _, h5⟩ := dd'
  refine d_write I (by rw [e]; exact True.intro) hs ⟨q, hq⟩ ⟨hl, hd, _, (rel.put k eb rv).keeps fun c ys ec => ?_, q, es, ep, hq, h2, h3, h4, h5⟩
  rw [upd_ne (ne_of ec e (fun z => nomatch z))]
  exact ec
end
section
variable {X : Cx} {pins : List (Addr × Obj)} {σ : St} {H : Hp} {s : Shared} {a : Addr} {kvs : List (Key × V)} {k : Key} {u : Value} {A : Around} {E : Value → Shared → Prop}
end
theorem dict_typeIs {X : Cx} {pins : List (Addr × Obj)} {σ : St} {H : Hp} {s : Shared} {a : Addr} {y : V} {o : Option V} (I : Inv X pins σ H s) (g : DGet H a y o) : s.TypeIs (.ref a) "dict" := by
 rcases g with ⟨kvs, k, e, _, _⟩ | ⟨kvs, k, b, e, _, _, _⟩
 ·obtain ⟨_, _, vs, _, dd⟩ := dk_rd I.hok e
  exact dd.typeIs
 ·obtain ⟨_, _, xs, _, dd⟩ := dt_rd I.hok e
  exact dd.typeIs
section
variable {X : Cx} {o i e value : Expr} {pos pos' tpos : Pos} {td ty tv : TE}
end
theorem dk_empty {P : Program} {w : World} {H : Hp} (h : Heap) (hb : sysModules < h.objs.size) : ObjOk P w H (h.push { cls := .type "dict", data := .dict #[] }) h.objs.size (.dK []) :=
 ⟨Nat.zero_le _, beq_eq_false_iff_ne.mpr (Ne.symm (Nat.ne_of_lt hb)), [], .nil, Heap.DictOf.new h⟩
noncomputable def tDNewK : TE := fun _ H Q => ∀ p, H p = none → Q (.ref p) (upd H p (.dK []))
section
variable {X : Cx} {pos : Pos}
theorem pe_dnewK : PE X (.Dict [] [] pos) tDNewK := fun pins s σ H Q I h =>
 wpAny_Dict_empty ⟨.ref s.heap.objs.size, _, I.laid (a := s.heap.objs.size) (o := .dK []) (t' := s.toks) (fun _ _ q => Heap.get?_push_of_some _ q) (Nat.le_refl _) (dk_empty s.heap I.big), rfl, h _ (I.hok.fresh (Nat.le_refl _))⟩
end
noncomputable def tPairs : List (TE × TE) → St → Hp → (List (V × V) → Hp → Prop) → Prop
 | [], _, H, Q => Q [] H
 | (tk, tv) :: r, σ, H, Q => tk σ H fun x H1 => tv σ H1 fun y H2 => tPairs r σ H2 fun ps H3 => Q ((x, y) :: ps) H3
noncomputable abbrev VV : List (V × V) → List (Value × Value) → Prop := Paired fun p q => RelV p.1 q.1 ∧ RelV p.2 q.2
noncomputable def PPs (X : Cx) (pos : Pos) (keys : List (Option Expr)) (values : List Expr) (trs : List (TE × TE)) : Prop :=
 ∀ (pins : List (Addr × Obj)) (s : Shared) (σ : St) (H : Hp) (Q : List (V × V) → Hp → Prop), Inv X pins σ H s → tPairs trs σ H Q →
  wpAny (model X.prog X.w) X.A (evalPairs (pairTrees keys values X.env pos)) (fun vs s' => ∃ ps H', Inv X pins σ H' s' ∧ VV ps vs ∧ Q ps H') X.xe s
theorem pps_nil {X : Cx} {pos : Pos} : PPs X pos [] [] [] := fun pins s σ H Q I h => pairTrees_nil_walk ⟨[], H, I, .nil, h⟩
theorem pps_cons {X : Cx} {pos : Pos} {k v : Expr} {ks : List (Option Expr)} {vs : List Expr} {tk tv : TE} {trs : List (TE × TE)} (hk : PE X k tk) (hv : PE X v tv) (hr : PPs X pos ks vs trs) :
  PPs X pos (some k :: ks) (v :: vs) ((tk, tv) :: trs) := fun pins s σ H Q I h =>
 pairTrees_cons_walk (thn (hk pins s σ H _ I h) fun u s1 hh1 => by obtain ⟨x, H1, I1, rx, q1⟩ := hh1; exact (thn (hv pins s1 σ H1 _ I1 q1) fun w2 s2 ⟨y, H2, I2, ry, q2⟩ =>
  thn (hr pins s2 σ H2 _ I2 q2) fun ws s3 hh2 => by obtain ⟨ps, H3, I3, rel, q3⟩ := hh2; exact (⟨(x, y) :: ps, H3, I3, .cons ⟨rx, ry⟩ rel, q3⟩)))
noncomputable def mergeK (kvs more : List (Key × V)) : List (Key × V) := more.foldl (fun acc kv => putK acc kv.1 kv.2) kvs
theorem KV.merge : ∀ {more : List (Key × V)} {rs : List (Key × Value)} {kvs : List (Key × V)} {vs : List (Key × Value)}, KV more rs → KV kvs vs → KV (mergeK kvs more) (merged vs rs) := by
 intro more rs kvs vs r
 unfold KV at r
 induction r generalizing kvs vs with
 | nil => intro q; exact q
 | @cons p q ps qs h t ih =>
  intro r0
  have e : KV (putK kvs p.1 p.2) (stored vs q.1 q.2) := by
   have := r0.put p.1 h.2
   rw [← h.1]; exact this
  exact ih e
theorem length_mergeK : ∀ (more kvs : List (Key × V)), (mergeK kvs more).length ≤ kvs.length + more.length
 | [], kvs => by show kvs.length ≤ kvs.length + 0; omega
 | p :: r, kvs => by
  have h1 := length_mergeK r (putK kvs p.1 p.2)
  have h2 := length_putK kvs p.1 p.2
  show (mergeK (putK kvs p.1 p.2) r).length ≤ _
  rw [List.length_cons]; omega
theorem carries_of {P : Program} {w : World} : ∀ {kvs : List (Key × V)} {ws : List (Value × Value)}, VV (kvs.map fun kv => (kV kv.1, kv.2)) ws → ∃ rs, Carries (mixKind P w) ws rs ∧ KV kvs rs
 | [], _, r => by rw [List.map_nil] at r; cases r; exact ⟨[], True.intro, .nil⟩
 | p :: kvs, _, r => by
  rw [List.map_cons] at r
  cases r with
  | @cons a b as bs h t =>
   obtain ⟨rs, c, q⟩ := carries_of (P := P) (w := w) t
   obtain ⟨b1, b2⟩ := b
   exact ⟨(p.1, b2) :: rs, ⟨kV_is h.1, rfl, c⟩, .cons ⟨rfl, h.2⟩ q⟩
noncomputable def tDisp (trs : List (TE × TE)) : TE := fun σ H Q => ∀ p, H p = none → tPairs trs σ (upd H p (.dK [])) fun ps H2 => H2 p = some (.dK []) ∧ ∃ kvs : List (Key × V), ps = kvs.map (fun kv => (kV kv.1, kv.2)) ∧ kvs.length ≤ 15 ∧ Q (.ref p) (upd H2 p (.dK (mergeK [] kvs)))
theorem pe_disp {X : Cx} {pos : Pos} {keys : List (Option Expr)} {values : List Expr} {trs : List (TE × TE)} (h : PPs X pos keys values trs) (hall : keys.all (·.isSome) = true) (hl : keys.length = values.length) (h0 : keys ≠ [])
  (h15 : keys.length ≤ 15) : PE X (.Dict keys values pos) (tDisp trs) := by
 intro pins s σ H Q I q
 have hn := I.hok.fresh (Nat.le_refl s.heap.objs.size)
 have I1 := I.laid (a := s.heap.objs.size) (o := .dK []) (h' := s.heap.push { cls := .type "dict", data := .dict #[] }) (t' := s.toks) (fun _ _ q => Heap.get?_push_of_some _ q) (Nat.le_refl _) (dk_empty s.heap I.big)
 refine wpAny_Dict_walk (knd := mixKind X.prog X.w) hall hl h0 h15 (thn (h pins _ σ _ _ I1 (q _ hn)) fun ws s2 hh1 => ?_)
 obtain ⟨ps, H2, I2, rel, e, kvs, ep, lk, q2⟩ := hh1
 subst ep
 obtain ⟨rs, c, rk⟩ := carries_of (P := X.prog) (w := X.w) rel
 obtain ⟨z, hd, vs0, r0, dd⟩ := dk_of I2.hok e
 cases r0
 refine ⟨rs, c, dd, fun h' dd' hs => ⟨.ref s.heap.objs.size, _, ?_, rfl, q2⟩⟩
 have hz : (mergeK [] kvs).length ≤ sizeLine := by
  have h1 := length_mergeK kvs []
  rw [List.length_nil] at h1
  rw [sizeLine_eq]; omega
 have he : ∃ q, h'.get? s.heap.objs.size = some q := let ⟨q, _, _, hq, _⟩ := dd'; ⟨q, hq⟩
 exact d_write I2 (by rw [e]; exact True.intro) hs he (dk_new hz hd (rk.merge .nil) dd')
structure M1 (X : Cx) (o : Expr) (m : Str) (apos : Pos) (e : Expr) (cpos : Pos) : Prop where
 base : attributeBase o m X.env (eval o X.env) = eval o X.env
 few : ((backTo cpos (starEach [e] X.env)).all (fun x => !x.1) && (backToKw cpos (keywordEach [] X.env)).all (fun x => x.1.isSome)
  && decide (([e] : List Expr).length + ([] : List Keyword).length + (if ([] : List Keyword).isEmpty then 0 else 1) < 30)) = true
 line : (apos.endLine == cpos.line) = true
 trees : backTo cpos (starEach [e] X.env) = [(false, eval e X.env)]
structure M2 (X : Cx) (o : Expr) (m : Str) (apos : Pos) (e f : Expr) (cpos : Pos) : Prop where
 base : attributeBase o m X.env (eval o X.env) = eval o X.env
 few : ((backTo cpos (starEach [e, f] X.env)).all (fun x => !x.1) && (backToKw cpos (keywordEach [] X.env)).all (fun x => x.1.isSome)
  && decide (([e, f] : List Expr).length + ([] : List Keyword).length + (if ([] : List Keyword).isEmpty then 0 else 1) < 30)) = true
 line : (apos.endLine == cpos.line) = true
 trees : backTo cpos (starEach [e, f] X.env) = [(false, eval e X.env), (false, eval f X.env)]
section
variable {X : Cx} {pins : List (Addr × Obj)} {σ : St} {H : Hp} {s : Shared} {a : Addr} {y d : V} {u r : Value} {o : Option V} {A : Around} {E : Value → Shared → Prop}
end
section
variable {X : Cx} {o e f : Expr} {apos cpos : Pos} {td ty tx : TE}
end
section
variable {X : Cx} {pins : List (Addr × Obj)} {σ : St} {H : Hp} {s : Shared} {a : Addr} {kvs : List (Key × V)} {A : Around} {E : Value → Shared → Prop}
end
section
variable {X : Cx} {pins : List (Addr × Obj)} {σ : St} {H : Hp} {s : Shared} {a : Addr} {y : V} {u : Value} {A : Around} {E : Value → Shared → Prop}
end
end L2
namespace Att
open PySem PySem.W PySem.Calls PyProof.Rows
section
variable {prog : Program} {w : World} {A : Around} {E : Value → Shared → Prop} {s : Shared} {K : Frag}
end
end Att
namespace L2
open PySem PySem.Spec PyProof.Rows
end L2
namespace L2
open PySem PySem.Spec PyProof.Rows
end L2
namespace L2
open PySem PySem.Spec PyProof.Rows
section
variable {P : Program} {w : World} {K : PySem.W.Frag} {mg : Str → Option Value} {base : Heap}
end
section
variable {X : Cx}
end
section
variable {κ : Type} [DecidableEq κ]
end
end L2
namespace L2
open PySem PySem.Spec PyProof.Rows
theorem closure_loop (env : Env) : ∀ (names : List (Str × NameKind)) (acc : List (Str × Addr)),
  (∀ p ∈ names, p.2 = .free → ∃ c, env.cells.lookup p.1 = some c) →
  (∀ x c, acc.lookup x = some c → env.cells.lookup x = some c) →
  ∃ cl, (forIn names acc (fun (x : Str × NameKind) cs =>
    (if (x.2 == NameKind.free) = true then (do let a ← cellOf env x.1; pure (ForInStep.yield ((x.1, a) :: cs))) else pure (ForInStep.yield cs))) : Sem (List (Str × Addr))) = pure cl ∧
   (∀ x c, cl.lookup x = some c → env.cells.lookup x = some c) ∧
   (∀ x, (names.lookup x = some .free ∨ (acc.lookup x).isSome = true) → ∃ c, cl.lookup x = some c) := by
 intro names
 induction names with
 | nil =>
  intro acc _ ha
  refine ⟨acc, rfl, ha, fun x hx => ?_⟩
  rcases hx with hx | hx
  ·simp at hx
  ·exact Option.isSome_iff_exists.mp hx
 | cons p r ih =>
  intro acc hf ha
  obtain ⟨n, k⟩ := p
  have hr : ∀ p ∈ r, p.2 = .free → ∃ c, env.cells.lookup p.1 = some c := fun p hp => hf p (List.mem_cons_of_mem _ hp)
  by_cases hk : k = .free
  ·subst hk
   obtain ⟨c, hc⟩ := hf (n, .free) List.mem_cons_self rfl
   obtain ⟨cl, h1, h2, h3⟩ := ih ((n, c) :: acc) hr (fun x c' e => by
    rw [List.lookup_cons] at e
    cases hx : x == n with
    | true =>
     rw [hx] at e
     have := eq_of_beq hx
     subst this
     cases e
     exact hc
    | false => rw [hx] at e; exact ha x c' e)
   refine ⟨cl, ?_, h2, fun x hx => h3 x ?_⟩
   ·rw [List.forIn_cons]
    have : cellOf env n = pure c := by unfold cellOf; rw [hc]
    simp only [beq_self_eq_true, if_true, this]
    exact h1
   ·rcases hx with hx | hx
    ·rw [List.lookup_cons] at hx
     cases hq : x == n with
     | true => right; rw [List.lookup_cons, hq]; rfl
     | false => rw [hq] at hx; exact .inl hx
    ·right
     rw [List.lookup_cons]
     cases hq : x == n with
     | true => rfl
     | false => exact hx
  ·have hb : (k == NameKind.free) = false := by simpa using hk
   obtain ⟨cl, h1, h2, h3⟩ := ih acc hr ha
   refine ⟨cl, ?_, h2, fun x hx => h3 x ?_⟩
   ·rw [List.forIn_cons]
    simp only [hb, Bool.false_eq_true, if_false]
    exact h1
   ·rcases hx with hx | hx
    ·rw [List.lookup_cons] at hx
     cases hq : x == n with
     | true => rw [hq] at hx; cases hx; exact absurd rfl hk
     | false => rw [hq] at hx; exact .inl hx
    ·exact .inr hx
theorem closure_free {scope : Scope} {env : Env} (hf : ∀ p ∈ scope.names, p.2 = .free → ∃ c, env.cells.lookup p.1 = some c) :
  ∃ cl, closureFor scope env = pure cl ∧ (∀ x c, cl.lookup x = some c → env.cells.lookup x = some c) ∧ (∀ x, scope.names.lookup x = some .free → ∃ c, cl.lookup x = some c) := by
 obtain ⟨cl, h1, h2, h3⟩ := closure_loop env scope.names [] hf (fun _ _ e => by simp at e)
 refine ⟨cl, ?_, h2, fun x hx => h3 x (.inl hx)⟩
 unfold closureFor
 simp only []
 have : ((forIn scope.names ([] : List (Str × Addr)) (fun (x : Str × NameKind) cs =>
    (if (x.2 == NameKind.free) = true then (do let a ← cellOf env x.1; pure (ForInStep.yield ((x.1, a) :: cs))) else pure (ForInStep.yield cs))) : Sem (List (Str × Addr))) >>= fun r => pure r) = pure cl := by
  rw [h1]; rfl
 exact this
noncomputable def IxOk (N : List Str) (around : Scope) (scope : Scope) : List Str → List (Option Nat) → Prop
 | [], [] => True
 | y :: r, some j :: t => (N[j]? = some y ∧ scope.names.lookup y = some .free ∧ (around.names.lookup y = some .cell ∨ around.names.lookup y = some .free)) ∧ IxOk N around scope r t
 | _ :: r, none :: t => IxOk N around scope r t
 | _, _ => False
theorem IxOk.at {N : List Str} {around scope : Scope} : ∀ {N' : List Str} {ix : List (Option Nat)}, IxOk N around scope N' ix → ∀ (i : Nat) (y : Str) (j : Nat), N'[i]? = some y → ix[i]? = some (some j) →
  N[j]? = some y ∧ scope.names.lookup y = some .free ∧ (around.names.lookup y = some .cell ∨ around.names.lookup y = some .free)
 | [], _, _, i, y, j, e, _ => by simp at e
 | _ :: _, [], h, _, _, _, _, _ => h.elim
 | y' :: r, some j' :: t, h, 0, y, j, e, e' => by
  simp at e e'
  subst e e'
  exact h.1
 | y' :: r, some j' :: t, h, i + 1, y, j, e, e' => IxOk.at (N' := r) (ix := t) h.2 i y j (by simpa using e) (by simpa using e')
 | y' :: r, none :: t, h, 0, y, j, e, e' => by simp at e'
 | y' :: r, none :: t, h, i + 1, y, j, e, e' => IxOk.at (N' := r) (ix := t) h i y j (by simpa using e) (by simpa using e')
theorem IxOk.len {N : List Str} {around scope : Scope} : ∀ {N' : List Str} {ix : List (Option Nat)}, IxOk N around scope N' ix → ix.length = N'.length
 | [], [], _ => rfl
 | [], _ :: _, h => h.elim
 | _ :: _, [], h => h.elim
 | _ :: r, some _ :: t, h => by simp [IxOk.len (N' := r) (ix := t) h.2]
 | _ :: r, none :: t, h => by simp [IxOk.len (N' := r) (ix := t) h]
noncomputable def innerSt (ix : List (Option Nat)) (σ : St) : St := ix.map fun o => match o with
 | none => none
 | some j => match σ[j]? with
  | some v => v
  | none => none
structure CompOk (X : Cx) (scope : Scope) (N' : List Str) (ix : List (Option Nat)) : Prop where
 kind : scope.kind = .function
 cell : ∀ y ∈ scope.names, y.2 ≠ .cell
 names : ∀ y ∈ scope.names, y.2 = .local → scope.names.lookup y.1 = some .local
 free : ∀ y ∈ scope.names, y.2 = .free → X.env.scope.names.lookup y.1 = some .cell ∨ X.env.scope.names.lookup y.1 = some .free
 ixs : IxOk X.N X.env.scope scope N' ix
noncomputable def Cx.comp (X : Cx) (scope : Scope) (N' : List Str) (cl : List (Str × Addr)) (C : Addr) (s : Shared) (H : Hp) (fp : List Addr) : Cx where
 prog := X.prog
 w := X.w
 K := X.K
 mg := X.mg
 base := X.base
 A := X.A
 N := N'
 s₀ := s
 H₀ := H
 env := compEnvC scope cl C X.env
 outer := X.stack
 stack := X.stack
 ex := fp
 fn := fun _ => false
 calm := true
 pn := []
 xe := fun _ _ => False
theorem lookup_relabel {env : Env} {scope : Scope} {x : Str} {k : NameKind} : (relabel scope env).names.lookup x = some k → k = .cell ∨ k = .free → (∀ y ∈ scope.names, y.2 ≠ .cell) → scope.names.lookup x = some .free := by
 unfold relabel
 dsimp only
 generalize scope.names = names
 intro h hk hc
 induction names with
 | nil => simp at h
 | cons p r ih =>
  obtain ⟨n, k'⟩ := p
  rw [List.map_cons, List.lookup_cons] at h
  rw [List.lookup_cons]
  by_cases hf : k' = .free
  ·subst hf
   cases hq : x == n with
   | true => rfl
   | false =>
    refine ih ?_ fun y hy => hc y (List.mem_cons_of_mem _ hy)
    split at h
    ·rename_i hh; simp only [hq] at hh; split at hh <;> exact absurd hh (by simp [hq])
    ·exact h
  ·have hb : (k' == NameKind.free) = false := by simpa using hf
   simp only [hb, Bool.false_and, Bool.false_eq_true, if_false] at h
   cases hq : x == n with
   | true =>
    rw [hq] at h
    simp only [Option.some.injEq] at h
    subst h
    rcases hk with hk | hk
    ·exact absurd hk (hc (n, k') List.mem_cons_self)
    ·exact absurd hk hf
   | false =>
    rw [hq] at h
    exact ih h fun y hy => hc y (List.mem_cons_of_mem _ hy)
theorem relabel_free {env : Env} {scope : Scope} {x : Str} (h : scope.names.lookup x = some .free) : (relabel scope env).names.lookup x = some .cell ∨ (relabel scope env).names.lookup x = some .free := by
 unfold relabel
 dsimp only
 generalize scope.names = names at h
 induction names with
 | nil => simp at h
 | cons p r ih =>
  obtain ⟨n, k'⟩ := p
  rw [List.lookup_cons] at h
  rw [List.map_cons]
  cases hq : x == n with
  | true =>
   rw [hq] at h
   simp only [Option.some.injEq] at h
   subst h
   by_cases hc : (env.scope.kind == ScopeKind.function && env.kindOf n == some NameKind.cell) = true
   ·left
    simp only [beq_self_eq_true, Bool.true_and, hc, if_true, List.lookup_cons, hq]
   ·right
    simp only [beq_self_eq_true, Bool.true_and, hc, Bool.false_eq_true, if_false, List.lookup_cons, hq]
  | false =>
   rw [hq] at h
   have := ih h
   by_cases hc : (k' == NameKind.free && env.scope.kind == ScopeKind.function && env.kindOf n == some NameKind.cell) = true
   ·simp only [hc, if_true, List.lookup_cons, hq]; exact this
   ·simp only [hc, Bool.false_eq_true, if_false, List.lookup_cons, hq]; exact this
end L2
namespace L2
open PySem PySem.Spec PyProof.Rows
section
variable {X : Cx} {pins : List (Addr × Obj)} {σ : St} {H : Hp} {s : Shared}
theorem Inv.track {D : Addr} {its : List Value} {n : Nat} {ys : List V} (I : Inv X pins σ H s) (hn : H D = none) (hL : D ≠ X.env.locals) (h1 : X.s₀.heap.objs.size ≤ D)
  (h2 : ∀ x c, X.env.cells.lookup x = some c → c ≠ D) (h3 : ∀ p ∈ X.pn ++ pins, p.1 ≠ D) (ho : s.heap.get? D = some { cls := .type "list", data := .seq its.toArray n }) (r : Vals ys its) (hz : ys.length ≤ sizeLine) :
  Inv X pins σ (upd H D (.lst ys)) s := by
 have ne : ∀ b u, H b = some u → b ≠ D := fun b u e z => by rw [z, hn] at e; cases e
 have ne0 : ∀ b o, X.s₀.heap.get? b = some o → b ≠ D := fun b o e => Nat.ne_of_lt (Nat.lt_of_lt_of_le (Heap.lt_size e) h1)
 refine ⟨I.ok, I.os, I.bare, ⟨I.base.keep, I.base.slot, fun b o e n' hx => ?_, I.base.there, fun b xs e => ?_, fun b o u e => ?_, fun b ps e => ?_⟩, I.loc, I.cell, ?_, fun x c e => ?_, fun p hp => ?_, fun b u e => ?_, I.len⟩
 ·rw [upd_ne (ne0 b o e)]; exact I.base.free b o e n' hx
 ·have q := I.base.tups b xs e
  rw [upd_ne (ne _ _ q)]; exact q
 ·have q := I.base.frzs b o u e
  rw [upd_ne (ne _ _ q)]; exact q
 ·obtain ⟨more, q⟩ := I.base.tbls b ps e
  exact ⟨more, by rw [upd_ne (ne _ _ q)]; exact q⟩
 ·rw [upd_ne (Ne.symm hL)]; exact I.free
 ·rw [upd_ne (h2 x c e)]; exact I.freeC x c e
 ·obtain ⟨a1, a2, a3⟩ := I.pin p hp
  exact ⟨a1, by rw [upd_ne (h3 p hp)]; exact a2, a3⟩
 ·by_cases hb : b = D
  ·subst hb
   rw [upd_same] at e
   cases e
   exact ⟨hz, its, n, r, ho⟩
  ·rw [upd_ne hb] at e
   refine (I.hok b u e).stay (fun c v hc q => q) (fun c q => ?_) fun c xs q => ?_
   ·rw [upd_ne (ne _ _ q)]; exact q
   ·rw [upd_ne (ne _ _ q)]; exact q
theorem Inv.comp {scope : Scope} {N' : List Str} {ix : List (Option Nat)} {cl : List (Str × Addr)} {C : Addr} {fp : List Addr} {h' : Heap} {t' : Nat} (I : Inv X pins σ H s) (co : CompOk X scope N' ix)
  (hcl1 : ∀ x c, cl.lookup x = some c → X.env.cells.lookup x = some c) (hcl2 : ∀ x, scope.names.lookup x = some .free → ∃ c, cl.lookup x = some c) (hc : X.calm = true)
  (hC : s.heap.objs.size ≤ C) (hns : h'.Ns C fun _ => none) (hk : ∀ b o, s.heap.get? b = some o → h'.get? b = some o) (hf : ∀ b ∈ fp, FpOk X pins H b) (hfz : ∀ b ∈ fp, b < s.heap.objs.size) :
  Inv (X.comp scope N' cl C s H fp) [] (innerSt ix σ) H { s with heap := h', toks := t' } := by
 have lookK : ∀ x k, (compEnvC scope cl C X.env).kindOf x = some k → k = .cell ∨ k = .free → scope.names.lookup x = some .free := fun x k e hk' => lookup_relabel (env := X.env) e hk' co.cell
 have ok : (X.comp scope N' cl C s H fp).Ok := by
  refine ⟨I.ok.mod, co.kind, I.ok.glob, I.ok.blt, hC, fun x y c e1 e2 => I.ok.inj x y c (hcl1 x c e1) (hcl1 y c e2), fun x hx => ?_, fun x c e => (by cases e), fun _ => I.ok.hd hc, I.ok.frames, .inl rfl, fun b hb => ⟨?_, fun x c e => ?_⟩, I.bs, ?_, fun b o e hb => ?_, fun b hb z => ?_, I.stack, I.stkFree⟩
  ·refine hcl2 x ?_
   rcases hx with e | e
   ·exact lookK x _ e (.inl rfl)
   ·exact lookK x _ e (.inr rfl)
  ·exact Nat.ne_of_lt (Nat.lt_of_lt_of_le (hfz b hb) hC)
  ·exact (hf b hb).2.2.2.2.1 x c (hcl1 x c e)
  ·exact Nat.le_trans I.ok.bsz I.sz
  ·rcases (hf b hb).2.2.2.1 with z | z
   ·exact I.ok.noex b o e z
   ·exact absurd (Nat.lt_of_lt_of_le (Heap.lt_size (I.ok.bs b o e).1) z) (Nat.lt_irrefl _)
  ·rcases List.mem_cons.mp (I.stkSub b z) with q | q
   ·exact (hf b hb).2.1 q
   ·exact (hf b hb).2.2.1 q
 refine ⟨ok, rfl, I.bare, Un.kept hk, ⟨_, hns, fun i y v e1 e2 e3 => ?_⟩, fun x c e => ?_, ?_, fun x c e => I.freeC x c (hcl1 x c e), (fun p hp => by cases hp), I.hok.kept hk, ?_⟩
 ·-- a name of the frame around
  have e1' : N'[i]? = some y := e1
  have e2' : (innerSt ix σ)[i]? = some (some v) := e2
  unfold innerSt at e2'
  rw [List.getElem?_map] at e2'
  cases hix : ix[i]? with
  | none => rw [hix] at e2'; cases e2'
  | some o =>
   rw [hix] at e2'
   cases o with
   | none => cases e2'
   | some j =>
    have hj : σ[j]? = some (some v) := by
     cases hs : σ[j]? with
     | none => simp only [Option.map_some, hs] at e2'; cases e2'
     | some o =>
      simp only [Option.map_some, hs, Option.some.injEq] at e2'
      rw [e2']
    obtain ⟨a1, a2, a3⟩ := co.ixs.at i y j e1' hix
    obtain ⟨m, hm, hl⟩ := I.loc
    obtain ⟨u, r, l⟩ := hl j y v a1 hj (by rcases a3 with z | z; exact .inr (.inl z); exact .inr (.inr z))
    refine ⟨u, r, .inr ⟨relabel_free a2, ?_⟩⟩
    obtain ⟨c, hc'⟩ := hcl2 y a2
    refine ⟨c, hc', ?_⟩
    rcases l with ⟨z, _⟩ | ⟨_, c', e', o, ho, hd⟩
    ·have z' : X.env.scope.names.lookup y = some .local := z
     rcases a3 with q | q <;> rw [z'] at q <;> cases q
    ·have : c' = c := Option.some.inj (e'.symm.trans (hcl1 y c hc'))
     subst this
     exact ⟨o, hk _ _ ho, hd⟩
 ·obtain ⟨v, o, ho, hd⟩ := I.cell x c (hcl1 x c e)
  exact ⟨v, o, hk _ _ ho, hd⟩
 ·exact I.hok.fresh hC
 ·show (innerSt ix σ).length = N'.length
  unfold innerSt
  rw [List.length_map]
  exact co.ixs.len
end
end L2
namespace L2
open PySem PySem.Spec PyProof.Rows
noncomputable def CompGoIf (J : It) (g : TG) (tc : TT) (te : TE) (Q : VK) (σ₀ : St) (H1 : Hp) : Prop := ∃ (W : Nat → List V → St → Hp → Prop) (n : Nat), n ≤ sizeLine ∧ W 0 [] σ₀ H1 ∧ ∀ i ys σ H, i ≤ n → W i ys σ H →
 (J.stop i H ∧ ∀ p, H p = none → Q (.ref p) (upd H p (.lst ys))) ∨ (i < n ∧ J.go i H ∧ ∀ x H', J.yld i H x H' → g x σ H' fun σ2 H2 => tc σ2 H2 fun b H3 => if b = true then te σ2 H3 fun y H4 => W (i + 1) (ys ++ [y]) σ2 H4 else W (i + 1) ys σ2 H3)
noncomputable def tCompIf (wi : TI) (ix : List (Option Nat)) (g : TG) (tc : TT) (te : TE) : TE := fun σ H Q => wi σ H fun J H1 => CompGoIf J g tc te Q (innerSt ix σ) H1
section
variable {X : Cx} {tg iter elt c : Expr} {scope : Scope} {pos : Pos} {N' : List Str} {ix : List (Option Nat)} {wi : TI} {g : TG} {te : TE} {tc : TT}
structure CompMid (X : Cx) (scope : Scope) (N' : List Str) (cl : List (Str × Addr)) (C D : Addr) (s₂ : Shared) (H₂ : Hp) (fp : List Addr) (tn : Nat → Heap → Prop) (W : Nat → List V → St → Hp → Prop) (i : Nat) (ys : List V) (σ' : St) (H' : Hp) (s' : Shared) : Prop where
 inv : ∃ us : List Value, Vals ys us ∧ Inv (X.comp scope N' cl C s₂ H₂ fp) [(D, { cls := .type "list", data := .seq us.toArray us.length })] σ' H' s'
 tn : tn i s'.heap
 fpn : ∀ b ∈ fp, H' b = none
 len : ys.length ≤ i
 w : W i ys σ' H'
theorem comp_end {pins : List (Addr × Obj)} {σ : St} {H₂ : Hp} {s₂ : Shared} {cl : List (Str × Addr)} {C D : Addr} {fp : List Addr} {Q : VK} {ys : List V} {us : List Value} {σ' : St} {H' : Hp} {s' : Shared}
  (I₂ : Inv X pins σ H₂ s₂) (f2 : ∀ b ∈ fp, FpOk X pins H₂ b) (hD : s₂.heap.objs.size ≤ D) (hC : s₂.heap.objs.size ≤ C) (hDC : D ≠ C) (r : Vals ys us)
  (I' : Inv (X.comp scope N' cl C s₂ H₂ fp) [(D, { cls := .type "list", data := .seq us.toArray us.length })] σ' H' s') (hz : ys.length ≤ sizeLine) (q : ∀ p, H' p = none → Q (.ref p) (upd H' p (.lst ys))) :
  ∃ m, s'.heap.Ns C m ∧ ∀ h', Heap.SameBut C s'.heap h' → EP X pins σ Q (.ref D) { s' with heap := h' } := by
 obtain ⟨m, hm, _⟩ := I'.loc
 refine ⟨m, hm, fun h' sb => ?_⟩
 have new : ∀ a, s₂.heap.objs.size ≤ a → a ≠ X.env.locals ∧ X.s₀.heap.objs.size ≤ a ∧ (∀ x c, X.env.cells.lookup x = some c → c ≠ a) ∧ ∀ p ∈ X.pn ++ pins, p.1 ≠ a := fun a ha => by
  refine ⟨Nat.ne_of_gt (Nat.lt_of_lt_of_le I₂.lt ha), Nat.le_trans I₂.sz ha, fun x c e => ?_, fun p hp => ?_⟩
  ·obtain ⟨v, o, ho, _⟩ := I₂.cell x c e
   exact Nat.ne_of_lt (Nat.lt_of_lt_of_le (Heap.lt_size ho) ha)
  ·exact Nat.ne_of_lt (Nat.lt_of_lt_of_le (Heap.lt_size (I₂.pin p hp).1) ha)
 have I3 : Inv X pins σ H' s' := I₂.call' I'.os I'.base I'.hok I'.bare fun b hb => ⟨(f2 b hb).2.2.2.1, (f2 b hb).2.1, (f2 b hb).2.2.2.2.1, (f2 b hb).2.2.2.2.2⟩
 obtain ⟨eD, nD, _, _, _⟩ := I'.pin (D, { cls := .type "list", data := .seq us.toArray us.length }) (by simp)
 obtain ⟨c1, c2, c3, c4⟩ := new C hC
 have I4 : Inv X pins σ H' { s' with heap := h' } := I3.turned (t' := s'.toks) (it := C) (fun b o hb e => (sb.2 b hb).trans e) I'.free c1 (.inr c2) c3 c4
 obtain ⟨d1, d2, d3, d4⟩ := new D hD
 have I5 := I4.track (D := D) (ys := ys) nD d1 d2 d3 d4 ((sb.2 D hDC).trans eD) r hz
 exact ⟨.ref D, _, I5, rfl, q D nD⟩
theorem comp_app {H₂ : Hp} {s₂ : Shared} {cl : List (Str × Addr)} {C D : Addr} {fp : List Addr} {ys : List V} {us : List Value} {σ' : St} {H' : Hp} {s' : Shared} {pl : List (Addr × Obj)} {y : V} {u : Value} {Q : Value → Shared → Prop} {E : Value → Shared → Prop}
  (hD : s₂.heap.objs.size ≤ D) (hDC : D ≠ C) (hcl : ∀ x c, cl.lookup x = some c → c ≠ D) (r : Vals ys us) (ry : RelV y u) (hz : ys.length < sizeLine)
  (I' : Inv (X.comp scope N' cl C s₂ H₂ fp) ([(D, { cls := .type "list", data := .seq us.toArray us.length })] ++ pl) σ' H' s') (hp : ∀ p ∈ pl, p.1 ≠ D)
  (h : ∀ s'', Inv (X.comp scope N' cl C s₂ H₂ fp) ([(D, { cls := .type "list", data := .seq (us ++ [u]).toArray (us ++ [u]).length })] ++ pl) σ' H' s'' → Q .none s'') :
  wpAny (model X.prog X.w) X.A (call (.builtin "list.append") [.ref D, u]) Q E s' := by
 obtain ⟨eD, nD, neD, nfD, ndD⟩ := I'.pin (D, { cls := .type "list", data := .seq us.toArray us.length }) (by simp)
 refine append_at eD (fun h₅ hs₅ hD₅ => h _ ?_) (by simp only [List.size_toArray]; rw [← r.length]; exact Nat.le_of_lt hz)
 have I1 : Inv (X.comp scope N' cl C s₂ H₂ fp) pl σ' H' s' := I'.pins_of fun p hp' => I'.pin p (List.mem_append_right _ (List.mem_append_right _ hp'))
 have I2 : Inv (X.comp scope N' cl C s₂ H₂ fp) pl σ' H' { s' with heap := h₅ } := I1.turned (t' := s'.toks) (it := D) (fun b o hb e => (hs₅.2 b hb).trans e) nD neD (.inr hD) hcl (fun p hp' => hp p (by simpa [Cx.comp] using hp'))
 refine I2.pins_of fun p hp' => ?_
 rcases List.mem_append.mp hp' with z | z
 ·obtain rfl := List.mem_singleton.mp z
  refine ⟨?_, nD, neD, nfD, fun v z => by cases z⟩
  rw [hD₅, List.length_append, List.length_singleton, List.push_toArray]
 ·exact I2.pin p (List.mem_append_right _ z)
end
end L2
namespace L2
open PySem PySem.Spec PyProof.Rows
section
variable {X : Cx} {tg iter elt c : Expr} {scope : Scope} {pos : Pos} {N' : List Str} {ix : List (Option Nat)} {wi : TI} {g : TG} {te : TE} {tc : TT}
theorem comp_end_use {pins : List (Addr × Obj)} {σ : St} {H₂ : Hp} {s₂ : Shared} {cl : List (Str × Addr)} {C D : Addr} {fp : List Addr} {ys : List V} {us : List Value} {σ' : St} {H' : Hp} {s' : Shared} {i : Nat} {x : Str} {py : Pos} {Q : Value → Shared → Prop}
  (hN : X.N.Nodup) (hi : X.N[i]? = some x) (hx : Loc X.env.scope x) (hf : X.fn x = true ∨ X.env.scope.names.lookup x = some .local)
  (I₂ : Inv X pins σ H₂ s₂) (f2 : ∀ b ∈ fp, FpOk X pins H₂ b) (hD : s₂.heap.objs.size ≤ D) (hC : s₂.heap.objs.size ≤ C) (hDC : D ≠ C) (r : Vals ys us)
  (I' : Inv (X.comp scope N' cl C s₂ H₂ fp) [(D, { cls := .type "list", data := .seq us.toArray us.length })] σ' H' s') (hz : ys.length ≤ sizeLine)
  (q : ∀ s'', Inv X pins (σ.set i (some (.ref D))) (upd H' D (.lst ys)) s'' → H' D = none → Q .none s'') :
  wpAny (model X.prog X.w) X.A (assign (.Name x py) X.env (.ref D)) (fun _ s'' => ∃ m, s''.heap.Ns C m ∧ ∀ h', Heap.SameBut C s''.heap h' → Q .none { s'' with heap := h' }) X.xe s' := by
 obtain ⟨m, hm, _⟩ := I'.loc
 have new : ∀ a, s₂.heap.objs.size ≤ a → a ≠ X.env.locals ∧ X.s₀.heap.objs.size ≤ a ∧ (∀ x c, X.env.cells.lookup x = some c → c ≠ a) ∧ ∀ p ∈ X.pn ++ pins, p.1 ≠ a := fun a ha => by
  refine ⟨Nat.ne_of_gt (Nat.lt_of_lt_of_le I₂.lt ha), Nat.le_trans I₂.sz ha, fun x c e => ?_, fun p hp => ?_⟩
  ·obtain ⟨v, o, ho, _⟩ := I₂.cell x c e
   exact Nat.ne_of_lt (Nat.lt_of_lt_of_le (Heap.lt_size ho) ha)
  ·exact Nat.ne_of_lt (Nat.lt_of_lt_of_le (Heap.lt_size (I₂.pin p hp).1) ha)
 have I3 : Inv X pins σ H' s' := I₂.call' I'.os I'.base I'.hok I'.bare fun b hb => ⟨(f2 b hb).2.2.2.1, (f2 b hb).2.1, (f2 b hb).2.2.2.2.1, (f2 b hb).2.2.2.2.2⟩
 obtain ⟨eD, nD, _, _, _⟩ := I'.pin (D, { cls := .type "list", data := .seq us.toArray us.length }) (by simp)
 obtain ⟨c1, c2, c3, c4⟩ := new C hC
 obtain ⟨d1, d2, d3, d4⟩ := new D hD
 have I5 := I3.track (D := D) (ys := ys) nD d1 d2 d3 d4 eD r hz
 refine wpAny_assign_Name (store_ok2 I5 hN hi hx (v := .ref D) rfl (fun s'' I'' ⟨a, sb, ha⟩ => ?_) hf)
 have haC : a ≠ C := by
  rcases ha with rfl | ha
  ·exact c1.symm
  ·exact c3 _ _ ha
 refine ⟨m, hm.sameBut sb haC.symm, fun h' sb' => q _ ?_ nD⟩
 exact I''.turned (t' := s''.toks) (it := C) (fun b o hb e => (sb'.2 b hb).trans e) (by rw [upd_ne hDC.symm]; exact I'.free) c1 (.inr c2) c3 c4
theorem kcg_loop {prog : Program} {w : World} {A : Around} {s : Shared} {elt target iter : Expr} {ifs : List Expr} {scope : Scope} {pos : Pos} {it acc : Value} {env : Env} {R : Result → Shared → Prop} (I : Nat → Shared → Prop)
  (turn : ∀ n s, I n s → wpAny (model prog w) A (pyNext it) (fun r s₁ => match r with
   | none => R (.ok .next) s₁
   | some v => wpAny (model prog w) A (letOwnedTupleGo target it v) (fun _ s₀ => wpAny (model prog w) A (assign target env v) (fun _ s₂ =>
     wpAny (model prog w) A (forIn ifs true fun c r => if r = true then do let ok ← isTrue c env (eval c env); pure (ForInStep.yield ok) else pure (ForInStep.yield r)) (fun ok s₃ => if ok = true then wpAny (model prog w) A (eval elt env) (fun x s₄ =>
      wpAny (model prog w) A (call (.builtin "list.append") [acc, x]) (fun _ s₅ => ∃ m, m < n ∧ I m s₅) (notedBy (model prog w) A env fun e s' => R (.error e) s') s₄) (notedBy (model prog w) A env fun e s' => R (.error e) s') s₃
      else ∃ m, m < n ∧ I m s₃) (notedBy (model prog w) A env fun e s' => R (.error e) s') s₂)
     (notedBy (model prog w) A env fun e s' => R (.error e) s') s₀) (notedBy (model prog w) A env fun e s' => R (.error e) s') s₁) (notedBy (model prog w) A env fun e s' => R (.error e) s') s)
  (n : Nat) (h : I n s) : codeAny (model prog w) A (.compLoop (.ListComp elt [⟨target, iter, ifs, 0⟩] scope pos) 0 it acc env) R s := by
 refine codeAny_loop rfl I (fun n s hI => ?_) n h
 show wpAny _ A ((compTurn (.ListComp elt [⟨target, iter, ifs, 0⟩] scope pos) 0 it acc env).onRaise (fun x => do noteFrame x env; theTreesLotGoes x)) _ _ s
 refine wpAny_noted ?_
 rw [compTurn_list]
 refine wpAny_bind (wpAny_standAt (wpAny_bind (wpAny_mono (turn n s hI) (fun r s₁ h₁ => ?_) fun _ _ h' => h')))
 cases r with
 | none => exact wpAny_pure h₁
 | some v =>
  refine wpAny_bind (wpAny_mono h₁ (fun _ s₀ h₀' => ?_) fun _ _ h' => h')
  refine wpAny_bind (wpAny_mono h₀' (fun _ s₂ h₂ => ?_) fun _ _ h' => h')
  refine wpAny_bind (wpAny_mono h₂ (fun okb s₃ h₃ => ?_) fun _ _ h' => h')
  cases okb with
  | false => exact wpAny_pure ⟨rfl, h₃⟩
  | true => exact wpAny_bind (wpAny_bind (wpAny_mono h₃ (fun x s₄ h₄ => wpAny_bind (wpAny_mono h₄ (fun _ s₅ h₅ => wpAny_pure (wpAny_pure ⟨rfl, h₅⟩)) fun _ _ h' => h')) fun _ _ h' => h'))
noncomputable def PTs (X : Cx) (ifs : List Expr) (t : TT) : Prop :=
 ∀ (pins : List (Addr × Obj)) (s : Shared) (σ : St) (H : Hp) (Q : Bool → Hp → Prop), Inv X pins σ H s → t σ H Q → wpAny (model X.prog X.w) X.A (forIn ifs true fun c r => if r = true then do let ok ← isTrue c X.env (eval c X.env); pure (ForInStep.yield ok) else pure (ForInStep.yield r)) (TP X pins σ Q) X.xe s
theorem pts_one (h : PT X c tc) : PTs X [c] tc := fun pins s σ H Q I q => wpAny_tests_one (h pins s σ H Q I q)
theorem pts_nil (h : ∀ σ H Q, tc σ H Q → Q true H) : PTs X [] tc := fun pins s σ H Q I q => wpAny_tests_nil ⟨H, I, h σ H Q q⟩
theorem comp_runG {ifs : List Expr} {use : Option (Value → Sem Unit)} {Qf : Value → Shared → Prop} {pins : List (Addr × Obj)} {s : Shared} {σ : St} {H : Hp} {ps : Pos} (hc : X.calm = true) (co : CompOk X scope N' ix) (hi : PI X tg iter wi) (hg : ∀ cl C s H fp, PG (X.comp scope N' cl C s H fp) tg g) (ht : ∀ cl C s H fp, PTs (X.comp scope N' cl C s H fp) ifs tc) (he : ∀ cl C s H fp, PE (X.comp scope N' cl C s H fp) elt te)
  (hs : ∀ x, foldedSetIterable iter X.env x = pure x := by intro _; rfl)
  (I : Inv X pins σ H s) (h : wi σ H fun J H1 => ∃ Q : VK, CompGoIf J g tc te Q (innerSt ix σ) H1 ∧ ∀ {H₂ : Hp} {s₂ : Shared} {cl : List (Str × Addr)} {C D : Addr} {fp : List Addr} {ys : List V} {us : List Value} {σ' : St} {H' : Hp} {s' : Shared}, Inv X pins σ H₂ s₂ → (∀ b ∈ fp, FpOk X pins H₂ b) → s₂.heap.objs.size ≤ D → s₂.heap.objs.size ≤ C → D ≠ C → Vals ys us →
   Inv (X.comp scope N' cl C s₂ H₂ fp) [(D, { cls := .type "list", data := .seq us.toArray us.length })] σ' H' s' → ys.length ≤ sizeLine → (∀ p, H' p = none → Q (.ref p) (upd H' p (.lst ys))) → compPost (model X.prog X.w) X.A X.xe use Qf (.ref D) C (.ok .next) s') :
  wpAny (model X.prog X.w) X.A (comprehension (.ListComp elt [⟨tg, iter, ifs, 0⟩] scope pos) scope X.env ps (newList []) false (eval iter X.env) use) Qf X.xe s := by
 obtain ⟨cl, hclos, hcl1, hcl2⟩ := closure_free (scope := scope) (env := X.env) fun p hp e => by
  rcases co.free p hp e with z | z
  ·exact I.ok.has p.1 (.inl z)
  ·exact I.ok.has p.1 (.inr z)
 refine wpAny_comprehension_free (use := use) rfl hs hclos co.kind co.names (thn (hi pins s σ H _ I h) fun v s1 h1 => thn h1 fun itv s₂ h2 => ?_)
 obtain ⟨it, fp, tn, J, H₂, rfl, I₂, T, st2, f2, Q, ⟨W, n, hn, w0, turn⟩, fin⟩ := h2
 refine wpAny_newObj_type (wpAny_newFunctionEnv co.cell (by intro y hy; simp at hy) (fun h₁ hns₁ hsb₁ => ?_) co.kind)
 dsimp only at hns₁ hsb₁ ⊢
 generalize hH2 : s₂.heap.push { cls := .type "list", dict := none, data := .seq ([] : List Value).toArray } = H2 at hns₁ hsb₁ ⊢
 have hC : H2.objs.size = s₂.heap.objs.size + 1 := by rw [← hH2, Heap.size_push]
 have hCle : s₂.heap.objs.size ≤ H2.objs.size := by omega
 have hDC : s₂.heap.objs.size ≠ H2.objs.size := by omega
 have old : ∀ b o, s₂.heap.get? b = some o → h₁.get? b = some o := fun b o e => hsb₁.extBut b o (Nat.ne_of_lt (by rw [hC]; exact Nat.lt_succ_of_lt (Heap.lt_size e))) (Heap.get?_push_of_some _ (hH2 ▸ Heap.get?_push_of_some _ e))
 have hacc : h₁.get? s₂.heap.objs.size = some { cls := .type "list", data := .seq ([] : List Value).toArray } := hsb₁.extBut _ _ hDC (Heap.get?_push_of_some _ (hH2 ▸ Heap.get?_push_size _ rfl))
 have hfz : ∀ b ∈ fp, b < s₂.heap.objs.size := fun b hb => by
  obtain ⟨o, e, _⟩ := T.obj _ _ st2 b hb
  exact Heap.lt_size e
 have hclD : ∀ x c, cl.lookup x = some c → c ≠ s₂.heap.objs.size := fun x c e => by
  obtain ⟨v, o, ho, _⟩ := I₂.cell x c (hcl1 x c e)
  exact Nat.ne_of_lt (Heap.lt_size ho)
 have st0 : tn 0 h₁ := T.keep _ _ _ st2 fun b hb o e => old b o e
 have loop : ∀ s₃ : Shared, s₃ = { s₂ with heap := h₁, toks := s₂.toks + ([] : List (Str × Value)).length } →
   codeAny (model X.prog X.w) X.A (.compLoop (.ListComp elt [⟨tg, iter, ifs, 0⟩] scope pos) 0 (.ref it) (.ref s₂.heap.objs.size) (compEnvC scope cl H2.objs.size X.env))
    (compPost (model X.prog X.w) X.A X.xe use Qf (.ref s₂.heap.objs.size) H2.objs.size) s₃ := by
  rintro s₃ rfl
  have I0 := I₂.comp (t' := s₂.toks + ([] : List (Str × Value)).length) co hcl1 hcl2 hc hCle hns₁ old f2 hfz
  have nof : s₂.heap.objs.size ∉ (X.comp scope N' cl H2.objs.size s₂ H₂ fp).fs := fun z => by
   obtain ⟨_, o, ho, _⟩ := I0.ok.funs.mem z
   exact absurd (Heap.lt_size ho) (Nat.lt_irrefl _)
  have I0' : Inv (X.comp scope N' cl H2.objs.size s₂ H₂ fp) [(s₂.heap.objs.size, { cls := .type "list", data := .seq ([] : List Value).toArray ([] : List Value).length })] (innerSt ix σ) H₂ { s₂ with heap := h₁, toks := s₂.toks + ([] : List (Str × Value)).length } := I0.pins_of fun p hp => by
   obtain rfl := List.mem_singleton.mp hp
   exact ⟨hacc, I₂.fresh, hDC, nof, fun v z => by cases z⟩
  have hclC : ∀ x c, cl.lookup x = some c → c ≠ s₂.heap.objs.size := hclD
  have fpok : ∀ {us : List Value} {H' : Hp}, (∀ b ∈ fp, H' b = none) → ∀ b ∈ fp, FpOk (X.comp scope N' cl H2.objs.size s₂ H₂ fp) [(s₂.heap.objs.size, { cls := .type "list", data := .seq us.toArray us.length })] H' b := fun hn' b hb =>
   ⟨hn' b hb, (I0.ok.exf b hb).1, I0.ok.exfs b hb, .inl hb, (I0.ok.exf b hb).2, fun p hp => by
    have hp' : p ∈ [(s₂.heap.objs.size, ({ cls := .type "list", data := .seq _ _ } : Obj))] := hp
    obtain rfl := List.mem_singleton.mp hp'
    exact Nat.ne_of_gt (hfz b hb)⟩
  refine kcg_loop (fun k s' => ∃ i ys σ' H', i ≤ n ∧ k = n - i ∧ CompMid X scope N' cl H2.objs.size s₂.heap.objs.size s₂ H₂ fp tn W i ys σ' H' s') ?_ n
   ⟨0, [], innerSt ix σ, H₂, Nat.zero_le _, rfl, ⟨[], .nil, I0'⟩, st0, fun b hb => (f2 b hb).1, Nat.le_refl _, w0⟩
  rintro k s3 ⟨i, ys, σ3, H3, hi3, rfl, ⟨us, r3, I3⟩, st3, fr3, hl3, w3⟩
  have weak : ∀ {e : Value} {s' : Shared}, False → notedBy (model X.prog X.w) X.A (compEnvC scope cl H2.objs.size X.env) (fun e s' => compPost (model X.prog X.w) X.A X.xe use Qf (.ref s₂.heap.objs.size) H2.objs.size (.error e) s') e s' := fun z => z.elim
  rcases turn i ys σ3 H3 hi3 w3 with ⟨stop, q⟩ | ⟨hlt, go, step⟩
  ·refine thn (T.done (X.comp scope N' cl H2.objs.size s₂ H₂ fp) rfl rfl rfl rfl i _ s3 σ3 H3 _ I3 (fpok fr3) st3 stop) fun r s4 hh1 => ?_
   obtain ⟨hr, I4⟩ := hh1
   subst hr
   exact fin I₂ f2 (Nat.le_refl _) hCle hDC r3 I4 (by omega) q
  ·refine thn (T.item (X.comp scope N' cl H2.objs.size s₂ H₂ fp) rfl rfl rfl rfl i _ s3 σ3 H3 _ I3 (fpok fr3) st3 go) fun r s4 hh2 => ?_
   obtain ⟨u, hr, h4⟩ := hh2
   subst hr
   refine thn h4 fun _ s5 hh3 => ?_
   obtain ⟨x, H5, I5, r5, y5, st5, fr5⟩ := hh3
   have I5' := I5.pinned (fpok fr5) (T.obj _ _ st5)
   refine wpAny_mono (hg cl _ s₂ H₂ fp _ s5 σ3 H5 x u _ I5' r5 (step x H5 y5)) (fun _ s6 ⟨σ6, H6, I6, q6⟩ => ?_) fun _ _ z => weak z
   refine wpAny_mono (ht cl _ s₂ H₂ fp _ s6 σ6 H6 _ I6 q6) (fun b6 s6' ⟨H6', I6', q6'⟩ => ?_) fun _ _ z => weak z
   have hpl : ∀ p ∈ pinsAt fp s5.heap, p.1 ≠ s₂.heap.objs.size := fun p hp => Nat.ne_of_lt (hfz p.1 (of_pinsAt hp).1)
   cases b6 with
   | false =>
    have q6'' : W (i + 1) ys σ6 H6' := by simpa using q6'
    have g6 : ¬ (false = true) := by decide
    rw [if_neg g6]
    refine ⟨n - (i + 1), by omega, i + 1, ys, σ6, H6', hlt, rfl, ⟨us, r3, I6'.unpinned⟩, ?_, fun b hb => ?_, by omega, q6''⟩
    ·exact T.keep _ _ _ st5 fun b hb o e => (I6'.pin (b, o) (List.mem_append_right _ (List.mem_append_right _ (mem_pinsAt hb e)))).1
    ·obtain ⟨o, e, d⟩ := T.obj _ _ st5 b hb
     exact (I6'.pin (b, o) (List.mem_append_right _ (List.mem_append_right _ (mem_pinsAt hb e)))).2.1
   | true =>
    have q6'' : te σ6 H6' fun y H4 => W (i + 1) (ys ++ [y]) σ6 H4 := by simpa using q6'
    have g6 : true = true := rfl
    rw [if_pos g6]
    refine wpAny_mono (he cl _ s₂ H₂ fp _ s6' σ6 H6' _ I6' q6'') (fun u7 s7 ⟨y7, H7, I7, r7, q7⟩ => ?_) fun _ _ z => weak z
    refine comp_app (pl := pinsAt fp s5.heap) (Nat.le_refl _) hDC hclD r3 r7 (by omega) I7 hpl fun s8 I8 => ?_
    refine ⟨n - (i + 1), by omega, i + 1, ys ++ [y7], σ6, H7, hlt, rfl, ⟨us ++ [u7], r3.append (.cons r7 .nil), I8.unpinned⟩, ?_, fun b hb => ?_, by rw [List.length_append, List.length_singleton]; omega, q7⟩
    ·exact T.keep _ _ _ st5 fun b hb o e => (I8.pin (b, o) (List.mem_append_right _ (List.mem_append_right _ (mem_pinsAt hb e)))).1
    ·obtain ⟨o, e, d⟩ := T.obj _ _ st5 b hb
     exact (I8.pin (b, o) (List.mem_append_right _ (List.mem_append_right _ (mem_pinsAt hb e)))).2.1
 exact codeAny_compStart_list (loop _ rfl) (T.self _ 0 _ _ _ st0 (loop _ rfl))
theorem pe_compG {ifs : List Expr} (hc : X.calm = true) (co : CompOk X scope N' ix) (hit : PI X tg iter wi) (hm : ∀ σ H R R', (∀ J H1, R J H1 → R' J H1) → wi σ H R → wi σ H R') (hg : ∀ cl C s H fp, PG (X.comp scope N' cl C s H fp) tg g) (ht : ∀ cl C s H fp, PTs (X.comp scope N' cl C s H fp) ifs tc) (he : ∀ cl C s H fp, PE (X.comp scope N' cl C s H fp) elt te)
  (hs : ∀ x, foldedSetIterable iter X.env x = pure x := by intro _; rfl) : PE X (.ListComp elt [⟨tg, iter, ifs, 0⟩] scope pos) (tCompIf wi ix g tc te) := by
 intro pins s σ H Q I h
 rw [eval_ListComp]
 refine comp_runG (use := none) (Qf := EP X pins σ Q) hc co hit hg ht he hs I (hm σ H _ _ (fun J H1 q => ⟨_, q, ?_⟩) h)
 intro H₂ s₂ cl C DD fp ys us σ' H' s' I₂ f2 hD hC hDC r I' hz q
 exact comp_end I₂ f2 hD hC hDC r I' hz q
noncomputable def tAsgCompIf (wi : TI) (ix : List (Option Nat)) (g : TG) (tc : TT) (te : TE) (i : Nat) : TS := fun D σ H => tCompIf wi ix g tc te σ H fun v H1 => D.nx (σ.set i (some v)) H1
theorem PI.mono {wi wi' : TI} (h : PI X tg iter wi) (i : ∀ σ H R, wi' σ H R → wi σ H R) : PI X tg iter wi' := fun pins s σ H R I q => h pins s σ H R I (i σ H R q)
theorem ps_setCompG {ifs : List Expr} {i : Nat} {x : Str} {px sp : Pos} (hsw : swapsWith (.ListComp elt [⟨tg, iter, ifs, 0⟩] scope pos) (some (.Name x px)) sp.line X.env = pure true) (hN : X.N.Nodup) (hi : X.N[i]? = some x) (hx : Loc X.env.scope x)
  (hc : X.calm = true) (co : CompOk X scope N' ix) (hit : PI X tg iter wi) (hm : ∀ σ H R R', (∀ J H1, R J H1 → R' J H1) → wi σ H R → wi σ H R') (hg : ∀ cl C s H fp, PG (X.comp scope N' cl C s H fp) tg g) (ht : ∀ cl C s H fp, PTs (X.comp scope N' cl C s H fp) ifs tc) (he : ∀ cl C s H fp, PE (X.comp scope N' cl C s H fp) elt te)
  (hs : ∀ x, foldedSetIterable iter X.env x = pure x := by intro _; rfl) (hf : X.fn x = true ∨ X.env.scope.names.lookup x = some .local := by first | exact .inl rfl | exact .inr rfl | assumption) :
  PS X (.Assign [.Name x px] (.ListComp elt [⟨tg, iter, ifs, 0⟩] scope pos) sp) (tAsgCompIf wi ix g tc te i) := by
 intro pins s σ H D I h
 rw [exec_Assign_Name_used _ _ _ _ hsw]
 refine wpAny_bind (wpAny_standAt (wpAny_bind ?_))
 show wpAny _ X.A (do let _ ← comprehension (.ListComp elt [⟨tg, iter, ifs, 0⟩] scope pos) scope X.env _ (newList []) false (eval iter X.env) (some (assign (.Name x px) X.env))) _ _ s
 refine wpAny_bind (wpAny_mono (comp_runG (use := some (assign (.Name x px) X.env)) (Qf := fun _ s' => SP X pins D .next s') hc co hit hg ht he hs I (hm σ H _ _ (fun J H1 q => ⟨_, q, ?_⟩) h)) (fun _ s' hq => wpAny_pure (wpAny_pure hq)) fun _ _ e => e)
 intro H₂ s₂ cl C DD fp ys us σ' H' s' I₂ f2 hD hC hDC r I' hz q
 exact comp_end_use (py := px) (Q := fun _ s' => SP X pins D .next s') hN hi hx hf I₂ f2 hD hC hDC r I' hz fun s'' I'' nD => ⟨_, _, I'', q DD nD⟩
end
end L2
namespace L2
open PySem PySem.Spec PyProof.Rows
section
variable {prog : Program} {w : World} {A : Around} {E : Value → Shared → Prop} {s : Shared}
theorem zn_tuple_some {j t : Addr} {k : Nat} {xs : Array Value} {v : Value} {R : Value → Shared → Prop} (g : s.heap.IsTupleIter j t k) (gt : s.heap.IsTuple t xs) (gv : xs[k]? = some v)
  (gR : ∀ h', h'.IsTupleIter j t (k + 1) → Heap.SameBut j s.heap h' → R v { s with heap := h' }) : wpAny (model prog w) A (Builtin.SmallTypes.nextOf (.ref j)) R E s := by
 obtain ⟨oj, gj, cj, dj⟩ := id g
 obtain ⟨ot, got, _, nt, dt⟩ := gt
 unfold Builtin.SmallTypes.nextOf
 refine wpAny_bind (wpAny_callSpecial?_slot (name := Str.ofString "__next__") g.typeIs F.slot_tuple_iterator_next (wpAny_call_entry F.slot_tuple_iterator_next g.typeIs F.entry_tuple_iterator_next ?_ (F.args_tuple_iterator_next_1 _)))
 show wpAny _ _ (field (.ref j) 0 >>= _) _ _ s
 refine wpAny_bind (wpAny_field gj dj (x := .ref t) rfl ?_)
 show wpAny _ _ (ite ((Value.ref t == Value.none) = true) _ _) _ _ s
 rw [if_neg (show (Value.ref t == Value.none) ≠ true from Bool.false_ne_true)]
 show wpAny _ _ (field (.ref j) 1 >>= _) _ _ s
 refine wpAny_bind (wpAny_field gj dj (x := .int k 0) rfl ?_)
 show wpAny _ _ (seqItems? (.ref t) >>= _) _ _ s
 refine wpAny_bind (wpAny_seqItems got dt ?_)
 simp only [Int.toNat_natCast, gv]
 refine wpAny_bind (wpAny_setField gj dj (by simp) (wpAny_pure ⟨v, rfl, wpAny_pure (gR _ ?_ (Heap.SameBut.update ..))⟩))
 refine ⟨_, Heap.get?_update_self _ gj (Obj.isFreed_of_fields (Obj.data_mapFields dj _)), (Obj.cls_mapFields ..).trans cj, ?_⟩
 rw [Obj.data_mapFields dj]; simp [rawInt]
theorem zn_tuple_none {j t : Addr} {k : Nat} {xs : Array Value} {R : Value → Shared → Prop} (gh : A.handled = none) (g : s.heap.IsTupleIter j t k) (gt : s.heap.IsTuple t xs) (gv : xs[k]? = none)
  (gE : ∀ h' e, Heap.ExtBut j s.heap h' → (∃ o, h'.get? e = some o ∧ o.cls = .type "StopIteration") → E (.ref e) { s with heap := h' }) : wpAny (model prog w) A (Builtin.SmallTypes.nextOf (.ref j)) R E s := by
 obtain ⟨oj, gj, cj, dj⟩ := id g
 obtain ⟨ot, got, _, nt, dt⟩ := gt
 unfold Builtin.SmallTypes.nextOf
 refine wpAny_bind (wpAny_callSpecial?_slot (name := Str.ofString "__next__") g.typeIs F.slot_tuple_iterator_next (wpAny_call_entry F.slot_tuple_iterator_next g.typeIs F.entry_tuple_iterator_next ?_ (F.args_tuple_iterator_next_1 _)))
 show wpAny _ _ (field (.ref j) 0 >>= _) _ _ s
 refine wpAny_bind (wpAny_field gj dj (x := .ref t) rfl ?_)
 show wpAny _ _ (ite ((Value.ref t == Value.none) = true) _ _) _ _ s
 rw [if_neg (show (Value.ref t == Value.none) ≠ true from Bool.false_ne_true)]
 show wpAny _ _ (field (.ref j) 1 >>= _) _ _ s
 refine wpAny_bind (wpAny_field gj dj (x := .int k 0) rfl ?_)
 show wpAny _ _ (seqItems? (.ref t) >>= _) _ _ s
 refine wpAny_bind (wpAny_seqItems got dt ?_)
 simp only [Int.toNat_natCast, gv]
 refine wpAny_bind (wpAny_rule (wpAny_bind (wpAny_setField gj dj (by simp) ?_)))
 show wpAny _ _ (newExc (.type "StopIteration") [] >>= _) _ _ _
 refine wpAny_bind ?_
 simp only [newExc, newTuple]
 refine wpAny_bind (wpAny_newObj_type ?_ (by size_fits))
 refine wpAny_bind (m := firstArgMember _ _) (wpAny_of_eq (a := Value.none) (by simp only [firstArgMember]; rfl) ?_)
 refine wpAny_newObj_type ?_ (by size_fits)
 simp only [raiseNew]
 refine wpAny_bind (wpAny_handled ?_)
 rw [show A.in1.handled = none from gh]
 refine wpAny_bind (wpAny_pure (wpAny_throw ?_))
 exact gE _ _ (((Heap.SameBut.update ..).extBut.push _).push _) ⟨_, Heap.get?_push_size _ rfl, rfl⟩
end
noncomputable def ZIt (tp : Bool) (it l : Addr) (i : Nat) (h : Heap) : Prop := if tp = true then h.IsTupleIter it l i else h.IsListIter it l i
noncomputable def ZSrc (tp : Bool) (l : Addr) (xs : Array Value) (h : Heap) : Prop := if tp = true then h.IsTuple l xs else h.IsList l xs
theorem ZIt.get {tp : Bool} {it l : Addr} {i : Nat} {h : Heap} (x : ZIt tp it l i h) : ∃ o, h.get? it = some o ∧ ∀ v, o.data ≠ .cell v := by
 unfold ZIt at x
 split at x
 ·obtain ⟨o, e, c, d⟩ := x
  exact ⟨o, e, fun v z => by rw [d] at z; cases z⟩
 ·obtain ⟨o, e, c, d⟩ := x
  exact ⟨o, e, fun v z => by rw [d] at z; cases z⟩
theorem ZIt.at {tp : Bool} {it l : Addr} {i : Nat} {h h' : Heap} (x : ZIt tp it l i h) (k : ∀ o, h.get? it = some o → h'.get? it = some o) : ZIt tp it l i h' := by
 unfold ZIt at x ⊢
 split at x
 ·rename_i c; rw [if_pos c]; obtain ⟨o, e, r⟩ := x; exact ⟨o, k o e, r⟩
 ·rename_i c; rw [if_neg c]; obtain ⟨o, e, r⟩ := x; exact ⟨o, k o e, r⟩
theorem ZSrc.at {tp : Bool} {l : Addr} {xs : Array Value} {h h' : Heap} (x : ZSrc tp l xs h) (k : ∀ o, h.get? l = some o → h'.get? l = some o) : ZSrc tp l xs h' := by
 unfold ZSrc at x ⊢
 split at x
 ·rename_i c; rw [if_pos c]; obtain ⟨o, e, r⟩ := x; exact ⟨o, k o e, r⟩
 ·rename_i c; rw [if_neg c]; obtain ⟨o, e, r⟩ := x; exact ⟨o, k o e, r⟩
section
variable {prog : Program} {w : World} {A : Around} {E : Value → Shared → Prop} {s : Shared}
theorem zn_some {tp : Bool} {j t : Addr} {k : Nat} {xs : Array Value} {v : Value} {R : Value → Shared → Prop} (g : ZIt tp j t k s.heap) (gt : ZSrc tp t xs s.heap) (gv : xs[k]? = some v)
  (gR : ∀ h', ZIt tp j t (k + 1) h' → Heap.SameBut j s.heap h' → R v { s with heap := h' }) : wpAny (model prog w) A (Builtin.SmallTypes.nextOf (.ref j)) R E s := by
 cases tp with
 | true => exact zn_tuple_some g gt gv gR
 | false => exact wpAny_nextOf_list_item g gt gv gR
theorem zn_none {tp : Bool} {j t : Addr} {k : Nat} {xs : Array Value} {R : Value → Shared → Prop} (gh : A.handled = none) (g : ZIt tp j t k s.heap) (gt : ZSrc tp t xs s.heap) (gv : xs[k]? = none)
  (gE : ∀ h' e, Heap.ExtBut j s.heap h' → (∃ o, h'.get? e = some o ∧ o.cls = .type "StopIteration") → E (.ref e) { s with heap := h' }) : wpAny (model prog w) A (Builtin.SmallTypes.nextOf (.ref j)) R E s := by
 cases tp with
 | true => exact zn_tuple_none gh g gt gv gE
 | false => exact wpAny_nextOf_list_end gh g gt gv gE
structure ZAp (z ti to j1 j2 t1 t2 : Addr) : Prop where
 a1 : ti ≠ z
 a2 : to ≠ z
 a3 : j1 ≠ z
 a4 : j2 ≠ z
 a5 : ti ≠ to
 a6 : ti ≠ j1
 a7 : ti ≠ j2
 a8 : to ≠ j1
 a9 : to ≠ j2
 b1 : j1 ≠ j2
 b2 : t1 ≠ z
 b3 : t1 ≠ to
 b4 : t1 ≠ j1
 b5 : t1 ≠ j2
 b6 : t2 ≠ z
 b7 : t2 ≠ to
 b8 : t2 ≠ j1
 b9 : t2 ≠ j2
theorem z_next {tp tq : Bool} {z ti to j1 j2 t1 t2 : Addr} {k1 k2 : Nat} {xs ys : Array Value} {x y p q : Value} {R : Value → Shared → Prop} (D : ZAp z ti to j1 j2 t1 t2)
  (gz : IsZip s.heap z ti to .none) (gi : IsPair s.heap ti (.ref j1) (.ref j2)) (go : IsPair s.heap to p q)
  (g1 : ZIt tp j1 t1 k1 s.heap) (g2 : ZIt tq j2 t2 k2 s.heap) (l1 : ZSrc tp t1 xs s.heap) (l2 : ZSrc tq t2 ys s.heap) (ex : xs[k1]? = some x) (ey : ys[k2]? = some y)
  (gR : ∀ h', IsZip h' z ti to (rawInt s.heap.objs.size) → IsPair h' to x y → ZIt tp j1 t1 (k1 + 1) h' → ZIt tq j2 t2 (k2 + 1) h' → IsPair h' s.heap.objs.size x y →
   (∀ c o, c ≠ z → c ≠ to → c ≠ j1 → c ≠ j2 → s.heap.get? c = some o → h'.get? c = some o) → R (.ref s.heap.objs.size) { s with heap := h' }) :
  wpAny (model prog w) A (Builtin.«zip.__next__» ⟨[.ref z], []⟩) (fun fin s' => ∃ v, fin = .done (.ret v) ∧ R v s') E s := by
 show wpAny _ _ (field (.ref z) 2 >>= _) _ _ _
 refine wpAny_bind (wpAny_field gz rfl (x := .bool false) rfl ?_)
 show wpAny _ _ (field (.ref z) 3 >>= _) _ _ _
 refine wpAny_bind (wpAny_field gz rfl (x := .ref ti) rfl ?_)
 refine wpAny_bind (wpAny_seqItems gi rfl ?_)
 show wpAny _ _ (Builtin.SmallTypes.ownedTupleIsFree (.ref z) >>= _) _ _ _
 refine wpAny_bind ?_
 unfold Builtin.SmallTypes.ownedTupleIsFree
 refine wpAny_bind (wpAny_field gz rfl (x := .none) rfl (wpAny_pure ?_))
 simp only [if_true]
 refine wpAny_bind (wpAny_rule ?_)
 refine wpAny_bind (wpAny_field gz rfl (x := .ref to) rfl ?_)
 refine wpAny_bind (wpAny_setField_rec gz (by simp) fun H1 gz1 e1 => ?_)
 replace gz1 : IsZip H1 z ti to .ellipsis := gz1
 refine wpAny_bind ?_
 simp only [List.zipIdx_cons, List.zipIdx_nil, List.forIn_cons, List.forIn_nil]
 refine wpAny_bind (wpAny_bind (wpAny_onRaise ?_))
 show wpAny _ _ (Builtin.SmallTypes.nextOf (.ref j1) >>= _) _ _ _
 refine wpAny_bind (zn_some (g1.at fun o e => e1.extBut _ _ D.a3 e) (l1.at fun o e => e1.extBut _ _ D.b2 e) ex fun H2 n1 e2 => wpAny_pure ?_)
 have go2 : IsPair H2 to p q := e2.extBut _ _ D.a8 (e1.extBut _ _ D.a2 go)
 refine wpAny_bind (wpAny_seqItems go2 rfl ?_)
 refine wpAny_bind (wpAny_updateSeq_pair go2 fun H3 go3 e3 => ?_)
 replace go3 : IsPair H3 to x q := go3
 refine wpAny_bind (wpAny_letGo (wpAny_pure ?_))
 refine wpAny_bind (wpAny_bind (wpAny_onRaise ?_))
 show wpAny _ _ (Builtin.SmallTypes.nextOf (.ref j2) >>= _) _ _ _
 refine wpAny_bind (zn_some (g2.at fun o e => e3.extBut _ _ D.a9.symm (e2.extBut _ _ D.b1.symm (e1.extBut _ _ D.a4 e))) (l2.at fun o e => e3.extBut _ _ D.b7 (e2.extBut _ _ D.b8 (e1.extBut _ _ D.b6 e))) ey fun H4 n2 e4 => wpAny_pure ?_)
 have go4 : IsPair H4 to x q := e4.extBut _ _ D.a9 go3
 refine wpAny_bind (wpAny_seqItems go4 rfl ?_)
 refine wpAny_bind (wpAny_updateSeq_pair go4 fun H5 go5 e5 => ?_)
 replace go5 : IsPair H5 to x y := go5
 refine wpAny_bind (wpAny_letGo (wpAny_pure (wpAny_pure ?_)))
 refine wpAny_bind (wpAny_seqItems go5 rfl ?_)
 refine wpAny_bind (wpAny_newTuple ?_)
 have sz5 : H5.objs.size = s.heap.objs.size := by rw [e5.1, e4.1, e3.1, e2.1, e1.1]
 have gz5 : IsZip H5 z ti to .ellipsis := e5.extBut _ _ D.a2.symm (e4.extBut _ _ D.a4.symm (e3.extBut _ _ D.a2.symm (e2.extBut _ _ D.a3.symm gz1)))
 have kk5 : ∀ c o, c ≠ z → c ≠ to → c ≠ j1 → c ≠ j2 → s.heap.get? c = some o → H5.get? c = some o := fun c o c1 c2 c3 c4 e =>
  e5.extBut _ _ c2 (e4.extBut _ _ c4 (e3.extBut _ _ c2 (e2.extBut _ _ c3 (e1.extBut _ _ c1 e))))
 have n15 : ZIt tp j1 t1 (k1 + 1) H5 := n1.at fun o e => e5.extBut _ _ D.a8.symm (e4.extBut _ _ D.b1 (e3.extBut _ _ D.a8.symm e))
 have n25 : ZIt tq j2 t2 (k2 + 1) H5 := n2.at fun o e => e5.extBut _ _ D.a9.symm e
 have lz : z < H5.objs.size := Heap.lt_size gz5
 show wpAny _ _ (Builtin.SmallTypes.ownedTupleHandOut (.ref z) (.ref H5.objs.size) >>= _) _ _ _
 refine wpAny_bind ?_
 unfold Builtin.SmallTypes.ownedTupleHandOut
 have gz6 : IsZip (H5.push { cls := .type "tuple", data := .seq #[x, y] }) z ti to .ellipsis := Heap.get?_push_of_some _ gz5
 refine wpAny_bind (wpAny_setField_rec gz6 (by simp) fun H7 gz7 e7 => ?_)
 replace gz7 : IsZip H7 z ti to (rawInt H5.objs.size) := gz7
 refine wpAny_setField_rec gz7 (by simp) fun H8 gz8 e8 => ?_
 replace gz8 : IsZip H8 z ti to (rawInt H5.objs.size) := gz8
 have up : ∀ c o, c ≠ z → H5.get? c = some o → H8.get? c = some o := fun c o c1 e => e8.extBut _ _ c1 (e7.extBut _ _ c1 (Heap.get?_push_of_some _ e))
 have gT8 : IsPair H8 H5.objs.size x y := e8.extBut _ _ (Nat.ne_of_gt lz) (e7.extBut _ _ (Nat.ne_of_gt lz) (Heap.get?_push_size _ rfl))
 rw [sz5] at gz8 gT8
 refine wpAny_pure ⟨_, rfl, ?_⟩
 show R (.ref H5.objs.size) _
 rw [sz5]
 exact gR H8 gz8 (up _ _ D.a2 go5) (n15.at fun o e => up _ o D.a3 e) (n25.at fun o e => up _ o D.a4 e) gT8 fun c o c1 c2 c3 c4 e => up c o c1 (kk5 c o c1 c2 c3 c4 e)
theorem z_last {tp tq : Bool} {z ti to j1 j2 t1 t2 : Addr} {k1 k2 : Nat} {xs ys : Array Value} {p q : Value} {R : Fin → Shared → Prop} (gh : A.handled = none) (D : ZAp z ti to j1 j2 t1 t2)
  (gz : IsZip s.heap z ti to .none) (gi : IsPair s.heap ti (.ref j1) (.ref j2)) (go : IsPair s.heap to p q)
  (g1 : ZIt tp j1 t1 k1 s.heap) (g2 : ZIt tq j2 t2 k2 s.heap) (l1 : ZSrc tp t1 xs s.heap) (l2 : ZSrc tq t2 ys s.heap) (hend : xs[k1]? = none ∨ ys[k2]? = none)
  (gE : ∀ h' e, (∀ c o, c ≠ z → c ≠ to → c ≠ j1 → c ≠ j2 → s.heap.get? c = some o → h'.get? c = some o) → (∃ o, h'.get? e = some o ∧ o.cls = .type "StopIteration") → E (.ref e) { s with heap := h' }) :
  wpAny (model prog w) A (Builtin.«zip.__next__» ⟨[.ref z], []⟩) R E s := by
 show wpAny _ _ (field (.ref z) 2 >>= _) _ _ _
 refine wpAny_bind (wpAny_field gz rfl (x := .bool false) rfl ?_)
 show wpAny _ _ (field (.ref z) 3 >>= _) _ _ _
 refine wpAny_bind (wpAny_field gz rfl (x := .ref ti) rfl ?_)
 refine wpAny_bind (wpAny_seqItems gi rfl ?_)
 show wpAny _ _ (Builtin.SmallTypes.ownedTupleIsFree (.ref z) >>= _) _ _ _
 refine wpAny_bind ?_
 unfold Builtin.SmallTypes.ownedTupleIsFree
 refine wpAny_bind (wpAny_field gz rfl (x := .none) rfl (wpAny_pure ?_))
 simp only [if_true]
 refine wpAny_bind (wpAny_rule ?_)
 refine wpAny_bind (wpAny_field gz rfl (x := .ref to) rfl ?_)
 refine wpAny_bind (wpAny_setField_rec gz (by simp) fun H1 gz1 e1 => ?_)
 replace gz1 : IsZip H1 z ti to .ellipsis := gz1
 refine wpAny_bind ?_
 simp only [List.zipIdx_cons, List.zipIdx_nil, List.forIn_cons, List.forIn_nil]
 refine wpAny_bind (wpAny_bind (wpAny_onRaise ?_))
 show wpAny _ _ (Builtin.SmallTypes.nextOf (.ref j1) >>= _) _ _ _
 cases ex : xs[k1]? with
 | none =>
  refine wpAny_bind (zn_none gh (g1.at fun o e => e1.extBut _ _ D.a3 e) (l1.at fun o e => e1.extBut _ _ D.b2 e) ex fun H2 e e2 ge => ?_)
  obtain ⟨oe, goe, gce⟩ := ge
  have gz2 : IsZip H2 z ti to .ellipsis := e2 _ _ D.a3.symm gz1
  have ne : e ≠ z := fun x => by subst x; rw [gz2] at goe; cases goe; simp at gce
  refine wpAny_setField_rec gz2 (by simp) fun H3 _ e3 => gE H3 e (fun c o c1 _ c3 _ x => e3.extBut _ _ c1 (e2 _ _ c3 (e1.extBut _ _ c1 x))) ⟨oe, e3.extBut _ _ ne goe, gce⟩
 | some x =>
  have ey : ys[k2]? = none := by
   rcases hend with h | h
   ·rw [ex] at h; cases h
   ·exact h
  refine wpAny_bind (zn_some (g1.at fun o e => e1.extBut _ _ D.a3 e) (l1.at fun o e => e1.extBut _ _ D.b2 e) ex fun H2 n1 e2 => wpAny_pure ?_)
  have go2 : IsPair H2 to p q := e2.extBut _ _ D.a8 (e1.extBut _ _ D.a2 go)
  refine wpAny_bind (wpAny_seqItems go2 rfl ?_)
  refine wpAny_bind (wpAny_updateSeq_pair go2 fun H3 go3 e3 => ?_)
  refine wpAny_bind (wpAny_letGo (wpAny_pure ?_))
  refine wpAny_bind (wpAny_bind (wpAny_onRaise ?_))
  show wpAny _ _ (Builtin.SmallTypes.nextOf (.ref j2) >>= _) _ _ _
  refine wpAny_bind (zn_none gh (g2.at fun o e => e3.extBut _ _ D.a9.symm (e2.extBut _ _ D.b1.symm (e1.extBut _ _ D.a4 e))) (l2.at fun o e => e3.extBut _ _ D.b7 (e2.extBut _ _ D.b8 (e1.extBut _ _ D.b6 e))) ey fun H4 e e4 ge => ?_)
  obtain ⟨oe, goe, gce⟩ := ge
  have gz4 : IsZip H4 z ti to .ellipsis := e4 _ _ D.a4.symm (e3.extBut _ _ D.a2.symm (e2.extBut _ _ D.a3.symm gz1))
  have ne : e ≠ z := fun x => by subst x; rw [gz4] at goe; cases goe; simp at gce
  refine wpAny_setField_rec gz4 (by simp) fun H5 _ e5 => gE H5 e (fun c o c1 c2 c3 c4 x => e5.extBut _ _ c1 (e4 _ _ c4 (e3.extBut _ _ c2 (e2.extBut _ _ c3 (e1.extBut _ _ c1 x))))) ⟨oe, e5.extBut _ _ ne goe, gce⟩
end
end L2
namespace L2
open PySem PySem.Spec PyProof.Rows
section
variable {X : Cx} {pins : List (Addr × Obj)} {σ : St} {H : Hp} {s : Shared} {h' : Heap}
theorem Inv.turneds {t' : Nat} {ch : List Addr} (I : Inv X pins σ H s) (k : ∀ b o, b ∉ ch → s.heap.get? b = some o → h'.get? b = some o) (hf : ∀ b ∈ ch, FpOk X pins H b) : Inv X pins σ H { s with heap := h', toks := t' } := by
 have nit : ∀ b u, H b = some u → b ∉ ch := fun b u e z => by have q := (hf b z).1; rw [q] at e; cases e
 refine I.step (g' := s.gens) (d' := s.drawn) (ch := ch) (fun b hb => ?_) (fun b o _ _ hc e _ => k b o hc e) (fun b o _ _ hc e _ => ⟨o.slots, k b o hc e⟩) (fun _ _ _ _ n => n)
  (fun b o hc e => ⟨o, k b o hc e⟩) (fun _ _ e => e) (fun _ _ _ e => e) (fun b ps e => ⟨#[], by rw [e]; simp⟩) (fun m hm => ?_) (fun b u e => ?_) I.bare
 ·exact ⟨(hf b hb).2.2.2.1, (hf b hb).2.1, (hf b hb).2.2.2.2.1, (hf b hb).2.2.2.2.2⟩
 ·obtain ⟨o, es, ep, ho, r⟩ := hm
  exact ⟨o, es, ep, k _ o (fun z => (hf _ z).2.1 rfl) ho, r⟩
 ·refine (I.hok b u e).stay (fun c v hc q => k c v ?_ q) (fun _ q => q) fun _ _ q => q
  rcases hc with z | z
  ·rw [z]; exact nit b u e
  ·exact nit c _ z
theorem Inv.trackO {D : Addr} {ob : HO} (I : Inv X pins σ H s) (hf : FpOk X pins H D) (h1 : X.s₀.heap.objs.size ≤ D) (new : ObjOk X.prog X.w (upd H D ob) s.heap D ob) : Inv X pins σ (upd H D ob) s := by
 obtain ⟨hn, hL, _, _, h2, h3⟩ := hf
 have ne : ∀ b u, H b = some u → b ≠ D := fun b u e z => by rw [z, hn] at e; cases e
 have ne0 : ∀ b o, X.s₀.heap.get? b = some o → b ≠ D := fun b o e => Nat.ne_of_lt (Nat.lt_of_lt_of_le (Heap.lt_size e) h1)
 refine ⟨I.ok, I.os, I.bare, ⟨I.base.keep, I.base.slot, fun b o e n' hx => ?_, I.base.there, fun b xs e => ?_, fun b o u e => ?_, fun b ps e => ?_⟩, I.loc, I.cell, ?_, fun x c e => ?_, fun p hp => ?_, fun b u e => ?_, I.len⟩
 ·rw [upd_ne (ne0 b o e)]; exact I.base.free b o e n' hx
 ·have q := I.base.tups b xs e
  rw [upd_ne (ne _ _ q)]; exact q
 ·have q := I.base.frzs b o u e
  rw [upd_ne (ne _ _ q)]; exact q
 ·obtain ⟨more, q⟩ := I.base.tbls b ps e
  exact ⟨more, by rw [upd_ne (ne _ _ q)]; exact q⟩
 ·rw [upd_ne (Ne.symm hL)]; exact I.free
 ·rw [upd_ne (h2 x c e)]; exact I.freeC x c e
 ·obtain ⟨a1, a2, a3⟩ := I.pin p hp
  exact ⟨a1, by rw [upd_ne (h3 p hp)]; exact a2, a3⟩
 ·by_cases hb : b = D
  ·subst hb
   rw [upd_same] at e
   cases e
   exact new
  ·rw [upd_ne hb] at e
   refine (I.hok b u e).stay (fun c v hc q => q) (fun c q => ?_) fun c xs q => ?_
   ·rw [upd_ne (ne _ _ q)]; exact q
   ·rw [upd_ne (ne _ _ q)]; exact q
end
noncomputable def Sq (tp : Bool) (K : PySem.W.Frag) (H : Hp) (a : Addr) (xs : List V) : Prop := if tp = true then SqT K H a xs else SqL K H a xs
theorem Inv.sq {X : Cx} {pins : List (Addr × Obj)} {σ : St} {H : Hp} {s : Shared} {tp : Bool} {a : Addr} {xs : List V} (I : Inv X pins σ H s) (h : Sq tp X.K H a xs) : ∃ its : List Value, Vals xs its ∧ ZSrc tp a its.toArray s.heap ∧ xs.length ≤ sizeLine := by
 cases tp with
 | true =>
  obtain ⟨its, r, t, z⟩ := I.tuple h
  exact ⟨its, r, t, z⟩
 | false =>
  obtain ⟨its, r, t, z⟩ := I.list h
  exact ⟨its, r, t.isList, z⟩
theorem Inv.sq_inj {X : Cx} {pins : List (Addr × Obj)} {σ : St} {H : Hp} {s : Shared} {tp : Bool} {a : Addr} {xs ys : List V} (I : Inv X pins σ H s) (h : Sq tp X.K H a xs) (h' : Sq tp X.K H a ys) : xs = ys := by
 cases tp with
 | true => exact I.tuple_inj h h'
 | false => exact I.list_inj h h'
theorem Inv.sq_fp {X : Cx} {pins : List (Addr × Obj)} {σ : St} {H : Hp} {s : Shared} {tp : Bool} {a b : Addr} {xs : List V} (I : Inv X pins σ H s) (h : Sq tp X.K H a xs) (hf : FpOk X pins H b) : a ≠ b := by
 rintro rfl
 have look : ∀ o, X.K.lookup a = some o → False := fun o e => by
  have e' := I.ok.mod.kin a o e
  rcases hf.2.2.2.1 with z | z
  ·exact I.ok.noex a o e' z
  ·exact absurd (Nat.lt_of_lt_of_le (Heap.lt_size (I.ok.bs a o e').1) z) (Nat.lt_irrefl _)
 have rd : ∀ u, Rd H a u → False := fun u e => by
  rcases e with e | ⟨o, e⟩ <;> rw [hf.1] at e <;> cases e
 cases tp with
 | true =>
  rcases h with e | ⟨o, its, n, e, _⟩
  ·exact rd _ e
  ·exact look o e
 | false =>
  rcases h with e | ⟨o, its, n, e, _⟩
  ·exact rd _ e
  ·exact look o e
noncomputable def Itz (tp tq : Bool) (K : PySem.W.Frag) (a b : Addr) : It :=
  ⟨fun i H => ∃ xs ys x y, Sq tp K H a xs ∧ Sq tq K H b ys ∧ xs[i]? = some x ∧ ys[i]? = some y,
   fun i H v H' => ∃ p x y, v = .ref p ∧ H p = none ∧ H' = upd H p (.tup [x, y]) ∧ (∀ xs, Sq tp K H a xs → xs[i]? = some x) ∧ (∀ ys, Sq tq K H b ys → ys[i]? = some y),
   fun i H => ∃ xs ys, Sq tp K H a xs ∧ Sq tq K H b ys ∧ (xs.length ≤ i ∨ ys.length ≤ i)⟩
structure ZAt (tp tq : Bool) (z ti to j1 j2 a b : Addr) (i : Nat) (h : Heap) : Prop where
 gz : IsZip h z ti to .none
 gi : IsPair h ti (.ref j1) (.ref j2)
 go : ∃ p q, IsPair h to p q
 g1 : ZIt tp j1 a i h
 g2 : ZIt tq j2 b i h
theorem turn_zip {P : Program} {w : World} {K : PySem.W.Frag} {es : List Expr} {k : Nat} {ps : Pos} {tp tq : Bool} (a b z ti to j1 j2 : Addr) (n1 : ti ≠ z) (n2 : to ≠ z) (n3 : j1 ≠ z) (n4 : j2 ≠ z) (n5 : ti ≠ to) (n6 : ti ≠ j1) (n7 : ti ≠ j2) (n8 : to ≠ j1) (n9 : to ≠ j2) (n0 : j1 ≠ j2) :
  Turn P w K (.Tuple es k ps) (Itz tp tq K a b) [z, ti, to, j1, j2] z (ZAt tp tq z ti to j1 j2 a b) where
 mem := by simp
 obj := fun i h st c hc => by
  obtain ⟨gz, gi, ⟨p, q, go⟩, g1, g2⟩ := st
  simp only [List.mem_cons, List.not_mem_nil, or_false] at hc
  rcases hc with rfl | rfl | rfl | rfl | rfl
  ·exact ⟨_, gz, fun v e => by cases e⟩
  ·exact ⟨_, gi, fun v e => by cases e⟩
  ·exact ⟨_, go, fun v e => by cases e⟩
  ·exact g1.get
  ·exact g2.get
 keep := fun i h h' st kk => by
  obtain ⟨gz, gi, ⟨p, q, go⟩, g1, g2⟩ := st
  exact ⟨kk z (by simp) _ gz, kk ti (by simp) _ gi, ⟨p, q, kk to (by simp) _ go⟩, g1.at fun o e => kk j1 (by simp) o e, g2.at fun o e => kk j2 (by simp) o e⟩
 item := by
  intro X hP hw hK hc i pins s σ H E I hf st hg
  subst hP hw hK
  obtain ⟨gz, gi, ⟨p, q, go⟩, g1, g2⟩ := st
  obtain ⟨xs, ys, x, y, sx, sy, ex, ey⟩ := hg
  obtain ⟨is, rx, lx, zx⟩ := I.sq sx
  obtain ⟨js, ry, ly, zy⟩ := I.sq sy
  obtain ⟨u, eu, ru⟩ := rx.get ex
  obtain ⟨v, ev, rv⟩ := ry.get ey
  have D : ZAp z ti to j1 j2 a b := ⟨n1, n2, n3, n4, n5, n6, n7, n8, n9, n0, I.sq_fp sx (hf z (by simp)), I.sq_fp sx (hf to (by simp)), I.sq_fp sx (hf j1 (by simp)), I.sq_fp sx (hf j2 (by simp)), I.sq_fp sy (hf z (by simp)), I.sq_fp sy (hf to (by simp)), I.sq_fp sy (hf j1 (by simp)), I.sq_fp sy (hf j2 (by simp))⟩
  have hT : s.TypeIs (.ref z) "zip" := ⟨_, gz, rfl⟩
  unfold pyNext
  refine wpAny_bind (wpAny_attempt (wpAny_callSpecial?_slot (name := Str.ofString "__next__") hT F.slot_zip_next (wpAny_call_entry F.slot_zip_next hT F.entry_zip_next
   (z_next (x := u) (y := v) D gz gi go g1 g2 lx ly (by simpa using eu) (by simpa using ev) fun h1 b1 b2 b3 b4 b5 b6 => wpAny_pure ⟨_, rfl, ?_⟩) (F.args_zip_next_1 _))))
  refine wpAny_letOwnedTupleGo_zip b1 fun h2 c1 c2 => ?_
  have hsz : s.heap.objs.size ≠ z := Nat.ne_of_gt (Heap.lt_size gz)
  have up : ∀ c o, c ∉ [z, ti, to, j1, j2] → s.heap.get? c = some o → h2.get? c = some o := fun c o hc' e => by
   simp only [List.mem_cons, List.not_mem_nil, or_false, not_or] at hc'
   exact c2.extBut _ _ hc'.1 (b6 c o hc'.1 hc'.2.2.1 hc'.2.2.2.1 hc'.2.2.2.2 e)
  have I1 : Inv X pins σ H { s with heap := h2 } := I.turneds (t' := s.toks) (ch := [z, ti, to, j1, j2]) up hf
  have f1 : FpOk X pins H s.heap.objs.size := I.fpOk (Nat.le_refl _) I.fresh
  have gT : IsPair h2 s.heap.objs.size u v := c2.extBut _ _ hsz b5
  have I2 : Inv X pins σ (upd H s.heap.objs.size (.tup [x, y])) { s with heap := h2 } := I1.trackO f1 I.sz ⟨by show 2 ≤ sizeLine; decide, [u, v], .cons ru (.cons rv .nil), ⟨_, gT, rfl, _, rfl⟩⟩
  have lt : ∀ c ∈ [z, ti, to, j1, j2], c ≠ s.heap.objs.size := fun c hc' => by
   simp only [List.mem_cons, List.not_mem_nil, or_false] at hc'
   rcases hc' with rfl | rfl | rfl | rfl | rfl
   ·exact Nat.ne_of_lt (Heap.lt_size gz)
   ·exact Nat.ne_of_lt (Heap.lt_size gi)
   ·exact Nat.ne_of_lt (Heap.lt_size go)
   ·obtain ⟨o, e, _⟩ := g1.get; exact Nat.ne_of_lt (Heap.lt_size e)
   ·obtain ⟨o, e, _⟩ := g2.get; exact Nat.ne_of_lt (Heap.lt_size e)
  refine ⟨.ref s.heap.objs.size, _, I2, rfl, ⟨_, x, y, rfl, I.fresh, rfl, fun zs hz => by rw [I.sq_inj hz sx]; exact ex, fun zs hz => by rw [I.sq_inj hz sy]; exact ey⟩, ⟨c1, c2.extBut _ _ n1 (b6 _ _ n1 n5 n6 n7 gi), ⟨_, _, c2.extBut _ _ n2 b2⟩, b3.at fun o e => c2.extBut _ _ n3 e, b4.at fun o e => c2.extBut _ _ n4 e⟩, fun c hc' => ?_⟩
  rw [upd_ne (lt c hc')]
  exact (hf c hc').1
 done := by
  intro X hP hw hK hc i pins s σ H E I hf st hg
  subst hP hw hK
  obtain ⟨gz, gi, ⟨p, q, go⟩, g1, g2⟩ := st
  obtain ⟨xs, ys, sx, sy, he⟩ := hg
  obtain ⟨is, rx, lx, zx⟩ := I.sq sx
  obtain ⟨js, ry, ly, zy⟩ := I.sq sy
  have D : ZAp z ti to j1 j2 a b := ⟨n1, n2, n3, n4, n5, n6, n7, n8, n9, n0, I.sq_fp sx (hf z (by simp)), I.sq_fp sx (hf to (by simp)), I.sq_fp sx (hf j1 (by simp)), I.sq_fp sx (hf j2 (by simp)), I.sq_fp sy (hf z (by simp)), I.sq_fp sy (hf to (by simp)), I.sq_fp sy (hf j1 (by simp)), I.sq_fp sy (hf j2 (by simp))⟩
  have hT : s.TypeIs (.ref z) "zip" := ⟨_, gz, rfl⟩
  have l1 := rx.length
  have l2 := ry.length
  unfold pyNext
  refine wpAny_bind (wpAny_attempt (wpAny_callSpecial?_slot (name := Str.ofString "__next__") hT F.slot_zip_next (wpAny_call_entry F.slot_zip_next hT F.entry_zip_next
   (z_last (I.ok.hd hc) D gz gi go g1 g2 lx ly (by rcases he with z | z; exact .inl (by simp; omega); exact .inr (by simp; omega)) fun h1 e kk ge => ?_) (F.args_zip_next_1 _))))
  obtain ⟨oe, goe, gce⟩ := ge
  refine wpAny_bind (wpAny_isInstance (T := "StopIteration") (b := true) ⟨oe, goe, gce⟩ isSubtype_stop ?_)
  refine wpAny_pure ⟨rfl, I.turneds (t' := s.toks) (ch := [z, ti, to, j1, j2]) (fun c o hc' e => ?_) hf⟩
  simp only [List.mem_cons, List.not_mem_nil, or_false, not_or] at hc'
  exact kk c o hc'.1 hc'.2.2.1 hc'.2.2.2.1 hc'.2.2.2.2 e
 self := fun _ _ _ _ _ st h => wpAny_pyIter_zip st.gz h
end L2
namespace L2
open PySem PySem.Spec PyProof.Rows
noncomputable abbrev zItObj (tp : Bool) (a : Addr) : Obj := { cls := .type (if tp = true then "tuple_iterator" else "list_iterator"), data := .fields #[.ref a, .int 0 0] }
theorem z_iter {prog : Program} {w : World} {A : Around} {E : Value → Shared → Prop} {s : Shared} {tp : Bool} {a : Addr} {xs : Array Value} {R : Value → Shared → Prop} (g : ZSrc tp a xs s.heap)
  (h : R (.ref s.heap.objs.size) { s with heap := s.heap.push (zItObj tp a) }) : wpAny (model prog w) A (pyIter (.ref a)) R E s := by
 cases tp with
 | true => exact wpAny_pyIter_tuple g h
 | false => exact wpAny_pyIter_list g h
theorem ZIt.new {tp : Bool} {a : Addr} {h : Heap} {it : Addr} (g : h.get? it = some (zItObj tp a)) : ZIt tp it a 0 h := by
 cases tp with
 | true => exact ⟨_, g, rfl, rfl⟩
 | false => exact ⟨_, g, rfl, rfl⟩
noncomputable abbrev zz1 (h : Heap) (tp : Bool) (a : Addr) : Heap := h.push (zItObj tp a)
noncomputable abbrev zz2 (h : Heap) (tp tq : Bool) (a b : Addr) : Heap := (zz1 h tp a).push (zItObj tq b)
noncomputable abbrev zz3 (h : Heap) (tp tq : Bool) (a b : Addr) : Heap := (zz2 h tp tq a b).push { cls := .type "tuple", data := .seq #[.ref h.objs.size, .ref (zz1 h tp a).objs.size] }
noncomputable abbrev zz4 (h : Heap) (tp tq : Bool) (a b : Addr) : Heap := (zz3 h tp tq a b).push { cls := .type "tuple", data := .seq #[.none, .none] }
noncomputable abbrev zz5 (h : Heap) (tp tq : Bool) (a b : Addr) : Heap := (zz4 h tp tq a b).push { cls := .type "zip", data := .fields #[.none, .bool false, .bool false, .ref (zz2 h tp tq a b).objs.size, .ref (zz3 h tp tq a b).objs.size] }
theorem z_new (tp tq : Bool) (a b : Addr) (xs ys : Array Value) :
  Meets (Builtin.«zip.__new__» ⟨[.type "zip", .ref a, .ref b], []⟩) (fun _ R s => ZSrc tp a xs s.heap ∧ ZSrc tq b ys s.heap ∧ R (.ok (.ret (.ref (zz4 s.heap tp tq a b).objs.size))) { s with heap := zz5 s.heap tp tq a b }) :=
 .of_wp fun prog w A R s h => by
  obtain ⟨hp, g, d, tk, os⟩ := s; obtain ⟨s1, s2, h⟩ := h
  have hsub := sub_zip
  have S1 : ZSrc tp a xs (Shared.heap ⟨hp, g, d, tk, os⟩) := s1
  have S2 : ZSrc tq b ys (Shared.heap ⟨hp.push (zItObj tp a), g, d, tk, os⟩) := ZSrc.at s2 fun o e => Heap.get?_push_of_some _ e
  wp_walk using z_iter S1, z_iter S2
  exact ⟨_, rfl, h⟩
theorem call_zz {prog : Program} {w : World} {A : Around} {E : Value → Shared → Prop} {s : Shared} {tp tq : Bool} {a b : Addr} {xs ys : Array Value} {Q : Value → Shared → Prop} (s1 : ZSrc tp a xs s.heap) (s2 : ZSrc tq b ys s.heap)
  (h : ∀ h', ZAt tp tq (s.heap.objs.size + 4) (s.heap.objs.size + 2) (s.heap.objs.size + 3) s.heap.objs.size (s.heap.objs.size + 1) a b 0 h' → (∀ c o, s.heap.get? c = some o → h'.get? c = some o) → Q (.ref (s.heap.objs.size + 4)) { s with heap := h' }) :
  wpAny (model prog w) A (call (.type "zip") [.ref a, .ref b]) Q E s := by
 refine callType_new F.called_zip (by decide) (F.typeCall_zip_2 _ _) (F.newCall_zip_2 _ _) (fun obj => F.args_object_init_3 obj _ _) F.entry_zip_new (z_new tp tq a b xs ys) ⟨s1, s2, ?_⟩
 have z1 : (zz1 s.heap tp a).objs.size = s.heap.objs.size + 1 := Heap.size_push ..
 have z2 : (zz2 s.heap tp tq a b).objs.size = s.heap.objs.size + 2 := by rw [Heap.size_push, z1]
 have z3 : (zz3 s.heap tp tq a b).objs.size = s.heap.objs.size + 3 := by rw [Heap.size_push, z2]
 have z4 : (zz4 s.heap tp tq a b).objs.size = s.heap.objs.size + 4 := by rw [Heap.size_push, z3]
 have g5 : (zz5 s.heap tp tq a b).get? (zz4 s.heap tp tq a b).objs.size = some _ := Heap.get?_push_size _ rfl
 have g4 : (zz5 s.heap tp tq a b).get? (zz3 s.heap tp tq a b).objs.size = some _ := Heap.get?_push_of_some _ (Heap.get?_push_size _ rfl)
 have g3 : (zz5 s.heap tp tq a b).get? (zz2 s.heap tp tq a b).objs.size = some _ := Heap.get?_push_of_some _ (Heap.get?_push_of_some _ (Heap.get?_push_size _ rfl))
 have g2 : (zz5 s.heap tp tq a b).get? (zz1 s.heap tp a).objs.size = some _ := Heap.get?_push_of_some _ (Heap.get?_push_of_some _ (Heap.get?_push_of_some _ (Heap.get?_push_size _ rfl)))
 have g1 : (zz5 s.heap tp tq a b).get? s.heap.objs.size = some _ := Heap.get?_push_of_some _ (Heap.get?_push_of_some _ (Heap.get?_push_of_some _ (Heap.get?_push_of_some _ (Heap.get?_push_size _ rfl))))
 show _ ∧ _
 rw [z2, z3, z4] at g5
 rw [z1, z2] at g3
 rw [z3] at g4
 rw [z1] at g2
 rw [z4]
 exact ⟨⟨_, g5, rfl⟩, h _ ⟨g5, g3, ⟨_, _, g4⟩, ZIt.new g1, ZIt.new g2⟩ fun c o x => Heap.get?_push_of_some _ (Heap.get?_push_of_some _ (Heap.get?_push_of_some _ (Heap.get?_push_of_some _ (Heap.get?_push_of_some _ x))))⟩
theorem boot_zip : bootBuiltins "zip" = some (.type "zip") := by kernel_rfl
noncomputable def iZip (K : PySem.W.Frag) (ta : TA) : TI := fun σ H R => ta σ H fun vs H1 => ∃ tp tq a b xs ys, vs = [.ref a, .ref b] ∧ Sq tp K H1 a xs ∧ Sq tq K H1 b ys ∧ R (Itz tp tq K a b) H1
theorem pi_zip {X : Cx} {es : List Expr} {k : Nat} {ps : Pos} {a b : Expr} {ta : TA} {p pos : Pos} (hg : Gl X "zip") (hm : X.mg "zip" = none) (ha : PA X [a, b] ta) (hs : starEach [a, b] X.env = [(false, eval a X.env), (false, eval b X.env)] := by rfl) (hs2 : starEach [b] X.env = [(false, eval b X.env)] := by rfl) :
  PI X (.Tuple es k ps) (.Call (.Name "zip" p) [a, b] [] pos) (iZip X.K ta) := by
 intro pins s σ H R I h
 refine Call_ (ld_blt I hg hm boot_zip (PyProof.Rows.callWith_type1 (thn (ha pos pins s σ H _ I h) fun us s1 ⟨vs, H1, I1, r1, q1⟩ => ?_) (by rw [hs, hs2]) (by rw [hs2]; rfl)))
 obtain ⟨tp, tq, a, b, xs, ys, e, sx, sy, q⟩ := q1
 subst e
 cases r1 with
 | cons r rr =>
  cases rr with
  | cons r' rr =>
   cases rr
   cases r
   cases r'
   obtain ⟨is, rx, lx, zx⟩ := I1.sq sx
   obtain ⟨js, ry, ly, zy⟩ := I1.sq sy
   have d : ∀ i j : Nat, i ≠ j → s1.heap.objs.size + i ≠ s1.heap.objs.size + j := fun i j q z => q (Nat.add_left_cancel z)
   refine call_zz lx ly fun h' st kk => wpAny_pyIter_zip st.gz ?_
   refine ⟨_, [s1.heap.objs.size + 4, s1.heap.objs.size + 2, s1.heap.objs.size + 3, s1.heap.objs.size, s1.heap.objs.size + 1], _, _, H1, rfl, I1.kept (t' := s1.toks) kk,
    turn_zip a b _ _ _ _ _ (d 2 4 (by decide)) (d 3 4 (by decide)) (d 0 4 (by decide)) (d 1 4 (by decide)) (d 2 3 (by decide)) (d 2 0 (by decide)) (d 2 1 (by decide)) (d 3 0 (by decide)) (d 3 1 (by decide)) (d 0 1 (by decide)), st, fun c hc => ?_, q⟩
   have hle : s1.heap.objs.size ≤ c := by
    simp only [List.mem_cons, List.not_mem_nil, or_false] at hc
    rcases hc with z | z | z | z | z <;> rw [z] <;> first | exact Nat.le_add_right _ _ | exact Nat.le_refl _
   exact I1.fpOk hle (I1.hok.fresh hle)
end L2
namespace L2
open PySem PySem.Spec PyProof.Rows
section
variable {X : Cx}
theorem op_fdivB : OpR X (binaryOp .FloorDiv) (rI (fun _ j => 0 < j ∧ j < 2 ^ 100) fun i j => .int (i / j)) := opI fun i j _ _ s Q E hc q => by
 refine floordiv_int (by omega) ?_ (.inl (PyProof.noPylong_of_log2 ?_))
 ·rw [Int.fdiv_eq_ediv_of_nonneg _ (by omega)]; exact q
 ·have : j.natAbs < 2 ^ 100 := by omega
  have h2 : j.natAbs.log2 < 100 := (Nat.log2_lt (by omega)).mpr this
  omega
theorem call_sum : X.calm = true → CallR X (.builtin "sum") (fun xs H Q => ∃ (p : Addr) (ns : List Int), xs = [.ref p] ∧ SqL X.K H p (ns.map V.int) ∧ Q (.int ns.sum) H) := by
 intro hc pins s σ H xs us Q I r h
 obtain ⟨p, ns, rfl, hp, q⟩ := h
 obtain ⟨u, rfl, ru⟩ := vals1 r
 cases ru
 obtain ⟨is, r1, p1, _⟩ := I.list hp
 have hi := intsAre_of r1
 obtain ⟨zs, hz⟩ := hi.allInts.items
 refine sum_intListG (I.ok.hd hc) (by rw [← hz]; exact p1.isList) fun h' tk t' hk => ?_
 refine ⟨.int _, H, I.kept hk, ⟨t', rfl⟩, ?_⟩
 have e : preSum (numAt zs) zs.size = ns.sum := by
  rw [preSum_eq, List.take_of_length_le (by simp)]
  have e2 := hi.numsOf
  have e3 : is = (intItems zs).toList := by rw [← hz]
  rw [e3, nums_intItems] at e2
  rw [← e2]
 rw [e]; exact q
theorem bools_at {bs : List Bool} {us : List Value} (r : Vals (bs.map V.bl) us) {i : Nat} {v : Value} (e : us[i]? = some v) : v = .bool (bs.getD i true) := by
 have hl := r.length
 rw [List.length_map] at hl
 obtain ⟨hi, rfl⟩ := List.getElem?_eq_some_iff.mp e
 have hi' : i < bs.length := by omega
 have : (bs.map V.bl)[i]? = some (.bl bs[i]) := by simp [hi']
 obtain ⟨u, eu, ru⟩ := r.get this
 rw [e] at eu
 cases eu
 have hd : bs.getD i true = bs[i] := by simp [List.getD, hi']
 rw [hd]
 exact ru
theorem range_all (bs : List Bool) : (List.range bs.length).all (fun i => bs.getD i true) = bs.all id := by
 rw [Bool.eq_iff_iff, List.all_eq_true, List.all_eq_true]
 constructor
 ·intro h x hx
  obtain ⟨i, hi, rfl⟩ := List.mem_iff_getElem.mp hx
  have := h i (by simp [hi])
  simpa [List.getD, hi] using this
 ·intro h i hi
  have hi' : i < bs.length := by simpa using hi
  have := h bs[i] (List.getElem_mem hi')
  simpa [List.getD, hi'] using this
theorem call_all : X.calm = true → CallR X (.builtin "all") (fun xs H Q => ∃ (p : Addr) (bs : List Bool), xs = [.ref p] ∧ SqL X.K H p (bs.map V.bl) ∧ Q (.bl (bs.all id)) H) := by
 intro hc pins s σ H xs us Q I r h
 obtain ⟨p, bs, rfl, hp, q⟩ := h
 obtain ⟨u, rfl, ru⟩ := vals1 r
 cases ru
 obtain ⟨is, r1, p1, _⟩ := I.list hp
 have hl := r1.length
 rw [List.length_map] at hl
 have hlt : p < s.heap.objs.size := by obtain ⟨_, e, _⟩ := p1.isList; exact Heap.lt_size e
 refine call_all_walk (wpAny_pyIter_list p1.isList ?_)
 refine ⟨s.heap.objs.size, _, _, _, _, _, (fun i => bs.getD i true), rfl, Walks.list (A := X.A.in1) (I.ok.hd hc) s.heap.objs.size p (Nat.ne_of_lt hlt) is.toArray, ⟨⟨_, Heap.get?_push_size _ rfl, rfl, rfl⟩, p1.isList.push _⟩, fun i v s' Q' E' hv hQ' => ?_, fun h' tk hk => ?_⟩
 ·have e := bools_at r1 (i := i) (v := v) (by simpa using hv)
  subst e
  exact wpAny_pure hQ'
 ·refine ⟨.bl _, H, I.kept (fun b o e => hk b o (by have := Heap.lt_size e; simp; exact Nat.ne_of_lt this) (Heap.get?_push_of_some _ e)), rfl, ?_⟩
  have e : (List.range is.toArray.size).all (fun i => bs.getD i true) = bs.all id := by
   rw [List.size_toArray, ← hl]; exact range_all bs
  show Q (.bl ((List.range is.toArray.size).all fun i => bs.getD i true)) H
  rw [e]; exact q
theorem isSlice_of {h : Heap} {sl : Addr} {vl vu : Value} {lo hi : Option Int} (hs : h.IsSliceOf sl vl vu .none) (pl : IsPart vl lo) (pu : IsPart vu hi) : ∃ l u : Option (Int × Tok), h.IsSlice sl l u none ∧ l.map (·.1) = lo ∧ u.map (·.1) = hi := by
 cases pl with
 | none =>
  cases pu with
  | none => exact ⟨none, none, hs, rfl, rfl⟩
  | int i t => exact ⟨none, some (_, _), hs, rfl, rfl⟩
 | int i t =>
  cases pu with
  | none => exact ⟨some (_, _), none, hs, rfl, rfl⟩
  | int i t => exact ⟨some (_, _), some (_, _), hs, rfl, rfl⟩
theorem sl_str : SlR X (fun x lo hi H Q => ∃ z : Str, x = .str z ∧ z.length ≤ sizeLine ∧ Q (.str (Txt.slice z lo hi)) H) := by
 intro pins s σ H x v vl vu lo hi sl Q I rx hs pl pu h
 obtain ⟨z, rfl, hz, q⟩ := h
 obtain ⟨t, rfl⟩ := rx
 obtain ⟨l, u, hsl, rfl, rfl⟩ := isSlice_of hs pl pu
 refine ⟨"str", _, F.slot_str_getitem.lookup, typeIs_str _ _ _, wpAny_getItem_str_slice (l := l) (u := u) (st := none) hsl rfl ?_⟩
 exact post_val_or_str ⟨Nat.le_trans (Txt.slice_le z _ _) hz, fun t' k => ⟨.str _, H, I.tok k, ⟨t', rfl⟩, q⟩⟩
end
end L2
namespace L2
open PySem PySem.Spec PyProof.Rows
section
variable {X : Cx}
end
theorem boot_list : bootBuiltins "list" = some (.type "list") := by kernel_rfl
theorem boot_tuple : bootBuiltins "tuple" = some (.type "tuple") := by kernel_rfl
theorem boot_str : bootBuiltins "str" = some (.type "str") := by kernel_rfl
theorem boot_int : bootBuiltins "int" = some (.type "int") := by kernel_rfl
theorem boot_bool : bootBuiltins "bool" = some (.type "bool") := by kernel_rfl
theorem boot_isinst : bootBuiltins "isinstance" = some (.builtin "isinstance") := by kernel_rfl
theorem boot_sum : bootBuiltins "sum" = some (.builtin "sum") := by kernel_rfl
theorem boot_all : bootBuiltins "all" = some (.builtin "all") := by kernel_rfl
end L2
namespace L2
open PySem PySem.Spec PyProof.Rows
inductive Ty (H : Hp) : V → String → Prop where
 | non : Ty H .non "NoneType"
 | bl (x : Bool) : Ty H (.bl x) "bool"
 | int (i : Int) : Ty H (.int i) "int"
 | str (x : Str) : Ty H (.str x) "str"
 | lst {a : Addr} {xs : List V} (e : H a = some (.lst xs)) : Ty H (.ref a) "list"
 | tup {a : Addr} {xs : List V} (e : H a = some (.tup xs)) : Ty H (.ref a) "tuple"
section
variable {X : Cx}
theorem Ty.of {K : PySem.W.Frag} {H : Hp} {x : V} {T : String} (h : Ty H x T) : TyOf K H x (.type T) := by
 cases h with
 | non => exact .non
 | bl x => exact .bl x
 | int i => exact .int i
 | str x => exact .str x
 | lst e => exact .lst e
 | tup e => exact .tup e
theorem kit_any2 {K : PySem.W.Frag} {T C D : String} {b c : Bool} (h1 : PySem.W.kitOne K (.type T) (.type C) = some b) (h2 : PySem.W.kitOne K (.type T) (.type D) = some c) : PySem.W.kitAny K (.type T) [.type C, .type D] = some (b || c) := by
 unfold PySem.W.kitAny
 rw [h1]
 cases b with
 | true => rfl
 | false =>
  show PySem.W.kitAny K (.type T) [.type D] = _
  unfold PySem.W.kitAny
  rw [h2]
  cases c <;> rfl
end
end L2
namespace L2
open PySem PySem.Spec PyProof.Rows
structure Cal (P : Program) (w : World) (K : PySem.W.Frag) (mg : Str → Option Value) (base : Heap) (k : Nat) (name : Str) (ps : List Str) (sp : Sp) (f : Addr) (fd : FuncData) : Prop where
 G : FnOk P w K mg base (CXE P w) k f fd ps sp
 m : mg name = some (.ref f)
 kp : PySem.W.keepIn K (.ref f) = true
 b : Binds K fd ps []
theorem Cal.mono {P : Program} {w : World} {K : PySem.W.Frag} {mg : Str → Option Value} {base : Heap} {j k : Nat} {name : Str} {ps : List Str} {sp : Sp} {f : Addr} {fd : FuncData} (c : Cal P w K mg base j name ps sp f fd) (h : j ≤ k) : Cal P w K mg base k name ps sp f fd := ⟨c.G.mono h, c.m, c.kp, c.b⟩
structure Loc2 (K : PySem.W.Frag) (mg : Str → Option Value) (name : Str) (st : Stmt) (ps : List Str) (f : Addr) (fd : FuncData) : Prop where
 F : Fun K name name st f fd
 m : mg name = some (.ref f)
 b : Binds K fd ps []
theorem Loc2.cal {P : Program} {w : World} {K : PySem.W.Frag} {mg : Str → Option Value} {base : Heap} {k : Nat} {name : Str} {st : Stmt} {ps : List Str} {sp : Sp} {f : Addr} {fd : FuncData} (l : Loc2 K mg name st ps f fd) (G : FnOk P w K mg base (CXE P w) k f fd ps sp) : Cal P w K mg base k name ps sp f fd := ⟨G, l.m, l.F.kp, l.b⟩
structure Zs (mg : Str → Option Value) : Prop where
 len : mg "len" = none
 range : mg "range" = none
 isinstance : mg "isinstance" = none
 list : mg "list" = none
 tuple : mg "tuple" = none
 str : mg "str" = none
 int : mg "int" = none
 bool : mg "bool" = none
 sum : mg "sum" = none
 all : mg "all" = none
 zip : mg "zip" = none
noncomputable def SameX (l : Addr) (H H' : Hp) : Prop := ∀ b o, b ≠ l → H b = some o → H' b = some o
theorem Same.x {H H' : Hp} (h : Same H H') (l : Addr) : SameX l H H' := fun b o _ e => h b o e
theorem SameX.trans {l : Addr} {H H1 H2 : Hp} (a : SameX l H H1) (b : SameX l H1 H2) : SameX l H H2 := fun c o n e => b c o n (a c o n e)
theorem SameX.refl (l : Addr) (H : Hp) : SameX l H H := fun _ _ _ e => e
theorem SameX.seq {K : PySem.W.Frag} {l : Addr} {H H' : Hp} {a : Addr} {xs : List V} (e : SameX l H H') (n : a ≠ l) (h : SqL K H a xs) : SqL K H' a xs := by
 rcases h with h | h
 ·left
  rcases h with q | ⟨ob, q⟩
  ·exact .inl (e _ _ n q)
  ·exact .inr ⟨ob, e _ _ n q⟩
 ·exact .inr h
theorem small {n : Nat} (h : n ≤ 1000) : n ≤ sizeLine := Nat.le_of_lt (small1000 h)
end L2
namespace My
open PySem L2
noncomputable def wd (ks : List Nat) : Str := ⟨(ks.map (97 + ·)).toArray⟩
theorem str_ext {x y : Str} (h : x.cps.toList = y.cps.toList) : x = y := by
 obtain ⟨a⟩ := x
 obtain ⟨b⟩ := y
 have : a = b := by rw [← Array.toList_inj]; exact h
 rw [this]
theorem wd_list (ks : List Nat) : (wd ks).cps.toList = ks.map (97 + ·) := rfl
theorem wd_len (ks : List Nat) : (wd ks).length = ks.length := by simp [wd, Str.length]
theorem app_list (x y : Str) : (x ++ y).cps.toList = x.cps.toList ++ y.cps.toList := by
 show (x.cps ++ y.cps).toList = _
 simp
theorem letters_wd : (Str.ofString "abcdefghijklmnopqrstuvwxyz") = wd (List.range 26) := by decide +kernel
theorem letters_at {i : Int} (h0 : 0 ≤ i) (h1 : i < 26) : atI (Str.ofString "abcdefghijklmnopqrstuvwxyz").cps.toList i = some (97 + i.toNat) := by
 obtain ⟨m, rfl⟩ : ∃ m : Nat, i = (m : Int) := ⟨i.toNat, by omega⟩
 have hm : m < 26 := by omega
 rw [letters_wd]
 refine atI_nat ?_
 rw [wd_list]
 simp [hm]
theorem letters_len : (Str.ofString "abcdefghijklmnopqrstuvwxyz").length ≤ sizeLine := by rw [letters_wd, wd_len]; decide
theorem idx_eq (lo hi : Option Int) (n : Nat) : Builtin.Str.strSliceIndices lo hi 1 n = (List.range (HT.sIx n n hi - HT.sIx n 0 lo)).map fun k => HT.sIx n 0 lo + k := by
 have clip : ∀ (v : Option Int) (d : Nat), (match v with | none => ((d : Nat) : Int) | some i => max 0 (min (if i < 0 then i + (n : Int) else i) (n : Int))) = ((HT.sIx n d v : Nat) : Int) := by
  intro v d
  cases v with
  | none => rfl
  | some i =>
   unfold HT.sIx
   dsimp only
   split
   ·omega
   ·omega
 unfold Builtin.Str.strSliceIndices
 simp only [show ((1 : Int) > 0) by decide, if_true]
 have e1 := clip lo 0
 have e2 := clip hi n
 simp only [Int.ofNat_zero] at e1
 have key : ∀ a b a' b' : Int, a = a' → b = b' → sliceRange a b 1 = sliceRange a' b' 1 := fun a b a' b' h1 h2 => by rw [h1, h2]
 refine (key _ _ _ _ e1 e2).trans ?_
 unfold sliceRange
 simp only [show ((1 : Int) > 0) by decide, if_true]
 have e3 : (if ((HT.sIx n 0 lo : Nat) : Int) < ((HT.sIx n n hi : Nat) : Int) then (((HT.sIx n n hi : Nat) : Int) - ((HT.sIx n 0 lo : Nat) : Int) + 1 - 1) / 1 else 0).toNat = HT.sIx n n hi - HT.sIx n 0 lo := by
  split
  ·rw [Int.ediv_one]; omega
  ·omega
 rw [e3]
 apply List.map_congr_left
 intro k _
 omega
theorem pick_eq (xs : List Nat) (a c : Nat) (hc : a + c ≤ xs.length) : ((List.range c).map fun k => a + k).filterMap (fun i => xs[i]?) = (xs.drop a).take c := by
 induction c generalizing a with
 | zero => simp
 | succ c ih =>
  have ha : a < xs.length := by omega
  rw [List.range_succ_eq_map, List.map_cons, List.map_map, List.filterMap_cons]
  have e0 : xs[a + 0]? = some xs[a] := by simp [ha]
  rw [e0]
  dsimp only
  rw [List.drop_eq_getElem_cons ha, List.take_succ_cons]
  congr 1
  have := ih (a + 1) (by omega)
  rw [← this]
  congr 1
  apply List.map_congr_left
  intro k _
  simp only [Function.comp]
  omega
theorem slice_list (x : Str) (lo hi : Option Int) : (Txt.slice x lo hi).cps.toList = (x.cps.toList.drop (HT.sIx x.length 0 lo)).take (HT.sIx x.length x.length hi - HT.sIx x.length 0 lo) := by
 have hn : x.cps.toList.length = x.length := by simp [Str.length]
 have hb := HT.sIx_le x.length x.length (Nat.le_refl _) hi
 have ha := HT.sIx_le x.length 0 (Nat.zero_le _) lo
 unfold Txt.slice
 rw [idx_eq, List.length_map, List.length_range]
 split
 ·rename_i h
  have h' : HT.sIx x.length x.length hi - HT.sIx x.length 0 lo = x.length := by simpa using h
  have h2 : HT.sIx x.length 0 lo = 0 ∨ x.length = 0 := by omega
  rw [h']
  rcases h2 with h2 | h2
  ·rw [h2, List.drop_zero, List.take_of_length_le (by omega)]
  ·have : x.cps.toList = [] := List.length_eq_zero_iff.mp (by omega)
   rw [this]; simp
 ·show List.filterMap _ _ = _
  have e : (fun (i : Nat) => x.cps[i]?) = fun i => x.cps.toList[i]? := by funext i; simp
  rw [e]
  by_cases hle : HT.sIx x.length 0 lo ≤ HT.sIx x.length x.length hi
  ·exact pick_eq _ _ _ (by omega)
  ·have : HT.sIx x.length x.length hi - HT.sIx x.length 0 lo = 0 := by omega
   rw [this]; simp
noncomputable def Nm (x : Str) : Prop := ∃ ks : List Nat, x = wd ks ∧ ks ≠ [] ∧ ks.length ≤ 8 ∧ ∀ k ∈ ks, k < 26
theorem Nm.len {x : Str} (h : Nm x) : x.length ≤ 8 := by
 obtain ⟨ks, rfl, _, h, _⟩ := h
 rw [wd_len]; exact h
end My
namespace L2
open PySem PySem.Spec PyProof.Rows
theorem compOk {X : Cx} {scope : Scope} {N' : List Str} {ix : List (Option Nat)} (kind : scope.kind = .function) (cell : ∀ y ∈ scope.names, y.2 ≠ .cell) (names : ∀ y ∈ scope.names, y.2 = .local → scope.names.lookup y.1 = some .local)
  (free : (scope.names.all fun y => !(y.2 == .free) || X.env.scope.names.lookup y.1 == some .cell || X.env.scope.names.lookup y.1 == some .free) = true) (ixs : IxOk X.N X.env.scope scope N' ix) : CompOk X scope N' ix :=
 ⟨kind, cell, names, fun y hy e => by
  have h := List.all_eq_true.mp free y hy
  simp only [e, beq_self_eq_true, Bool.not_true, Bool.false_or, Bool.or_eq_true, beq_iff_eq] at h
  exact h, ixs⟩
section
variable {X : Cx} {K : PySem.W.Frag}
end
end L2
namespace My
open PySem L2
end My
namespace L2
open PySem PySem.Spec PyProof.Rows
noncomputable def Its (z : Str) : It := ⟨fun i _ => i < z.length, fun i H v H' => H' = H ∧ ∃ c, z.cps[i]? = some c ∧ v = .str ⟨#[c]⟩, fun i _ => z.length ≤ i⟩
theorem strWalk {P : Program} {w : World} {A : Around} (hh : A.handled = none) (it : Addr) (x : Str) (t : Tok) : Walks P w A it [it] [it] x.cps.size (SignAt x) fun i h => h.IsStrIter it (strIterType x) x t i := by
 unfold strIterType
 split
 ·exact Walks.strAscii hh it x t
 ·exact Walks.strWide hh it x t
theorem go_str {M : Model} {A : Around} {E : Value → Shared → Prop} {s : Shared} {tg : Expr} {it : Addr} {u : Value} {x : Str} {t : Tok} {i : Nat} {Q : Unit → Shared → Prop} (h : s.heap.IsStrIter it (strIterType x) x t i) (hQ : Q () s) : wpAny M A (letOwnedTupleGo tg (.ref it) u) Q E s := by
 obtain ⟨o, e, c, d⟩ := h
 refine go_of e c d ?_ hQ
 unfold strIterType
 split <;> decide
theorem turn_str {P : Program} {w : World} {K : PySem.W.Frag} {tg : Expr} (it : Addr) (x : Str) (t : Tok) : Turn P w K tg (Its x) [it] it (fun i h => i ≤ x.length ∧ h.IsStrIter it (strIterType x) x t i) where
 mem := by simp
 obj := fun i h st b hb => by
  obtain rfl := List.mem_singleton.mp hb
  obtain ⟨_, o, e, c, d⟩ := st
  exact ⟨o, e, fun v z => by rw [d] at z; cases z⟩
 keep := fun i h h' st k => by
  obtain ⟨hi, o, e, r⟩ := st
  exact ⟨hi, o, k it (by simp) o e, r⟩
 item := by
  intro X hP hw hK hc i pins s σ H E I hf st hg
  subst hP hw hK
  obtain ⟨f0, f1, f2, f3, f4, f5⟩ := hf it (by simp)
  have hg' : i < x.length := hg
  refine (strWalk (P := X.prog) (w := X.w) (I.ok.hd hc) it x t).item i s _ _ hg' st.2 fun v h' tk hv st' kk => ?_
  have I1 : Inv X pins σ H { s with heap := h', toks := tk } := I.turned (fun b o hb e => kk b o (by simpa using hb) e) f0 f1 f3 f4 f5
  obtain ⟨c, u, hc', rfl⟩ := hv
  exact ⟨_, rfl, go_str (s := { s with heap := h', toks := tk }) st' ⟨.str ⟨#[c]⟩, H, I1, ⟨u, rfl⟩, ⟨rfl, c, hc', rfl⟩, ⟨hg', st'⟩, fun b hb => (hf b hb).1⟩⟩
 done := by
  intro X hP hw hK hc i pins s σ H E I hf st hg
  subst hP hw hK
  obtain ⟨f0, f1, f2, f3, f4, f5⟩ := hf it (by simp)
  have hg' : x.length ≤ i := hg
  have e : i = x.cps.size := Nat.le_antisymm st.1 hg'
  subst e
  exact (strWalk (P := X.prog) (w := X.w) (I.ok.hd hc) it x t).done s _ _ st.2 fun h' tk kk => ⟨rfl, I.turned (fun b o hb e => kk b o (by simpa using hb) e) f0 f1 f3 f4 f5⟩
 self := fun A i s Q E st h => by
  have st' := st.2
  unfold strIterType at st'
  split at st'
  ·exact wpAny_pyIter_striter_ascii st' h
  ·exact wpAny_pyIter_striter_wide st' h
section
variable {X : Cx} {tg : Expr}
end
noncomputable abbrev TJ := St → Hp → Str → (Str → Hp → Prop) → Prop
noncomputable def PJ (X : Cx) (es : List Expr) (t : TJ) : Prop := ∀ (pins : List (Addr × Obj)) (s : Shared) (σ : St) (H : Hp) (acc : Str) (Q : Str → Hp → Prop), Inv X pins σ H s → t σ H acc Q →
 Joins (model X.prog X.w) X.A X.xe (evalEach es X.env) acc (fun out s₁ => ∃ H', Inv X pins σ H' s₁ ∧ Q out H') s
section
variable {X : Cx} {e : Expr} {es : List Expr} {t : TJ} {te : TE} {pos p2 : Pos}
end
end L2
namespace L2
open PySem PySem.Spec PyProof.Rows
section
variable {X : Cx}
theorem op_catT0 : OpR X (binaryOp .Add) (fun x y H Q => (∃ a b ys, x = .ref a ∧ y = .ref b ∧ SqT X.K H a [] ∧ SqT X.K H b ys ∧ Q (.ref b) H) ∨ rCatT X.K x y H Q) := by
 intro pins s σ H x y v u Q I rx ry h
 rcases h with h | h
 ·obtain ⟨a, b, ys, rfl, rfl, ha, hb, q⟩ := h
  cases rx
  cases ry
  obtain ⟨its, r1, p1, _⟩ := I.tuple ha
  obtain ⟨its2, r2, p2, hz⟩ := I.tuple hb
  cases r1
  obtain ⟨⟨c1, e1, t1, l1⟩, ho, hc, n, hd⟩ := p1
  obtain ⟨⟨c2, e2, t2, l2⟩, ho2, hc2, n2, hd2⟩ := p2
  simp only at hc hd hc2 hd2
  subst hc hd hc2 hd2
  refine concat_meets ⟨_, ho, rfl⟩ ⟨_, ho2, rfl⟩ noFill_tuple_add seq_tuple_add PySem.F.slot_tuple_add PySem.F.entry_tuple_add (PySem.F.args_tuple_add_2 _ _)
   (tuple_addW0 a b _ its2.toArray n n2 e1 e2 l1 l2 (by rfl)) ⟨ho, ho2, ⟨.ref b, H, I, rfl, q⟩⟩
 ·exact op_catT pins s σ H x y v u Q I rx ry h
end
end L2
namespace Ev
open PySem L2
inductive PV where
 | non | bl (b : Bool) | int (i : Int) | str (x : Str) | ty (n : String)
 | tup (xs : List PV) | frl (xs : List PV) | ref (n : Nat) | exc (c : String)
inductive SO where
 | lst (xs : List PV) | dK (kvs : List (Key × PV)) | dN (kvs : List (KTr × PV))
noncomputable abbrev Store := List SO
noncomputable abbrev Loc := List (Option PV)
noncomputable def SqF (K : PySem.W.Frag) (H : Hp) (a : Addr) (xs : List V) : Prop :=
 (∃ o, H a = some (.frz o (.lst xs))) ∨ ∃ (o : Obj) (its : Array Value) (n : Nat), K.lookup a = some o ∧ o.cls = .type "list" ∧ o.dict = none ∧ o.data = .seq its n ∧ its.size ≤ sizeLine ∧ Vals xs its.toList
theorem SqF.sq {K : PySem.W.Frag} {H : Hp} {a : Addr} {xs : List V} (h : SqF K H a xs) : SqL K H a xs := by
 rcases h with ⟨o, h⟩ | h
 ·exact .inl (.inr ⟨o, h⟩)
 ·exact .inr h
noncomputable def ExcAt (K : PySem.W.Frag) (H : Hp) (a : Addr) (c : String) : Prop := ∃ (f : Heap → Prop) (C : Addr), H a = some (.ext f) ∧ PySem.W.nsIn K mainGlobals (Str.ofString c) = some (some (.ref C)) ∧ ∀ h, f h → ∃ o, h.get? a = some o ∧ o.cls = .ref C
mutual
noncomputable def RV (K : PySem.W.Frag) (H : Hp) (φ : List Addr) : PV → V → Prop
 | .non, v => v = .non
 | .bl b, v => v = .bl b
 | .int i, v => v = .int i
 | .str x, v => v = .str x
 | .ty n, v => v = .ty n
 | .tup xs, v => ∃ a vs, v = .ref a ∧ SqT K H a vs ∧ RVs K H φ xs vs
 | .frl xs, v => ∃ a vs, v = .ref a ∧ SqF K H a vs ∧ RVs K H φ xs vs
 | .ref n, v => ∃ a, v = .ref a ∧ φ[n]? = some a
 | .exc c, v => ∃ a, v = .ref a ∧ ExcAt K H a c
noncomputable def RVs (K : PySem.W.Frag) (H : Hp) (φ : List Addr) : List PV → List V → Prop
 | [], vs => vs = []
 | x :: xs, vs => ∃ y ys, vs = y :: ys ∧ RV K H φ x y ∧ RVs K H φ xs ys
end
structure Mono (H H' : Hp) : Prop where
 tup : ∀ a xs, H a = some (.tup xs) → H' a = some (.tup xs)
 frz : ∀ a o u, H a = some (.frz o u) → H' a = some (.frz o u)
 ext : ∀ a f, H a = some (.ext f) → H' a = some (.ext f)
theorem Mono.refl (H : Hp) : Mono H H := ⟨fun _ _ h => h, fun _ _ _ h => h, fun _ _ h => h⟩
theorem Mono.trans {H H1 H2 : Hp} (a : Mono H H1) (b : Mono H1 H2) : Mono H H2 := ⟨fun c xs h => b.tup c xs (a.tup c xs h), fun c o u h => b.frz c o u (a.frz c o u h), fun c f h => b.ext c f (a.ext c f h)⟩
theorem Mono.new {H : Hp} {p : Addr} (o : HO) (h : H p = none) : Mono H (upd H p o) := ⟨fun b u q => by rw [upd_ne (ne_of_none q h)]; exact q, fun b u v q => by rw [upd_ne (ne_of_none q h)]; exact q, fun b f q => by rw [upd_ne (ne_of_none q h)]; exact q⟩
theorem Mono.rd {H H' : Hp} (m : Mono H H') {a : Addr} {xs : List V} (h : Rd H a (.tup xs)) : Rd H' a (.tup xs) := by
 rcases h with h | ⟨o, h⟩
 ·exact .inl (m.tup _ _ h)
 ·exact .inr ⟨o, m.frz _ _ _ h⟩
theorem Mono.sqT {K : PySem.W.Frag} {H H' : Hp} (m : Mono H H') {a : Addr} {xs : List V} (h : SqT K H a xs) : SqT K H' a xs := by
 rcases h with h | h
 ·exact .inl (m.rd h)
 ·exact .inr h
theorem Mono.sqF {K : PySem.W.Frag} {H H' : Hp} (m : Mono H H') {a : Addr} {xs : List V} (h : SqF K H a xs) : SqF K H' a xs := by
 rcases h with ⟨o, h⟩ | h
 ·exact .inl ⟨o, m.frz _ _ _ h⟩
 ·exact .inr h
theorem pre_get {φ φ' : List Addr} (h : φ <+: φ') {n : Nat} {a : Addr} (e : φ[n]? = some a) : φ'[n]? = some a := by
 obtain ⟨t, rfl⟩ := h
 rw [List.getElem?_append_left (by
  have := List.getElem?_eq_some_iff.mp e
  exact this.1)]
 exact e
section
variable {K : PySem.W.Frag} {H H' : Hp} {φ φ' : List Addr}
mutual
theorem RV.mono (m : Mono H H') (p : φ <+: φ') : ∀ (v : PV) (x : V), RV K H φ v x → RV K H' φ' v x
 | .non, _, h => h
 | .bl _, _, h => h
 | .int _, _, h => h
 | .str _, _, h => h
 | .ty _, _, h => h
 | .tup xs, _, ⟨a, vs, e, s, r⟩ => ⟨a, vs, e, m.sqT s, RVs.mono m p xs vs r⟩
 | .frl xs, _, ⟨a, vs, e, s, r⟩ => ⟨a, vs, e, m.sqF s, RVs.mono m p xs vs r⟩
 | .ref _, _, ⟨a, e, q⟩ => ⟨a, e, pre_get p q⟩
 | .exc _, _, ⟨a, e, f, C, h1, h2, h3⟩ => ⟨a, e, f, C, m.ext _ _ h1, h2, h3⟩
theorem RVs.mono (m : Mono H H') (p : φ <+: φ') : ∀ (xs : List PV) (vs : List V), RVs K H φ xs vs → RVs K H' φ' xs vs
 | [], _, h => h
 | x :: xs, _, ⟨y, ys, e, r, t⟩ => ⟨y, ys, e, RV.mono m p x y r, RVs.mono m p xs ys t⟩
end
theorem RVs.length : ∀ {xs : List PV} {vs : List V}, RVs K H φ xs vs → xs.length = vs.length
 | [], _, h => by rw [show _ = [] from h]; rfl
 | _ :: xs, _, ⟨y, ys, e, _, t⟩ => by rw [e, List.length_cons, List.length_cons, RVs.length t]
theorem RVs.get : ∀ {xs : List PV} {vs : List V} {i : Nat} {x : PV}, RVs K H φ xs vs → xs[i]? = some x → ∃ y, vs[i]? = some y ∧ RV K H φ x y
 | [], _, _, _, _, e => by simp at e
 | x :: xs, _, 0, x', ⟨y, ys, e, r, t⟩, q => by
  simp at q; subst q; subst e
  exact ⟨y, by simp, r⟩
 | x :: xs, _, i + 1, x', ⟨y, ys, e, r, t⟩, q => by
  subst e
  obtain ⟨z, h1, h2⟩ := RVs.get (i := i) t (by simpa using q)
  exact ⟨z, by simpa using h1, h2⟩
theorem RVs.append : ∀ {xs ys : List PV} {vs ws : List V}, RVs K H φ xs vs → RVs K H φ ys ws → RVs K H φ (xs ++ ys) (vs ++ ws)
 | [], _, _, _, h, s => by rw [show _ = [] from h]; exact s
 | x :: xs, _, _, _, ⟨y, ys, e, r, t⟩, s => by subst e; exact ⟨y, _, rfl, r, RVs.append t s⟩
theorem RVs.one {x : PV} {y : V} (r : RV K H φ x y) : RVs K H φ [x] [y] := ⟨y, [], rfl, r, rfl⟩
theorem RVs.cons {x : PV} {y : V} {xs : List PV} {ys : List V} (r : RV K H φ x y) (t : RVs K H φ xs ys) : RVs K H φ (x :: xs) (y :: ys) := ⟨y, ys, rfl, r, t⟩
theorem RVs.take : ∀ {xs : List PV} {vs : List V} (n : Nat), RVs K H φ xs vs → RVs K H φ (xs.take n) (vs.take n)
 | _, _, 0, _ => by simp; exact rfl
 | [], _, _ + 1, h => by rw [show _ = [] from h]; exact rfl
 | x :: xs, _, n + 1, ⟨y, ys, e, r, t⟩ => by subst e; exact ⟨y, _, rfl, r, RVs.take n t⟩
theorem RVs.drop : ∀ {xs : List PV} {vs : List V} (n : Nat), RVs K H φ xs vs → RVs K H φ (xs.drop n) (vs.drop n)
 | _, _, 0, h => h
 | [], _, _ + 1, h => by rw [show _ = [] from h]; exact rfl
 | x :: xs, _, n + 1, ⟨y, ys, e, r, t⟩ => by subst e; exact RVs.drop n t
theorem RVs.set {z : PV} {u : V} (q : RV K H φ z u) : ∀ {xs : List PV} {vs : List V} (n : Nat), RVs K H φ xs vs → RVs K H φ (xs.set n z) (vs.set n u)
 | [], _, _, h => by rw [show _ = [] from h]; exact rfl
 | x :: xs, _, 0, ⟨y, ys, e, r, t⟩ => by subst e; exact ⟨u, _, rfl, q, t⟩
 | x :: xs, _, n + 1, ⟨y, ys, e, r, t⟩ => by subst e; exact ⟨y, _, rfl, r, RVs.set q n t⟩
theorem RVs.eraseIdx : ∀ {xs : List PV} {vs : List V} (n : Nat), RVs K H φ xs vs → RVs K H φ (xs.eraseIdx n) (vs.eraseIdx n)
 | [], _, _, h => by rw [show _ = [] from h]; exact rfl
 | x :: xs, _, 0, ⟨y, ys, e, r, t⟩ => by subst e; exact t
 | x :: xs, _, n + 1, ⟨y, ys, e, r, t⟩ => by subst e; exact ⟨y, _, rfl, r, RVs.eraseIdx n t⟩
theorem RVs.dropLast {xs : List PV} {vs : List V} (h : RVs K H φ xs vs) : RVs K H φ xs.dropLast vs.dropLast := by
 rw [List.dropLast_eq_take, List.dropLast_eq_take, ← h.length]
 exact h.take _
theorem RVs.reverse : ∀ {xs : List PV} {vs : List V}, RVs K H φ xs vs → RVs K H φ xs.reverse vs.reverse
 | [], _, h => by rw [show _ = [] from h]; exact rfl
 | x :: xs, _, ⟨y, ys, e, r, t⟩ => by
  subst e
  rw [List.reverse_cons, List.reverse_cons]
  exact (RVs.reverse t).append (.one r)
theorem RVs.rep {xs : List PV} {vs : List V} (h : RVs K H φ xs vs) : ∀ n, RVs K H φ (List.replicate n xs).flatten (List.replicate n vs).flatten
 | 0 => rfl
 | n + 1 => by
  rw [List.replicate_succ, List.replicate_succ, List.flatten_cons, List.flatten_cons]
  exact h.append (RVs.rep h n)
theorem RVs.ints : ∀ {ns : List Int} {vs : List V}, RVs K H φ (ns.map PV.int) vs → vs = ns.map V.int
 | [], _, h => h
 | _ :: ns, _, ⟨y, ys, e, r, t⟩ => by rw [e, show y = _ from r, RVs.ints t]; rfl
theorem RVs.strs : ∀ {ns : List Str} {vs : List V}, RVs K H φ (ns.map PV.str) vs → vs = ns.map V.str
 | [], _, h => h
 | _ :: ns, _, ⟨y, ys, e, r, t⟩ => by rw [e, show y = _ from r, RVs.strs t]; rfl
theorem RVs.bls : ∀ {ns : List Bool} {vs : List V}, RVs K H φ (ns.map PV.bl) vs → vs = ns.map V.bl
 | [], _, h => h
 | _ :: ns, _, ⟨y, ys, e, r, t⟩ => by rw [e, show y = _ from r, RVs.bls t]; rfl
theorem RVs.of_ints : ∀ (ns : List Int), RVs K H φ (ns.map PV.int) (ns.map V.int)
 | [] => rfl
 | _ :: ns => ⟨_, _, rfl, rfl, RVs.of_ints ns⟩
noncomputable def RKs (K : PySem.W.Frag) (H : Hp) (φ : List Addr) : List (Key × PV) → List (Key × V) → Prop := Paired fun p q => p.1 = q.1 ∧ RV K H φ p.2 q.2
theorem RKs.mono (m : Mono H H') (p : φ <+: φ') {xs : List (Key × PV)} {ys : List (Key × V)} (h : RKs K H φ xs ys) : RKs K H' φ' xs ys := Paired.mapP h fun _ _ hh1 => by obtain ⟨a, b⟩ := hh1; exact (⟨a, RV.mono m p _ _ b⟩)
mutual
noncomputable def ktP : KTr → PV
 | .int i => .int i
 | .str x => .str x
 | .tup xs => .tup (ktPs xs)
noncomputable def ktPs : List KTr → List PV
 | [] => []
 | x :: xs => ktP x :: ktPs xs
end
noncomputable def RNs (K : PySem.W.Frag) (H : Hp) (φ : List Addr) : List (KTr × PV) → List (KTr × Addr × V) → Prop := Paired fun p q => p.1 = q.1 ∧ ((∃ ys, p.1 = .tup ys) ∧ kdep p.1 ≤ 8) ∧ RV K H φ (ktP p.1) (.ref q.2.1) ∧ RV K H φ p.2 q.2.2
theorem RNs.mono (m : Mono H H') (p : φ <+: φ') {xs : List (KTr × PV)} {ys : List (KTr × Addr × V)} (h : RNs K H φ xs ys) : RNs K H' φ' xs ys := Paired.mapP h fun _ _ hh1 => by obtain ⟨a, c, b, d⟩ := hh1; exact (⟨a, c, RV.mono m p _ _ b, RV.mono m p _ _ d⟩)
noncomputable def ObjR (K : PySem.W.Frag) (H : Hp) (φ : List Addr) : SO → Addr → Prop
 | .lst xs, a => ∃ vs, H a = some (.lst vs) ∧ RVs K H φ xs vs
 | .dK kvs, a => ∃ ws, H a = some (.dK ws) ∧ RKs K H φ kvs ws
 | .dN kvs, a => ∃ ws, H a = some (.dH ws) ∧ RNs K H φ kvs ws
theorem ObjR.some {o : SO} {a : Addr} (h : ObjR K H φ o a) : ∃ u, H a = Option.some u := by
 cases o with
 | lst xs => obtain ⟨vs, e, _⟩ := h; exact ⟨_, e⟩
 | dK xs => obtain ⟨vs, e, _⟩ := h; exact ⟨_, e⟩
 | dN xs => obtain ⟨vs, e, _⟩ := h; exact ⟨_, e⟩
theorem ObjR.mono (m : Mono H H') (p : φ <+: φ') {o : SO} {a : Addr} (e : ∀ u, H a = Option.some u → H' a = Option.some u) (h : ObjR K H φ o a) : ObjR K H' φ' o a := by
 cases o with
 | lst xs => obtain ⟨vs, q, r⟩ := h; exact ⟨vs, e _ q, RVs.mono m p _ _ r⟩
 | dK xs => obtain ⟨vs, q, r⟩ := h; exact ⟨vs, e _ q, RKs.mono m p r⟩
 | dN xs => obtain ⟨vs, q, r⟩ := h; exact ⟨vs, e _ q, RNs.mono m p r⟩
structure Rel (K : PySem.W.Frag) (φ : List Addr) (S : Store) (H : Hp) : Prop where
 len : φ.length = S.length
 nd : φ.Nodup
 obj : ∀ (n : Nat) (a : Addr) (o : SO), φ[n]? = some a → S[n]? = some o → ObjR K H φ o a
theorem Rel.at {S : Store} (h : Rel K φ S H) {n : Nat} {o : SO} (e : S[n]? = some o) : ∃ a, φ[n]? = some a ∧ ObjR K H φ o a := by
 have hn : n < φ.length := by rw [h.len]; exact (List.getElem?_eq_some_iff.mp e).1
 exact ⟨φ[n], List.getElem?_eq_getElem hn, h.obj n _ o (List.getElem?_eq_getElem hn) e⟩
theorem Rel.at' {S : Store} (h : Rel K φ S H) {n : Nat} {a : Addr} (e : φ[n]? = some a) : ∃ o, S[n]? = some o ∧ ObjR K H φ o a := by
 have hn : n < S.length := by rw [← h.len]; exact (List.getElem?_eq_some_iff.mp e).1
 exact ⟨S[n], List.getElem?_eq_getElem hn, h.obj n a _ e (List.getElem?_eq_getElem hn)⟩
theorem Rel.frame {S : Store} (h : Rel K φ S H) {p : Addr} (o : HO) (hp : H p = none) : Rel K φ S (upd H p o) :=
 ⟨h.len, h.nd, fun n a o' e q => (h.obj n a o' e q).mono (Mono.new o hp) (List.prefix_refl _) fun u z => by rw [upd_ne (ne_of_none z hp)]; exact z⟩
theorem Rel.new {S : Store} (h : Rel K φ S H) {p : Addr} {o : SO} {u : HO} (hp : H p = none) (ho : ObjR K (upd H p u) (φ ++ [p]) o p) : Rel K (φ ++ [p]) (S ++ [o]) (upd H p u) := by
 refine ⟨by simp [h.len], ?_, fun n a o' e q => ?_⟩
 ·refine List.nodup_append.mpr ⟨h.nd, by simp, fun a ha b hb => ?_⟩
  rw [List.mem_singleton] at hb
  subst hb
  intro z
  subst z
  obtain ⟨n, hn, e⟩ := List.mem_iff_getElem.mp ha
  obtain ⟨o', _, r⟩ := h.at' (n := n) (a := a) (by rw [List.getElem?_eq_getElem hn, e])
  obtain ⟨u', z⟩ := r.some
  rw [hp] at z
  cases z
 ·by_cases hn : n < φ.length
  ·rw [List.getElem?_append_left hn] at e
   rw [List.getElem?_append_left (by rw [← h.len]; exact hn)] at q
   exact (h.obj n a o' e q).mono (Mono.new u hp) (List.prefix_append _ _) fun u' z => by rw [upd_ne (ne_of_none z hp)]; exact z
  ·have hn' : n = φ.length := by
    have := (List.getElem?_eq_some_iff.mp e).1
    simp at this
    omega
   subst hn'
   rw [List.getElem?_append_right (Nat.le_refl _)] at e
   rw [h.len, List.getElem?_append_right (Nat.le_refl _)] at q
   simp at e q
   subst e q
   exact ho
theorem Rel.put {S : Store} (h : Rel K φ S H) {n : Nat} {a : Addr} {o : SO} {u : HO} (e : φ[n]? = some a) (m : Mono H (upd H a u)) (ho : ObjR K (upd H a u) φ o a) : Rel K φ (S.set n o) (upd H a u) := by
 refine ⟨by simp [h.len], h.nd, fun i b o' q r => ?_⟩
 by_cases hi : i = n
 ·subst hi
  rw [e] at q
  cases q
  have hl : i < S.length := by rw [← h.len]; exact (List.getElem?_eq_some_iff.mp e).1
  rw [List.getElem?_set_self hl] at r
  cases r
  exact ho
 ·rw [List.getElem?_set_ne (fun z => hi z.symm)] at r
  have hb : b ≠ a := fun z => by
   subst z
   have h1 := List.getElem?_eq_some_iff.mp q
   have h2 := List.getElem?_eq_some_iff.mp e
   obtain ⟨l1, e1⟩ := h1
   obtain ⟨l2, e2⟩ := h2
   exact hi ((List.getElem_inj h.nd).mp (e1.trans e2.symm))
  exact (h.obj i b o' q r).mono m (List.prefix_refl _) fun u' z => by rw [upd_ne hb]; exact z
theorem Mono.lst {a : Addr} {xs : List V} {u : HO} (e : H a = some (.lst xs)) : Mono H (upd H a u) :=
 ⟨fun b xs q => by rw [upd_ne (ne_of q e (by intro z; cases z))]; exact q, fun b o w q => by rw [upd_ne (ne_of q e (by intro z; cases z))]; exact q, fun b f q => by rw [upd_ne (ne_of q e (by intro z; cases z))]; exact q⟩
theorem Mono.dicH {a : Addr} {xs : List (KTr × Addr × V)} {u : HO} (e : H a = some (.dH xs)) : Mono H (upd H a u) :=
 ⟨fun b xs q => by rw [upd_ne (ne_of q e (by intro z; cases z))]; exact q, fun b o w q => by rw [upd_ne (ne_of q e (by intro z; cases z))]; exact q, fun b f q => by rw [upd_ne (ne_of q e (by intro z; cases z))]; exact q⟩
theorem Mono.dict {a : Addr} {xs : List (Key × V)} {u : HO} (e : H a = some (.dK xs)) : Mono H (upd H a u) :=
 ⟨fun b xs q => by rw [upd_ne (ne_of q e (by intro z; cases z))]; exact q, fun b o w q => by rw [upd_ne (ne_of q e (by intro z; cases z))]; exact q, fun b f q => by rw [upd_ne (ne_of q e (by intro z; cases z))]; exact q⟩
noncomputable abbrev EK := PV → Store → Prop
structure GX where
 ek : EK
 xh : PV → Hp → Prop
structure LRel (K : PySem.W.Frag) (G : GX) (H : Hp) (φ : List Addr) (σ : Loc) (σV : St) : Prop where
 len : σ.length = σV.length
 at' : ∀ (i : Nat) (v : PV), σ[i]? = some (some v) → ∃ x, σV[i]? = some (some x) ∧ RV K H φ v x
 kx : ∀ v S' φ' H', G.ek v S' → φ <+: φ' → Mono H H' → Rel K φ' S' H' → G.xh v H'
theorem LRel.mono {G : GX} (m : Mono H H') (p : φ <+: φ') {σ : Loc} {σV : St} (h : LRel K G H φ σ σV) : LRel K G H' φ' σ σV :=
 ⟨h.len, fun i v e => let ⟨x, a, b⟩ := h.at' i v e; ⟨x, a, RV.mono m p _ _ b⟩, fun v S1 φ1 H1 g p1 m1 r => h.kx v S1 φ1 H1 g (p.trans p1) (m.trans m1) r⟩
theorem LRel.set {G : GX} {σ : Loc} {σV : St} (h : LRel K G H φ σ σV) (i : Nat) {v : PV} {x : V} (r : RV K H φ v x) : LRel K G H φ (σ.set i (some v)) (σV.set i (some x)) := by
 refine ⟨by simp [h.len], fun j u e => ?_, h.kx⟩
 by_cases hj : j = i
 ·subst hj
  have hl : j < σ.length := by
   have := (List.getElem?_eq_some_iff.mp e).1
   simpa using this
  rw [List.getElem?_set_self hl] at e
  cases e
  exact ⟨x, List.getElem?_set_self (by rw [← h.len]; exact hl), r⟩
 ·rw [List.getElem?_set_ne (fun z => hj z.symm)] at e
  rw [List.getElem?_set_ne (fun z => hj z.symm)]
  exact h.at' j u e
end
end Ev
namespace Ev
open PySem L2
noncomputable abbrev VC := PV → Store → Prop
noncomputable abbrev WE := Loc → Store → EK → VC → Prop
noncomputable abbrev WT := Loc → Store → EK → (Bool → Store → Prop) → Prop
noncomputable abbrev WA := Loc → Store → EK → (List PV → Store → Prop) → Prop
noncomputable def KE (K : PySem.W.Frag) (φ : List Addr) (H : Hp) (Q0 : VC) (Q : VK) : Prop := ∀ v S' φ' H' x, Q0 v S' → φ <+: φ' → Mono H H' → Rel K φ' S' H' → RV K H' φ' v x → Q x H'
noncomputable def KB (K : PySem.W.Frag) (φ : List Addr) (H : Hp) (Q0 : Bool → Store → Prop) (Q : Bool → Hp → Prop) : Prop := ∀ v S' φ' H', Q0 v S' → φ <+: φ' → Mono H H' → Rel K φ' S' H' → Q v H'
noncomputable def KL (K : PySem.W.Frag) (φ : List Addr) (H : Hp) (Q0 : List PV → Store → Prop) (Q : List V → Hp → Prop) : Prop := ∀ v S' φ' H' x, Q0 v S' → φ <+: φ' → Mono H H' → Rel K φ' S' H' → RVs K H' φ' v x → Q x H'
theorem KE.up {K : PySem.W.Frag} {φ φ1 : List Addr} {H H1 : Hp} {Q0 : VC} {Q : VK} (k : KE K φ H Q0 Q) (p : φ <+: φ1) (m : Mono H H1) : KE K φ1 H1 Q0 Q := fun v S' φ' H' x q p' m' => k v S' φ' H' x q (p.trans p') (m.trans m')
theorem KB.up {K : PySem.W.Frag} {φ φ1 : List Addr} {H H1 : Hp} {Q0 : Bool → Store → Prop} {Q : Bool → Hp → Prop} (k : KB K φ H Q0 Q) (p : φ <+: φ1) (m : Mono H H1) : KB K φ1 H1 Q0 Q := fun v S' φ' H' q p' m' => k v S' φ' H' q (p.trans p') (m.trans m')
theorem KL.up {K : PySem.W.Frag} {φ φ1 : List Addr} {H H1 : Hp} {Q0 : List PV → Store → Prop} {Q : List V → Hp → Prop} (k : KL K φ H Q0 Q) (p : φ <+: φ1) (m : Mono H H1) : KL K φ1 H1 Q0 Q := fun v S' φ' H' x q p' m' => k v S' φ' H' x q (p.trans p') (m.trans m')
noncomputable def liftE (K : PySem.W.Frag) (G : GX) (w : WE) : TE := fun σV H Q => ∃ φ σ S Q0, LRel K G H φ σ σV ∧ Rel K φ S H ∧ w σ S G.ek Q0 ∧ KE K φ H Q0 Q
noncomputable def liftT (K : PySem.W.Frag) (G : GX) (w : WT) : TT := fun σV H Q => ∃ φ σ S Q0, LRel K G H φ σ σV ∧ Rel K φ S H ∧ w σ S G.ek Q0 ∧ KB K φ H Q0 Q
noncomputable def liftA (K : PySem.W.Frag) (G : GX) (w : WA) : TA := fun σV H Q => ∃ φ σ S Q0, LRel K G H φ σ σV ∧ Rel K φ S H ∧ w σ S G.ek Q0 ∧ KL K φ H Q0 Q
noncomputable def SimE (X : Cx) (G : GX) (e : Expr) (w : WE) : Prop := PE X e (liftE X.K G w)
noncomputable def SimT (X : Cx) (G : GX) (e : Expr) (w : WT) : Prop := PT X e (liftT X.K G w)
noncomputable def SimW (X : Cx) (G : GX) (e : Expr) (w : WT) : Prop := PW X e (liftT X.K G w)
noncomputable def SimA (X : Cx) (G : GX) (es : List Expr) (w : WA) : Prop := PA X es (liftA X.K G w)
theorem _root_.L2.PE.imp {X : Cx} {e : Expr} {t t' : TE} (h : PE X e t) (i : ∀ σ H Q, t' σ H Q → t σ H Q) : PE X e t' := fun pins s σ H Q I q => h pins s σ H Q I (i σ H Q q)
theorem _root_.L2.PT.imp {X : Cx} {e : Expr} {t t' : TT} (h : PT X e t) (i : ∀ σ H Q, t' σ H Q → t σ H Q) : PT X e t' := fun pins s σ H Q I q => h pins s σ H Q I (i σ H Q q)
theorem _root_.L2.PW.imp {X : Cx} {e : Expr} {t t' : TT} (h : PW X e t) (i : ∀ σ H Q, t' σ H Q → t σ H Q) : PW X e t' := fun wh pins s σ H Q I q => h wh pins s σ H Q I (i σ H Q q)
theorem _root_.L2.PA.imp {X : Cx} {e : List Expr} {t t' : TA} (h : PA X e t) (i : ∀ σ H Q, t' σ H Q → t σ H Q) : PA X e t' := fun pos pins s σ H Q I q => h pos pins s σ H Q I (i σ H Q q)
noncomputable def wVar (i : Nat) : WE := fun σ S _ Q => match σ[i]? with
 | some (some v) => Q v S
 | _ => False
noncomputable def wC (v : PV) : WE := fun _ S _ Q => Q v S
section
variable {X : Cx} {G : GX} {pos : Pos}
theorem sim_var (i : Nat) {x : Str} (hN : X.N[i]? = some x := by rfl) (hv : Vis X.env.scope x := by first | exact Or.inl rfl | exact Or.inr (Or.inl rfl) | exact Or.inr (Or.inr rfl)) (hd : (x == ("__debug__" : Str)) = false := by decide) (hcd : (x == ("__classdict__" : Str)) = false := by decide) :
  SimE X G (.Name x pos) (wVar i) := by
 refine (pe_var (i := i) hN hv hd hcd).imp fun σV H Q hh1 => ?_
 obtain ⟨φ, σ, S, Q0, L, R, h, k⟩ := hh1
 unfold wVar at h
 split at h
 ·rename_i v e
  obtain ⟨x, e', r⟩ := L.at' i v e
  exact ⟨x, e', k v S φ H x h (List.prefix_refl _) (.refl _) R r⟩
 ·exact h.elim
theorem sim_cst {e : Expr} {v : V} (p : PV) (h : PE X e (tC v)) (r : ∀ H φ, RV X.K H φ p v) : SimE X G e (wC p) :=
 h.imp fun σV H Q hh1 => by obtain ⟨φ, σ, S, Q0, L, R, h, k⟩ := hh1; exact (k p S φ H v h (List.prefix_refl _) (.refl _) R (r H φ))
theorem sim_int {i j} : SimE X G (.Constant (.int i) j pos) (wC (.int i)) := sim_cst _ pe_int fun _ _ => rfl
theorem sim_bl {i j} : SimE X G (.Constant (.bool i) j pos) (wC (.bl i)) := sim_cst _ pe_bl fun _ _ => rfl
theorem sim_str {i j} : SimE X G (.Constant (.str i) j pos) (wC (.str i)) := sim_cst _ pe_str fun _ _ => rfl
theorem sim_non {j} : SimE X G (.Constant .none j pos) (wC .non) := sim_cst _ pe_non fun _ _ => rfl
structure GlobV (K : PySem.W.Frag) (mg : Str → Option Value) (x : Str) (p : PV) : Prop where
 is : ∃ u v, mg x = some u ∧ RelV v u ∧ ∀ H φ, RV K H φ p v
theorem sim_ty {x : Str} {T : String} (hm : X.mg x = none) (hb : bootBuiltins x = some (.type T)) (hg : Gl X x := by rfl) (hn : x ≠ "__name__" := by decide) (hd : (x == ("__debug__" : Str)) = false := by decide) : SimE X G (.Name x pos) (wC (.ty T)) :=
 sim_cst (v := .ty T) _ (pe_bltn hg hm hb rfl hn hd) fun _ _ => rfl
end
noncomputable abbrev F2 := PV → PV → Store → VC → Prop
noncomputable def wBin (f : F2) (wa wb : WE) : WE := fun σ S E Q => wa σ S E fun x S1 => wb σ S1 E fun y S2 => f x y S2 Q
noncomputable def liftR (K : PySem.W.Frag) (f : F2) : R2 := fun x' y' H Q => ∃ φ S x y Q0, Rel K φ S H ∧ RV K H φ x x' ∧ RV K H φ y y' ∧ f x y S Q0 ∧ KE K φ H Q0 Q
section
variable {X : Cx} {G : GX} {pos : Pos} {a b : Expr} {wa wb : WE} {f : F2}
theorem lift_bin {σV : St} {H : Hp} {Q : VK} (h : liftE X.K G (wBin f wa wb) σV H Q) : tOp (liftR X.K f) (liftE X.K G wa) (liftE X.K G wb) σV H Q := by
 obtain ⟨φ, σ, S, Q0, L, R, h, k⟩ := h
 refine ⟨φ, σ, S, _, L, R, h, fun v S1 φ1 H1 x q p1 m1 R1 r1 => ?_⟩
 refine ⟨φ1, σ, S1, _, L.mono m1 p1, R1, q, fun u S2 φ2 H2 y q2 p2 m2 R2 r2 => ?_⟩
 exact ⟨φ2, S2, v, u, Q0, R2, RV.mono m2 p2 _ _ r1, r2, q2, k.up (p1.trans p2) (m1.trans m2)⟩
theorem sim_bin {op : Operator} (ho : OpR X (binaryOp op) (liftR X.K f)) (ha : SimE X G a wa) (hb : SimE X G b wb) : SimE X G (.BinOp a op b pos) (wBin f wa wb) := (pe_op ho ha hb).imp fun _ _ _ h => lift_bin h
theorem sim_cmp {op : CmpOp} (ho : OpR X (compareOp op) (liftR X.K f)) (ha : SimE X G a wa) (hb : SimE X G b wb) (hm : behindInMarks op b = false) : SimE X G (.Compare a [op] [b] pos) (wBin f wa wb) := (pe_cmpR ho ha hb hm).imp fun _ _ _ h => lift_bin h
noncomputable def wTest (w : WE) : WT := fun σ S E Q => w σ S E fun x S1 => match x with
 | .bl c => Q c S1
 | _ => False
theorem lift_test {w : WE} {t : TE} (i : ∀ σ H Q, liftE X.K G w σ H Q → t σ H Q) {σV : St} {H : Hp} {Q : Bool → Hp → Prop} (h : liftT X.K G (wTest w) σV H Q) : tTest t σV H Q := by
 obtain ⟨φ, σ, S, Q0, L, R, h, k⟩ := h
 refine i _ _ _ ⟨φ, σ, S, _, L, R, h, fun v S1 φ1 H1 x q p1 m1 R1 r1 => ?_⟩
 cases v with
 | bl c => exact ⟨c, r1, k c S1 φ1 H1 q p1 m1 R1⟩
 | _ => exact q.elim
theorem simT_cmp {op : CmpOp} (ho : OpR X (compareOp op) (liftR X.K f)) (ha : SimE X G a wa) (hb : SimE X G b wb) (hm : behindInMarks op b = false) : SimT X G (.Compare a [op] [b] pos) (wTest (wBin f wa wb)) :=
 (pt_cmpR ho ha hb hm).imp fun _ _ _ h => lift_test (fun _ _ _ h => lift_bin h) h
end
noncomputable def truK (x : PV) (S : Store) (Q : Bool → Store → Prop) : Prop := match x with
 | .non => Q false S
 | .bl b => Q b S
 | .int i => Q (i != 0) S
 | .str y => y.length ≤ sizeLine ∧ Q (!decide (y.length = 0)) S
 | .tup xs => Q (!xs.isEmpty) S
 | .frl xs => Q (!xs.isEmpty) S
 | .ref n => match S[n]? with
  | some (.lst xs) => Q (!xs.isEmpty) S
  | some (.dK xs) => Q (!xs.isEmpty) S
  | _ => False
 | .ty _ => False
 | .exc _ => False
noncomputable def wTru (w : WE) : WT := fun σ S E Q => w σ S E fun x S1 => truK x S1 Q
theorem emp_of {K : PySem.W.Frag} {H : Hp} {φ : List Addr} {xs : List PV} {vs : List V} (r : RVs K H φ xs vs) : (!xs.isEmpty) = !vs.isEmpty := by
 have := r.length
 cases xs <;> cases vs <;> simp_all
theorem tru_rel {K : PySem.W.Frag} {H : Hp} {φ : List Addr} {S : Store} {x : PV} {x' : V} {Q0 : Bool → Store → Prop} {Q : Bool → Hp → Prop} (R : Rel K φ S H) (r : RV K H φ x x') (h : truK x S Q0) (k : ∀ b, Q0 b S → Q b H) : ∃ b, TruV K x' H b ∧ Q b H := by
 unfold truK at h
 cases x with
 | non => cases r; exact ⟨false, rfl, k _ h⟩
 | bl b => cases r; exact ⟨b, rfl, k _ h⟩
 | int i => cases r; exact ⟨_, rfl, k _ h⟩
 | str y =>
  cases r
  obtain ⟨hz, h⟩ := h
  refine ⟨!decide (y.length = 0), ⟨hz, ?_⟩, k _ h⟩
  by_cases e : y.length = 0
  ·rw [e]; rfl
  ·rw [decide_eq_false e]
   symm
   simp only [bne_iff_ne, Bool.not_false]
   intro z
   exact e (by exact_mod_cast z)
 | tup xs =>
  obtain ⟨a, vs, rfl, s, rs⟩ := r
  exact ⟨_, .inr (.inl ⟨vs, s, rfl⟩), k _ (by rw [← emp_of rs]; exact h)⟩
 | frl xs =>
  obtain ⟨a, vs, rfl, s, rs⟩ := r
  exact ⟨_, .inl ⟨vs, s.sq, rfl⟩, k _ (by rw [← emp_of rs]; exact h)⟩
 | ref n =>
  obtain ⟨a, rfl, e⟩ := r
  dsimp only at h
  split at h
  ·rename_i xs es
   obtain ⟨vs, e1, rs⟩ := R.obj n a _ e es
   exact ⟨_, .inl ⟨vs, SqL.of e1, rfl⟩, k _ (by rw [← emp_of rs]; exact h)⟩
  ·rename_i xs es
   obtain ⟨vs, e1, rs⟩ := R.obj n a _ e es
   have : (!xs.isEmpty) = !vs.isEmpty := by cases rs <;> rfl
   exact ⟨_, .inr (.inr ⟨vs, e1, rfl⟩), k _ (by rw [← this]; exact h)⟩
  ·exact h.elim
 | ty n => exact h.elim
 | exc c => exact h.elim
section
variable {X : Cx} {G : GX} {pos : Pos} {a b c : Expr} {wa wb : WE} {ta tb : WT} {rest : List Expr}
theorem simT_tru (ha : SimE X G a wa) (he : ∀ whole, isTrue a X.env whole = (do let v ← whole; standAt a.pos; holding [v] (truthy v)) := by intro _; rfl) : SimT X G a (wTru wa) :=
 (pt_truth ha he).imp fun σV H Q hh1 => by obtain ⟨φ, σ, S, Q0, L, R, h, k⟩ := hh1; exact (⟨φ, σ, S, _, L, R, h, fun v S1 φ1 H1 x q p1 m1 R1 r1 => tru_rel R1 r1 q fun b q => k b S1 φ1 H1 q p1 m1 R1⟩)
noncomputable def wAnd (ta tb : WT) : WT := fun σ S E Q => ta σ S E fun c S1 => if c = true then tb σ S1 E Q else Q false S1
noncomputable def wOr (ta tb : WT) : WT := fun σ S E Q => ta σ S E fun c S1 => if c = true then Q true S1 else tb σ S1 E Q
noncomputable def wNot (ta : WT) : WT := fun σ S E Q => ta σ S E fun c S1 => Q (!c) S1
theorem SimW.t {e : Expr} {w : WT} (h : SimW X G e w) : SimT X G e w := h _
theorem simW_and1 (ha : SimT X G a ta) : SimW X G (.BoolOp .And [a] pos) ta := pw_and1 ha
theorem simW_or1 (ha : SimT X G a ta) : SimW X G (.BoolOp .Or [a] pos) ta := pw_or1 ha
theorem simW_and (ha : SimT X G a ta) (hb : SimW X G (.BoolOp .And (b :: rest) pos) tb) : SimW X G (.BoolOp .And (a :: b :: rest) pos) (wAnd ta tb) :=
 (pw_and ha hb).imp fun σV H Q hh1 => by obtain ⟨φ, σ, S, Q0, L, R, h, k⟩ := hh1; exact (⟨φ, σ, S, _, L, R, h, fun c S1 φ1 H1 q p1 m1 R1 => by
  cases c with
  | true => exact ⟨φ1, σ, S1, _, L.mono m1 p1, R1, q, k.up p1 m1⟩
  | false => exact k false S1 φ1 H1 q p1 m1 R1⟩)
theorem simW_or (ha : SimT X G a ta) (hb : SimW X G (.BoolOp .Or (b :: rest) pos) tb) : SimW X G (.BoolOp .Or (a :: b :: rest) pos) (wOr ta tb) :=
 (pw_or ha hb).imp fun σV H Q hh1 => by obtain ⟨φ, σ, S, Q0, L, R, h, k⟩ := hh1; exact (⟨φ, σ, S, _, L, R, h, fun c S1 φ1 H1 q p1 m1 R1 => by
  cases c with
  | false => exact ⟨φ1, σ, S1, _, L.mono m1 p1, R1, q, k.up p1 m1⟩
  | true => exact k true S1 φ1 H1 q p1 m1 R1⟩)
theorem simT_not (ha : SimT X G a ta) : SimT X G (.UnaryOp .Not a pos) (wNot ta) :=
 (pt_not ha).imp fun σV H Q hh1 => by obtain ⟨φ, σ, S, Q0, L, R, h, k⟩ := hh1; exact (⟨φ, σ, S, _, L, R, h, fun c S1 φ1 H1 q p1 m1 R1 => k (!c) S1 φ1 H1 q p1 m1 R1⟩)
noncomputable def wAndV (wa wb : WE) : WE := fun σ S E Q => wa σ S E fun x S1 => match x with
 | .bl c => if c = true then wb σ S1 E Q else Q (.bl false) S1
 | _ => False
noncomputable def wNotV (wa : WE) : WE := fun σ S E Q => wa σ S E fun x S1 => match x with
 | .bl c => Q (.bl (!c)) S1
 | _ => False
theorem sim_one {op} (h : SimE X G a wa) : SimE X G (.BoolOp op [a] pos) wa := pe_one h
theorem sim_and (ha : SimE X G a wa) (hb : SimE X G (.BoolOp .And (b :: rest) pos) wb) : SimE X G (.BoolOp .And (a :: b :: rest) pos) (wAndV wa wb) :=
 (pe_and ha hb).imp fun σV H Q hh1 => by obtain ⟨φ, σ, S, Q0, L, R, h, k⟩ := hh1; exact (⟨φ, σ, S, _, L, R, h, fun v S1 φ1 H1 x q p1 m1 R1 r1 => by
  cases v with
  | bl c =>
   refine ⟨c, r1, ?_⟩
   cases c with
   | true => exact ⟨φ1, σ, S1, _, L.mono m1 p1, R1, q, k.up p1 m1⟩
   | false => exact k _ S1 φ1 H1 _ q p1 m1 R1 rfl
  | _ => exact q.elim⟩)
theorem sim_not (ha : SimE X G a wa) : SimE X G (.UnaryOp .Not a pos) (wNotV wa) :=
 (pe_not ha).imp fun σV H Q hh1 => by obtain ⟨φ, σ, S, Q0, L, R, h, k⟩ := hh1; exact (⟨φ, σ, S, _, L, R, h, fun v S1 φ1 H1 x q p1 m1 R1 r1 => by
  cases v with
  | bl c => exact ⟨c, r1, k _ S1 φ1 H1 _ q p1 m1 R1 rfl⟩
  | _ => exact q.elim⟩)
noncomputable def wNeg (wa : WE) : WE := fun σ S E Q => wa σ S E fun x S1 => match x with
 | .int i => Q (.int (-i)) S1
 | _ => False
theorem sim_neg (ha : SimE X G a wa) : SimE X G (.UnaryOp .USub a pos) (wNeg wa) :=
 (pe_un un_neg ha).imp fun σV H Q hh1 => by obtain ⟨φ, σ, S, Q0, L, R, h, k⟩ := hh1; exact (⟨φ, σ, S, _, L, R, h, fun v S1 φ1 H1 x q p1 m1 R1 r1 => by
  cases v with
  | int c => exact ⟨c, r1, k _ S1 φ1 H1 _ q p1 m1 R1 rfl⟩
  | _ => exact q.elim⟩)
noncomputable def wNil : WA := fun _ S _ Q => Q [] S
noncomputable def wCons (wa : WE) (wr : WA) : WA := fun σ S E Q => wa σ S E fun x S1 => wr σ S1 E fun xs S2 => Q (x :: xs) S2
theorem simA_nil : SimA X G [] wNil := pa_nil.imp fun σV H Q hh1 => by obtain ⟨φ, σ, S, Q0, L, R, h, k⟩ := hh1; exact (k [] S φ H [] h (List.prefix_refl _) (.refl _) R rfl)
theorem simA_cons {e : Expr} {es : List Expr} {we : WE} {wr : WA} (ha : SimE X G e we) (hr : SimA X G es wr) (hs : starEach (e :: es) X.env = (false, eval e X.env) :: starEach es X.env := by rfl) : SimA X G (e :: es) (wCons we wr) :=
 (pa_cons ha hr hs).imp fun σV H Q hh1 => by obtain ⟨φ, σ, S, Q0, L, R, h, k⟩ := hh1; exact (⟨φ, σ, S, _, L, R, h, fun v S1 φ1 H1 x q p1 m1 R1 r1 =>
  ⟨φ1, σ, S1, _, L.mono m1 p1, R1, q, fun vs S2 φ2 H2 xs q2 p2 m2 R2 r2 => k (v :: vs) S2 φ2 H2 (x :: xs) q2 (p1.trans p2) (m1.trans m2) R2 (.cons (RV.mono m2 p2 _ _ r1) r2)⟩⟩)
noncomputable def wTup (w : WA) : WE := fun σ S E Q => w σ S E fun xs S1 => xs.length ≤ sizeLine ∧ Q (.tup xs) S1
noncomputable def wLst (w : WA) : WE := fun σ S E Q => w σ S E fun xs S1 => xs.length ≤ sizeLine ∧ Q (.ref S1.length) (S1 ++ [.lst xs])
variable {es : List Expr} {w : WA}
theorem KE.tup {K : PySem.W.Frag} {φ : List Addr} {H : Hp} {Q0 : VC} {Q : VK} {S : Store} {xs : List PV} {vs : List V} (k : KE K φ H Q0 Q) (q : Q0 (.tup xs) S) (R : Rel K φ S H) (r : RVs K H φ xs vs) : ∀ p, H p = none → Q (.ref p) (upd H p (.tup vs)) := fun p hp =>
 k _ S φ _ _ q (List.prefix_refl _) (.new _ hp) (R.frame _ hp) ⟨p, vs, rfl, SqT.of upd_same, RVs.mono (.new _ hp) (List.prefix_refl _) _ _ r⟩
theorem KE.lst {K : PySem.W.Frag} {φ : List Addr} {H : Hp} {Q0 : VC} {Q : VK} {S : Store} {xs : List PV} {vs : List V} (k : KE K φ H Q0 Q) (q : Q0 (.ref S.length) (S ++ [.lst xs])) (R : Rel K φ S H) (r : RVs K H φ xs vs) : ∀ p, H p = none → Q (.ref p) (upd H p (.lst vs)) := fun p hp =>
 k _ (S ++ [.lst xs]) (φ ++ [p]) _ _ q (List.prefix_append _ _) (.new _ hp) (R.new (o := .lst xs) hp ⟨vs, upd_same, RVs.mono (.new _ hp) (List.prefix_append _ _) _ _ r⟩) (show RV K _ _ (.ref S.length) _ from ⟨p, rfl, by rw [← R.len]; simp⟩)
theorem sim_tup {x1} (h : SimA X G es w) : SimE X G (.Tuple es x1 pos) (wTup w) :=
 (pe_tup h).imp fun σV H Q hh1 => by obtain ⟨φ, σ, S, Q0, L, R, h, k⟩ := hh1; exact (⟨φ, σ, S, _, L, R, h, fun vs S1 φ1 H1 xs hh2 p1 m1 R1 r1 => by obtain ⟨hz, q⟩ := hh2; exact (⟨by rw [← r1.length]; exact hz, (k.up p1 m1).tup q R1 r1⟩)⟩)
theorem sim_lst (h : SimA X G es w) : SimE X G (.List es pos) (wLst w) :=
 (pe_lst h).imp fun σV H Q hh1 => by obtain ⟨φ, σ, S, Q0, L, R, h, k⟩ := hh1; exact (⟨φ, σ, S, _, L, R, h, fun vs S1 φ1 H1 xs hh2 p1 m1 R1 r1 => by obtain ⟨hz, q⟩ := hh2; exact (⟨by rw [← r1.length]; exact hz, (k.up p1 m1).lst q R1 r1⟩)⟩)
end
end Ev
namespace Ev
open PySem L2
noncomputable def lstOf (S : Store) (n : Nat) : Option (List PV) := match S[n]? with
 | some (.lst xs) => some xs
 | _ => none
noncomputable def seqOf (S : Store) (n : Nat) : Option (List PV) := match S[n]? with
 | some (.lst xs) => some xs
 | _ => none
section
variable {K : PySem.W.Frag} {H : Hp} {φ : List Addr} {S : Store}
theorem lstOf_get {n : Nat} {xs : List PV} (e : lstOf S n = some xs) : S[n]? = some (.lst xs) := by
 unfold lstOf at e
 split at e
 ·cases e; assumption
 ·cases e
theorem Rel.lst (R : Rel K φ S H) {n : Nat} {a : Addr} {xs : List PV} (q : φ[n]? = some a) (e : lstOf S n = some xs) : ∃ vs, H a = some (.lst vs) ∧ RVs K H φ xs vs := R.obj n a _ q (lstOf_get e)
theorem Rel.seq (R : Rel K φ S H) {n : Nat} {a : Addr} {xs : List PV} (q : φ[n]? = some a) (e : seqOf S n = some xs) : ∃ vs, SqL K H a vs ∧ RVs K H φ xs vs := by
 unfold seqOf at e
 split at e
 ·rename_i ys es
  cases e
  obtain ⟨vs, e1, r⟩ := R.obj n a _ q es
  exact ⟨vs, SqL.of e1, r⟩
 ·cases e
end
noncomputable def bAdd : F2 := fun x y S Q => match x, y with
 | .int i, .int j => Q (.int (i + j)) S
 | .str a, .str b => a.length + b.length ≤ sizeLine ∧ Q (.str (a ++ b)) S
 | .tup xs, .tup ys => xs.length + ys.length ≤ sizeLine ∧ Q (.tup (xs ++ ys)) S
 | .ref m, .ref n => match lstOf S m, lstOf S n with
  | some xs, some ys => xs.length + ys.length ≤ sizeLine ∧ Q (.ref S.length) (S ++ [.lst (xs ++ ys)])
  | _, _ => False
 | _, _ => False
noncomputable def bI (C : Int → Int → Prop) (g : Int → Int → PV) : F2 := fun x y S Q => match x, y with
 | .int i, .int j => C i j ∧ Q (g i j) S
 | _, _ => False
noncomputable def bSub : F2 := bI (fun _ _ => True) fun i j => .int (i - j)
noncomputable def bFdiv : F2 := bI (fun _ j => 0 < j ∧ j < 2 ^ 100) fun i j => .int (i / j)
noncomputable def bMod : F2 := bI (fun _ j => 0 < j) fun i j => .int (i % j)
noncomputable def bPow : F2 := bI CPow fun i j => .int (i ^ j.toNat)
noncomputable def cLt : F2 := bI (fun _ _ => True) fun i j => .bl (decide (i < j))
noncomputable def cGt : F2 := bI (fun _ _ => True) fun i j => .bl (decide (j < i))
noncomputable def bMul : F2 := fun x y S Q => match x, y with
 | .int i, .int j => CMul i j ∧ Q (.int (i * j)) S
 | .ref m, .int k => match lstOf S m with
  | some xs => (-(2 ^ 63) ≤ k ∧ k < 2 ^ 63 ∧ xs.length * k.toNat ≤ sizeLine) ∧ Q (.ref S.length) (S ++ [.lst (List.replicate k.toNat xs).flatten])
  | none => False
 | _, _ => False
section
variable {X : Cx}
theorem ops_I {f : Value → Value → Sem Value} {C D : Int → Int → Prop} {g : Int → Int → PV} {gV : Int → Int → V} (ho : OpR X f (rI D gV)) (hd : ∀ i j, C i j → D i j) (hg : ∀ i j H φ, RV X.K H φ (g i j) (gV i j)) : OpR X f (liftR X.K (bI C g)) := by
 rintro pins s σ H x y v u Q I rx ry ⟨φ, S, px, py, Q0, R, hx, hy, h, k⟩
 unfold bI at h
 split at h
 ·rename_i i j
  exact ho pins s σ H x y v u Q I rx ry ⟨i, j, hx, hy, hd i j h.1, k _ S φ H _ h.2 (List.prefix_refl _) (.refl _) R (hg i j H φ)⟩
 ·exact h.elim
theorem OpR.of0 {f : Value → Value → Sem Value} {gV : Int → Int → V} (ho : OpR X f (rI0 gV)) : OpR X f (rI (fun _ _ => True) gV) := fun pins s σ H x y v u Q I rx ry hh1 => by obtain ⟨i, j, a, b, _, q⟩ := hh1; exact (ho pins s σ H x y v u Q I rx ry ⟨i, j, a, b, q⟩)
theorem ops_sub : OpR X (binaryOp .Sub) (liftR X.K bSub) := ops_I (OpR.of0 op_sub) (fun _ _ h => h) fun _ _ _ _ => rfl
theorem ops_fdiv : OpR X (binaryOp .FloorDiv) (liftR X.K bFdiv) := ops_I op_fdivB (fun _ _ h => h) fun _ _ _ _ => rfl
theorem ops_mod : OpR X (binaryOp .Mod) (liftR X.K bMod) := ops_I op_mod (fun _ _ h => h) fun _ _ _ _ => rfl
theorem ops_pow : OpR X (binaryOp .Pow) (liftR X.K bPow) := ops_I op_pow (fun _ _ h => h) fun _ _ _ _ => rfl
theorem ops_lt : OpR X (compareOp .Lt) (liftR X.K cLt) := ops_I (OpR.of0 op_lt) (fun _ _ h => h) fun _ _ _ _ => rfl
theorem ops_gt : OpR X (compareOp .Gt) (liftR X.K cGt) := ops_I (OpR.of0 op_gt) (fun _ _ h => h) fun _ _ _ _ => rfl
theorem ops_mul : OpR X (binaryOp .Mult) (liftR X.K bMul) := by
 rintro pins s σ H x y v u Q I rx ry ⟨φ, S, px, py, Q0, R, hx, hy, h, k⟩
 unfold bMul at h
 split at h
 ·rename_i i j
  exact op_mul pins s σ H x y v u Q I rx ry ⟨i, j, hx, hy, h.1, k _ S φ H _ h.2 (List.prefix_refl _) (.refl _) R rfl⟩
 ·rename_i m kk
  split at h
  ·rename_i xs e
   obtain ⟨a, rfl, qa⟩ := hx
   cases hy
   obtain ⟨vs, ea, r⟩ := R.lst qa e
   obtain ⟨⟨h1, h2, h3⟩, h⟩ := h
   exact op_rep pins s σ H _ _ v u Q I rx ry ⟨a, kk, vs, rfl, rfl, ea, h1, h2, by rw [← r.length]; exact h3, k.lst h R (r.rep _)⟩
  ·exact h.elim
 ·exact h.elim
theorem ops_add : OpR X (binaryOp .Add) (liftR X.K bAdd) := by
 rintro pins s σ H x y v u Q I rx ry ⟨φ, S, px, py, Q0, R, hx, hy, h, k⟩
 unfold bAdd at h
 split at h
 ·rename_i i j
  exact op_add pins s σ H x y v u Q I rx ry ⟨i, j, hx, hy, k _ S φ H _ h (List.prefix_refl _) (.refl _) R rfl⟩
 ·rename_i a b
  exact op_add_str pins s σ H x y v u Q I rx ry ⟨a, b, hx, hy, h.1, k _ S φ H _ h.2 (List.prefix_refl _) (.refl _) R rfl⟩
 ·rename_i xs ys
  obtain ⟨a, vs, rfl, sa, ra⟩ := hx
  obtain ⟨b, ws, rfl, sb, rb⟩ := hy
  refine op_catT0 pins s σ H _ _ v u Q I rx ry ?_
  by_cases hv : vs = []
  ·subst hv
   have : xs = [] := List.length_eq_zero_iff.mp (by rw [ra.length]; rfl)
   subst this
   exact .inl ⟨a, b, ws, rfl, rfl, sa, sb, k _ S φ H _ h.2 (List.prefix_refl _) (.refl _) R ⟨b, ws, rfl, sb, rb⟩⟩
  ·refine .inr ⟨a, b, vs, ws, rfl, rfl, sa, sb, hv, by rw [← ra.length, ← rb.length]; exact h.1, fun hw => ?_, fun _ => k.tup h.2 R (ra.append rb)⟩
   subst hw
   have : ys = [] := List.length_eq_zero_iff.mp (by rw [rb.length]; rfl)
   subst this
   refine k _ S φ H _ h.2 (List.prefix_refl _) (.refl _) R ?_
   rw [List.append_nil]
   exact ⟨a, vs, rfl, sa, ra⟩
 ·rename_i m n
  split at h
  ·rename_i xs ys e1 e2
   obtain ⟨a, rfl, qa⟩ := hx
   obtain ⟨b, rfl, qb⟩ := hy
   obtain ⟨vs, ea, ra⟩ := R.lst qa e1
   obtain ⟨ws, eb, rb⟩ := R.lst qb e2
   exact op_cat pins s σ H _ _ v u Q I rx ry ⟨a, b, vs, ws, rfl, rfl, ea, eb, by rw [← ra.length, ← rb.length]; exact h.1, k.lst h.2 R (ra.append rb)⟩
  ·exact h.elim
 ·exact h.elim
noncomputable def bIAdd : F2 := fun x y S Q => match x, y with
 | .int i, .int j => Q (.int (i + j)) S
 | .str a, .str b => a.length + b.length ≤ sizeLine ∧ Q (.str (a ++ b)) S
 | _, _ => False
end
mutual
noncomputable def eqB : PV → PV → Bool
 | .non, y => match y with
  | .non => true
  | _ => false
 | .bl a, y => match y with
  | .bl b => a == b
  | .int b => (if a then 1 else 0) == b
  | _ => false
 | .int a, y => match y with
  | .bl b => a == (if b then 1 else 0)
  | .int b => a == b
  | _ => false
 | .str a, y => match y with
  | .str b => a == b
  | _ => false
 | .tup xs, y => match y with
  | .tup ys => eqBs xs ys
  | _ => false
 | .ty _, _ => false
 | .frl _, _ => false
 | .ref _, _ => false
 | .exc _, _ => false
noncomputable def eqBs : List PV → List PV → Bool
 | [], ys => ys.isEmpty
 | x :: xs, ys => match ys with
  | [] => false
  | y :: r => eqB x y && eqBs xs r
end
mutual
noncomputable def nrf : PV → Bool
 | .ty _ => false
 | .frl _ => false
 | .ref _ => false
 | .exc _ => false
 | .tup xs => nrfs xs
 | _ => true
noncomputable def nrfs : List PV → Bool
 | [] => true
 | x :: xs => nrf x && nrfs xs
end
mutual
noncomputable def dep : PV → Nat
 | .tup xs => 1 + deps xs
 | _ => 0
noncomputable def deps : List PV → Nat
 | [] => 0
 | x :: xs => max (dep x) (deps xs)
end
theorem eqBs_len : ∀ {xs ys : List PV}, eqBs xs ys = true → xs.length = ys.length
 | [], ys, h => by cases ys <;> simp_all [eqBs]
 | x :: xs, ys, h => by
  cases ys with
  | nil => simp [eqBs] at h
  | cons y r =>
   simp only [eqBs, Bool.and_eq_true] at h
   simp [eqBs_len h.2]
theorem eqBs_range : ∀ (xs ys : List PV), eqBs xs ys = ((List.range (min xs.length ys.length)).all (fun j => eqB (xs.getD j .non) (ys.getD j .non)) && xs.length == ys.length)
 | [], ys => by cases ys <;> simp [eqBs]
 | x :: xs, ys => by
  cases ys with
  | nil => simp [eqBs]
  | cons y r =>
   have e : min (x :: xs).length (y :: r).length = min xs.length r.length + 1 := by simp only [List.length_cons]; omega
   rw [e, List.range_succ_eq_map, List.all_cons, List.all_map]
   simp only [eqBs, eqBs_range xs r, List.length_cons, Function.comp]
   rw [Bool.and_assoc]
   congr 2
   by_cases h : xs.length = r.length
   ·simp [h]
   ·simp [h]
mutual
theorem eqB_self : ∀ x : PV, nrf x = true → eqB x x = true
 | .non, _ => rfl
 | .bl b, _ => by simp [eqB]
 | .int i, _ => by simp [eqB]
 | .str x, _ => by simp [eqB]
 | .tup xs, h => by simp only [eqB]; exact eqBs_self xs (by simpa [nrf] using h)
 | .ty _, h => by simp [nrf] at h
 | .frl _, h => by simp [nrf] at h
 | .ref _, h => by simp [nrf] at h
 | .exc _, h => by simp [nrf] at h
theorem eqBs_self : ∀ xs : List PV, nrfs xs = true → eqBs xs xs = true
 | [], _ => rfl
 | x :: xs, h => by
  simp only [nrfs, Bool.and_eq_true] at h
  simp only [eqBs, eqB_self x h.1, eqBs_self xs h.2, Bool.and_self]
end
section
variable {X : Cx} {pins : List (Addr × Obj)} {s : Shared} {σ : St} {H : Hp} {φ : List Addr}
mutual
theorem RV.inj (I : Inv X pins σ H s) : ∀ (x y : PV) (v : V), nrf x = true → nrf y = true → RV X.K H φ x v → RV X.K H φ y v → x = y
 | .non, y, v, _, hy, r, q => by cases y <;> simp_all [RV, nrf]
 | .bl b, y, v, _, hy, r, q => by cases y <;> simp_all [RV, nrf]
 | .int b, y, v, _, hy, r, q => by cases y <;> simp_all [RV, nrf]
 | .str b, y, v, _, hy, r, q => by cases y <;> simp_all [RV, nrf]
 | .ty _, y, v, h, hy, r, q => by simp [nrf] at h
 | .frl _, y, v, h, hy, r, q => by simp [nrf] at h
 | .ref _, y, v, h, hy, r, q => by simp [nrf] at h
 | .exc _, y, v, h, hy, r, q => by simp [nrf] at h
 | .tup xs, y, v, h, hy, r, q => by
  obtain ⟨a, vs, rfl, sa, ra⟩ := r
  cases y with
  | tup ys =>
   obtain ⟨b, ws, e, sb, rb⟩ := q
   cases e
   have := I.tuple_inj sa sb
   subst this
   rw [RVs.inj I xs ys vs (by simpa [nrf] using h) (by simpa [nrf] using hy) ra rb]
  | non => cases q
  | bl _ => cases q
  | int _ => cases q
  | str _ => cases q
  | ty _ => simp [nrf] at hy
  | frl _ => simp [nrf] at hy
  | ref _ => simp [nrf] at hy
  | exc _ => simp [nrf] at hy
theorem RVs.inj (I : Inv X pins σ H s) : ∀ (xs ys : List PV) (vs : List V), nrfs xs = true → nrfs ys = true → RVs X.K H φ xs vs → RVs X.K H φ ys vs → xs = ys
 | [], ys, vs, _, _, r, q => by
  rw [show vs = [] from r] at q
  exact (List.length_eq_zero_iff.mp (by rw [RVs.length q]; rfl)).symm
 | x :: xs, ys, vs, h, h', r, q => by
  obtain ⟨v, ws, rfl, r1, r2⟩ := r
  cases ys with
  | nil => cases (show v :: ws = [] from q)
  | cons y ys =>
   obtain ⟨v', ws', e, q1, q2⟩ := q
   cases e
   simp only [nrfs, Bool.and_eq_true] at h h'
   rw [RV.inj I x y v h.1 h'.1 r1 q1, RVs.inj I xs ys ws h.2 h'.2 r2 q2]
end
theorem in1_units (A : Around) : A.in1.units = A.units + 1 := rfl
theorem vals_at {vs : List V} {its : List Value} (r : Vals vs its) {j : Nat} (h : j < its.toArray.size) {x : V} (e : vs[j]? = some x) : RelV x its.toArray[j] := by
 obtain ⟨u, e1, r1⟩ := r.get e
 have : its.toArray[j] = u := by
  have h' : j < its.length := by simpa using h
  rw [List.getElem?_eq_getElem h'] at e1
  simpa using e1
 rw [this]
 exact r1
theorem nrfs_get : ∀ {xs : List PV} {j : Nat} {x : PV}, nrfs xs = true → xs[j]? = some x → nrf x = true
 | [], _, _, _, e => by simp at e
 | x :: xs, 0, y, h, e => by simp [nrfs] at h e; subst e; exact h.1
 | x :: xs, j + 1, y, h, e => by simp [nrfs] at h e; exact nrfs_get h.2 e
theorem deps_get : ∀ {xs : List PV} {j : Nat} {x : PV}, xs[j]? = some x → dep x ≤ deps xs
 | [], _, _, e => by simp at e
 | x :: xs, 0, y, e => by simp at e; subst e; simp only [deps]; omega
 | x :: xs, j + 1, y, e => by simp at e; have := deps_get e; simp only [deps]; omega
theorem getD_some {xs : List PV} {j : Nat} {x : PV} (e : xs[j]? = some x) : xs.getD j .non = x := by rw [List.getD_eq_getElem?_getD, e]; rfl
theorem eqAt_P (I : Inv X pins σ H s) : ∀ (d : Nat) (A : Around) (x y : PV) (x' y' : V) (v u : Value), nrf x = true → nrf y = true → dep x ≤ d → A.units + d < cLine → RV X.K H φ x x' → RV X.K H φ y y' → RelV x' v → RelV y' u → SeqAt.EqAt A s v u (eqB x y) := by
 intro d
 induction d with
 | zero =>
  intro A x y x' y' v u hx hy hd hu rx ry qx qy
  cases x with
  | tup xs => simp [dep] at hd
  | non =>
   cases rx; cases qx
   cases y with
   | non => cases ry; cases qy; exact .same _
   | bl b => cases ry; cases qy; exact .none_bool b
   | int b => cases ry; obtain ⟨t, rfl⟩ := qy; exact .none_int b t
   | str b => cases ry; obtain ⟨t, rfl⟩ := qy; exact .none_str b t
   | tup ys => obtain ⟨b, ws, rfl, sb, rb⟩ := ry; cases qy; obtain ⟨_, _, p, _⟩ := I.tuple sb; exact .none_tuple p (by omega)
   | ty _ => simp [nrf] at hy
   | frl _ => simp [nrf] at hy
   | ref _ => simp [nrf] at hy
   | exc _ => simp [nrf] at hy
  | bl a =>
   cases rx; cases qx
   cases y with
   | non => cases ry; cases qy; exact .bool_none a
   | bl b => cases ry; cases qy; exact .bool_bool a b
   | int b => cases ry; obtain ⟨t, rfl⟩ := qy; exact .bool_int a b t
   | str b => cases ry; obtain ⟨t, rfl⟩ := qy; exact .bool_str a b t
   | tup ys => obtain ⟨b, ws, rfl, sb, rb⟩ := ry; cases qy; obtain ⟨_, _, p, _⟩ := I.tuple sb; exact .bool_tuple a p (by omega)
   | ty _ => simp [nrf] at hy
   | frl _ => simp [nrf] at hy
   | ref _ => simp [nrf] at hy
   | exc _ => simp [nrf] at hy
  | int a =>
   cases rx; obtain ⟨t, rfl⟩ := qx
   cases y with
   | non => cases ry; cases qy; exact .int_none a t
   | bl b => cases ry; cases qy; exact .int_bool a t b
   | int b => cases ry; obtain ⟨t', rfl⟩ := qy; exact .int_int a t b t'
   | str b => cases ry; obtain ⟨t', rfl⟩ := qy; exact .int_str a t b t'
   | tup ys => obtain ⟨b, ws, rfl, sb, rb⟩ := ry; cases qy; obtain ⟨_, _, p, _⟩ := I.tuple sb; exact .int_tuple a t p (by omega)
   | ty _ => simp [nrf] at hy
   | frl _ => simp [nrf] at hy
   | ref _ => simp [nrf] at hy
   | exc _ => simp [nrf] at hy
  | str a =>
   cases rx; obtain ⟨t, rfl⟩ := qx
   cases y with
   | non => cases ry; cases qy; exact .str_none a t
   | bl b => cases ry; cases qy; exact .str_bool a t b
   | int b => cases ry; obtain ⟨t', rfl⟩ := qy; exact .str_int a t b t'
   | str b => cases ry; obtain ⟨t', rfl⟩ := qy; exact .str_str a t b t'
   | tup ys => obtain ⟨b, ws, rfl, sb, rb⟩ := ry; cases qy; obtain ⟨_, _, p, _⟩ := I.tuple sb; exact .str_tuple a t p (by omega)
   | ty _ => simp [nrf] at hy
   | frl _ => simp [nrf] at hy
   | ref _ => simp [nrf] at hy
   | exc _ => simp [nrf] at hy
  | ty _ => simp [nrf] at hx
  | frl _ => simp [nrf] at hx
  | ref _ => simp [nrf] at hx
  | exc _ => simp [nrf] at hx
 | succ d ih =>
  intro A x y x' y' v u hx hy hd hu rx ry qx qy
  cases x with
  | tup xs =>
   obtain ⟨a, vs, rfl, sa, ra⟩ := id rx
   cases qx
   obtain ⟨its, r1, p1, _⟩ := I.tuple sa
   cases y with
   | non => cases ry; cases qy; exact .tuple_none p1 (by omega)
   | bl b => cases ry; cases qy; exact .tuple_bool b p1 (by omega)
   | int b => cases ry; obtain ⟨t, rfl⟩ := qy; exact .tuple_int b t p1 (by omega)
   | str b => cases ry; obtain ⟨t, rfl⟩ := qy; exact .tuple_str b t p1 (by omega)
   | ty _ => simp [nrf] at hy
   | frl _ => simp [nrf] at hy
   | ref _ => simp [nrf] at hy
   | exc _ => simp [nrf] at hy
   | tup ys =>
    obtain ⟨b, ws, rfl, sb, rb⟩ := id ry
    cases qy
    obtain ⟨its2, r2, p2, _⟩ := I.tuple sb
    by_cases hab : a = b
    ·subst hab
     rw [RV.inj I _ _ _ hx hy rx ry, eqB_self _ hy]
     exact .same _
    ·refine .of_refs hab ?_
     have e : eqB (.tup xs) (.tup ys) = ((List.range (min its.toArray.size its2.toArray.size)).all (fun j => eqB (xs.getD j .non) (ys.getD j .non)) && its.toArray.size == its2.toArray.size) := by
      simp only [eqB]
      rw [eqBs_range, List.size_toArray, List.size_toArray, ← r1.length, ← r2.length, ra.length, rb.length]
     rw [e]
     refine .tuples p1 p2 (by omega) fun j h1 h2 => ?_
     have hj1 : j < xs.length := by rw [ra.length, r1.length]; simpa using h1
     have hj2 : j < ys.length := by rw [rb.length, r2.length]; simpa using h2
     have e1 : xs[j]? = some xs[j] := List.getElem?_eq_getElem hj1
     have e2 : ys[j]? = some ys[j] := List.getElem?_eq_getElem hj2
     obtain ⟨v1, g1, q1⟩ := ra.get e1
     obtain ⟨v2, g2, q2⟩ := rb.get e2
     rw [getD_some e1, getD_some e2]
     have hdd := deps_get e1
     simp only [dep] at hd
     exact ih A.in1 _ _ v1 v2 _ _ (nrfs_get (by simpa [nrf] using hx) e1) (nrfs_get (by simpa [nrf] using hy) e2) (by omega) (by rw [in1_units]; omega) q1 q2 (vals_at r1 h1 g1) (vals_at r2 h2 g2)
  | non => exact ih A _ _ x' y' v u hx hy (Nat.zero_le _) (by omega) rx ry qx qy
  | bl a => exact ih A _ _ x' y' v u hx hy (Nat.zero_le _) (by omega) rx ry qx qy
  | int a => exact ih A _ _ x' y' v u hx hy (Nat.zero_le _) (by omega) rx ry qx qy
  | str a => exact ih A _ _ x' y' v u hx hy (Nat.zero_le _) (by omega) rx ry qx qy
  | ty _ => simp [nrf] at hx
  | frl _ => simp [nrf] at hx
  | ref _ => simp [nrf] at hx
  | exc _ => simp [nrf] at hx
end
end Ev
namespace Ev
open PySem L2
section
variable {X : Cx} {pins : List (Addr × Obj)} {s : Shared} {σ : St} {H : Hp} {φ : List Addr}
theorem rcAt_P (I : Inv X pins σ H s) (d : Nat) (A : Around) (x y : PV) (x' y' : V) (v u : Value) (hx : nrf x = true) (hy : nrf y = true) (hd : ∀ xs ys, x = .tup xs → y = .tup ys → dep x ≤ d) (hu : A.units + d < cLine) (rx : RV X.K H φ x x') (ry : RV X.K H φ y y') (qx : RelV x' v) (qy : RelV y' u) : SeqAt.RcAt A s v u (eqB x y) := by
 cases x with
 | non =>
  cases rx
  cases qx
  cases y with
  | non => cases ry; cases qy; exact .none_none
  | bl b => cases ry; cases qy; exact .none_bool b
  | int b => cases ry; obtain ⟨t', rfl⟩ := qy; exact .none_int b t'
  | str b => cases ry; obtain ⟨t', rfl⟩ := qy; exact .none_str b t'
  | tup ys => obtain ⟨b, ws, rfl, sb, rb⟩ := ry; cases qy; obtain ⟨_, _, p, _⟩ := I.tuple sb; exact .none_tuple  p (by omega)
  | ty _ => simp [nrf] at hy
  | frl _ => simp [nrf] at hy
  | ref _ => simp [nrf] at hy
  | exc _ => simp [nrf] at hy
 | bl a =>
  cases rx
  cases qx
  cases y with
  | non => cases ry; cases qy; exact .bool_none a
  | bl b => cases ry; cases qy; exact .bool_bool a b
  | int b => cases ry; obtain ⟨t', rfl⟩ := qy; exact .bool_int a b t'
  | str b => cases ry; obtain ⟨t', rfl⟩ := qy; exact .bool_str a b t'
  | tup ys => obtain ⟨b, ws, rfl, sb, rb⟩ := ry; cases qy; obtain ⟨_, _, p, _⟩ := I.tuple sb; exact .bool_tuple a p (by omega)
  | ty _ => simp [nrf] at hy
  | frl _ => simp [nrf] at hy
  | ref _ => simp [nrf] at hy
  | exc _ => simp [nrf] at hy
 | int a =>
  cases rx
  obtain ⟨t, rfl⟩ := qx
  cases y with
  | non => cases ry; cases qy; exact .int_none a t
  | bl b => cases ry; cases qy; exact .int_bool a t b
  | int b => cases ry; obtain ⟨t', rfl⟩ := qy; exact .int_int a t b t'
  | str b => cases ry; obtain ⟨t', rfl⟩ := qy; exact .int_str a t b t'
  | tup ys => obtain ⟨b, ws, rfl, sb, rb⟩ := ry; cases qy; obtain ⟨_, _, p, _⟩ := I.tuple sb; exact .int_tuple a t p (by omega)
  | ty _ => simp [nrf] at hy
  | frl _ => simp [nrf] at hy
  | ref _ => simp [nrf] at hy
  | exc _ => simp [nrf] at hy
 | str a =>
  cases rx
  obtain ⟨t, rfl⟩ := qx
  cases y with
  | non => cases ry; cases qy; exact .str_none a t
  | bl b => cases ry; cases qy; exact .str_bool a t b
  | int b => cases ry; obtain ⟨t', rfl⟩ := qy; exact .str_int a t b t'
  | str b => cases ry; obtain ⟨t', rfl⟩ := qy; exact .str_str a t b t'
  | tup ys => obtain ⟨b, ws, rfl, sb, rb⟩ := ry; cases qy; obtain ⟨_, _, p, _⟩ := I.tuple sb; exact .str_tuple a t p (by omega)
  | ty _ => simp [nrf] at hy
  | frl _ => simp [nrf] at hy
  | ref _ => simp [nrf] at hy
  | exc _ => simp [nrf] at hy
 | ty _ => simp [nrf] at hx
 | frl _ => simp [nrf] at hx
 | ref _ => simp [nrf] at hx
 | exc _ => simp [nrf] at hx
 | tup xs =>
  obtain ⟨a, vs, rfl, sa, ra⟩ := id rx
  cases qx
  obtain ⟨its, r1, p1, _⟩ := I.tuple sa
  cases y with
  | non => cases ry; cases qy; exact .tuple_none p1 (by omega)
  | bl b => cases ry; cases qy; exact .tuple_bool b p1 (by omega)
  | int b => cases ry; obtain ⟨t, rfl⟩ := qy; exact .tuple_int b t p1 (by omega)
  | str b => cases ry; obtain ⟨t, rfl⟩ := qy; exact .tuple_str b t p1 (by omega)
  | ty _ => simp [nrf] at hy
  | frl _ => simp [nrf] at hy
  | ref _ => simp [nrf] at hy
  | exc _ => simp [nrf] at hy
  | tup ys =>
   obtain ⟨b, ws, rfl, sb, rb⟩ := id ry
   cases qy
   obtain ⟨its2, r2, p2, _⟩ := I.tuple sb
   have e : eqB (.tup xs) (.tup ys) = ((List.range (min its.toArray.size its2.toArray.size)).all (fun j => eqB (xs.getD j .non) (ys.getD j .non)) && its.toArray.size == its2.toArray.size) := by
    simp only [eqB]
    rw [eqBs_range, List.size_toArray, List.size_toArray, ← r1.length, ← r2.length, ra.length, rb.length]
   rw [e]
   have hd' := hd xs ys rfl rfl
   simp only [dep] at hd'
   refine .tuples p1 p2 (by omega) fun j h1 h2 => ?_
   have hj1 : j < xs.length := by rw [ra.length, r1.length]; simpa using h1
   have hj2 : j < ys.length := by rw [rb.length, r2.length]; simpa using h2
   have e1 : xs[j]? = some xs[j] := List.getElem?_eq_getElem hj1
   have e2 : ys[j]? = some ys[j] := List.getElem?_eq_getElem hj2
   obtain ⟨v1, g1, q1⟩ := ra.get e1
   obtain ⟨v2, g2, q2⟩ := rb.get e2
   rw [getD_some e1, getD_some e2]
   have hdd := deps_get e1
   exact eqAt_P I (d - 1) A.in1 _ _ v1 v2 _ _ (nrfs_get (by simpa [nrf] using hx) e1) (nrfs_get (by simpa [nrf] using hy) e2) (by omega) (by rw [in1_units]; omega) q1 q2 (vals_at r1 h1 g1) (vals_at r2 h2 g2)
theorem rcNeAt_P (I : Inv X pins σ H s) (d : Nat) (A : Around) (x y : PV) (x' y' : V) (v u : Value) (hx : nrf x = true) (hy : nrf y = true) (hd : ∀ xs ys, x = .tup xs → y = .tup ys → dep x ≤ d) (hu : A.units + d < cLine) (rx : RV X.K H φ x x') (ry : RV X.K H φ y y') (qx : RelV x' v) (qy : RelV y' u) : SeqAt.RcNeAt A s v u (!eqB x y) := by
 cases x with
 | non =>
  cases rx
  cases qx
  cases y with
  | non => cases ry; cases qy; exact .none_none
  | bl b => cases ry; cases qy; exact .none_bool b
  | int b => cases ry; obtain ⟨t', rfl⟩ := qy; exact .none_int b t'
  | str b => cases ry; obtain ⟨t', rfl⟩ := qy; exact .none_str b t'
  | tup ys => obtain ⟨b, ws, rfl, sb, rb⟩ := ry; cases qy; obtain ⟨_, _, p, _⟩ := I.tuple sb; exact .none_tuple  p (by omega)
  | ty _ => simp [nrf] at hy
  | frl _ => simp [nrf] at hy
  | ref _ => simp [nrf] at hy
  | exc _ => simp [nrf] at hy
 | bl a =>
  cases rx
  cases qx
  cases y with
  | non => cases ry; cases qy; exact .bool_none a
  | bl b => cases ry; cases qy; exact .bool_bool a b
  | int b => cases ry; obtain ⟨t', rfl⟩ := qy; exact .bool_int a b t'
  | str b => cases ry; obtain ⟨t', rfl⟩ := qy; exact .bool_str a b t'
  | tup ys => obtain ⟨b, ws, rfl, sb, rb⟩ := ry; cases qy; obtain ⟨_, _, p, _⟩ := I.tuple sb; exact .bool_tuple a p (by omega)
  | ty _ => simp [nrf] at hy
  | frl _ => simp [nrf] at hy
  | ref _ => simp [nrf] at hy
  | exc _ => simp [nrf] at hy
 | int a =>
  cases rx
  obtain ⟨t, rfl⟩ := qx
  cases y with
  | non => cases ry; cases qy; exact .int_none a t
  | bl b => cases ry; cases qy; exact .int_bool a t b
  | int b => cases ry; obtain ⟨t', rfl⟩ := qy; exact .int_int a t b t'
  | str b => cases ry; obtain ⟨t', rfl⟩ := qy; exact .int_str a t b t'
  | tup ys => obtain ⟨b, ws, rfl, sb, rb⟩ := ry; cases qy; obtain ⟨_, _, p, _⟩ := I.tuple sb; exact .int_tuple a t p (by omega)
  | ty _ => simp [nrf] at hy
  | frl _ => simp [nrf] at hy
  | ref _ => simp [nrf] at hy
  | exc _ => simp [nrf] at hy
 | str a =>
  cases rx
  obtain ⟨t, rfl⟩ := qx
  cases y with
  | non => cases ry; cases qy; exact .str_none a t
  | bl b => cases ry; cases qy; exact .str_bool a t b
  | int b => cases ry; obtain ⟨t', rfl⟩ := qy; exact .str_int a t b t'
  | str b => cases ry; obtain ⟨t', rfl⟩ := qy; exact .str_str a t b t'
  | tup ys => obtain ⟨b, ws, rfl, sb, rb⟩ := ry; cases qy; obtain ⟨_, _, p, _⟩ := I.tuple sb; exact .str_tuple a t p (by omega)
  | ty _ => simp [nrf] at hy
  | frl _ => simp [nrf] at hy
  | ref _ => simp [nrf] at hy
  | exc _ => simp [nrf] at hy
 | ty _ => simp [nrf] at hx
 | frl _ => simp [nrf] at hx
 | ref _ => simp [nrf] at hx
 | exc _ => simp [nrf] at hx
 | tup xs =>
  obtain ⟨a, vs, rfl, sa, ra⟩ := id rx
  cases qx
  obtain ⟨its, r1, p1, _⟩ := I.tuple sa
  cases y with
  | non => cases ry; cases qy; exact .tuple_none p1 (by omega)
  | bl b => cases ry; cases qy; exact .tuple_bool b p1 (by omega)
  | int b => cases ry; obtain ⟨t, rfl⟩ := qy; exact .tuple_int b t p1 (by omega)
  | str b => cases ry; obtain ⟨t, rfl⟩ := qy; exact .tuple_str b t p1 (by omega)
  | ty _ => simp [nrf] at hy
  | frl _ => simp [nrf] at hy
  | ref _ => simp [nrf] at hy
  | exc _ => simp [nrf] at hy
  | tup ys =>
   obtain ⟨b, ws, rfl, sb, rb⟩ := id ry
   cases qy
   obtain ⟨its2, r2, p2, _⟩ := I.tuple sb
   have e : eqB (.tup xs) (.tup ys) = ((List.range (min its.toArray.size its2.toArray.size)).all (fun j => eqB (xs.getD j .non) (ys.getD j .non)) && its.toArray.size == its2.toArray.size) := by
    simp only [eqB]
    rw [eqBs_range, List.size_toArray, List.size_toArray, ← r1.length, ← r2.length, ra.length, rb.length]
   rw [e]
   have hd' := hd xs ys rfl rfl
   simp only [dep] at hd'
   refine .tuples p1 p2 (by omega) fun j h1 h2 => ?_
   have hj1 : j < xs.length := by rw [ra.length, r1.length]; simpa using h1
   have hj2 : j < ys.length := by rw [rb.length, r2.length]; simpa using h2
   have e1 : xs[j]? = some xs[j] := List.getElem?_eq_getElem hj1
   have e2 : ys[j]? = some ys[j] := List.getElem?_eq_getElem hj2
   obtain ⟨v1, g1, q1⟩ := ra.get e1
   obtain ⟨v2, g2, q2⟩ := rb.get e2
   rw [getD_some e1, getD_some e2]
   have hdd := deps_get e1
   exact eqAt_P I (d - 1) A.in1 _ _ v1 v2 _ _ (nrfs_get (by simpa [nrf] using hx) e1) (nrfs_get (by simpa [nrf] using hy) e2) (by omega) (by rw [in1_units]; omega) q1 q2 (vals_at r1 h1 g1) (vals_at r2 h2 g2)
theorem any_link {f : PV → Bool} {e : Value → Bool} : ∀ {its : List Value} {ys : List PV}, its.length = ys.length → (∀ (j : Nat) u y, its[j]? = some u → ys[j]? = some y → e u = f y) → its.any e = ys.any f
 | [], [], _, _ => rfl
 | u :: its, y :: ys, hl, he => by
  rw [List.any_cons, List.any_cons, he 0 u y rfl rfl, any_link (by simpa using hl) fun j u y h1 h2 => he (j + 1) u y (by simpa using h1) (by simpa using h2)]
 | [], _ :: _, hl, _ => by simp at hl
 | _ :: _, [], hl, _ => by simp at hl
end
noncomputable def okEq (x : PV) : Prop := nrf x = true ∧ dep x ≤ 190
noncomputable def okEqs (xs : List PV) : Prop := nrfs xs = true ∧ deps xs ≤ 190
noncomputable def cEqG (neg : Bool) : F2 := fun x y S Q => match x, y with
 | .tup xs, .tup ys => (okEq (.tup xs) ∧ okEq (.tup ys)) ∧ Q (.bl (neg ^^ eqBs xs ys)) S
 | .ref m, .ref n => match seqOf S m, seqOf S n with
  | some xs, some ys => (okEqs xs ∧ okEqs ys) ∧ Q (.bl (neg ^^ eqBs xs ys)) S
  | _, _ => False
 | .ref _, _ => False
 | _, .ref _ => False
 | x, y => (nrf x = true ∧ nrf y = true) ∧ Q (.bl (neg ^^ eqB x y)) S
noncomputable def cEq : F2 := cEqG false
noncomputable def cNe : F2 := cEqG true
theorem eqBs_ne : ∀ {xs ys : List PV}, xs.length ≠ ys.length → eqBs xs ys = false := fun {xs ys} h => by
 cases e : eqBs xs ys with
 | false => rfl
 | true => exact absurd (eqBs_len e) h
theorem eqBs_eq {xs ys : List PV} (h : xs.length = ys.length) : eqBs xs ys = (List.range xs.length).all (fun j => eqB (xs.getD j .non) (ys.getD j .non)) := by
 rw [eqBs_range, ← h, Nat.min_self]; simp
section
variable {X : Cx}
theorem xor_f (b : Bool) : (false ^^ b) = b := by cases b <;> rfl
theorem xor_t (b : Bool) : (true ^^ b) = !b := by cases b <;> rfl
theorem fin_b {pins : List (Addr × Obj)} {s : Shared} {σ : St} {H : Hp} {φ : List Addr} {S : Store} {Q0 : VC} {Q : VK} {b b' : Bool} (I : Inv X pins σ H s) (k : KE X.K φ H Q0 Q) (R : Rel X.K φ S H) (q : Q0 (.bl b) S) (e : b = b') : EP X pins σ Q (.bool b') s := by
 subst e
 exact ⟨.bl b, H, I, rfl, k _ S φ H _ q (List.prefix_refl _) (.refl _) R rfl⟩
theorem flatTup {x y : PV} (h : ∀ xs ys, x = .tup xs → y = .tup ys → False) (d : Nat) : ∀ xs ys, x = .tup xs → y = .tup ys → dep x ≤ d := fun xs ys a b => (h xs ys a b).elim
theorem ops_eq (hu : X.A.units + 200 < cLine) : OpR X (compareOp .Eq) (liftR X.K cEq) := by
 rintro pins s σ H x y v u Q I rx ry ⟨φ, S, px, py, Q0, R, hx, hy, h, k⟩
 unfold cEq cEqG at h
 split at h
 ·rename_i xs ys
  obtain ⟨⟨o1, o2⟩, h⟩ := h
  rw [xor_f] at h
  exact rcAt_P I 190 X.A _ _ x y v u o1.1 o2.1 (fun _ _ _ _ => o1.2) (by omega) hx hy rx ry X.prog X.w X.xe _ (fin_b I k R h (by simp only [eqB]))
 ·rename_i m n
  split at h
  ·rename_i xs ys e1 e2
   obtain ⟨⟨o1, o2⟩, h⟩ := h
   rw [xor_f] at h
   obtain ⟨a, rfl, qa⟩ := hx
   obtain ⟨b, rfl, qb⟩ := hy
   obtain ⟨vs, sa, ra⟩ := R.seq qa e1
   obtain ⟨ws, sb, rb⟩ := R.seq qb e2
   cases rx
   cases ry
   obtain ⟨its, r1, p1, _⟩ := I.list sa
   obtain ⟨its2, r2, p2, _⟩ := I.list sb
   by_cases hl : xs.length = ys.length
   ·rw [eqBs_eq hl] at h
    have hz : its.toArray.size = its2.toArray.size := by rw [List.size_toArray, List.size_toArray, ← r1.length, ← r2.length, ← ra.length, ← rb.length, hl]
    refine SeqAt.eq_listAt (e := fun j => eqB (xs.getD j .non) (ys.getD j .non)) p1.isList p2.isList hz (by omega) (fun j h1 h2 => ?_) (fin_b I k R h (by rw [List.size_toArray, ← r1.length, ← ra.length]))
    have hj1 : j < xs.length := by rw [ra.length, r1.length]; simpa using h1
    have hj2 : j < ys.length := by omega
    have e1 : xs[j]? = some xs[j] := List.getElem?_eq_getElem hj1
    have e2 : ys[j]? = some ys[j] := List.getElem?_eq_getElem hj2
    obtain ⟨v1, g1, q1⟩ := ra.get e1
    obtain ⟨v2, g2, q2⟩ := rb.get e2
    rw [getD_some e1, getD_some e2]
    have hdd := deps_get e1
    have := o1.2
    exact eqAt_P I 190 X.A.in1 _ _ v1 v2 _ _ (nrfs_get o1.1 e1) (nrfs_get o2.1 e2) (by omega) (by rw [in1_units]; omega) q1 q2 (vals_at r1 h1 g1) (vals_at r2 h2 g2)
   ·rw [eqBs_ne hl] at h
    have hz : (its.toArray.size != its2.toArray.size) = true := by rw [List.size_toArray, List.size_toArray, ← r1.length, ← r2.length, ← ra.length, ← rb.length]; simpa using hl
    exact SeqAt.eq_list_lengthsAt p1.isList p2.isList hz (by omega) (fin_b I k R h rfl)
  ·exact h.elim
 ·exact h.elim
 ·exact h.elim
 ·rename_i h1 h2 h3 h4
  obtain ⟨⟨o1, o2⟩, h⟩ := h
  rw [xor_f] at h
  exact rcAt_P I 0 X.A _ _ x y v u o1 o2 (flatTup (by assumption) _) (by omega) hx hy rx ry X.prog X.w X.xe _ (fin_b I k R h rfl)
theorem ops_ne (hu : X.A.units + 200 < cLine) : OpR X (compareOp .NotEq) (liftR X.K cNe) := by
 rintro pins s σ H x y v u Q I rx ry ⟨φ, S, px, py, Q0, R, hx, hy, h, k⟩
 unfold cNe cEqG at h
 split at h
 ·rename_i xs ys
  obtain ⟨⟨o1, o2⟩, h⟩ := h
  rw [xor_t] at h
  exact rcNeAt_P I 190 X.A _ _ x y v u o1.1 o2.1 (fun _ _ _ _ => o1.2) (by omega) hx hy rx ry X.prog X.w X.xe _ (fin_b I k R h (by simp only [eqB]))
 ·rename_i m n
  split at h
  ·rename_i xs ys e1 e2
   obtain ⟨⟨o1, o2⟩, h⟩ := h
   rw [xor_t] at h
   obtain ⟨a, rfl, qa⟩ := hx
   obtain ⟨b, rfl, qb⟩ := hy
   obtain ⟨vs, sa, ra⟩ := R.seq qa e1
   obtain ⟨ws, sb, rb⟩ := R.seq qb e2
   cases rx
   cases ry
   obtain ⟨its, r1, p1, _⟩ := I.list sa
   obtain ⟨its2, r2, p2, _⟩ := I.list sb
   by_cases hl : xs.length = ys.length
   ·rw [eqBs_eq hl] at h
    have hz : its.toArray.size = its2.toArray.size := by rw [List.size_toArray, List.size_toArray, ← r1.length, ← r2.length, ← ra.length, ← rb.length, hl]
    refine SeqAt.RcNeAt.lists (e := fun j => eqB (xs.getD j .non) (ys.getD j .non)) p1.isList p2.isList hz (by omega) (fun j h1 h2 => ?_) X.prog X.w X.xe _ (fin_b I k R h (by rw [List.size_toArray, ← r1.length, ← ra.length]))
    have hj1 : j < xs.length := by rw [ra.length, r1.length]; simpa using h1
    have hj2 : j < ys.length := by omega
    have e1 : xs[j]? = some xs[j] := List.getElem?_eq_getElem hj1
    have e2 : ys[j]? = some ys[j] := List.getElem?_eq_getElem hj2
    obtain ⟨v1, g1, q1⟩ := ra.get e1
    obtain ⟨v2, g2, q2⟩ := rb.get e2
    rw [getD_some e1, getD_some e2]
    have hdd := deps_get e1
    have := o1.2
    exact eqAt_P I 190 X.A.in1 _ _ v1 v2 _ _ (nrfs_get o1.1 e1) (nrfs_get o2.1 e2) (by omega) (by rw [in1_units]; omega) q1 q2 (vals_at r1 h1 g1) (vals_at r2 h2 g2)
   ·rw [eqBs_ne hl] at h
    have hz : (its.toArray.size != its2.toArray.size) = true := by rw [List.size_toArray, List.size_toArray, ← r1.length, ← r2.length, ← ra.length, ← rb.length]; simpa using hl
    exact SeqAt.RcNeAt.lists_lengths p1.isList p2.isList hz (by omega) X.prog X.w X.xe _ (fin_b I k R h rfl)
  ·exact h.elim
 ·exact h.elim
 ·exact h.elim
 ·rename_i h1 h2 h3 h4
  obtain ⟨⟨o1, o2⟩, h⟩ := h
  rw [xor_t] at h
  exact rcNeAt_P I 0 X.A _ _ x y v u o1 o2 (flatTup (by assumption) _) (by omega) hx hy rx ry X.prog X.w X.xe _ (fin_b I k R h rfl)
noncomputable def inS (i j : Str) : Bool := !(Builtin.Str.occurrences j i 0 j.length 1).isEmpty
noncomputable def cInG (neg : Bool) : F2 := fun x y S Q => match x, y with
 | .str i, .str j => Q (.bl (neg ^^ inS i j)) S
 | x, .tup ys => (okEq x ∧ okEqs ys) ∧ Q (.bl (neg ^^ ys.any fun y => eqB y x)) S
 | x, .ref n => match seqOf S n with
  | some ys => (okEq x ∧ okEqs ys) ∧ Q (.bl (neg ^^ ys.any fun y => eqB y x)) S
  | none => False
 | _, _ => False
noncomputable def cIn : F2 := cInG false
noncomputable def cNotIn : F2 := cInG true
open Classical in
theorem in_items {pins : List (Addr × Obj)} {s : Shared} {σ : St} {H : Hp} {φ : List Addr} (hu : X.A.units + 200 < cLine) (I : Inv X pins σ H s) {x : PV} {x' : V} {v : Value} {ys : List PV} {vs : List V} {its : List Value} (ox : okEq x) (oy : okEqs ys) (rx : RV X.K H φ x x') (qx : RelV x' v) (ry : RVs X.K H φ ys vs) (r : Vals vs its) :
  ∃ e : Value → Bool, (∀ u, u ∈ its.toArray → SeqAt.EqAt X.A.in1 s u v (e u)) ∧ its.toArray.any e = ys.any fun y => eqB y x := by
 have key : ∀ (j : Nat) u y, its[j]? = some u → ys[j]? = some y → ∃ y', RV X.K H φ y y' ∧ RelV y' u := fun j u y h1 h2 => by
  obtain ⟨y', g, q⟩ := ry.get h2
  obtain ⟨u', g', q'⟩ := r.get g
  rw [h1] at g'
  cases g'
  exact ⟨y', q, q'⟩
 refine ⟨fun u => decide (∃ (j : Nat) (y : PV), its[j]? = some u ∧ ys[j]? = some y ∧ eqB y x = true), ?_, ?_⟩
 ·intro u hu'
  have hm : u ∈ its := by simpa using hu'
  obtain ⟨j, hj, e⟩ := List.mem_iff_getElem.mp hm
  have hjy : j < ys.length := by rw [ry.length, r.length]; exact hj
  have e1 : its[j]? = some u := by rw [List.getElem?_eq_getElem hj, e]
  have e2 : ys[j]? = some ys[j] := List.getElem?_eq_getElem hjy
  obtain ⟨y', q, q'⟩ := key j u _ e1 e2
  have hdd := deps_get e2
  have o2 := oy.2
  have base := eqAt_P I 190 X.A.in1 _ x y' x' u v (nrfs_get oy.1 e2) ox.1 (by omega) (by rw [in1_units]; omega) q rx q' qx
  have : decide (∃ (j : Nat) (y : PV), its[j]? = some u ∧ ys[j]? = some y ∧ eqB y x = true) = eqB ys[j] x := by
   cases hb : eqB ys[j] x with
   | true => exact decide_eq_true ⟨j, _, e1, e2, hb⟩
   | false =>
    refine decide_eq_false ?_
    rintro ⟨i, y, h1, h2, h3⟩
    obtain ⟨y2, g, g'⟩ := key i u y h1 h2
    have := g'.inj q'
    subst this
    have := RV.inj I _ _ _ (nrfs_get oy.1 h2) (nrfs_get oy.1 e2) g q
    rw [this, hb] at h3
    cases h3
  dsimp only
  rw [this]
  exact base
 ·rw [List.any_toArray]
  refine any_link (by rw [← r.length, ry.length]) fun j u y h1 h2 => ?_
  obtain ⟨y', q, q'⟩ := key j u y h1 h2
  cases hb : eqB y x with
  | true => exact decide_eq_true ⟨j, _, h1, h2, hb⟩
  | false =>
   refine decide_eq_false ?_
   rintro ⟨i, z, g1, g2, g3⟩
   obtain ⟨y2, g, g'⟩ := key i u z g1 g2
   have := g'.inj q'
   subst this
   have := RV.inj I _ _ _ (nrfs_get oy.1 g2) (nrfs_get oy.1 h2) g q
   rw [this, hb] at g3
   cases g3
theorem ops_in (hu : X.A.units + 200 < cLine) : OpR X (compareOp .In) (liftR X.K cIn) := by
 rintro pins s σ H x y v u Q I rx ry ⟨φ, S, px, py, Q0, R, hx, hy, h, k⟩
 unfold cIn cInG at h
 split at h
 ·rename_i i j
  rw [xor_f] at h
  exact op_in_str pins s σ H x y v u Q I rx ry ⟨i, j, hx, hy, k _ S φ H _ h (List.prefix_refl _) (.refl _) R rfl⟩
 ·rename_i ys _
  obtain ⟨⟨o1, o2⟩, h⟩ := h
  rw [xor_f] at h
  obtain ⟨a, vs, rfl, sa, ra⟩ := hy
  cases ry
  obtain ⟨its, r1, p1, _⟩ := I.tuple sa
  obtain ⟨e, h1, h2⟩ := in_items hu I o1 o2 hx rx ra r1
  exact SeqAt.in_tupleAt e p1 h1 (fin_b I k R h (by rw [h2]))
 ·rename_i n _
  split at h
  ·rename_i ys es
   obtain ⟨⟨o1, o2⟩, h⟩ := h
   rw [xor_f] at h
   obtain ⟨a, rfl, qa⟩ := hy
   cases ry
   obtain ⟨vs, sa, ra⟩ := R.seq qa es
   obtain ⟨its, r1, p1, _⟩ := I.list sa
   obtain ⟨e, h1, h2⟩ := in_items hu I o1 o2 hx rx ra r1
   exact SeqAt.in_listAt e p1.isList h1 (fin_b I k R h (by rw [h2]))
  ·exact h.elim
 ·exact h.elim
theorem ops_notIn (hu : X.A.units + 200 < cLine) : OpR X (compareOp .NotIn) (liftR X.K cNotIn) := by
 rintro pins s σ H x y v u Q I rx ry ⟨φ, S, px, py, Q0, R, hx, hy, h, k⟩
 unfold cNotIn cInG at h
 split at h
 ·rename_i i j
  rw [xor_t] at h
  exact op_notIn_str pins s σ H x y v u Q I rx ry ⟨i, j, hx, hy, k _ S φ H _ h (List.prefix_refl _) (.refl _) R rfl⟩
 ·rename_i ys _
  obtain ⟨⟨o1, o2⟩, h⟩ := h
  rw [xor_t] at h
  obtain ⟨a, vs, rfl, sa, ra⟩ := hy
  cases ry
  obtain ⟨its, r1, p1, _⟩ := I.tuple sa
  obtain ⟨e, h1, h2⟩ := in_items hu I o1 o2 hx rx ra r1
  exact SeqAt.notIn_tupleAt e p1 h1 (fin_b I k R h (by rw [h2]))
 ·rename_i n _
  split at h
  ·rename_i ys es
   obtain ⟨⟨o1, o2⟩, h⟩ := h
   rw [xor_t] at h
   obtain ⟨a, rfl, qa⟩ := hy
   cases ry
   obtain ⟨vs, sa, ra⟩ := R.seq qa es
   obtain ⟨its, r1, p1, _⟩ := I.list sa
   obtain ⟨e, h1, h2⟩ := in_items hu I o1 o2 hx rx ra r1
   exact SeqAt.notIn_listAt e p1.isList h1 (fin_b I k R h (by rw [h2]))
  ·exact h.elim
 ·exact h.elim
noncomputable def isNon : PV → Bool
 | .non => true
 | _ => false
noncomputable def cIs : F2 := fun x y S Q => match y with
 | .non => Q (.bl (isNon x)) S
 | _ => False
theorem isNon_dec {K : PySem.W.Frag} {H : Hp} {φ : List Addr} {x : PV} {x' : V} (r : RV K H φ x x') : decide (x' = .non) = isNon x := by
 cases x with
 | non => cases r; rfl
 | bl b => cases r; exact decide_eq_false (fun z => nomatch z)
 | int b => cases r; exact decide_eq_false (fun z => nomatch z)
 | str b => cases r; exact decide_eq_false (fun z => nomatch z)
 | ty b => cases r; exact decide_eq_false (fun z => nomatch z)
 | tup b => obtain ⟨a, vs, rfl, _⟩ := r; exact decide_eq_false (fun z => nomatch z)
 | frl b => obtain ⟨a, vs, rfl, _⟩ := r; exact decide_eq_false (fun z => nomatch z)
 | ref b => obtain ⟨a, rfl, _⟩ := r; exact decide_eq_false (fun z => nomatch z)
 | exc b => obtain ⟨a, rfl, _⟩ := r; exact decide_eq_false (fun z => nomatch z)
theorem ops_is : OpR X (compareOp .Is) (liftR X.K cIs) := by
 rintro pins s σ H x y v u Q I rx ry ⟨φ, S, px, py, Q0, R, hx, hy, h, k⟩
 unfold cIs at h
 split at h
 ·exact op_isN pins s σ H x y v u Q I rx ry ⟨hy, k _ S φ H _ h (List.prefix_refl _) (.refl _) R (by rw [isNon_dec hx]; rfl)⟩
 ·exact h.elim
end
end Ev
namespace Ev
open PySem L2
theorem atI_rel {K : PySem.W.Frag} {H : Hp} {φ : List Addr} {xs : List PV} {vs : List V} {i : Int} {v : PV} (r : RVs K H φ xs vs) (e : atI xs i = some v) : ∃ x, atI vs i = some x ∧ RV K H φ v x := by
 unfold atI at e ⊢
 rw [← r.length]
 cases h : ixN xs.length i with
 | none => rw [h] at e; cases e
 | some j =>
  rw [h] at e
  obtain ⟨x, h1, h2⟩ := r.get (i := j) e
  exact ⟨x, h1, h2⟩
noncomputable def valP (kvs : List (Key × PV)) (k : Key) : Option PV := (kvs.find? fun kv => decide (kv.1 = k)).map (·.2)
noncomputable def putP (kvs : List (Key × PV)) (k : Key) (v : PV) : List (Key × PV) :=
 if kvs.any (fun kv => decide (kv.1 = k)) then kvs.map fun kv => if kv.1 = k then (kv.1, v) else kv else kvs ++ [(k, v)]
noncomputable def keyOf : PV → Option Key
 | .int i => some (.inl i)
 | .str x => some (.inr x)
 | _ => none
theorem key_rel {K : PySem.W.Frag} {H : Hp} {φ : List Addr} {y : PV} {y' : V} {k : Key} (r : RV K H φ y y') (e : keyOf y = some k) : y' = kV k := by
 cases y with
 | int i => cases e; exact r
 | str i => cases e; exact r
 | _ => cases e
theorem RKs.val {K : PySem.W.Frag} {H : Hp} {φ : List Addr} {xs : List (Key × PV)} {ys : List (Key × V)} (h : RKs K H φ xs ys) (k : Key) : (∀ v, valP xs k = some v → ∃ x, valV ys k = some x ∧ RV K H φ v x) ∧ (valP xs k = none → valV ys k = none) := by
 unfold RKs at h
 induction h with
 | nil => exact ⟨fun v e => by simp [valP] at e, fun _ => rfl⟩
 | @cons p q ps qs hd t ih =>
  by_cases e : p.1 = k
  ·have e1 : valP (p :: ps) k = some p.2 := by simp [valP, List.find?_cons, e]
   rw [e1, valV_pos (hd.1.symm.trans e)]
   exact ⟨fun v z => by cases z; exact ⟨_, rfl, hd.2⟩, fun z => by cases z⟩
  ·have e1 : valP (p :: ps) k = valP ps k := by simp [valP, List.find?_cons, e]
   rw [e1, valV_neg (fun z => e (hd.1.trans z))]
   exact ih
theorem RKs.any {K : PySem.W.Frag} {H : Hp} {φ : List Addr} {xs : List (Key × PV)} {ys : List (Key × V)} (h : RKs K H φ xs ys) (k : Key) : (xs.any fun kv => decide (kv.1 = k)) = ys.any fun kv => decide (kv.1 = k) := by
 unfold RKs at h
 induction h with
 | nil => rfl
 | @cons p q ps qs hd t ih => rw [List.any_cons, List.any_cons, ih, hd.1]
theorem RKs.repl {K : PySem.W.Frag} {H : Hp} {φ : List Addr} {xs : List (Key × PV)} {ys : List (Key × V)} (h : RKs K H φ xs ys) (k : Key) {v : PV} {x : V} (r : RV K H φ v x) : RKs K H φ (xs.map fun kv => if kv.1 = k then (kv.1, v) else kv) (ys.map fun kv => if kv.1 = k then (kv.1, x) else kv) := by
 unfold RKs at h ⊢
 induction h with
 | nil => exact .nil
 | @cons p q ps qs hd t ih =>
  rw [List.map_cons, List.map_cons]
  refine .cons ?_ ih
  by_cases e : p.1 = k
  ·rw [if_pos e, if_pos (hd.1.symm.trans e)]
   exact ⟨hd.1, r⟩
  ·rw [if_neg e, if_neg (fun z => e (hd.1.trans z))]
   exact hd
theorem RKs.snoc {K : PySem.W.Frag} {H : Hp} {φ : List Addr} {xs : List (Key × PV)} {ys : List (Key × V)} (h : RKs K H φ xs ys) (k : Key) {v : PV} {x : V} (r : RV K H φ v x) : RKs K H φ (xs ++ [(k, v)]) (ys ++ [(k, x)]) := by
 unfold RKs at h ⊢
 induction h with
 | nil => exact .cons ⟨rfl, r⟩ .nil
 | cons hd t ih => exact .cons hd ih
theorem RKs.put {K : PySem.W.Frag} {H : Hp} {φ : List Addr} {xs : List (Key × PV)} {ys : List (Key × V)} (h : RKs K H φ xs ys) (k : Key) {v : PV} {x : V} (r : RV K H φ v x) : RKs K H φ (putP xs k v) (putK ys k x) := by
 unfold putP putK
 rw [h.any]
 split
 ·exact h.repl k r
 ·exact h.snoc k r
theorem RKs.length {K : PySem.W.Frag} {H : Hp} {φ : List Addr} {xs : List (Key × PV)} {ys : List (Key × V)} (h : RKs K H φ xs ys) : xs.length = ys.length := Paired.length h
noncomputable def bIx : F2 := fun x y S Q => match x, y with
 | .tup xs, .int i => match atI xs i with
  | some v => Q v S
  | none => False
 | .str z, .int i => z.length ≤ sizeLine ∧ match atI z.cps.toList i with
  | some c => Q (.str ⟨#[c]⟩) S
  | none => False
 | .frl xs, .int i => match atI xs i with
  | some v => Q v S
  | none => False
 | .ref n, y => match S[n]? with
  | some (.lst xs) => match y with
   | .int i => match atI xs i with
    | some v => Q v S
    | none => False
   | _ => False
  | some (.dK kvs) => match keyOf y with
   | some k => match valP kvs k with
    | some v => Q v S
    | none => False
   | none => False
  | _ => False
 | _, _ => False
theorem ix_dict {X : Cx} (hu : X.A.units + 200 < cLine) : IxR X (fun x y H Q => ∃ a v, x = .ref a ∧ DGet H a y (some v) ∧ Q v H) := by
 intro value slice pins s σ H x y v u Q I rx ry h hs
 obtain ⟨a, w, rfl, g, q⟩ := h
 cases rx
 exact PyProof.Rows.tail_any (dict_typeIs I g) PySem.F.slot_dict_getitem.lookup (d_getItem (by omega) I g ry fun w' s3 I3 rw' => ⟨w, H, I3, rw', q⟩) hs
section
variable {X : Cx} {G : GX} {pos : Pos}
theorem ixs_seq (hu : X.A.units + 200 < cLine) : IxR X (liftR X.K bIx) := by
 rintro value slice pins s σ H x y v u Q I rx ry ⟨φ, S, px, py, Q0, R, hx, hy, h, k⟩ hs
 unfold bIx at h
 split at h
 ·rename_i xs i
  split at h
  ·rename_i w e
   obtain ⟨a, vs, rfl, sa, ra⟩ := hx
   cases hy
   obtain ⟨w', e', r'⟩ := atI_rel ra e
   exact ix_tup value slice pins s σ H _ _ v u Q I rx ry ⟨a, vs, i, w', rfl, rfl, sa, e', k _ S φ H _ h (List.prefix_refl _) (.refl _) R r'⟩ hs
  ·exact h.elim
 ·rename_i z i
  obtain ⟨hz, h⟩ := h
  split at h
  ·rename_i c e
   cases hx
   cases hy
   exact ix_str value slice pins s σ H _ _ v u Q I rx ry ⟨z, i, c, rfl, rfl, hz, e, k _ S φ H _ h (List.prefix_refl _) (.refl _) R rfl⟩ hs
  ·exact h.elim
 ·rename_i xs i
  split at h
  ·rename_i w e
   obtain ⟨a, vs, rfl, sa, ra⟩ := hx
   cases hy
   obtain ⟨w', e', r'⟩ := atI_rel ra e
   exact ix_list value slice pins s σ H _ _ v u Q I rx ry ⟨a, vs, i, w', rfl, rfl, sa.sq, e', k _ S φ H _ h (List.prefix_refl _) (.refl _) R r'⟩ hs
  ·exact h.elim
 ·rename_i n
  obtain ⟨a, rfl, qa⟩ := hx
  split at h
  ·rename_i xs es
   split at h
   ·rename_i i
    split at h
    ·rename_i w e
     cases hy
     obtain ⟨vs, sa, ra⟩ := R.obj n a _ qa es
     obtain ⟨w', e', r'⟩ := atI_rel ra e
     exact ix_list value slice pins s σ H _ _ v u Q I rx ry ⟨a, vs, i, w', rfl, rfl, SqL.of sa, e', k _ S φ H _ h (List.prefix_refl _) (.refl _) R r'⟩ hs
    ·exact h.elim
   ·exact h.elim
  ·rename_i kvs es
   split at h
   ·rename_i kk ek
    split at h
    ·rename_i w e
     have hk := key_rel hy ek
     subst hk
     obtain ⟨ws, sa, ra⟩ := R.obj n a _ qa es
     obtain ⟨w', e', r'⟩ := (ra.val kk).1 w e
     refine ix_dict hu value slice pins s σ H _ _ v u Q I rx ry ⟨a, w', rfl, ?_, k _ S φ H _ h (List.prefix_refl _) (.refl _) R r'⟩ hs
     rw [← e']
     exact DGet.k sa
    ·exact h.elim
   ·exact h.elim
  ·exact h.elim
 ·exact h.elim
variable {a b : Expr} {wa wb : WE}
theorem sim_ix (hu : X.A.units + 200 < cLine) (ha : SimE X G a wa) (hb : SimE X G b wb) (hs : PlainIx b := by exact fun _ _ => rfl) : SimE X G (.Subscript a b pos) (wBin bIx wa wb) := (pe_ix (ixs_seq hu) ha hb hs).imp fun _ _ _ h => lift_bin h
noncomputable def cutP {α : Type} (xs : List α) (lo hi : Option Int) : List α := (xs.drop (HT.sIx xs.length 0 lo)).take (HT.sIx xs.length xs.length hi - HT.sIx xs.length 0 lo)
theorem cut_rel {K : PySem.W.Frag} {H : Hp} {φ : List Addr} {xs : List PV} {vs : List V} (lo hi : Option Int) (r : RVs K H φ xs vs) : RVs K H φ (cutP xs lo hi) (cutV vs lo hi) := by
 unfold cutP cutV
 rw [← r.length]
 exact (r.drop _).take _
noncomputable abbrev F3 := PV → Option Int → Option Int → Store → VC → Prop
noncomputable def bSl : F3 := fun x lo hi S Q => match x with
 | .str z => z.length ≤ sizeLine ∧ Q (.str (Txt.slice z lo hi)) S
 | .tup xs => ¬ (HT.sIx xs.length 0 lo = 0 ∧ HT.sIx xs.length xs.length hi = xs.length) ∧ Q (.tup (cutP xs lo hi)) S
 | .frl xs => Q (.ref S.length) (S ++ [.lst (cutP xs lo hi)])
 | .ref n => match seqOf S n with
  | some xs => Q (.ref S.length) (S ++ [.lst (cutP xs lo hi)])
  | none => False
 | _ => False
noncomputable def liftR3 (K : PySem.W.Frag) (f : F3) : V → Option Int → Option Int → Hp → VK → Prop := fun x' lo hi H Q => ∃ φ S x Q0, Rel K φ S H ∧ RV K H φ x x' ∧ f x lo hi S Q0 ∧ KE K φ H Q0 Q
theorem sls : SlR X (liftR3 X.K bSl) := by
 rintro pins s σ H x v vl vu lo hi sl Q I rx hs pl pu ⟨φ, S, px, Q0, R, hx, h, k⟩
 unfold bSl at h
 split at h
 ·rename_i z
  cases hx
  exact sl_str pins s σ H _ v vl vu lo hi sl Q I rx hs pl pu ⟨z, rfl, h.1, k _ S φ H _ h.2 (List.prefix_refl _) (.refl _) R rfl⟩
 ·rename_i xs
  obtain ⟨a, vs, rfl, sa, ra⟩ := hx
  exact sl_tup pins s σ H _ v vl vu lo hi sl Q I rx hs pl pu ⟨a, vs, rfl, sa, by rw [← ra.length]; exact h.1, k.tup h.2 R (cut_rel lo hi ra)⟩
 ·rename_i xs
  obtain ⟨a, vs, rfl, sa, ra⟩ := hx
  exact sl_list pins s σ H _ v vl vu lo hi sl Q I rx hs pl pu ⟨a, vs, rfl, sa.sq, k.lst h R (cut_rel lo hi ra)⟩
 ·rename_i n
  split at h
  ·rename_i xs es
   obtain ⟨a, rfl, qa⟩ := hx
   obtain ⟨vs, sa, ra⟩ := R.seq qa es
   exact sl_list pins s σ H _ v vl vu lo hi sl Q I rx hs pl pu ⟨a, vs, rfl, sa, k.lst h R (cut_rel lo hi ra)⟩
  ·exact h.elim
 ·exact h.elim
noncomputable abbrev WO := Loc → Store → EK → (Option Int → Store → Prop) → Prop
noncomputable def KO (K : PySem.W.Frag) (φ : List Addr) (H : Hp) (Q0 : Option Int → Store → Prop) (Q : Option Int → Hp → Prop) : Prop := ∀ v S' φ' H', Q0 v S' → φ <+: φ' → Mono H H' → Rel K φ' S' H' → Q v H'
noncomputable def liftO (K : PySem.W.Frag) (G : GX) (w : WO) : TO := fun σV H Q => ∃ φ σ S Q0, LRel K G H φ σ σV ∧ Rel K φ S H ∧ w σ S G.ek Q0 ∧ KO K φ H Q0 Q
noncomputable def SimO (X : Cx) (G : GX) (e : Option Expr) (w : WO) : Prop := PO X e (liftO X.K G w)
theorem PO.imp {e : Option Expr} {t t' : TO} (h : PO X e t) (i : ∀ σ H Q, t' σ H Q → t σ H Q) : PO X e t' := fun pins s σ H Q I q => h pins s σ H Q I (i σ H Q q)
noncomputable def wNoPart : WO := fun _ S _ Q => Q none S
noncomputable def wPart (w : WE) : WO := fun σ S E Q => w σ S E fun x S1 => match x with
 | .int i => Q (some i) S1
 | _ => False
theorem simO_none : SimO X G none wNoPart := PO.imp po_none fun σV H Q hh1 => by obtain ⟨φ, σ, S, Q0, L, R, h, k⟩ := hh1; exact (k none S φ H h (List.prefix_refl _) (.refl _) R)
theorem simO_some {e : Expr} {w : WE} (h : SimE X G e w) : SimO X G (some e) (wPart w) :=
 PO.imp (po_some h) fun σV H Q hh1 => by obtain ⟨φ, σ, S, Q0, L, R, h, k⟩ := hh1; exact (⟨φ, σ, S, _, L, R, h, fun v S1 φ1 H1 x q p1 m1 R1 r1 => by
  cases v with
  | int i => exact ⟨i, r1, k _ S1 φ1 H1 q p1 m1 R1⟩
  | _ => exact q.elim⟩)
noncomputable def wSl (w : WE) (wl wh : WO) : WE := fun σ S E Q => w σ S E fun x S1 => wl σ S1 E fun lo S2 => wh σ S2 E fun hi S3 => bSl x lo hi S3 Q
theorem sim_slice {e : Expr} {w : WE} {lo hi : Option Expr} {wl wh : WO} {p2 : Pos} (he : SimE X G e w) (hl : SimO X G lo wl) (hh : SimO X G hi wh) : SimE X G (.Subscript e (.Slice lo hi none p2) pos) (wSl w wl wh) :=
 (pe_slice sls he hl hh).imp fun σV H Q hh1 => by obtain ⟨φ, σ, S, Q0, L, R, h, k⟩ := hh1; exact (⟨φ, σ, S, _, L, R, h, fun v S1 φ1 H1 x q p1 m1 R1 r1 =>
  ⟨φ1, σ, S1, _, L.mono m1 p1, R1, q, fun l S2 φ2 H2 q2 p2 m2 R2 =>
   ⟨φ2, σ, S2, _, (L.mono m1 p1).mono m2 p2, R2, q2, fun u S3 φ3 H3 q3 p3 m3 R3 =>
    ⟨φ3, S3, v, Q0, R3, RV.mono m3 p3 _ _ (RV.mono m2 p2 _ _ r1), q3, k.up ((p1.trans p2).trans p3) ((m1.trans m2).trans m3)⟩⟩⟩⟩)
noncomputable abbrev FL := List PV → Store → VC → Prop
noncomputable def liftC (K : PySem.W.Frag) (f : FL) : List V → Hp → VK → Prop := fun xs' H Q => ∃ φ S xs Q0, Rel K φ S H ∧ RVs K H φ xs xs' ∧ f xs S Q0 ∧ KE K φ H Q0 Q
noncomputable def wCB (f : FL) (wa : WA) : WE := fun σ S E Q => wa σ S E fun xs S1 => f xs S1 Q
theorem lift_cb {f : FL} {wa : WA} {σV : St} {H : Hp} {Q : VK} (h : liftE X.K G (wCB f wa) σV H Q) : tCB (liftC X.K f) (liftA X.K G wa) σV H Q := by
 obtain ⟨φ, σ, S, Q0, L, R, h, k⟩ := h
 exact ⟨φ, σ, S, _, L, R, h, fun v S1 φ1 H1 x q p1 m1 R1 r1 => ⟨φ1, S1, v, Q0, R1, r1, q, k.up p1 m1⟩⟩
theorem sim_callB {f : FL} {x : Str} {id : String} {p : Pos} {e : Expr} {es : List Expr} {wa : WA} (hc : CallR X (.builtin id) (liftC X.K f)) (hm : X.mg x = none) (hv : bootBuiltins x = some (.builtin id)) (ha : SimA X G (e :: es) wa) (hg : Gl X x := by rfl) (hn : x ≠ "__name__" := by decide) (hdb : (x == ("__debug__" : Str)) = false := by decide)
  (he : starEach (e :: es) X.env = (false, eval e X.env) :: starEach es X.env := by rfl) (hpl : (backTo pos (starEach es X.env)).any (·.1) = false := by rfl) : SimE X G (.Call (.Name x p) (e :: es) [] pos) (wCB f wa) :=
 (pe_callB hc hg hm hv ha hn hdb he hpl).imp fun _ _ _ h => lift_cb h
theorem sim_callTy {f : FL} {x : Str} {T : String} {p : Pos} {e : Expr} {es : List Expr} {wa : WA} (hc : CallR X (.type T) (liftC X.K f)) (hm : X.mg x = none) (hv : bootBuiltins x = some (.type T)) (ha : SimA X G (e :: es) wa) (hg : Gl X x := by rfl) (hn : x ≠ "__name__" := by decide) (hdb : (x == ("__debug__" : Str)) = false := by decide)
  (he : starEach (e :: es) X.env = (false, eval e X.env) :: starEach es X.env := by rfl) (hpl : (backTo pos (starEach es X.env)).any (·.1) = false := by rfl) : SimE X G (.Call (.Name x p) (e :: es) [] pos) (wCB f wa) :=
 (pe_callTy hc hg hm hv ha hn hdb he hpl).imp fun _ _ _ h => lift_cb h
theorem one_rel {K : PySem.W.Frag} {H : Hp} {φ : List Addr} {x : PV} {vs : List V} (r : RVs K H φ [x] vs) : ∃ v, vs = [v] ∧ RV K H φ x v := by
 obtain ⟨y, ys, rfl, r1, r2⟩ := r
 rw [show ys = [] from r2]
 exact ⟨y, rfl, r1⟩
theorem two_rel {K : PySem.W.Frag} {H : Hp} {φ : List Addr} {x y : PV} {vs : List V} (r : RVs K H φ [x, y] vs) : ∃ v w, vs = [v, w] ∧ RV K H φ x v ∧ RV K H φ y w := by
 obtain ⟨a, as, rfl, r1, r2⟩ := r
 obtain ⟨b, rfl, r3⟩ := one_rel r2
 exact ⟨a, b, rfl, r1, r3⟩
noncomputable def fLen : FL := fun xs S Q => match xs with
 | [.str z] => z.length ≤ sizeLine ∧ Q (.int z.length) S
 | [.tup xs] => Q (.int xs.length) S
 | [.frl xs] => Q (.int xs.length) S
 | [.ref n] => match seqOf S n with
  | some xs => Q (.int xs.length) S
  | none => False
 | _ => False
theorem calls_len : CallR X (.builtin "len") (liftC X.K fLen) := by
 rintro pins s σ H xs us Q I r ⟨φ, S, pxs, Q0, R, hx, h, k⟩
 unfold fLen at h
 split at h
 ·rename_i z
  obtain ⟨v, rfl, r1⟩ := one_rel hx
  cases r1
  exact call_len_str pins s σ H _ us Q I r ⟨z, rfl, h.1, k _ S φ H _ h.2 (List.prefix_refl _) (.refl _) R rfl⟩
 ·rename_i ys
  obtain ⟨v, rfl, a, vs, rfl, sa, ra⟩ := one_rel hx
  exact call_len_seq pins s σ H _ us Q I r ⟨a, vs, rfl, .inr sa, k _ S φ H _ h (List.prefix_refl _) (.refl _) R (by rw [← ra.length]; rfl)⟩
 ·rename_i ys
  obtain ⟨v, rfl, a, vs, rfl, sa, ra⟩ := one_rel hx
  exact call_len_seq pins s σ H _ us Q I r ⟨a, vs, rfl, .inl sa.sq, k _ S φ H _ h (List.prefix_refl _) (.refl _) R (by rw [← ra.length]; rfl)⟩
 ·rename_i n
  split at h
  ·rename_i ys es
   obtain ⟨v, rfl, a, rfl, qa⟩ := one_rel hx
   obtain ⟨vs, sa, ra⟩ := R.seq qa es
   exact call_len_seq pins s σ H _ us Q I r ⟨a, vs, rfl, .inl sa, k _ S φ H _ h (List.prefix_refl _) (.refl _) R (by rw [← ra.length]; rfl)⟩
  ·exact h.elim
 ·exact h.elim
noncomputable def tyP (x : PV) (S : Store) : Option String := match x with
 | .non => some "NoneType"
 | .bl _ => some "bool"
 | .int _ => some "int"
 | .str _ => some "str"
 | .tup _ => some "tuple"
 | .ref n => match S[n]? with
  | some (.lst _) => some "list"
  | some (.dK _) => some "dict"
  | _ => none
 | .frl _ => some "list"
 | .ty _ => none
 | .exc _ => none
noncomputable def isT (T C : String) : Bool := T == C || (T == "bool" && C == "int")
noncomputable def kinds : List String := ["NoneType", "bool", "int", "str", "tuple", "list", "dict"]
noncomputable def kindsC : List String := ["list", "tuple", "str", "int", "bool", "dict"]
theorem kit_tab (K : PySem.W.Frag) : ∀ T ∈ kinds, ∀ C ∈ kindsC, PySem.W.kitOne K (.type T) (.type C) = some (isT T C) := by
 intro T hT C hC
 simp only [kinds, List.mem_cons, List.not_mem_nil, or_false] at hT
 simp only [kindsC, List.mem_cons, List.not_mem_nil, or_false] at hC
 rcases hT with rfl | rfl | rfl | rfl | rfl | rfl | rfl <;> rcases hC with rfl | rfl | rfl | rfl | rfl | rfl <;> kernel_rfl
theorem tyP_kind {x : PV} {S : Store} {T : String} (h : tyP x S = some T) : T ∈ kinds := by
 unfold tyP at h
 split at h
 all_goals first
  | (cases h; simp [kinds])
  | (split at h <;> first | (cases h; simp [kinds]) | cases h)
  | cases h
end
end Ev
namespace Ev
open PySem L2
section
variable {X : Cx} {G : GX} {pos : Pos}
theorem isi_one {pins : List (Addr × Obj)} {s : Shared} {σ : St} {H : Hp} {φ : List Addr} {S : Store} {x : PV} {x' : V} {u c : Value} {T : String} {b : Bool} {A : Around} {E : Value → Shared → Prop} {Q : Value → Shared → Prop} (I : Inv X pins σ H s) (R : Rel X.K φ S H) (rx : RV X.K H φ x x') (q : RelV x' u)
  (ht : tyP x S = some T) (e : PySem.W.kitOne X.K (.type T) c = some b) (h : ∀ tk, Q (.bool b) { s with toks := tk }) : wpAny (model X.prog X.w) A (call (.builtin "isinstance") [u, c]) Q E s := by
 unfold tyP at ht
 split at ht
 ·cases ht; cases rx; cases (show u = Value.none from q); exact PySem.W.kia_one PySem.W.kitx_none I.kIn True.intro e (fun z => nomatch z) h
 ·rename_i y; cases ht; cases rx; cases (show u = Value.bool y from q); exact PySem.W.kia_one PySem.W.kitx_bool I.kIn True.intro e (fun z => nomatch z) h
 ·rename_i y; cases ht; cases rx; obtain ⟨t, rfl⟩ := (show ∃ t, u = Value.int y t from q); exact PySem.W.kia_one PySem.W.kitx_int I.kIn True.intro e (fun z => nomatch z) h
 ·rename_i y; cases ht; cases rx; obtain ⟨t, rfl⟩ := (show ∃ t, u = Value.str y t from q); exact PySem.W.kia_one PySem.W.kitx_str I.kIn True.intro e (fun z => nomatch z) h
 ·cases ht
  obtain ⟨a, vs, rfl, sa, ra⟩ := rx
  cases q
  obtain ⟨its, _, ⟨o, h1, h2, _⟩, _⟩ := I.tuple sa
  exact PySem.W.kia_one PySem.W.kitx_tuple I.kIn ⟨o, h1, h2⟩ e (fun z => nomatch z) h
 ·rename_i n
  obtain ⟨a, rfl, qa⟩ := rx
  cases q
  split at ht
  ·rename_i xs es
   cases ht
   obtain ⟨vs, e1, _⟩ := R.obj n a _ qa es
   exact isinst_ok (x := .ref a) I rfl (TyOf.lst (K := X.K) e1) e h
  ·rename_i xs es
   cases ht
   obtain ⟨vs, e1, _⟩ := R.obj n a _ qa es
   exact isinst_ok (x := .ref a) I rfl (TyOf.dK (K := X.K) e1) e h
  ·cases ht
 ·cases ht
  obtain ⟨a, vs, rfl, sa, ra⟩ := rx
  cases q
  obtain ⟨its, _, p, _⟩ := I.list sa.sq
  obtain ⟨o, h1, h2, _⟩ := p.isList
  exact PySem.W.kia_one PySem.W.kitx_list I.kIn ⟨o, h1, h2⟩ e (fun z => nomatch z) h
 ·cases ht
 ·cases ht
theorem isi_tup {pins : List (Addr × Obj)} {s : Shared} {σ : St} {H : Hp} {φ : List Addr} {S : Store} {x : PV} {x' : V} {u : Value} {T : String} {p : Addr} {its : List Value} {b : Bool} {A : Around} {E : Value → Shared → Prop} {Q : Value → Shared → Prop} (I : Inv X pins σ H s) (R : Rel X.K φ S H) (rx : RV X.K H φ x x') (q : RelV x' u)
  (ht : tyP x S = some T) (ho : PyProof.Rows.IsTup s.heap p its.toArray) (e : PySem.W.kitAny X.K (.type T) its = some b) (h : ∀ tk, Q (.bool b) { s with toks := tk }) : wpAny (model X.prog X.w) A (call (.builtin "isinstance") [u, .ref p]) Q E s := by
 obtain ⟨⟨cls, dd, dat, sl⟩, ho, hc, n, hd⟩ := ho
 simp only at hc hd
 subst hc hd
 unfold tyP at ht
 split at ht
 ·cases ht; cases rx; cases (show u = Value.none from q); exact PySem.W.kia_tup PySem.W.kitx_none I.kIn True.intro ho e (fun z => nomatch z) h
 ·rename_i y; cases ht; cases rx; cases (show u = Value.bool y from q); exact PySem.W.kia_tup PySem.W.kitx_bool I.kIn True.intro ho e (fun z => nomatch z) h
 ·rename_i y; cases ht; cases rx; obtain ⟨t, rfl⟩ := (show ∃ t, u = Value.int y t from q); exact PySem.W.kia_tup PySem.W.kitx_int I.kIn True.intro ho e (fun z => nomatch z) h
 ·rename_i y; cases ht; cases rx; obtain ⟨t, rfl⟩ := (show ∃ t, u = Value.str y t from q); exact PySem.W.kia_tup PySem.W.kitx_str I.kIn True.intro ho e (fun z => nomatch z) h
 ·cases ht
  obtain ⟨a, vs, rfl, sa, ra⟩ := rx
  cases q
  obtain ⟨_, _, ⟨o, h1, h2, _⟩, _⟩ := I.tuple sa
  exact PySem.W.kia_tup PySem.W.kitx_tuple I.kIn ⟨o, h1, h2⟩ ho e (fun z => nomatch z) h
 ·rename_i m
  obtain ⟨a, rfl, qa⟩ := rx
  cases q
  split at ht
  ·rename_i xs es
   cases ht
   obtain ⟨vs, e1, _⟩ := R.obj m a _ qa es
   obtain ⟨_, _, n, _, h1⟩ := (show ObjOk X.prog X.w H s.heap a (.lst vs) from I.hok a _ e1)
   exact PySem.W.kia_tup PySem.W.kitx_list I.kIn ⟨_, h1, rfl⟩ ho e (fun z => nomatch z) h
  ·rename_i xs es
   cases ht
   obtain ⟨vs, e1, _⟩ := R.obj m a _ qa es
   obtain ⟨_, _, _, _, p⟩ := (show ObjOk X.prog X.w H s.heap a (.dK vs) from I.hok a _ e1)
   obtain ⟨o, es, ep, h1, h2, _⟩ := p
   exact PySem.W.kia_tup PySem.W.kitx_dict I.kIn ⟨o, h1, h2.1⟩ ho e (fun z => nomatch z) h
  ·cases ht
 ·cases ht
  obtain ⟨a, vs, rfl, sa, ra⟩ := rx
  cases q
  obtain ⟨_, _, p, _⟩ := I.list sa.sq
  obtain ⟨o, h1, h2, _⟩ := p.isList
  exact PySem.W.kia_tup PySem.W.kitx_list I.kIn ⟨o, h1, h2⟩ ho e (fun z => nomatch z) h
 ·cases ht
 ·cases ht
noncomputable def fIsi : FL := fun xs S Q => match xs with
 | [x, .ty D] => match tyP x S with
  | some T => D ∈ kindsC ∧ Q (.bl (isT T D)) S
  | none => False
 | [x, .tup [.ty D, .ty D']] => match tyP x S with
  | some T => (D ∈ kindsC ∧ D' ∈ kindsC) ∧ Q (.bl (isT T D || isT T D')) S
  | none => False
 | _ => False
theorem calls_isi : CallR X (.builtin "isinstance") (liftC X.K fIsi) := by
 rintro pins s σ H xs us Q I r ⟨φ, S, pxs, Q0, R, hx, h, k⟩
 unfold fIsi at h
 split at h
 ·rename_i x D
  split at h
  ·rename_i T ht
   obtain ⟨v, w, rfl, r1, r2⟩ := two_rel hx
   cases r2
   obtain ⟨u, c, rfl, ru, rc⟩ := vals2 r
   cases (show c = Value.type D from rc)
   exact isi_one I R r1 ru ht (kit_tab X.K T (tyP_kind ht) D h.1) fun tk => ⟨.bl _, H, I.tok tk, rfl, k _ S φ H _ h.2 (List.prefix_refl _) (.refl _) R rfl⟩
  ·exact h.elim
 ·rename_i x D D'
  split at h
  ·rename_i T ht
   obtain ⟨v, w, rfl, r1, a, vs, rfl, sa, ra⟩ := two_rel hx
   obtain ⟨d1, d2, rfl, q1, q2⟩ := two_rel ra
   cases q1
   cases q2
   obtain ⟨u, c, rfl, ru, rc⟩ := vals2 r
   cases (show c = Value.ref a from rc)
   obtain ⟨its, rv, p, _⟩ := I.tuple sa
   obtain ⟨v1, v2, rfl, g1, g2⟩ := vals2 rv
   cases (show v1 = Value.type D from g1)
   cases (show v2 = Value.type D' from g2)
   exact isi_tup I R r1 ru ht p (kit_any2 (kit_tab X.K T (tyP_kind ht) D h.1.1) (kit_tab X.K T (tyP_kind ht) D' h.1.2)) fun tk => ⟨.bl _, H, I.tok tk, rfl, k _ S φ H _ h.2 (List.prefix_refl _) (.refl _) R rfl⟩
  ·exact h.elim
 ·exact h.elim
noncomputable def intsOf : List PV → Option (List Int)
 | [] => some []
 | .int i :: r => (intsOf r).map (i :: ·)
 | _ => none
noncomputable def blsOf : List PV → Option (List Bool)
 | [] => some []
 | .bl i :: r => (blsOf r).map (i :: ·)
 | _ => none
theorem intsOf_eq : ∀ {xs : List PV} {ns : List Int}, intsOf xs = some ns → xs = ns.map PV.int
 | [], ns, h => by simp [intsOf] at h; subst h; rfl
 | x :: r, ns, h => by
  cases x with
  | int i =>
   simp only [intsOf, Option.map_eq_some_iff] at h
   obtain ⟨ms, h1, rfl⟩ := h
   rw [intsOf_eq h1]; rfl
  | _ => simp [intsOf] at h
theorem blsOf_eq : ∀ {xs : List PV} {ns : List Bool}, blsOf xs = some ns → xs = ns.map PV.bl
 | [], ns, h => by simp [blsOf] at h; subst h; rfl
 | x :: r, ns, h => by
  cases x with
  | bl i =>
   simp only [blsOf, Option.map_eq_some_iff] at h
   obtain ⟨ms, h1, rfl⟩ := h
   rw [blsOf_eq h1]; rfl
  | _ => simp [blsOf] at h
theorem intsOf_map (ns : List Int) : intsOf (ns.map PV.int) = some ns := by induction ns with
 | nil => rfl
 | cons a r ih => simp [intsOf, ih]
noncomputable def fSum : FL := fun xs S Q => match xs with
 | [.frl ys] => match intsOf ys with
  | some ns => Q (.int ns.sum) S
  | none => False
 | [.ref n] => match (seqOf S n).bind intsOf with
  | some ns => Q (.int ns.sum) S
  | none => False
 | _ => False
noncomputable def fAll : FL := fun xs S Q => match xs with
 | [.ref n] => match (seqOf S n).bind blsOf with
  | some ns => Q (.bl (ns.all id)) S
  | none => False
 | _ => False
theorem calls_sum (hc : X.calm = true) : CallR X (.builtin "sum") (liftC X.K fSum) := by
 rintro pins s σ H xs us Q I r ⟨φ, S, pxs, Q0, R, hx, h, k⟩
 unfold fSum at h
 split at h
 ·split at h
  ·rename_i ns e
   have := intsOf_eq e
   subst this
   obtain ⟨v, rfl, a, vs, rfl, sa, ra⟩ := one_rel hx
   have sa := sa.sq
   rw [ra.ints] at sa
   exact call_sum hc pins s σ H _ us Q I r ⟨a, ns, rfl, sa, k _ S φ H _ h (List.prefix_refl _) (.refl _) R rfl⟩
  ·exact h.elim
 ·rename_i n
  split at h
  ·rename_i ns e
   obtain ⟨ys, e1, e2⟩ := Option.bind_eq_some_iff.mp e
   have := intsOf_eq e2
   subst this
   obtain ⟨v, rfl, a, rfl, qa⟩ := one_rel hx
   obtain ⟨vs, sa, ra⟩ := R.seq qa e1
   rw [ra.ints] at sa
   exact call_sum hc pins s σ H _ us Q I r ⟨a, ns, rfl, sa, k _ S φ H _ h (List.prefix_refl _) (.refl _) R rfl⟩
  ·exact h.elim
 ·exact h.elim
theorem calls_all (hc : X.calm = true) : CallR X (.builtin "all") (liftC X.K fAll) := by
 rintro pins s σ H xs us Q I r ⟨φ, S, pxs, Q0, R, hx, h, k⟩
 unfold fAll at h
 split at h
 ·rename_i n
  split at h
  ·rename_i ns e
   obtain ⟨ys, e1, e2⟩ := Option.bind_eq_some_iff.mp e
   have := blsOf_eq e2
   subst this
   obtain ⟨v, rfl, a, rfl, qa⟩ := one_rel hx
   obtain ⟨vs, sa, ra⟩ := R.seq qa e1
   rw [ra.bls] at sa
   exact call_all hc pins s σ H _ us Q I r ⟨a, ns, rfl, sa, k _ S φ H _ h (List.prefix_refl _) (.refl _) R rfl⟩
  ·exact h.elim
 ·exact h.elim
noncomputable def fTuple : FL := fun xs S Q => match xs with
 | [.tup ys] => Q (.tup ys) S
 | [.ref n] => match seqOf S n with
  | some ys => Q (.tup ys) S
  | none => False
 | _ => False
theorem calls_tuple : CallR X (.type "tuple") (liftC X.K fTuple) := by
 rintro pins s σ H xs us Q I r ⟨φ, S, pxs, Q0, R, hx, h, k⟩
 unfold fTuple at h
 split at h
 ·obtain ⟨v, rfl, a, vs, rfl, sa, ra⟩ := one_rel hx
  exact call_tuple_of pins s σ H _ us Q I r ⟨a, vs, rfl, .inr ⟨sa, k _ S φ H _ h (List.prefix_refl _) (.refl _) R ⟨a, vs, rfl, sa, ra⟩⟩⟩
 ·rename_i n
  split at h
  ·rename_i ys e
   obtain ⟨v, rfl, a, rfl, qa⟩ := one_rel hx
   obtain ⟨vs, sa, ra⟩ := R.seq qa e
   exact call_tuple_of pins s σ H _ us Q I r ⟨a, vs, rfl, .inl ⟨sa, k.tup h R ra⟩⟩
  ·exact h.elim
 ·exact h.elim
noncomputable def fStr : FL := fun xs S Q => match xs with
 | [.int i] => i.natAbs.log2 < 1920 ∧ Q (.str (toString i)) S
 | _ => False
noncomputable abbrev FM := PV → List PV → Store → VC → Prop
noncomputable def liftM (K : PySem.W.Frag) (f : FM) : V → List V → Hp → VK → Prop := fun x' xs' H Q => ∃ φ S x xs Q0, Rel K φ S H ∧ RV K H φ x x' ∧ RVs K H φ xs xs' ∧ f x xs S Q0 ∧ KE K φ H Q0 Q
noncomputable def wBM (T : String) (f : FM) (wo : WE) (wa : WA) : WE := fun σ S E Q => wo σ S E fun x S1 => tyP x S1 = some T ∧ wa σ S1 E fun xs S2 => f x xs S2 Q
theorem ty_rel {K : PySem.W.Frag} {H : Hp} {φ : List Addr} {S : Store} {x : PV} {x' : V} {T : String} (R : Rel K φ S H) (r : RV K H φ x x') (h : tyP x S = some T) (hT : T = "str" ∨ T = "list" ∨ T = "dict") : tyV K T x' H := by
 unfold tyP at h
 split at h
 ·cases h; simp at hT
 ·cases h; simp at hT
 ·cases h; simp at hT
 ·cases h; cases r; rfl
 ·cases h; simp at hT
 ·rename_i n
  obtain ⟨a, rfl, qa⟩ := r
  split at h
  ·rename_i xs es
   cases h
   obtain ⟨vs, e1, _⟩ := R.obj n a _ qa es
   exact .inl ⟨rfl, vs, SqL.of e1⟩
  ·rename_i xs es
   cases h
   obtain ⟨vs, e1, _⟩ := R.obj n a _ qa es
   exact .inr (.inr (.inl ⟨rfl, .inl ⟨vs, e1⟩⟩))
  ·cases h
 ·cases h
  obtain ⟨a, vs, rfl, sa, ra⟩ := r
  exact .inl ⟨rfl, vs, sa.sq⟩
 ·cases h
 ·cases h
theorem sim_bm {f : FM} {T id : String} {name : Str} {o e : Expr} {es : List Expr} {apos cpos : Pos} {wo : WE} {wa : WA} (pa : PlainAttrs T) (slot : Slot T name id) (hty : typeOf (.builtin id) = pure (.type "method_descriptor")) (hm : MtR X id (liftM X.K f)) (ho : SimE X G o wo) (ha : SimA X G (e :: es) wa)
  (hT : T = "str" ∨ T = "list" ∨ T = "dict" := by first | exact Or.inl rfl | exact Or.inr (Or.inl rfl) | exact Or.inr (Or.inr rfl))
  (hbase : attributeBase o name X.env (eval o X.env) = eval o X.env := by rfl)
  (hfew : ((backTo cpos (starEach (e :: es) X.env)).all (fun x => !x.1) && (backToKw cpos (keywordEach [] X.env)).all (fun x => x.1.isSome)
   && decide ((e :: es).length + ([] : List Keyword).length + (if ([] : List Keyword).isEmpty then 0 else 1) < 30)) = true := by rfl)
  (hline : (apos.endLine == cpos.line) = true := by rfl) (hs : starEach (e :: es) X.env = (false, eval e X.env) :: starEach es X.env := by rfl) (hplain : (backTo cpos (starEach es X.env)).any (·.1) = false := by rfl) :
  SimE X G (.Call (.Attribute o name apos) (e :: es) [] cpos) (wBM T f wo wa) :=
 (pe_bm pa slot hty hm ho ha hbase hfew hline hs hplain).imp fun σV H Q hh1 => by obtain ⟨φ, σ, S, Q0, L, R, h, k⟩ := hh1; exact (⟨φ, σ, S, _, L, R, h, fun v S1 φ1 H1 x hh2 p1 m1 R1 r1 => by obtain ⟨ht, q⟩ := hh2; exact (⟨ty_rel R1 r1 ht hT,
  ⟨φ1, σ, S1, _, L.mono m1 p1, R1, q, fun vs S2 φ2 H2 xs q2 p2 m2 R2 r2 => ⟨φ2, S2, v, vs, Q0, R2, RV.mono m2 p2 _ _ r1, r2, q2, k.up (p1.trans p2) (m1.trans m2)⟩⟩⟩)⟩)
theorem KE.put {K : PySem.W.Frag} {φ : List Addr} {H : Hp} {Q0 : VC} {Q : VK} {S : Store} {n : Nat} {a : Addr} {old : List V} {xs : List PV} {vs : List V} {y : PV} {y' : V} (k : KE K φ H Q0 Q) (R : Rel K φ S H) (qa : φ[n]? = some a) (e : H a = some (.lst old)) (r : RVs K H φ xs vs) (ry : RV K H φ y y') (q : Q0 y (S.set n (.lst xs))) : Q y' (upd H a (.lst vs)) :=
 k _ _ φ _ _ q (List.prefix_refl _) (.lst e) (R.put (o := .lst xs) qa (.lst e) ⟨vs, upd_same, RVs.mono (.lst e) (List.prefix_refl _) _ _ r⟩) (RV.mono (.lst e) (List.prefix_refl _) _ _ ry)
noncomputable def mAppend : FM := fun x xs S Q => match x, xs with
 | .ref n, [y] => match lstOf S n with
  | some ys => ys.length < sizeLine ∧ Q .non (S.set n (.lst (ys ++ [y])))
  | none => False
 | _, _ => False
theorem mts_append : MtR X "list.append" (liftM X.K mAppend) := by
 rintro pins s σ H x xs v us Q I rx rs ⟨φ, S, px, pxs, Q0, R, hx, hxs, h, k⟩
 unfold mAppend at h
 split at h
 ·rename_i n y
  split at h
  ·rename_i ys e
   obtain ⟨a, rfl, qa⟩ := hx
   obtain ⟨y', rfl, ry⟩ := one_rel hxs
   obtain ⟨vs, ea, ra⟩ := R.lst qa e
   exact mt_append pins s σ H _ _ v us Q I rx rs ⟨a, vs, y', rfl, rfl, ea, by rw [← ra.length]; exact h.1, k.put R qa ea (ra.append (.one ry)) (show RV X.K H φ .non .non from rfl) h.2⟩
  ·exact h.elim
 ·exact h.elim
noncomputable def mPopAt : FM := fun x xs S Q => match x, xs with
 | .ref n, [.int i] => match lstOf S n with
  | some ys => match ixN ys.length i with
   | some j => match ys[j]? with
    | some y => (-(2 ^ 63) ≤ i ∧ i < 2 ^ 63) ∧ Q y (S.set n (.lst (ys.eraseIdx j)))
    | none => False
   | none => False
  | none => False
 | _, _ => False
theorem mts_popAt : MtR X "list.pop" (liftM X.K mPopAt) := by
 rintro pins s σ H x xs v us Q I rx rs ⟨φ, S, px, pxs, Q0, R, hx, hxs, h, k⟩
 unfold mPopAt at h
 split at h
 ·rename_i n i
  split at h
  ·rename_i ys e
   split at h
   ·rename_i j ej
    split at h
    ·rename_i y ey
     obtain ⟨a, rfl, qa⟩ := hx
     obtain ⟨y', rfl, ry⟩ := one_rel hxs
     cases ry
     obtain ⟨vs, ea, ra⟩ := R.lst qa e
     obtain ⟨y', e', r'⟩ := ra.get ey
     rw [ra.length] at ej
     exact mt_popAt pins s σ H _ _ v us Q I rx rs ⟨a, vs, i, j, y', rfl, rfl, ea, h.1.1, h.1.2, (ixN_seq ej).1, e', k.put R qa ea (ra.eraseIdx _) r' h.2⟩
    ·exact h.elim
   ·exact h.elim
  ·exact h.elim
 ·exact h.elim
theorem PJ.imp {e : List Expr} {t t' : TJ} (h : PJ X e t) (i : ∀ σ H a Q, t' σ H a Q → t σ H a Q) : PJ X e t' := fun pins s σ H acc Q I q => h pins s σ H acc Q I (i σ H acc Q q)
end
end Ev
namespace Ev
open PySem L2
structure PEnds where
 nx : Loc → Store → Prop
 rt : VC
 bk : Loc → Store → Prop := fun _ _ => False
 ct : Loc → Store → Prop := fun _ _ => False
noncomputable abbrev WS := PEnds → EK → Loc → Store → Prop
noncomputable def KN (K : PySem.W.Frag) (G : GX) (φ : List Addr) (H : Hp) (Q0 : Loc → Store → Prop) (Q : St → Hp → Prop) : Prop := ∀ σ' S' φ' H' σV', Q0 σ' S' → φ <+: φ' → Mono H H' → Rel K φ' S' H' → LRel K G H' φ' σ' σV' → Q σV' H'
theorem KN.up {K : PySem.W.Frag} {G : GX} {φ φ1 : List Addr} {H H1 : Hp} {Q0 : Loc → Store → Prop} {Q : St → Hp → Prop} (k : KN K G φ H Q0 Q) (p : φ <+: φ1) (m : Mono H H1) : KN K G φ1 H1 Q0 Q := fun σ' S' φ' H' σV' q p' m' => k σ' S' φ' H' σV' q (p.trans p') (m.trans m')
structure KS (K : PySem.W.Frag) (G : GX) (φ : List Addr) (H : Hp) (D0 : PEnds) (D : Ends) : Prop where
 nx : KN K G φ H D0.nx D.nx
 rt : KE K φ H D0.rt D.rt
 bk : KN K G φ H D0.bk D.bk
 ct : KN K G φ H D0.ct D.ct
theorem KS.up {K : PySem.W.Frag} {G : GX} {φ φ1 : List Addr} {H H1 : Hp} {D0 : PEnds} {D : Ends} (k : KS K G φ H D0 D) (p : φ <+: φ1) (m : Mono H H1) : KS K G φ1 H1 D0 D := ⟨k.nx.up p m, k.rt.up p m, k.bk.up p m, k.ct.up p m⟩
noncomputable def liftS (K : PySem.W.Frag) (G : GX) (w : WS) : TS := fun D σV H => ∃ φ σ S D0, LRel K G H φ σ σV ∧ Rel K φ S H ∧ w D0 G.ek σ S ∧ KS K G φ H D0 D
noncomputable def SimS (X : Cx) (G : GX) (st : Stmt) (w : WS) : Prop := PS X st (liftS X.K G w)
noncomputable def SimSs (X : Cx) (G : GX) (st : List Stmt) (w : WS) : Prop := PSs X st (liftS X.K G w)
theorem _root_.L2.PS.imp {X : Cx} {e : Stmt} {t t' : TS} (h : PS X e t) (i : ∀ D σ H, t' D σ H → t D σ H) : PS X e t' := fun pins s σ H D I q => h pins s σ H D I (i D σ H q)
theorem _root_.L2.PSs.imp {X : Cx} {e : List Stmt} {t t' : TS} (h : PSs X e t) (i : ∀ D σ H, t' D σ H → t D σ H) : PSs X e t' := fun pins s σ H D I q => h pins s σ H D I (i D σ H q)
section
variable {X : Cx} {G : GX} {pos : Pos}
noncomputable def wNext : WS := fun D _ σ S => D.nx σ S
noncomputable def wSeq (w1 w2 : WS) : WS := fun D E σ S => w1 { D with nx := w2 D E } E σ S
theorem sims_nil : SimSs X G [] wNext := pss_nil.imp fun D σV H hh1 => by obtain ⟨φ, σ, S, D0, L, R, h, k⟩ := hh1; exact (k.nx σ S φ H σV h (List.prefix_refl _) (.refl _) R L)
theorem sims_one {st : Stmt} {w : WS} (h : SimS X G st w) : SimSs X G [st] w := pss_one h
theorem sims_cons {st : Stmt} {rest : List Stmt} {w1 w2 : WS} (h1 : SimS X G st w1) (h2 : SimSs X G rest w2) : SimSs X G (st :: rest) (wSeq w1 w2) :=
 (pss_cons h1 h2).imp fun D σV H hh1 => by obtain ⟨φ, σ, S, D0, L, R, h, k⟩ := hh1; exact (⟨φ, σ, S, _, L, R, h, ⟨fun σ' S' φ' H' σV' q p m R' L' => ⟨φ', σ', S', D0, L', R', q, k.up p m⟩, k.rt, k.bk, k.ct⟩⟩)
noncomputable def wNever : WS := fun _ _ _ _ => False
theorem sim_never {st : Stmt} : SimS X G st wNever := (ps_never (X := X)).imp fun D σV H hh1 => by obtain ⟨φ, σ, S, D0, L, R, h, k⟩ := hh1; exact (h)
noncomputable def wDrop (w : WE) : WS := fun D E σ S => w σ S E fun _ S1 => D.nx σ S1
theorem sim_expr {e : Expr} {w : WE} (he : SimE X G e w) (hs : swapsWith e none pos.line X.env = pure false := by rfl) : SimS X G (.Expr e pos) (wDrop w) :=
 (ps_expr he hs).imp fun D σV H hh1 => by obtain ⟨φ, σ, S, D0, L, R, h, k⟩ := hh1; exact (⟨φ, σ, S, _, L, R, h, fun v S1 φ1 H1 x q p1 m1 R1 r1 => k.nx σ S1 φ1 H1 σV q p1 m1 R1 (L.mono m1 p1)⟩)
noncomputable def wRet (w : WE) : WS := fun D E σ S => w σ S E D.rt
theorem sim_ret {e : Expr} {w : WE} (he : SimE X G e w) : SimS X G (.Return (some e) pos) (wRet w) :=
 (ps_ret he).imp fun D σV H hh1 => by obtain ⟨φ, σ, S, D0, L, R, h, k⟩ := hh1; exact (⟨φ, σ, S, _, L, R, h, k.rt⟩)
noncomputable def wIfS (c : WT) (t u : WS) : WS := fun D E σ S => c σ S E fun b S1 => if b = true then t D E σ S1 else u D E σ S1
theorem sim_if {c : Expr} {a b : List Stmt} {wc : WT} {t u : WS} (hc : SimT X G c wc) (ha : SimSs X G a t) (hb : SimSs X G b u) : SimS X G (.If c a b pos) (wIfS wc t u) :=
 (ps_if hc ha hb).imp fun D σV H hh1 => by obtain ⟨φ, σ, S, D0, L, R, h, k⟩ := hh1; exact (⟨φ, σ, S, _, L, R, h, fun c S1 φ1 H1 q p1 m1 R1 => by
  cases c with
  | true => exact ⟨φ1, σ, S1, D0, L.mono m1 p1, R1, q, k.up p1 m1⟩
  | false => exact ⟨φ1, σ, S1, D0, L.mono m1 p1, R1, q, k.up p1 m1⟩⟩)
noncomputable abbrev WG := PV → Loc → Store → EK → (Loc → Store → Prop) → Prop
noncomputable abbrev WGs := List PV → Loc → Store → EK → (Loc → Store → Prop) → Prop
noncomputable def liftG (K : PySem.W.Frag) (G : GX) (w : WG) : TG := fun v' σV H Q => ∃ φ v σ S Q0, LRel K G H φ σ σV ∧ Rel K φ S H ∧ RV K H φ v v' ∧ w v σ S G.ek Q0 ∧ KN K G φ H Q0 Q
noncomputable def liftGs (K : PySem.W.Frag) (G : GX) (w : WGs) : TGs := fun v' σV H Q => ∃ φ v σ S Q0, LRel K G H φ σ σV ∧ Rel K φ S H ∧ RVs K H φ v v' ∧ w v σ S G.ek Q0 ∧ KN K G φ H Q0 Q
noncomputable def SimG (X : Cx) (G : GX) (tg : Expr) (w : WG) : Prop := PG X tg (liftG X.K G w)
noncomputable def SimGs (X : Cx) (G : GX) (tg : List Expr) (w : WGs) : Prop := PGs X tg (liftGs X.K G w)
theorem PG.imp {e : Expr} {t t' : TG} (h : PG X e t) (i : ∀ v σ H Q, t' v σ H Q → t v σ H Q) : PG X e t' := fun pins s σ H v u Q I r q => h pins s σ H v u Q I r (i v σ H Q q)
theorem PGs.imp {e : List Expr} {t t' : TGs} (h : PGs X e t) (i : ∀ v σ H Q, t' v σ H Q → t v σ H Q) : PGs X e t' := fun pins s σ H v u Q I r q => h pins s σ H v u Q I r (i v σ H Q q)
noncomputable def wgName (i : Nat) : WG := fun v σ S _ Q => Q (σ.set i (some v)) S
theorem simG_name {i : Nat} {x : Str} (hN : X.N.Nodup) (hi : X.N[i]? = some x := by rfl) (hx : L2.Loc X.env.scope x := by first | exact Or.inl rfl | exact Or.inr rfl) (hf : X.fn x = true ∨ X.env.scope.names.lookup x = some .local := by first | exact .inl rfl | exact .inr rfl | assumption) : SimG X G (.Name x pos) (wgName i) :=
 PG.imp (pg_name (i := i) hN hi hx hf) fun v' σV H Q hh1 => by obtain ⟨φ, v, σ, S, Q0, L, R, r, h, k⟩ := hh1; exact (k _ S φ H _ h (List.prefix_refl _) (.refl _) R (L.set i r))
noncomputable def wgNil : WGs := fun vs σ S _ Q => match vs with
 | [] => Q σ S
 | _ => False
noncomputable def wgCons (w : WG) (ws : WGs) : WGs := fun vs σ S E Q => match vs with
 | v :: r => w v σ S E fun σ' S' => ws r σ' S' E Q
 | _ => False
theorem simGs_nil : SimGs X G [] wgNil := PGs.imp pgs_nil fun v' σV H Q hh1 => by
 obtain ⟨φ, v, σ, S, Q0, L, R, r, h, k⟩ := hh1
 cases v with
 | nil => exact ⟨r, k _ S φ H _ h (List.prefix_refl _) (.refl _) R L⟩
 | cons _ _ => exact h.elim
theorem simGs_cons {e : Expr} {es : List Expr} {w : WG} {ws : WGs} (h1 : SimG X G e w) (h2 : SimGs X G es ws) (hs : (assignEach (e :: es) X.env).map (·.2) = assign e X.env :: (assignEach es X.env).map (·.2) := by rfl) : SimGs X G (e :: es) (wgCons w ws) :=
 PGs.imp (pgs_cons h1 h2 hs) fun v' σV H Q hh1 => by
  obtain ⟨φ, v, σ, S, Q0, L, R, r, h, k⟩ := hh1
  cases v with
  | nil => exact h.elim
  | cons a b =>
   obtain ⟨y, ys, rfl, r1, r2⟩ := r
   exact ⟨y, ys, rfl, φ, a, σ, S, _, L, R, r1, h, fun σ' S' φ' H' σV' q p m R' L' => ⟨φ', b, σ', S', Q0, L', R', RVs.mono m p _ _ r2, q, k.up p m⟩⟩
noncomputable def wgTup (n : Nat) (ws : WGs) : WG := fun v σ S E Q => match v with
 | .tup xs => xs.length = n ∧ ws xs σ S E Q
 | _ => False
theorem simG_tup {es : List Expr} {kk : Nat} {ws : WGs} (n : Nat) (hc : X.calm = true) (h : SimGs X G es ws) (hn : (assignEach es X.env).length = n := by rfl) (hst : (assignEach es X.env).findIdx? (·.1) = none := by rfl) : SimG X G (.Tuple es kk pos) (wgTup n ws) :=
 PG.imp (pg_tup hc h hn hst) fun v' σV H Q hh1 => by
  obtain ⟨φ, v, σ, S, Q0, L, R, r, h, k⟩ := hh1
  cases v with
  | tup xs =>
   obtain ⟨a, vs, rfl, sa, ra⟩ := r
   exact ⟨a, vs, rfl, sa, by rw [← ra.length]; exact h.1, φ, xs, σ, S, Q0, L, R, ra, h.2, k⟩
  | _ => exact h.elim
noncomputable def wAsg (w : WE) (g : WG) : WS := fun D E σ S => w σ S E fun v S1 => g v σ S1 E D.nx
theorem sim_asg {tg e : Expr} {w : WE} {g : WG} (he : SimE X G e w) (hg : SimG X G tg g) (hs : swapsWithSole [tg] e pos.line X.env = pure false := by rfl) (hw : swappedStores [tg] e X.env = pure none := by rfl)
  (h1 : (assignEach [tg] X.env).map (·.2) = [assign tg X.env] := by rfl) : SimS X G (.Assign [tg] e pos) (wAsg w g) :=
 (ps_asg he hg hs hw h1).imp fun D σV H hh1 => by obtain ⟨φ, σ, S, D0, L, R, h, k⟩ := hh1; exact (⟨φ, σ, S, _, L, R, h, fun v S1 φ1 H1 x q p1 m1 R1 r1 => ⟨φ1, v, σ, S1, D0.nx, L.mono m1 p1, R1, r1, q, k.nx.up p1 m1⟩⟩)
noncomputable def wSet (i : Nat) (w : WE) : WS := fun D E σ S => w σ S E fun v S1 => D.nx (σ.set i (some v)) S1
theorem sim_set (i : Nat) {x : Str} {e : Expr} {w : WE} {pos' : Pos} (hN : X.N.Nodup) (he : SimE X G e w) (hi : X.N[i]? = some x := by rfl) (hx : L2.Loc X.env.scope x := by first | exact Or.inl rfl | exact Or.inr rfl) (hs : swapsWith e (some (.Name x pos')) pos.line X.env = pure false := by rfl) (hf : X.fn x = true ∨ X.env.scope.names.lookup x = some .local := by first | exact .inl rfl | exact .inr rfl | assumption) :
  SimS X G (.Assign [.Name x pos'] e pos) (wSet i w) :=
 (ps_set (i := i) hN hi hx he hs hf).imp fun D σV H hh1 => by obtain ⟨φ, σ, S, D0, L, R, h, k⟩ := hh1; exact (⟨φ, σ, S, _, L, R, h, fun v S1 φ1 H1 x q p1 m1 R1 r1 => k.nx _ S1 φ1 H1 _ q p1 m1 R1 ((L.mono m1 p1).set i r1)⟩)
noncomputable abbrev FS := PV → PV → PV → Store → (Store → Prop) → Prop
noncomputable def liftSet (K : PySem.W.Frag) (f : FS) : TSet := fun o' i' v' H Q => ∃ φ S o i v Q0, Rel K φ S H ∧ RV K H φ o o' ∧ RV K H φ i i' ∧ RV K H φ v v' ∧ f o i v S Q0 ∧ ∀ S' H', Q0 S' → Mono H H' → Rel K φ S' H' → Q H'
noncomputable def sSet : FS := fun o i v S Q => match o with
 | .ref n => match S[n]? with
  | some (.lst xs) => match i with
   | .int k => match ixN xs.length k with
    | some j => Q (S.set n (.lst (xs.set j v)))
    | none => False
   | _ => False
  | some (.dK kvs) => match keyOf i with
   | some k => kvs.length < sizeLine ∧ Q (S.set n (.dK (putP kvs k v)))
   | none => False
  | _ => False
 | _ => False
theorem sets (hu : X.A.units + 200 < cLine) : PSet X (liftSet X.K sSet) := by
 rintro pins s σ H o i v ov iv u Q I ro ri rv ⟨φ, S, po, pi, pv, Q0, R, ho, hi, hv, h, k⟩
 unfold sSet at h
 split at h
 ·rename_i n
  obtain ⟨a, rfl, qa⟩ := ho
  split at h
  ·rename_i xs e
   split at h
   ·rename_i kk
    split at h
    ·rename_i j ej
     cases hi
     obtain ⟨vs, ea, ra⟩ := R.obj n a _ qa e
     rw [ra.length] at ej
     refine set_list pins s σ H _ _ v ov iv u Q I ro ri rv ⟨a, vs, kk, j, rfl, rfl, ea, ej, k _ _ h (.lst ea) (R.put (o := .lst (xs.set j pv)) qa (.lst ea) ⟨vs.set j v, upd_same, RVs.mono (.lst ea) (List.prefix_refl _) _ _ (ra.set hv j)⟩)⟩
    ·exact h.elim
   ·exact h.elim
  ·rename_i kvs e
   split at h
   ·rename_i kk ek
    have hk := key_rel hi ek
    subst hk
    obtain ⟨ws, ea, ra⟩ := R.obj n a _ qa e
    cases ro
    refine d_setItem (by omega) I (DPut.k ea (by rw [← ra.length]; exact h.1)) ri rv fun s' I' => ⟨_, I', k _ _ h.2 (.dict ea) (R.put (o := .dK (putP kvs kk pv)) qa (.dict ea) ⟨_, upd_same, RKs.mono (.dict ea) (List.prefix_refl _) (ra.put kk hv)⟩)⟩
   ·exact h.elim
  ·exact h.elim
 ·exact h.elim
noncomputable def wgSub (wo wi : WE) (f : FS) : WG := fun v σ S E Q => wo σ S E fun o S1 => wi σ S1 E fun i S2 => f o i v S2 fun S3 => Q σ S3
theorem simG_sub {o i : Expr} {wo wi : WE} {f : FS} (hf : PSet X (liftSet X.K f)) (ho : SimE X G o wo) (hi : SimE X G i wi)
  (ha : ∀ v, assign (.Subscript o i pos) X.env v = (do
   let ov ← holding [v] (eval o X.env)
   let iv ← holding [v, ov] (eval i X.env)
   standAt pos
   holding [v, ov, iv] (setItem ov iv v)
   release [v, ov, iv] []) := by intro _; rfl) : SimG X G (.Subscript o i pos) (wgSub wo wi f) :=
 PG.imp (pg_sub ho hi hf ha) fun v' σV H Q hh1 => by obtain ⟨φ, v, σ, S, Q0, L, R, r, h, k⟩ := hh1; exact (⟨φ, σ, S, _, L, R, h, fun ov S1 φ1 H1 x q p1 m1 R1 r1 => ⟨φ1, σ, S1, _, L.mono m1 p1, R1, q, fun iv S2 φ2 H2 y q2 p2 m2 R2 r2 =>
  ⟨φ2, S2, ov, iv, v, _, R2, RV.mono m2 p2 _ _ r1, r2, RV.mono m2 p2 _ _ (RV.mono m1 p1 _ _ r), q2, fun S3 H3 q3 m3 R3 => k σ S3 φ2 H3 σV q3 (p1.trans p2) ((m1.trans m2).trans m3) R3 (((L.mono m1 p1).mono m2 p2).mono m3 (List.prefix_refl _))⟩⟩⟩)
noncomputable def wWhile (c : WT) (b : WS) : WS := fun D E σ S => ∃ W : Nat → Loc → Store → Prop, (∃ m, W m σ S) ∧ ∀ m σ S, W m σ S →
 c σ S E fun bo S1 => if bo = true then ∃ N : Loc → Store → Prop, (∀ σ' S', N σ' S' → ∃ m', m' < m ∧ W m' σ' S') ∧ b { D with nx := N, ct := N, bk := D.nx } E σ S1 else D.nx σ S1
theorem sim_while {c : Expr} {body : List Stmt} {wc : WT} {wb : WS} (hp : PassesOwn (model X.prog X.w) X.A X.env X.xe) (hc : SimT X G c wc) (hb : SimSs X G body wb) : SimS X G (.While c body [] pos) (wWhile wc wb) :=
 (ps_while hp hc hb).imp fun D σV H hh1 => by
  obtain ⟨φ, σ, S, D0, L, R, h, k⟩ := hh1
  obtain ⟨W, ⟨m0, w0⟩, st⟩ := h
  refine ⟨fun m σV' H' => ∃ φ' σ' S', φ <+: φ' ∧ Mono H H' ∧ LRel X.K G H' φ' σ' σV' ∧ Rel X.K φ' S' H' ∧ W m σ' S', ⟨m0, φ, σ, S, List.prefix_refl _, .refl _, L, R, w0⟩, ?_⟩
  rintro m σV' H' ⟨φ', σ', S', p, mo, L', R', hw⟩
  refine ⟨φ', σ', S', _, L', R', st m σ' S' hw, fun bo S1 φ1 H1 q p1 m1 R1 => ?_⟩
  cases bo with
  | true =>
   obtain ⟨N, hN, hb⟩ := q
   refine ⟨fun σ2V H2 => ∃ φ2 σ2 S2, φ1 <+: φ2 ∧ Mono H1 H2 ∧ LRel X.K G H2 φ2 σ2 σ2V ∧ Rel X.K φ2 S2 H2 ∧ N σ2 S2, ?_, ?_⟩
   ·rintro σ2V H2 ⟨φ2, σ2, S2, p2, m2, L2, R2, hn⟩
    obtain ⟨m', hm, hw'⟩ := hN σ2 S2 hn
    exact ⟨m', hm, φ2, σ2, S2, (p.trans p1).trans p2, (mo.trans m1).trans m2, L2, R2, hw'⟩
   ·exact ⟨φ1, σ', S1, _, L'.mono m1 p1, R1, hb, ⟨fun σ2 S2 φ2 H2 σ2V q p2 m2 R2 L2 => ⟨φ2, σ2, S2, p2, m2, L2, R2, q⟩, k.rt.up (p.trans p1) (mo.trans m1), k.nx.up (p.trans p1) (mo.trans m1), fun σ2 S2 φ2 H2 σ2V q p2 m2 R2 L2 => ⟨φ2, σ2, S2, p2, m2, L2, R2, q⟩⟩⟩
  | false => exact k.nx σ' S1 φ1 H1 σV' q (p.trans p1) (mo.trans m1) R1 (L'.mono m1 p1)
structure PIt where
 xs : List PV
 chk : Store → Prop
structure ItR (K : PySem.W.Frag) (φ0 : List Addr) (H0 : Hp) (J : It) (it : PIt) : Prop where
 go : ∀ φ H S, φ0 <+: φ → Mono H0 H → Rel K φ S H → it.chk S → ∀ (i : Nat) x, it.xs[i]? = some x → J.go i H ∧ ∀ y H', J.yld i H y H' → ∃ φ', φ <+: φ' ∧ Mono H H' ∧ Rel K φ' S H' ∧ RV K H' φ' x y
 stop : ∀ φ H S, φ0 <+: φ → Mono H0 H → Rel K φ S H → it.chk S → ∀ i : Nat, it.xs.length ≤ i → J.stop i H
noncomputable abbrev WI := Loc → Store → EK → (PIt → Store → Prop) → Prop
noncomputable def KI (K : PySem.W.Frag) (φ : List Addr) (H : Hp) (Q0 : PIt → Store → Prop) (R : It → Hp → Prop) : Prop := ∀ it S' φ' H' J, Q0 it S' → φ <+: φ' → Mono H H' → Rel K φ' S' H' → ItR K φ' H' J it → R J H'
noncomputable def liftI (K : PySem.W.Frag) (G : GX) (w : WI) : TI := fun σV H R => ∃ φ σ S Q0, LRel K G H φ σ σV ∧ Rel K φ S H ∧ w σ S G.ek Q0 ∧ KI K φ H Q0 R
noncomputable def SimI (X : Cx) (G : GX) (tg iter : Expr) (w : WI) : Prop := PI X tg iter (liftI X.K G w)
theorem PI.imp {tg e : Expr} {t t' : TI} (h : PI X tg e t) (i : ∀ σ H Q, t' σ H Q → t σ H Q) : PI X tg e t' := fun pins s σ H R I q => h pins s σ H R I (i σ H R q)
noncomputable def iAny (K : PySem.W.Frag) (tl : TE) : TI := fun σ H R => tl σ H fun x H1 => (∃ a, x = .ref a ∧ (∃ xs, SqL K H1 a xs) ∧ R (Itl K a) H1) ∨ (∃ a, x = .ref a ∧ (∃ xs, SqT K H1 a xs) ∧ R (Itt K a) H1) ∨ ∃ z, x = .str z ∧ R (Its z) H1
theorem pi_any {tg l : Expr} {tl : TE} (hl : PE X l tl) : PI X tg l (iAny X.K tl) := by
 intro pins s σ H R I h
 refine thn (hl pins s σ H _ I h) fun v s1 hh1 => ?_
 obtain ⟨x, H1, I1, r1, q1⟩ := hh1
 rcases q1 with ⟨a, e, ⟨xs, hq⟩, q⟩ | ⟨a, e, ⟨xs, hq⟩, q⟩ | ⟨z, rfl, q⟩
 ·subst e
  cases r1
  obtain ⟨its, rv, p, hz⟩ := I1.list hq
  refine wpAny_pyIter_list p.isList ?_
  refine ⟨s1.heap.objs.size, [s1.heap.objs.size], _, _, H1, rfl, I1.kept (t' := s1.toks) fun b o e => Heap.get?_push_of_some _ e, turn_list a _, ⟨_, Heap.get?_push_size _ rfl, rfl, rfl⟩, fun b hb => ?_, q⟩
  have e : b = s1.heap.objs.size := by simpa using hb
  subst e
  exact I1.fpOk (Nat.le_refl _) (I1.hok.fresh (Nat.le_refl _))
 ·subst e
  cases r1
  obtain ⟨its, rv, p, hz⟩ := I1.tuple hq
  refine wpAny_pyIter_tuple (show s1.heap.IsTuple a its.toArray from p) ?_
  refine ⟨s1.heap.objs.size, [s1.heap.objs.size], _, _, H1, rfl, I1.kept (t' := s1.toks) fun b o e => Heap.get?_push_of_some _ e, turn_tuple a _, ⟨_, Heap.get?_push_size _ rfl, rfl, rfl⟩, fun b hb => ?_, q⟩
  have e : b = s1.heap.objs.size := by simpa using hb
  subst e
  exact I1.fpOk (Nat.le_refl _) (I1.hok.fresh (Nat.le_refl _))
 ·obtain ⟨t, rfl⟩ := r1
  refine wpAny_pyIter_strU ?_
  refine ⟨s1.heap.objs.size, [s1.heap.objs.size], _, _, H1, rfl, I1.kept (t' := s1.toks) fun b o e => Heap.get?_push_of_some _ e, turn_str _ z t, ⟨Nat.zero_le _, _, Heap.get?_push_size _ rfl, rfl, rfl⟩, fun b hb => ?_, q⟩
  obtain rfl := List.mem_singleton.mp hb
  exact I1.fpOk (Nat.le_refl _) I1.fresh
noncomputable def chr1 (c : Nat) : PV := .str ⟨#[c]⟩
noncomputable def wiAny (w : WE) : WI := fun σ S E Q => w σ S E fun x S1 => match x with
 | .ref n => match seqOf S1 n with
  | some xs => Q ⟨xs, fun S => seqOf S n = some xs⟩ S1
  | none => False
 | .tup xs => Q ⟨xs, fun _ => True⟩ S1
 | .frl xs => Q ⟨xs, fun _ => True⟩ S1
 | .str z => Q ⟨z.cps.toList.map chr1, fun _ => True⟩ S1
 | _ => False
theorem itr_list {K : PySem.W.Frag} {φ : List Addr} {H : Hp} {n : Nat} {a : Addr} {xs : List PV} (qa : φ[n]? = some a) : ItR K φ H (Itl K a) ⟨xs, fun S => seqOf S n = some xs⟩ where
 go := fun φ1 H1 S1 p m R e i x hx => by
  obtain ⟨vs, sa, ra⟩ := R.seq (pre_get p qa) e
  obtain ⟨y, ey, ry⟩ := ra.get hx
  refine ⟨⟨vs, y, sa, ey⟩, fun y' H' hh1 => ?_⟩
  obtain ⟨e1, e2⟩ := hh1
  subst e1
  have := e2 vs sa
  rw [ey] at this
  cases this
  exact ⟨φ1, List.prefix_refl _, .refl _, R, ry⟩
 stop := fun φ1 H1 S1 p m R e i hi => by
  obtain ⟨vs, sa, ra⟩ := R.seq (pre_get p qa) e
  exact ⟨vs, sa, by rw [← ra.length]; exact hi⟩
theorem itr_tup {K : PySem.W.Frag} {φ : List Addr} {H : Hp} {a : Addr} {xs : List PV} {vs : List V} (sa : SqT K H a vs) (ra : RVs K H φ xs vs) : ItR K φ H (Itt K a) ⟨xs, fun _ => True⟩ where
 go := fun φ1 H1 S1 p m R e i x hx => by
  have sa1 := m.sqT sa
  obtain ⟨y, ey, ry⟩ := (RVs.mono m p _ _ ra).get hx
  refine ⟨⟨vs, y, sa1, ey⟩, fun y' H' hh1 => ?_⟩
  obtain ⟨e1, e2⟩ := hh1
  subst e1
  have := e2 vs sa1
  rw [ey] at this
  cases this
  exact ⟨φ1, List.prefix_refl _, .refl _, R, ry⟩
 stop := fun φ1 H1 S1 p m R e i hi => ⟨vs, m.sqT sa, by rw [← ra.length]; exact hi⟩
theorem itr_frl {K : PySem.W.Frag} {φ : List Addr} {H : Hp} {a : Addr} {xs : List PV} {vs : List V} (sa : SqF K H a vs) (ra : RVs K H φ xs vs) : ItR K φ H (Itl K a) ⟨xs, fun _ => True⟩ where
 go := fun φ1 H1 S1 p m R e i x hx => by
  have sa1 := (m.sqF sa).sq
  obtain ⟨y, ey, ry⟩ := (RVs.mono m p _ _ ra).get hx
  refine ⟨⟨vs, y, sa1, ey⟩, fun y' H' hh1 => ?_⟩
  obtain ⟨e1, e2⟩ := hh1
  subst e1
  have := e2 vs sa1
  rw [ey] at this
  cases this
  exact ⟨φ1, List.prefix_refl _, .refl _, R, ry⟩
 stop := fun φ1 H1 S1 p m R e i hi => ⟨vs, (m.sqF sa).sq, by rw [← ra.length]; exact hi⟩
theorem itr_str {K : PySem.W.Frag} {φ : List Addr} {H : Hp} {z : Str} : ItR K φ H (Its z) ⟨z.cps.toList.map chr1, fun _ => True⟩ where
 go := fun φ1 H1 S1 p m R e i x hx => by
  have hx' : (z.cps.toList.map chr1)[i]? = some x := hx
  rw [List.getElem?_map] at hx'
  obtain ⟨c, hc, rfl⟩ := Option.map_eq_some_iff.mp hx'
  have hc' : z.cps[i]? = some c := by simpa using hc
  refine ⟨(Array.getElem?_eq_some_iff.mp hc').1, fun y' H' ⟨e1, c', e2, e3⟩ => ?_⟩
  subst e1
  rw [hc'] at e2
  cases e2
  exact ⟨φ1, List.prefix_refl _, .refl _, R, e3⟩
 stop := fun φ1 H1 S1 p m R e i hi => by
  have : (z.cps.toList.map chr1).length ≤ i := hi
  show z.cps.size ≤ i
  simpa using this
theorem simI_any {tg l : Expr} {w : WE} (hl : SimE X G l w) : SimI X G tg l (wiAny w) :=
 PI.imp (pi_any hl) fun σV H Q hh1 => by obtain ⟨φ, σ, S, Q0, L, R, h, k⟩ := hh1; exact (⟨φ, σ, S, _, L, R, h, fun v S1 φ1 H1 x q p1 m1 R1 r1 => by
  split at q
  ·rename_i n
   split at q
   ·rename_i xs e
    obtain ⟨a, rfl, qa⟩ := r1
    obtain ⟨vs, sa, ra⟩ := R1.seq qa e
    exact .inl ⟨a, rfl, ⟨vs, sa⟩, k _ S1 φ1 H1 _ q p1 m1 R1 (itr_list qa)⟩
   ·exact q.elim
  ·rename_i xs
   obtain ⟨a, vs, rfl, sa, ra⟩ := r1
   exact .inr (.inl ⟨a, rfl, ⟨vs, sa⟩, k _ S1 φ1 H1 _ q p1 m1 R1 (itr_tup sa ra)⟩)
  ·rename_i xs
   obtain ⟨a, vs, rfl, sa, ra⟩ := r1
   exact .inl ⟨a, rfl, ⟨vs, sa.sq⟩, k _ S1 φ1 H1 _ q p1 m1 R1 (itr_frl sa ra)⟩
  ·rename_i z
   cases r1
   exact .inr (.inr ⟨z, rfl, k _ S1 φ1 H1 _ q p1 m1 R1 itr_str⟩)
  ·exact q.elim⟩)
noncomputable def rngP (lo : Int) (n : Nat) : List PV := (List.range n).map fun i => .int (lo + (i : Nat))
noncomputable def wiRange (wa : WA) : WI := fun σ S E Q => wa σ S E fun xs S1 => match xs with
 | [.int j] => (-(2 ^ 62) ≤ j ∧ j < 2 ^ 62) ∧ Q ⟨rngP 0 j.toNat, fun _ => True⟩ S1
 | _ => False
theorem itr_range {K : PySem.W.Frag} {φ : List Addr} {H : Hp} {lo : Int} {n : Nat} : ItR K φ H (Itr lo n) ⟨rngP lo n, fun _ => True⟩ where
 go := fun φ1 H1 S1 p m R e i x hx => by
  have hx' : (rngP lo n)[i]? = some x := hx
  unfold rngP at hx'
  rw [List.getElem?_map] at hx'
  obtain ⟨c, hc, rfl⟩ := Option.map_eq_some_iff.mp hx'
  obtain ⟨hl, rfl⟩ := List.getElem?_eq_some_iff.mp hc
  rw [List.getElem_range]
  refine ⟨by show i < n; simpa using hl, fun y' H' hh1 => ?_⟩
  obtain ⟨e1, e2⟩ := hh1
  subst e1
  exact ⟨φ1, List.prefix_refl _, .refl _, R, e2⟩
 stop := fun φ1 H1 S1 p m R e i hi => by
  have : (rngP lo n).length ≤ i := hi
  unfold rngP at this
  show n ≤ i
  simpa using this
theorem simI_range {tg a : Expr} {wa : WA} {p : Pos} (hm : X.mg "range" = none) (ha : SimA X G [a] wa) (hg : Gl X "range" := by rfl) (hs : starEach [a] X.env = [(false, eval a X.env)] := by rfl) : SimI X G tg (.Call (.Name "range" p) [a] [] pos) (wiRange wa) :=
 PI.imp (pi_range1 hg hm ha hs) fun σV H Q hh1 => by obtain ⟨φ, σ, S, Q0, L, R, h, k⟩ := hh1; exact (⟨φ, σ, S, _, L, R, h, fun v S1 φ1 H1 x q p1 m1 R1 r1 => by
  split at q
  ·rename_i j
   obtain ⟨y, rfl, r⟩ := one_rel r1
   cases r
   exact ⟨j, rfl, q.1.1, q.1.2, k _ S1 φ1 H1 _ q.2 p1 m1 R1 itr_range⟩
  ·exact q.elim⟩)
noncomputable def forGo (chk : Store → Prop) (g : WG) (wb : WS) (D : PEnds) (E : EK) : List PV → Loc → Store → Prop
 | [], σ, S => chk S ∧ D.nx σ S
 | x :: r, σ, S => chk S ∧ ∃ N : Loc → Store → Prop, (∀ σ' S', N σ' S' → forGo chk g wb D E r σ' S') ∧ g x σ S E fun σ2 S2 => wb { nx := N, rt := D.rt, ct := N, bk := D.nx } E σ2 S2
noncomputable def wFor (wi : WI) (g : WG) (wb : WS) : WS := fun D E σ S => wi σ S E fun it S1 => forGo it.chk g wb D E it.xs σ S1
theorem sim_for {tg iter : Expr} {body : List Stmt} {wi : WI} {g : WG} {wb : WS} (hp : PassesOwn (model X.prog X.w) X.A X.env X.xe) (hc : X.calm = true) (hi : SimI X G tg iter wi) (hg : SimG X G tg g) (hb : SimSs X G body wb) (hs : ∀ x, foldedSetIterable iter X.env x = pure x := by intro _; rfl) : SimS X G (.For tg iter body [] pos) (wFor wi g wb) :=
 (ps_for hp hc hi hg hb hs).imp fun D σV H hh1 => by obtain ⟨φ, σ, S, D0, L, R, h, k⟩ := hh1; exact (⟨φ, σ, S, _, L, R, h, fun it S1 φ1 H1 J q p1 m1 R1 hj => by
  refine ⟨fun i m σV' H' => m = it.xs.length - i ∧ i ≤ it.xs.length ∧ ∃ φ' σ' S', φ1 <+: φ' ∧ Mono H1 H' ∧ LRel X.K G H' φ' σ' σV' ∧ Rel X.K φ' S' H' ∧ forGo it.chk g wb D0 G.ek (it.xs.drop i) σ' S', ⟨it.xs.length, by simp, Nat.zero_le _, φ1, σ, S1, List.prefix_refl _, .refl _, L.mono m1 p1, R1, by simpa using q⟩, ?_⟩
  rintro i m σV' H' ⟨rfl, hi, φ', σ', S', p', m', L', R', hf⟩
  by_cases hlt : i < it.xs.length
  ·rw [List.drop_eq_getElem_cons hlt] at hf
   obtain ⟨hch, N, hN, hb⟩ := hf
   obtain ⟨jg, jy⟩ := hj.go φ' H' S' p' m' R' hch i _ (List.getElem?_eq_getElem hlt)
   refine .inr ⟨jg, fun σ2V H2 => ∃ φ2 σ2 S2, φ' <+: φ2 ∧ Mono H' H2 ∧ LRel X.K G H2 φ2 σ2 σ2V ∧ Rel X.K φ2 S2 H2 ∧ N σ2 S2, ?_, ?_⟩
   ·rintro σ2V H2 ⟨φ2, σ2, S2, p2, m2, L2, R2, hn⟩
    exact ⟨it.xs.length - (i + 1), by omega, rfl, hlt, φ2, σ2, S2, p'.trans p2, m'.trans m2, L2, R2, hN σ2 S2 hn⟩
   ·intro y H2 hy
    obtain ⟨φ2, p2, m2, R2, r2⟩ := jy y H2 hy
    refine ⟨φ2, _, σ', S', _, L'.mono m2 p2, R2, r2, hb, fun σ3 S3 φ3 H3 σ3V q3 p3 m3 R3 L3 => ?_⟩
    refine ⟨φ3, σ3, S3, _, L3, R3, q3, ⟨?_, k.rt.up (((p1.trans p').trans p2).trans p3) (((m1.trans m').trans m2).trans m3), k.nx.up (((p1.trans p').trans p2).trans p3) (((m1.trans m').trans m2).trans m3), ?_⟩⟩
    ·exact fun σ4 S4 φ4 H4 σ4V q4 p4 m4 R4 L4 => ⟨φ4, σ4, S4, (p2.trans p3).trans p4, (m2.trans m3).trans m4, L4, R4, q4⟩
    ·exact fun σ4 S4 φ4 H4 σ4V q4 p4 m4 R4 L4 => ⟨φ4, σ4, S4, (p2.trans p3).trans p4, (m2.trans m3).trans m4, L4, R4, q4⟩
  ·have e : i = it.xs.length := by omega
   subst e
   rw [List.drop_length] at hf
   exact .inl ⟨hj.stop φ' H' S' p' m' R' hf.1 _ (Nat.le_refl _), k.nx σ' S' φ' H' σV' hf.2 (p1.trans p') (m1.trans m') R' L'⟩⟩)
noncomputable def innerP (ix : List (Option Nat)) (σ : Loc) : Loc := ix.map fun o => match o with
 | none => none
 | some j => match σ[j]? with
  | some v => v
  | none => none
noncomputable abbrev NoX : EK := fun _ _ => False
noncomputable abbrev NoG : GX := ⟨NoX, fun _ _ => False⟩
noncomputable def compGo (chk : Store → Prop) (g : WG) (wc : WT) (we : WE) (Q : VC) : List PV → List PV → Loc → Store → Prop
 | [], ys, _, S => chk S ∧ Q (.ref S.length) (S ++ [.lst ys])
 | x :: r, ys, σ, S => chk S ∧ ∃ N : List PV → Loc → Store → Prop, (∀ ys' σ' S', N ys' σ' S' → compGo chk g wc we Q r ys' σ' S') ∧ g x σ S NoX fun σ2 S2 => wc σ2 S2 NoX fun b S3 => if b = true then we σ2 S3 NoX (fun y S4 => N (ys ++ [y]) σ2 S4) else N ys σ2 S3
noncomputable def wtTrue : WT := fun _ S _ Q => Q true S
noncomputable def wComp (wi : WI) (ix : List (Option Nat)) (g : WG) (wc : WT) (we : WE) : WE := fun σ S E Q => wi σ S E fun it S1 => it.xs.length ≤ sizeLine ∧ compGo it.chk g wc we Q it.xs [] (innerP ix σ) S1
theorem inner_rel {K : PySem.W.Frag} {H : Hp} {φ : List Addr} {σ : Loc} {σV : St} (ix : List (Option Nat)) (L : LRel K G H φ σ σV) : LRel K NoG H φ (innerP ix σ) (innerSt ix σV) := by
 refine ⟨by simp [innerP, innerSt], fun i v e => ?_, fun _ _ _ _ q => q.elim⟩
 unfold innerP at e
 rw [List.getElem?_map] at e
 obtain ⟨o, ho, e'⟩ := Option.map_eq_some_iff.mp e
 cases o with
 | none => cases e'
 | some j =>
  dsimp only at e'
  cases hj : σ[j]? with
  | none => rw [hj] at e'; cases e'
  | some w =>
   rw [hj] at e'
   dsimp only at e'
   subst e'
   obtain ⟨x, hx, r⟩ := L.at' j v hj
   refine ⟨x, ?_, r⟩
   unfold innerSt
   rw [List.getElem?_map, ho]
   simp [hx]
end
end Ev
namespace Ev
open PySem L2 PySem.Spec PyProof.Rows
section
variable {X : Cx} {G : GX} {pos : Pos}
noncomputable def sqOf (x : PV) (S : Store) : Option (Bool × List PV) := match x with
 | .tup xs => some (true, xs)
 | .frl xs => some (false, xs)
 | .ref n => (lstOf S n).map fun xs => (false, xs)
 | _ => none
theorem sq_rel {K : PySem.W.Frag} {φ : List Addr} {H : Hp} {S : Store} {x : PV} {x' : V} {tp : Bool} {xs : List PV} (R : Rel K φ S H) (r : RV K H φ x x') (e : sqOf x S = some (tp, xs)) : ∃ a vs, x' = .ref a ∧ Sq tp K H a vs ∧ RVs K H φ xs vs := by
 unfold sqOf at e
 split at e
 ·cases e
  obtain ⟨a, vs, rfl, sa, ra⟩ := r
  exact ⟨a, vs, rfl, sa, ra⟩
 ·cases e
  obtain ⟨a, vs, rfl, sa, ra⟩ := r
  exact ⟨a, vs, rfl, sa.sq, ra⟩
 ·obtain ⟨ys, e1, e2⟩ := Option.map_eq_some_iff.mp e
  cases e2
  obtain ⟨a, rfl, qa⟩ := r
  obtain ⟨vs, ea, ra⟩ := R.lst qa e1
  exact ⟨a, vs, rfl, SqL.of ea, ra⟩
 ·cases e
noncomputable def zipP (xs ys : List PV) : List PV := (xs.zip ys).map fun p => .tup [p.1, p.2]
noncomputable def wiZip (wa : WA) : WI := fun σ S E Q => wa σ S E fun vs S1 => match vs with
 | [x, y] => match sqOf x S1, sqOf y S1 with
  | some (tp, xs), some (tq, ys) => Q ⟨zipP xs ys, fun S => sqOf x S = some (tp, xs) ∧ sqOf y S = some (tq, ys)⟩ S1
  | _, _ => False
 | _ => False
theorem sq_same {K : PySem.W.Frag} {φ φ1 : List Addr} {H H1 : Hp} {x : PV} {x' : V} (m : Mono H H1) (p : φ <+: φ1) (r : RV K H φ x x') : RV K H1 φ1 x x' := RV.mono m p _ _ r
theorem itr_zip {K : PySem.W.Frag} {φ : List Addr} {H : Hp} {x y : PV} {a b : Addr} {tp tq : Bool} {xs ys : List PV} (rx : RV K H φ x (.ref a)) (ry : RV K H φ y (.ref b)) : ItR K φ H (Itz tp tq K a b) ⟨zipP xs ys, fun S => sqOf x S = some (tp, xs) ∧ sqOf y S = some (tq, ys)⟩ where
 go := fun φ1 H1 S1 p m R hh1 i z hz => by
  obtain ⟨e1, e2⟩ := hh1
  obtain ⟨a', vs, ea, sa, ra⟩ := sq_rel R (sq_same m p rx) e1
  obtain ⟨b', ws, eb, sb, rb⟩ := sq_rel R (sq_same m p ry) e2
  cases ea
  cases eb
  have hz' : (zipP xs ys)[i]? = some z := hz
  unfold zipP at hz'
  rw [List.getElem?_map] at hz'
  obtain ⟨⟨u, v⟩, hu, rfl⟩ := Option.map_eq_some_iff.mp hz'
  obtain ⟨h1, h2⟩ := List.getElem?_zip_eq_some.mp hu
  obtain ⟨u', g1, q1⟩ := ra.get h1
  obtain ⟨v', g2, q2⟩ := rb.get h2
  refine ⟨⟨vs, ws, u', v', sa, sb, g1, g2⟩, fun y' H' hh2 => ?_⟩
  obtain ⟨p', x1, x2, e1, hp, e2, h3, h4⟩ := hh2
  subst e1 e2
  have := h3 vs sa
  rw [g1] at this
  cases this
  have := h4 ws sb
  rw [g2] at this
  cases this
  exact ⟨φ1, List.prefix_refl _, .new _ hp, R.frame _ hp, p', _, rfl, SqT.of upd_same, RVs.mono (.new _ hp) (List.prefix_refl _) _ _ (.cons q1 (.one q2))⟩
 stop := fun φ1 H1 S1 p m R hh3 i hi => by
  obtain ⟨e1, e2⟩ := hh3
  obtain ⟨a', vs, ea, sa, ra⟩ := sq_rel R (sq_same m p rx) e1
  obtain ⟨b', ws, eb, sb, rb⟩ := sq_rel R (sq_same m p ry) e2
  cases ea
  cases eb
  refine ⟨vs, ws, sa, sb, ?_⟩
  have : (zipP xs ys).length ≤ i := hi
  unfold zipP at this
  rw [List.length_map, List.length_zip, ra.length, rb.length] at this
  omega
theorem simI_zip {es : List Expr} {kk : Nat} {ps : Pos} {a b : Expr} {wa : WA} {p : Pos} (hm : X.mg "zip" = none) (ha : SimA X G [a, b] wa) (hg : Gl X "zip" := by rfl) (hs : starEach [a, b] X.env = [(false, eval a X.env), (false, eval b X.env)] := by rfl) (hs2 : starEach [b] X.env = [(false, eval b X.env)] := by rfl) : SimI X G (.Tuple es kk ps) (.Call (.Name "zip" p) [a, b] [] pos) (wiZip wa) :=
 PI.imp (pi_zip hg hm ha hs hs2) fun σV H Q hh1 => by obtain ⟨φ, σ, S, Q0, L, R, h, k⟩ := hh1; exact (⟨φ, σ, S, _, L, R, h, fun v S1 φ1 H1 x q p1 m1 R1 r1 => by
  split at q
  ·rename_i x1 x2
   split at q
   ·rename_i tp xs tq ys e1 e2
    obtain ⟨y1, y2, rfl, g1, g2⟩ := two_rel r1
    obtain ⟨a', vs, rfl, sa, ra⟩ := sq_rel R1 g1 e1
    obtain ⟨b', ws, rfl, sb, rb⟩ := sq_rel R1 g2 e2
    exact ⟨tp, tq, a', b', vs, ws, rfl, sa, sb, k _ S1 φ1 H1 _ q p1 m1 R1 (itr_zip g1 g2)⟩
   ·exact q.elim
  ·exact q.elim⟩)
end
noncomputable abbrev Den := List PV → Store → EK → VC → Prop
noncomputable def ClsP (K : PySem.W.Frag) (v : PV) (cls : Value) : Prop := ∃ c C, v = .exc c ∧ cls = .ref C ∧ PySem.W.nsIn K mainGlobals (Str.ofString c) = some (some (.ref C))
noncomputable def xkOf (K : PySem.W.Frag) (f : PV → Hp → Prop) : XK := fun cls _ H' => ∃ v, ClsP K v cls ∧ f v H'
noncomputable def KX (K : PySem.W.Frag) (φ : List Addr) (H : Hp) (E0 : EK) (f : PV → Hp → Prop) : Prop := ∀ v S' φ' H', E0 v S' → φ <+: φ' → Mono H H' → Rel K φ' S' H' → f v H'
theorem passNo {P : Program} {w : World} {X : Cx} {K : PySem.W.Frag} : Passes (CXE P w) X (xkOf K NoG.xh) := passE0.imp fun _ _ _ hh1 => by obtain ⟨_, _, q⟩ := hh1; exact (q)
noncomputable def spLift (K : PySem.W.Frag) (sp : Den) : Sp := fun vs H Q E => ∃ φ args S Q0 E0 f, RVs K H φ args vs ∧ Rel K φ S H ∧ sp args S E0 Q0 ∧ KE K φ H Q0 Q ∧ KX K φ H E0 f ∧ ∀ cls d H', xkOf K f cls d H' → E cls d H'
noncomputable def wCall (sp : Den) (wa : WA) : WE := fun σ S E Q => wa σ S E fun xs S1 => sp xs S1 E Q
theorem sim_call {X : Cx} {G : GX} {pos : Pos} {k : Nat} {f : Addr} {fd : FuncData} {ps : List Str} {sp : Den} {x : Str} {p : Pos} {e : Expr} {es : List Expr} {wa : WA} (C : Cal X.prog X.w X.K X.mg X.base k x ps (spLift X.K sp) f fd) (hr : Room k X.A) (hx : Passes (CXE X.prog X.w) X (xkOf X.K G.xh)) (ha : SimA X G (e :: es) wa) (hg : Gl X x := by rfl)
  (hdb : (x == ("__debug__" : Str)) = false := by decide) (he : starEach (e :: es) X.env = (false, eval e X.env) :: starEach es X.env := by rfl) (hpl : (backTo pos (starEach es X.env)).any (·.1) = false := by rfl) :
  SimE X G (.Call (.Name x p) (e :: es) [] pos) (wCall sp wa) :=
 (pe_call C.G hr hg C.m C.kp C.b .nil hx ha hdb he hpl).imp fun σV H Q hh1 => by obtain ⟨φ, σ, S, Q0, L, R, h, k⟩ := hh1; exact (⟨φ, σ, S, _, L, R, h, fun v S1 φ1 H1 x q p1 m1 R1 r1 =>
  ⟨φ1, v, S1, Q0, G.ek, G.xh, by rw [List.append_nil]; exact r1, R1, q, k.up p1 m1, (L.mono m1 p1).kx, fun _ _ _ z => z⟩⟩)
noncomputable def fnP (np nl : Nat) (w : WS) : Den := fun args S E Q => args.length = np ∧ w { nx := fun _ S' => Q .non S', rt := Q } E (args.map some ++ List.replicate (nl - np) none) S
theorem start_rel {K : PySem.W.Frag} {G : GX} {H : Hp} {φ : List Addr} {args : List PV} {vs : List V} (N : List Str) (r : RVs K H φ args vs) (kx : KX K φ H G.ek G.xh) : LRel K G H φ (args.map some ++ List.replicate (N.length - args.length) none) (L2.start N vs) := by
 refine ⟨by unfold L2.start; simp [r.length], fun i v e => ?_, kx⟩
 by_cases hi : i < args.length
 ·rw [List.getElem?_append_left (by simpa using hi), List.getElem?_map] at e
  obtain ⟨u, hu, e'⟩ := Option.map_eq_some_iff.mp e
  cases e'
  obtain ⟨x, hx, rx⟩ := r.get hu
  refine ⟨x, ?_, rx⟩
  unfold L2.start
  rw [List.getElem?_append_left (by simpa [← r.length] using hi), List.getElem?_map, hx]
  rfl
 ·rw [List.getElem?_append_right (by simpa using hi), List.getElem?_replicate] at e
  split at e <;> cases e
theorem fn_sim {P : Program} {w : World} {K : PySem.W.Frag} {mg : Str → Option Value} {base : Heap} {x qual : Str} {st : Stmt} {f : Addr} {fd : FuncData} {N ps : List Str} {k : Nat} {wb : WS} (F : Fun K x qual st f fd) (Sc : FnScope N ps (defScope st))
  (sim : ∀ (cdv : Value) (A : Around) (outer : List Env) (s : Shared) (H : Hp) (E : XK) (G : GX), Room k (A.deeper (envOfC qual (defScope st) s.heap.objs.size f cdv)) → Passes (CXE P w) (cxOf (CXE P w) P w K mg base N qual (defScope st) f cdv A outer s H E) (xkOf K G.xh) →
   SimSs (cxOf (CXE P w) P w K mg base N qual (defScope st) f cdv A outer s H E) G (defBody st) wb) :
  FnOk P w K mg base (CXE P w) (k + 1) f fd ps (spLift K (fnP ps.length N.length wb)) := by
 refine F.okX Sc (fun vs H Q E h => ?_) (fun cdv A outer s H vs Q E hr h => ?_)
 ·obtain ⟨φ, args, S, Q0, E0, g, r, _, ⟨h, _⟩, _⟩ := h
  rw [← r.length, h]
 ·obtain ⟨φ, args, S, Q0, E0, g, r, R, ⟨hl, h⟩, kk, kx, hE⟩ := h
  refine ⟨_, sim cdv A outer s H E ⟨E0, g⟩ hr (passX.imp hE), φ, _, S, { nx := fun _ S' => Q0 .non S', rt := Q0 }, ?_, R, h, ⟨fun σ' S' φ' H' σV' q p m R' L' => kk _ S' φ' H' _ q p m R' rfl, kk, fun _ _ _ _ _ q => q.elim, fun _ _ _ _ _ q => q.elim⟩⟩
  have := start_rel (G := ⟨E0, g⟩) N r kx
  rw [hl] at this
  exact this
theorem fn_no {P : Program} {w : World} {K : PySem.W.Frag} {mg : Str → Option Value} {base : Heap} {k : Nat} {f : Addr} {fd : FuncData} {ps : List Str} : FnOk P w K mg base (CXE P w) k f fd ps (spLift K fun _ _ _ _ => False) :=
 ⟨fun vs H Q E hh1 => by obtain ⟨_, _, _, _, _, _, _, _, h, _⟩ := hh1; exact (h.elim), fun A outer s H args us vs Q E _ _ _ _ hh2 => by obtain ⟨_, _, _, _, _, _, _, _, h, _⟩ := hh2; exact (h.elim)⟩
noncomputable def LawP (sp : Den) : Prop := ∀ ns : List Int, ns.length ≤ 63 → sp [.frl (ns.map .int)] [] NoX fun v _ => v = .bl true
theorem law_sp {K : PySem.W.Frag} {sp : Den} (h : LawP sp) : ∀ (H : Hp) (a : Addr) (ns : List Int), ns.length ≤ 63 → Only H → SqL K H a (ns.map V.int) → spLift K sp [.ref a] H (fun v _ => v = .bl true) fun _ _ _ => False := by
 intro H a ns hl hO hS
 refine ⟨[], [.frl (ns.map .int)], [], _, NoX, fun _ _ => False, ⟨_, _, rfl, ⟨a, _, rfl, ?_, RVs.of_ints ns⟩, rfl⟩, ⟨rfl, by simp, fun n a o e => by simp at e⟩, h ns hl, fun v S' φ' H' x q p m R r => ?_, fun _ _ _ _ q => q.elim, fun _ _ _ hh1 => by obtain ⟨_, _, q⟩ := hh1; exact (q)⟩
 ·rcases hS with hS | hS
  ·rcases hS with z | ⟨o, z⟩
   ·rcases hO a with w | ⟨o, xs, w⟩
    ·rw [z] at w; cases w
    ·rw [z] at w; cases w
   ·exact .inl ⟨o, z⟩
  ·exact .inr hS
 ·subst q
  exact r
end Ev
namespace L2
open PySem PySem.Spec PyProof.Rows
section
variable {prog : Program} {w : World} {A : Around} {E : Value → Shared → Prop} {s : Shared}
end
end L2
namespace Ev
open PySem L2
section
variable {X : Cx} {G : GX} {pos : Pos}
noncomputable abbrev WD := Loc → Store → EK → (List (Key × PV) → Store → Prop) → Prop
noncomputable def KD (K : PySem.W.Frag) (φ : List Addr) (H : Hp) (Q0 : List (Key × PV) → Store → Prop) (Q : List (V × V) → Hp → Prop) : Prop := ∀ kvs S' φ' H' ws, Q0 kvs S' → φ <+: φ' → Mono H H' → Rel K φ' S' H' → RKs K H' φ' kvs ws → Q (ws.map fun kv => (kV kv.1, kv.2)) H'
noncomputable def liftD (K : PySem.W.Frag) (G : GX) (w : WD) (σV : St) (H : Hp) (Q : List (V × V) → Hp → Prop) : Prop := ∃ φ σ S Q0, LRel K G H φ σ σV ∧ Rel K φ S H ∧ w σ S G.ek Q0 ∧ KD K φ H Q0 Q
noncomputable def SimD (X : Cx) (G : GX) (pos : Pos) (ks : List (Option Expr)) (vs : List Expr) (w : WD) : Prop := ∃ trs, PPs X pos ks vs trs ∧ ∀ σV H Q, liftD X.K G w σV H Q → tPairs trs σV H Q
noncomputable def wdNil : WD := fun _ S _ Q => Q [] S
noncomputable def wdCons (wk wv : WE) (w : WD) : WD := fun σ S E Q => wk σ S E fun k S1 => wv σ S1 E fun v S2 => match keyOf k with
 | some kk => w σ S2 E fun kvs S3 => Q ((kk, v) :: kvs) S3
 | none => False
theorem simD_nil : SimD X G pos [] [] wdNil := ⟨[], pps_nil, fun σV H Q hh1 => by obtain ⟨φ, σ, S, Q0, L, R, h, k⟩ := hh1; exact (k [] S φ H [] h (List.prefix_refl _) (.refl _) R .nil)⟩
theorem simD_cons {k v : Expr} {ks : List (Option Expr)} {vs : List Expr} {wk wv : WE} {w : WD} (hk : SimE X G k wk) (hv : SimE X G v wv) (hr : SimD X G pos ks vs w) : SimD X G pos (some k :: ks) (v :: vs) (wdCons wk wv w) := by
 obtain ⟨trs, hp, hi⟩ := hr
 refine ⟨_, pps_cons hk hv hp, fun σV H Q hh1 => ?_⟩
 obtain ⟨φ, σ, S, Q0, L, R, h, kk⟩ := hh1
 refine ⟨φ, σ, S, _, L, R, h, fun pk S1 φ1 H1 x q p1 m1 R1 r1 => ⟨φ1, σ, S1, _, L.mono m1 p1, R1, q, fun pv S2 φ2 H2 y q2 p2 m2 R2 r2 => ?_⟩⟩
 refine hi _ _ _ ?_
 split at q2
 ·rename_i key ek
  refine ⟨φ2, σ, S2, _, (L.mono m1 p1).mono m2 p2, R2, q2, fun kvs S3 φ3 H3 ws q3 p3 m3 R3 r3 => ?_⟩
  have := kk ((key, pv) :: kvs) S3 φ3 H3 ((key, y) :: ws) q3 ((p1.trans p2).trans p3) ((m1.trans m2).trans m3) R3 (.cons ⟨rfl, RV.mono m3 p3 _ _ r2⟩ r3)
  rw [key_rel r1 ek]
  exact this
 ·exact q2.elim
noncomputable def mergeP (kvs more : List (Key × PV)) : List (Key × PV) := more.foldl (fun acc kv => putP acc kv.1 kv.2) kvs
theorem RKs.merge {K : PySem.W.Frag} {H : Hp} {φ : List Addr} {more : List (Key × PV)} {rs : List (Key × V)} (r : RKs K H φ more rs) : ∀ {kvs : List (Key × PV)} {vs : List (Key × V)}, RKs K H φ kvs vs → RKs K H φ (mergeP kvs more) (mergeK vs rs) := by
 unfold RKs at r
 induction r with
 | nil => intro kvs vs q; exact q
 | @cons p q ps qs h t ih =>
  intro kvs vs r0
  have e : RKs K H φ (putP kvs p.1 p.2) (putK vs q.1 q.2) := by
   have := r0.put p.1 h.2
   rw [← h.1]; exact this
  exact ih e
noncomputable def wDisp (w : WD) : WE := fun σ S E Q => w σ (S ++ [.dK []]) E fun kvs S1 => (S1[S.length]? = some (.dK []) ∧ kvs.length ≤ 15) ∧ Q (.ref S.length) (S1.set S.length (.dK (mergeP [] kvs)))
theorem sim_disp {keys : List (Option Expr)} {values : List Expr} {w : WD} (h : SimD X G pos keys values w) (hall : keys.all (·.isSome) = true := by rfl) (hl : keys.length = values.length := by rfl) (h0 : keys ≠ [] := by simp) (h15 : keys.length ≤ 15 := by decide) : SimE X G (.Dict keys values pos) (wDisp w) := by
 obtain ⟨trs, hp, hi⟩ := h
 refine (pe_disp hp hall hl h0 h15).imp fun σV H Q hh1 => ?_
 obtain ⟨φ, σ, S, Q0, L, R, h, k⟩ := hh1
 intro p hp
 refine hi _ _ _ ?_
 have R1 : Rel X.K (φ ++ [p]) (S ++ [.dK []]) (upd H p (.dK [])) := R.new (o := .dK []) hp ⟨[], upd_same, .nil⟩
 refine ⟨φ ++ [p], σ, _, _, L.mono (.new _ hp) (List.prefix_append _ _), R1, h, fun kvs S' φ' H' ws q p' m' R' r' => ?_⟩
 obtain ⟨⟨e, hl⟩, q⟩ := q
 have ep : φ'[S.length]? = some p := pre_get p' (by rw [← R.len]; simp)
 obtain ⟨vs, ev, rv⟩ := R'.obj _ _ _ ep e
 have : vs = [] := List.length_eq_zero_iff.mp (by rw [← RKs.length rv]; rfl)
 subst this
 refine ⟨ev, ws, rfl, by rw [← RKs.length r']; exact hl, ?_⟩
 refine k _ _ φ' _ _ q ((List.prefix_append _ _).trans p') (((Mono.new _ hp).trans m').trans (.dict ev)) (R'.put (o := .dK (mergeP [] kvs)) ep (.dict ev) ⟨_, upd_same, ?_⟩) ⟨p, rfl, ep⟩
 exact RKs.mono (.dict ev) (List.prefix_refl _) (RKs.merge r' .nil)
end
end Ev
namespace Ev
open PySem L2
section
variable {X : Cx} {G : GX} {pos : Pos}
theorem liftI_mono {K : PySem.W.Frag} {w : WI} (σ : St) (H : Hp) (R R' : It → Hp → Prop) (h : ∀ J H1, R J H1 → R' J H1) (q : liftI K G w σ H R) : liftI K G w σ H R' := by
 obtain ⟨φ, σ, S, Q0, L, R, hw, k⟩ := q
 exact ⟨φ, σ, S, Q0, L, R, hw, fun it S' φ' H' J q p m R hj => h _ _ (k it S' φ' H' J q p m R hj)⟩
theorem comp_goIf {tg iter elt c : Expr} {scope : Scope} {wi : WI} {g : WG} {wc : WT} {we : WE} {ix : List (Option Nat)} {σV : St} {H : Hp} {Q : VK} (h : liftE X.K G (wComp wi ix g wc we) σV H Q) : tCompIf (liftI X.K G wi) ix (liftG X.K NoG g) (liftT X.K NoG wc) (liftE X.K NoG we) σV H Q := by
 obtain ⟨φ, σ, S, Q0, L, R, h, k⟩ := h
 refine ⟨φ, σ, S, _, L, R, h, fun it S1 φ1 H1 J hh1 p1 m1 R1 hj => ?_⟩
 obtain ⟨hz, q⟩ := hh1
 refine ⟨fun i ys σV' H' => ∃ φ' σ' S' pys, φ1 <+: φ' ∧ Mono H1 H' ∧ LRel X.K NoG H' φ' σ' σV' ∧ Rel X.K φ' S' H' ∧ RVs X.K H' φ' pys ys ∧ compGo it.chk g wc we Q0 (it.xs.drop i) pys σ' S', it.xs.length, hz, ⟨φ1, _, S1, [], List.prefix_refl _, .refl _, inner_rel ix (L.mono m1 p1), R1, rfl, by simpa using q⟩, ?_⟩
 rintro i ys σV' H' hi ⟨φ', σ', S', pys, p', m', L', R', rys, hf⟩
 by_cases hlt : i < it.xs.length
 ·rw [List.drop_eq_getElem_cons hlt] at hf
  obtain ⟨hch, N, hN, hb⟩ := hf
  obtain ⟨jg, jy⟩ := hj.go φ' H' S' p' m' R' hch i _ (List.getElem?_eq_getElem hlt)
  refine .inr ⟨hlt, jg, fun y H2 hy => ?_⟩
  obtain ⟨φ2, p2, m2, R2, r2⟩ := jy y H2 hy
  refine ⟨φ2, _, σ', S', _, L'.mono m2 p2, R2, r2, hb, fun σ3 S3 φ3 H3 σ3V q3 p3 m3 R3 L3 => ?_⟩
  refine ⟨φ3, σ3, S3, _, L3, R3, q3, fun b S4 φ4 H4 q4 p4 m4 R4 => ?_⟩
  cases b with
  | true =>
   have hw : we σ3 S4 NoX (fun y S4 => N (pys ++ [y]) σ3 S4) := q4
   refine ⟨φ4, σ3, S4, _, L3.mono m4 p4, R4, hw, fun z S5 φ5 H5 z' q5 p5 m5 R5 r5 => ?_⟩
   exact ⟨φ5, σ3, S5, pys ++ [z], (((p'.trans p2).trans p3).trans p4).trans p5, (((m'.trans m2).trans m3).trans m4).trans m5, (L3.mono m4 p4).mono m5 p5, R5, (RVs.mono (((m2.trans m3).trans m4).trans m5) (((p2.trans p3).trans p4).trans p5) _ _ rys).append (.one r5), hN _ _ _ q5⟩
  | false => exact ⟨φ4, σ3, S4, pys, ((p'.trans p2).trans p3).trans p4, ((m'.trans m2).trans m3).trans m4, L3.mono m4 p4, R4, RVs.mono ((m2.trans m3).trans m4) ((p2.trans p3).trans p4) _ _ rys, hN _ _ _ q4⟩
 ·have e : i = it.xs.length := by omega
  subst e
  rw [List.drop_length] at hf
  exact .inl ⟨hj.stop φ' H' S' p' m' R' hf.1 _ (Nat.le_refl _), (k.up (p1.trans p') (m1.trans m')).lst hf.2 R' rys⟩
theorem set_lift {D : Ends} {σV : St} {H : Hp} {i : Nat} {w : WE} (h : liftS X.K G (wSet i w) D σV H) : liftE X.K G w σV H fun v H1 => D.nx (σV.set i (some v)) H1 := by
 obtain ⟨φ, σ, S, D0, L, R, h, k⟩ := h
 exact ⟨φ, σ, S, _, L, R, h, fun v S1 φ1 H1 x q p1 m1 R1 r1 => k.nx _ S1 φ1 H1 _ q p1 m1 R1 ((L.mono m1 p1).set i r1)⟩
theorem true_lift {K : PySem.W.Frag} (σ : St) (H : Hp) (Q : Bool → Hp → Prop) (h : liftT K NoG wtTrue σ H Q) : Q true H := by
 obtain ⟨φ, σ, S, Q0, L, R, h, k⟩ := h
 exact k true S φ H h (List.prefix_refl _) (.refl _) R
theorem sim_comp {tg iter elt : Expr} {scope : Scope} {wi : WI} {g : WG} {we : WE} (N' : List Str) (ix : List (Option Nat)) (hc : X.calm = true) (co : CompOk X scope N' ix) (hi : SimI X G tg iter wi) (hg : ∀ cl C s H fp, SimG (X.comp scope N' cl C s H fp) NoG tg g) (he : ∀ cl C s H fp, SimE (X.comp scope N' cl C s H fp) NoG elt we)
  (hs : ∀ x, foldedSetIterable iter X.env x = pure x := by intro _; rfl) : SimE X G (.ListComp elt [⟨tg, iter, [], 0⟩] scope pos) (wComp wi ix g wtTrue we) :=
 (pe_compG (g := liftG X.K NoG g) (tc := liftT X.K NoG wtTrue) (te := liftE X.K NoG we) hc co hi liftI_mono hg (fun _ _ _ _ _ => pts_nil true_lift) he hs).imp fun σV H Q h => comp_goIf (tg := tg) (iter := iter) (elt := elt) (c := elt) (scope := scope) h
theorem sim_compIf {tg iter elt c : Expr} {scope : Scope} {wi : WI} {g : WG} {wc : WT} {we : WE} (N' : List Str) (ix : List (Option Nat)) (hc : X.calm = true) (co : CompOk X scope N' ix) (hi : SimI X G tg iter wi) (hg : ∀ cl C s H fp, SimG (X.comp scope N' cl C s H fp) NoG tg g) (ht : ∀ cl C s H fp, SimT (X.comp scope N' cl C s H fp) NoG c wc) (he : ∀ cl C s H fp, SimE (X.comp scope N' cl C s H fp) NoG elt we)
  (hs : ∀ x, foldedSetIterable iter X.env x = pure x := by intro _; rfl) : SimE X G (.ListComp elt [⟨tg, iter, [c], 0⟩] scope pos) (wComp wi ix g wc we) :=
 (pe_compG (g := liftG X.K NoG g) (tc := liftT X.K NoG wc) (te := liftE X.K NoG we) hc co hi liftI_mono hg (fun cl C s H fp => pts_one (ht cl C s H fp)) he hs).imp fun σV H Q h => comp_goIf (tg := tg) (iter := iter) (elt := elt) (c := c) (scope := scope) h
theorem sim_setComp (i : Nat) {x : Str} {px sp : Pos} {tg iter elt : Expr} {scope : Scope} {wi : WI} {g : WG} {we : WE} (N' : List Str) (ix : List (Option Nat)) (hN : X.N.Nodup) (hc : X.calm = true) (co : CompOk X scope N' ix) (hi : SimI X G tg iter wi) (hg : ∀ cl C s H fp, SimG (X.comp scope N' cl C s H fp) NoG tg g) (he : ∀ cl C s H fp, SimE (X.comp scope N' cl C s H fp) NoG elt we)
  (hsw : swapsWith (.ListComp elt [⟨tg, iter, [], 0⟩] scope pos) (some (.Name x px)) sp.line X.env = pure true := by rfl) (hii : X.N[i]? = some x := by rfl) (hx : L2.Loc X.env.scope x := by first | exact Or.inl rfl | exact Or.inr rfl)
  (hs : ∀ x, foldedSetIterable iter X.env x = pure x := by intro _; rfl) (hf : X.fn x = true ∨ X.env.scope.names.lookup x = some .local := by first | exact .inl rfl | exact .inr rfl | assumption) :
  SimS X G (.Assign [.Name x px] (.ListComp elt [⟨tg, iter, [], 0⟩] scope pos) sp) (wSet i (wComp wi ix g wtTrue we)) :=
 (ps_setCompG (g := liftG X.K NoG g) (tc := liftT X.K NoG wtTrue) (te := liftE X.K NoG we) hsw hN hii hx hc co hi liftI_mono hg (fun _ _ _ _ _ => pts_nil true_lift) he hs hf).imp fun D σV H h => comp_goIf (tg := tg) (iter := iter) (elt := elt) (c := elt) (scope := scope) (set_lift h)
theorem sim_setCompIf (i : Nat) {x : Str} {px sp : Pos} {tg iter elt c : Expr} {scope : Scope} {wi : WI} {g : WG} {wc : WT} {we : WE} (N' : List Str) (ix : List (Option Nat)) (hN : X.N.Nodup) (hc : X.calm = true) (co : CompOk X scope N' ix) (hi : SimI X G tg iter wi) (hg : ∀ cl C s H fp, SimG (X.comp scope N' cl C s H fp) NoG tg g) (ht : ∀ cl C s H fp, SimT (X.comp scope N' cl C s H fp) NoG c wc) (he : ∀ cl C s H fp, SimE (X.comp scope N' cl C s H fp) NoG elt we)
  (hsw : swapsWith (.ListComp elt [⟨tg, iter, [c], 0⟩] scope pos) (some (.Name x px)) sp.line X.env = pure true := by rfl) (hii : X.N[i]? = some x := by rfl) (hx : L2.Loc X.env.scope x := by first | exact Or.inl rfl | exact Or.inr rfl)
  (hs : ∀ x, foldedSetIterable iter X.env x = pure x := by intro _; rfl) (hf : X.fn x = true ∨ X.env.scope.names.lookup x = some .local := by first | exact .inl rfl | exact .inr rfl | assumption) :
  SimS X G (.Assign [.Name x px] (.ListComp elt [⟨tg, iter, [c], 0⟩] scope pos) sp) (wSet i (wComp wi ix g wc we)) :=
 (ps_setCompG (g := liftG X.K NoG g) (tc := liftT X.K NoG wc) (te := liftE X.K NoG we) hsw hN hii hx hc co hi liftI_mono hg (fun cl C s H fp => pts_one (ht cl C s H fp)) he hs hf).imp fun D σV H h => comp_goIf (tg := tg) (iter := iter) (elt := elt) (c := c) (scope := scope) (set_lift h)
end
end Ev
namespace My
open PySem L2 Ev
noncomputable def Ex (D : List Nat) (S S' : Store) : Prop := S.length ≤ S'.length ∧ ∀ i, i < S.length → i ∉ D → S'[i]? = S[i]?
theorem Ex.refl (D : List Nat) (S : Store) : Ex D S S := ⟨Nat.le_refl _, fun _ _ _ => rfl⟩
theorem Ex.trans {D : List Nat} {S S1 S2 : Store} (a : Ex D S S1) (b : Ex D S1 S2) : Ex D S S2 := ⟨Nat.le_trans a.1 b.1, fun i h n => (b.2 i (Nat.lt_of_lt_of_le h a.1) n).trans (a.2 i h n)⟩
theorem Ex.weak {D D' : List Nat} {S S' : Store} (a : Ex D S S') (h : ∀ i ∈ D, i ∈ D') : Ex D' S S' := ⟨a.1, fun i l n => a.2 i l fun z => n (h i z)⟩
theorem Ex.nil {D : List Nat} {S S' : Store} (a : Ex [] S S') : Ex D S S' := a.weak fun i h => by cases h
theorem Ex.app {D : List Nat} {S S' : Store} (a : Ex D S S') (xs : List SO) : Ex D S (S' ++ xs) := ⟨by rw [List.length_append]; exact Nat.le_trans a.1 (Nat.le_add_right _ _), fun i h n => by rw [List.getElem?_append_left (Nat.lt_of_lt_of_le h a.1)]; exact a.2 i h n⟩
theorem Ex.set {D : List Nat} {S S' : Store} (a : Ex D S S') {i : Nat} {o : SO} (hi : i ∈ D ∨ S.length ≤ i) : Ex D S (S'.set i o) := ⟨by rw [List.length_set]; exact a.1, fun j h n => by
 rw [List.getElem?_set_ne]
 ·exact a.2 j h n
 ·rintro rfl
  rcases hi with z | z
  ·exact n z
  ·omega⟩
theorem Ex.get {D : List Nat} {S S' : Store} (a : Ex D S S') {i : Nat} {o : SO} (e : S[i]? = some o) (n : i ∉ D) : S'[i]? = some o := by
 rw [a.2 i (List.getElem?_eq_some_iff.mp e).1 n]; exact e
theorem Ex.new (D : List Nat) (S : Store) (xs : List SO) : Ex D S (S ++ xs) := (Ex.refl D S).app xs
theorem at_new (S : Store) (o : SO) : (S ++ [o])[S.length]? = some o := by simp
theorem at_old {S : Store} {i : Nat} {o : SO} (e : S[i]? = some o) (xs : List SO) : (S ++ xs)[i]? = some o := by
 rw [List.getElem?_append_left (List.getElem?_eq_some_iff.mp e).1]; exact e
theorem at_set {S : Store} {i : Nat} {o : SO} (u : SO) (e : S[i]? = some o) : (S.set i u)[i]? = some u := List.getElem?_set_self (List.getElem?_eq_some_iff.mp e).1
theorem at_ne {S : Store} {i j : Nat} {o : SO} (u : SO) (e : S[i]? = some o) (h : j ≠ i) : (S.set j u)[i]? = some o := by rw [List.getElem?_set_ne h]; exact e
theorem lt_of_at {S : Store} {i : Nat} {o : SO} (e : S[i]? = some o) : i < S.length := (List.getElem?_eq_some_iff.mp e).1
theorem lst_at {S : Store} {n : Nat} {xs : List PV} (e : S[n]? = some (.lst xs)) : lstOf S n = some xs := by unfold lstOf; rw [e]
theorem seq_at {S : Store} {n : Nat} {xs : List PV} (e : S[n]? = some (.lst xs)) : seqOf S n = some xs := by unfold seqOf; rw [e]
theorem seq_new (S : Store) (xs : List PV) : seqOf (S ++ [.lst xs]) S.length = some xs := seq_at (at_new _ _)
theorem lst_new (S : Store) (xs : List PV) : lstOf (S ++ [.lst xs]) S.length = some xs := lst_at (at_new _ _)
theorem seqI {a b : WS} {D : PEnds} {E : EK} {σ : Ev.Loc} {S : Store} (h : ∀ K : Ev.Loc → Store → Prop, (∀ σ S, b D E σ S → K σ S) → a { D with nx := K } E σ S) : wSeq a b D E σ S := h _ fun _ _ z => z
theorem forI {chk : Store → Prop} {g : WG} {wb : WS} {D : PEnds} {E : EK} (P : List PV → Ev.Loc → Store → Prop) (hn : ∀ σ S, P [] σ S → chk S ∧ D.nx σ S)
  (hc : ∀ x r σ S, P (x :: r) σ S → ∀ N : Ev.Loc → Store → Prop, (∀ σ S, P r σ S → N σ S) → chk S ∧ g x σ S E fun σ2 S2 => wb { nx := N, rt := D.rt, ct := N, bk := D.nx } E σ2 S2) : ∀ (xs : List PV) (σ : Ev.Loc) (S : Store), P xs σ S → forGo chk g wb D E xs σ S
 | [], σ, S, h => hn σ S h
 | x :: r, σ, S, h => ⟨(hc x r σ S h (P r) fun _ _ z => z).1, P r, fun σ' S' q => forI P hn hc r σ' S' q, (hc x r σ S h (P r) fun _ _ z => z).2⟩
theorem compI {chk : Store → Prop} {g : WG} {wc : WT} {we : WE} {Q : VC} (P : List PV → List PV → Ev.Loc → Store → Prop) (hn : ∀ ys σ S, P [] ys σ S → chk S ∧ Q (.ref S.length) (S ++ [.lst ys]))
  (hc : ∀ x r ys σ S, P (x :: r) ys σ S → ∀ N : List PV → Ev.Loc → Store → Prop, (∀ ys σ S, P r ys σ S → N ys σ S) → chk S ∧ g x σ S NoX fun σ2 S2 => wc σ2 S2 NoX fun b S3 => if b = true then we σ2 S3 NoX (fun y S4 => N (ys ++ [y]) σ2 S4) else N ys σ2 S3) : ∀ (xs ys : List PV) (σ : Ev.Loc) (S : Store), P xs ys σ S → compGo chk g wc we Q xs ys σ S
 | [], ys, σ, S, h => hn ys σ S h
 | x :: r, ys, σ, S, h => ⟨(hc x r ys σ S h (P r) fun _ _ _ z => z).1, P r, fun ys' σ' S' q => compI P hn hc r ys' σ' S' q, (hc x r ys σ S h (P r) fun _ _ _ z => z).2⟩
theorem whileI {c : WT} {b : WS} {D : PEnds} {E : EK} {σ : Ev.Loc} {S : Store} (P : Nat → Ev.Loc → Store → Prop) (m : Nat) (h0 : P m σ S)
  (hs : ∀ m σ S, P m σ S → ∀ T F : Ev.Loc → Store → Prop, (∀ S1, (∀ N : Ev.Loc → Store → Prop, (∀ m' σ' S', m' < m → P m' σ' S' → N σ' S') → b { D with nx := N, ct := N, bk := D.nx } E σ S1) → T σ S1) → (∀ S1, D.nx σ S1 → F σ S1) → c σ S E fun bo S1 => if bo = true then T σ S1 else F σ S1) : wWhile c b D E σ S := by
 refine ⟨P, ⟨m, h0⟩, fun m σ S p => ?_⟩
 exact hs m σ S p (fun σ S1 => ∃ N : Ev.Loc → Store → Prop, (∀ σ' S', N σ' S' → ∃ m', m' < m ∧ P m' σ' S') ∧ b { D with nx := N, ct := N, bk := D.nx } E σ S1) D.nx (fun S1 h => ⟨fun σ' S' => ∃ m', m' < m ∧ P m' σ' S', fun σ' S' n => n, h _ fun m' σ' S' a b => ⟨m', a, b⟩⟩) fun S1 h => h
theorem kc_tuple : ("tuple" ∈ kindsC) = True := by simp [kindsC]
theorem kc_str : ("str" ∈ kindsC) = True := by simp [kindsC]
theorem kc_int : ("int" ∈ kindsC) = True := by simp [kindsC]
theorem kc_bool : ("bool" ∈ kindsC) = True := by simp [kindsC]
theorem it_NoneType_list : isT "NoneType" "list" = false := rfl
theorem it_NoneType_tuple : isT "NoneType" "tuple" = false := rfl
theorem it_NoneType_str : isT "NoneType" "str" = false := rfl
theorem it_NoneType_int : isT "NoneType" "int" = false := rfl
theorem it_NoneType_bool : isT "NoneType" "bool" = false := rfl
theorem it_bool_list : isT "bool" "list" = false := rfl
theorem it_bool_tuple : isT "bool" "tuple" = false := rfl
theorem it_bool_str : isT "bool" "str" = false := rfl
theorem it_bool_int : isT "bool" "int" = true := rfl
theorem it_bool_bool : isT "bool" "bool" = true := rfl
theorem it_int_list : isT "int" "list" = false := rfl
theorem it_int_tuple : isT "int" "tuple" = false := rfl
theorem it_int_str : isT "int" "str" = false := rfl
theorem it_int_int : isT "int" "int" = true := rfl
theorem it_int_bool : isT "int" "bool" = false := rfl
theorem it_str_list : isT "str" "list" = false := rfl
theorem it_str_tuple : isT "str" "tuple" = false := rfl
theorem it_str_str : isT "str" "str" = true := rfl
theorem it_str_int : isT "str" "int" = false := rfl
theorem it_str_bool : isT "str" "bool" = false := rfl
theorem it_tuple_list : isT "tuple" "list" = false := rfl
theorem it_tuple_tuple : isT "tuple" "tuple" = true := rfl
theorem it_tuple_str : isT "tuple" "str" = false := rfl
theorem it_tuple_int : isT "tuple" "int" = false := rfl
theorem it_tuple_bool : isT "tuple" "bool" = false := rfl
theorem it_list_list : isT "list" "list" = true := rfl
theorem it_list_tuple : isT "list" "tuple" = false := rfl
theorem it_list_str : isT "list" "str" = false := rfl
theorem it_list_int : isT "list" "int" = false := rfl
theorem it_list_bool : isT "list" "bool" = false := rfl
theorem nrf_non : nrf .non = true := rfl
theorem nrf_bl (b : Bool) : nrf (.bl b) = true := rfl
theorem nrf_int (b : Int) : nrf (.int b) = true := rfl
theorem nrf_str (b : Str) : nrf (.str b) = true := rfl
theorem nrf_tup (b : List PV) : nrf (.tup b) = nrfs b := by simp only [nrf]
theorem eqB_ii (a b : Int) : eqB (.int a) (.int b) = decide (a = b) := by simp only [eqB]; exact Bool.beq_eq_decide_eq a b
theorem eqB_ss (a b : Str) : eqB (.str a) (.str b) = decide (a = b) := by
 simp only [eqB]
 by_cases h : a = b
 ·subst h; simp
 ·rw [decide_eq_false h]; exact beq_eq_false_iff_ne.mpr h
theorem eqB_tt (a b : List PV) : eqB (.tup a) (.tup b) = eqBs a b := by simp only [eqB]
theorem okEq_str (a : Str) : okEq (.str a) = True := by simp [okEq, nrf, dep]
theorem okEqs_strs (l : List Str) : okEqs (l.map PV.str) := by
 refine ⟨?_, ?_⟩
 ·induction l with
  | nil => rfl
  | cons a r ih => simp only [List.map_cons, nrfs, nrf, ih, Bool.and_self]
 ·induction l with
  | nil => simp [deps]
  | cons a r ih => simp only [List.map_cons, deps, dep]; omega
theorem okEqs_nil : okEqs [] = True := by simp [okEqs, nrfs, deps]
theorem cEq_ii (a b : Int) (S : Store) (Q : VC) : cEq (.int a) (.int b) S Q = (Q (.bl (decide (a = b))) S) := by simp only [cEq, cEqG, nrf, eqB_ii, xor_f, xor_t, true_and, and_self]
theorem cEq_ss (a b : Str) (S : Store) (Q : VC) : cEq (.str a) (.str b) S Q = (Q (.bl (decide (a = b))) S) := by simp only [cEq, cEqG, nrf, eqB_ss, xor_f, xor_t, true_and, and_self]
theorem cEq_tt (a b : List PV) (S : Store) (Q : VC) : cEq (.tup a) (.tup b) S Q = ((okEq (.tup a) ∧ okEq (.tup b)) ∧ Q (.bl (eqBs a b)) S) := by simp only [cEq, cEqG, xor_f, xor_t]
theorem cNe_ii (a b : Int) (S : Store) (Q : VC) : cNe (.int a) (.int b) S Q = (Q (.bl (!decide (a = b))) S) := by simp only [cNe, cEqG, nrf, eqB_ii, xor_f, xor_t, true_and, and_self]
theorem cNe_rr (m n : Nat) (S : Store) (Q : VC) : cNe (.ref m) (.ref n) S Q = (match seqOf S m, seqOf S n with
  | some xs, some ys => (okEqs xs ∧ okEqs ys) ∧ Q (.bl (!eqBs xs ys)) S
  | _, _ => False) := by simp only [cNe, cEqG, xor_f, xor_t]; try rfl
theorem cIn_t (x : PV) (b : List PV) (S : Store) (Q : VC) : cIn x (.tup b) S Q = ((okEq x ∧ okEqs b) ∧ Q (.bl (b.any fun y => eqB y x)) S) := by cases x <;> simp only [cIn, cInG, xor_f, xor_t]
theorem cIn_r (x : PV) (n : Nat) (S : Store) (Q : VC) : cIn x (.ref n) S Q = (match seqOf S n with
  | some ys => (okEq x ∧ okEqs ys) ∧ Q (.bl (ys.any fun y => eqB y x)) S
  | none => False) := by cases x <;> (simp only [cIn, cInG, xor_f, xor_t]; try rfl)
theorem cNotIn_r (x : PV) (n : Nat) (S : Store) (Q : VC) : cNotIn x (.ref n) S Q = (match seqOf S n with
  | some ys => (okEq x ∧ okEqs ys) ∧ Q (.bl (!ys.any fun y => eqB y x)) S
  | none => False) := by cases x <;> (simp only [cNotIn, cInG, xor_f, xor_t]; try rfl)
theorem big {n : Nat} (h : n ≤ 1000000) : n ≤ sizeLine := Nat.le_trans h (by decide)
theorem bigl {n : Nat} (h : n ≤ 1000000) : n < sizeLine := Nat.lt_of_le_of_lt h (by decide)
end My
namespace Ev
open PySem PySem.Spec PyProof.Rows L2
section
variable {X : Cx} {G : GX} {pos : Pos}
end
end Ev
namespace Ev
open PySem PySem.Spec PyProof.Rows L2
section
variable {X : Cx} {G : GX} {pos : Pos}
noncomputable def Itv (K : PySem.W.Frag) (a : Addr) (n : Nat) : It :=
 ⟨fun i H => ∃ xs x, SqL K H a xs ∧ i < n ∧ xs[n - 1 - i]? = some x, fun i H x H' => H' = H ∧ ∀ xs, SqL K H a xs → xs[n - 1 - i]? = some x, fun i _ => n ≤ i⟩
theorem turn_rev {P : Program} {w : World} {K : PySem.W.Frag} {tg : Expr} (a it : Addr) (n : Nat) : Turn P w K tg (Itv K a n) [it] it (fun i h => i ≤ n ∧ h.IsRevIter it a ((n : Int) - 1 - i)) where
 mem := by simp
 obj := fun i h st b hb => by
  have e : b = it := by simpa using hb
  subst e
  obtain ⟨_, o, e, c, d⟩ := st
  exact ⟨o, e, fun v z => by rw [d] at z; cases z⟩
 keep := fun i h h' st k => ⟨st.1, st.2.at fun o e => k it (by simp) o e⟩
 item := by
  intro X hP hw hK hc i pins s σ H E I hf st hg
  subst hP hw hK
  obtain ⟨xs, x, hq, hi, hx⟩ := hg
  obtain ⟨its, rv, p, hz⟩ := I.list hq
  obtain ⟨u, hu, ru⟩ := rv.get hx
  obtain ⟨f0, f1, f2, f3, f4, f5⟩ := hf it (by simp)
  have st2 := st.2
  rw [show (n : Int) - 1 - i = ((n - 1 - i : Nat) : Int) by omega] at st2
  refine wpAny_pyNext_rev_item st2 p.isList (x := u) (by simpa using hu) fun h' st' sb => ?_
  have I1 : Inv X pins σ H { s with heap := h' } := I.turned (t' := s.toks) (fun b o hb e => (sb.2 b hb).trans e) f0 f1 f3 f4 f5
  rw [show ((n - 1 - i : Nat) : Int) - 1 = (n : Int) - 1 - ((i + 1 : Nat) : Int) by omega] at st'
  obtain ⟨o, e, c, d⟩ := id st'
  exact ⟨u, rfl, go_of (s := { s with heap := h' }) e c d (by decide) ⟨x, H, I1, ru, ⟨rfl, fun ys hy => by rw [I.list_inj hy hq]; exact hx⟩, ⟨hi, st'⟩, fun b hb => (hf b hb).1⟩⟩
 done := by
  intro X hP hw hK hc i pins s σ H E I hf st hg
  subst hP hw hK
  obtain ⟨f0, f1, f2, f3, f4, f5⟩ := hf it (by simp)
  have hg : n ≤ i := hg
  have st2 := st.2
  have h1 := st.1
  rw [show (n : Int) - 1 - i = -1 by omega] at st2
  exact wpAny_pyNext_rev_end (I.ok.hd hc) st2 fun h' eb => ⟨rfl, I.turned (t' := s.toks) (fun b o hb e => eb b o hb e) f0 f1 f3 f4 f5⟩
 self := fun _ _ _ _ _ st h => wpAny_pyIter_revIter st.2 h
noncomputable def iRev (K : PySem.W.Frag) (tl : TE) : TI := fun σ H R => tl σ H fun x H1 => ∃ a xs, x = .ref a ∧ SqL K H1 a xs ∧ R (Itv K a xs.length) H1
theorem boot_rev : bootBuiltins (Str.ofString "reversed") = some (.type "reversed") := by with_unfolding_all rfl
theorem pi_rev {tg l : Expr} {tl : TE} {p : Pos} (hl : PE X l tl) (hm : X.mg "reversed" = none) (hg : Gl X "reversed" := by rfl) (he : starEach [l] X.env = (false, eval l X.env) :: starEach [] X.env := by rfl) : PI X tg (.Call (.Name "reversed" p) [l] [] pos) (iRev X.K tl) := by
 intro pins s σ H R I h
 refine wpAny_Call_Name_kw (ld_blt I hg hm boot_rev ?_)
 refine PyProof.Rows.callWith_type1 ?_ he rfl
 rw [he]
 show wpAny _ _ (spliced ((false, eval l X.env) :: backTo pos (starEach [] X.env))) _ _ s
 refine Calls.spliced_cons (thn (hl pins s σ H _ I h) ?_)
 rintro v s1 ⟨x, H1, I1, r1, a, xs, rfl, hq, q⟩
 refine Calls.spliced_nil ?_
 cases r1
 obtain ⟨its, rv, p, hz⟩ := I1.list hq
 refine call_reversed_list p.isList ?_
 have e0 : (its.toArray.size : Int) - 1 = (xs.length : Int) - 1 - ((0 : Nat) : Int) := by have := rv.length; simp; omega
 refine wpAny_pyIter_revIter (l := a) (i := (its.toArray.size : Int) - 1) ⟨_, Heap.get?_push_size _ rfl, rfl, rfl⟩ ?_
 refine ⟨s1.heap.objs.size, [s1.heap.objs.size], _, _, H1, rfl, I1.kept (t' := s1.toks) fun b o e => Heap.get?_push_of_some _ e, turn_rev a _ xs.length, ⟨Nat.zero_le _, _, Heap.get?_push_size _ rfl, rfl, by rw [e0]; rfl⟩, fun b hb => ?_, q⟩
 have e : b = s1.heap.objs.size := by simpa using hb
 subst e
 exact I1.fpOk (Nat.le_refl _) (I1.hok.fresh (Nat.le_refl _))
theorem itr_rev {K : PySem.W.Frag} {φ : List Addr} {H : Hp} {n k : Nat} {a : Addr} {xs : List PV} (qa : φ[n]? = some a) (hk : k = xs.length) : ItR K φ H (Itv K a k) ⟨xs.reverse, fun S => seqOf S n = some xs⟩ where
 go := fun φ1 H1 S1 p m R e i x hx => by
  subst hk
  obtain ⟨vs, sa, ra⟩ := R.seq (pre_get p qa) e
  have hi : i < xs.length := by have := (List.getElem?_eq_some_iff.mp hx).1; simpa using this
  have hx' : xs[xs.length - 1 - i]? = some x := by rw [← List.getElem?_reverse hi]; exact hx
  obtain ⟨y, ey, ry⟩ := ra.get hx'
  refine ⟨⟨vs, y, sa, hi, ey⟩, fun y' H' hh1 => ?_⟩
  obtain ⟨e1, e2⟩ := hh1
  subst e1
  have := e2 vs sa
  rw [ey] at this
  cases this
  exact ⟨φ1, List.prefix_refl _, .refl _, R, ry⟩
 stop := fun φ1 H1 S1 p m R e i hi => by
  subst hk
  have : xs.reverse.length ≤ i := hi
  rw [List.length_reverse] at this
  exact this
noncomputable def wiRev (w : WE) : WI := fun σ S E Q => w σ S E fun x S1 => match x with
 | .ref n => match seqOf S1 n with
  | some xs => Q ⟨xs.reverse, fun S => seqOf S n = some xs⟩ S1
  | none => False
 | _ => False
theorem simI_rev {tg l : Expr} {w : WE} {p : Pos} (hm : X.mg "reversed" = none) (hl : SimE X G l w) (hg : Gl X "reversed" := by rfl) (he : starEach [l] X.env = (false, eval l X.env) :: starEach [] X.env := by rfl) : SimI X G tg (.Call (.Name "reversed" p) [l] [] pos) (wiRev w) :=
 PI.imp (pi_rev hl hm hg he) fun σV H Q hh1 => by obtain ⟨φ, σ, S, Q0, L, R, h, k⟩ := hh1; exact (⟨φ, σ, S, _, L, R, h, fun v S1 φ1 H1 x q p1 m1 R1 r1 => by
  split at q
  ·rename_i n
   split at q
   ·rename_i xs e
    obtain ⟨a, rfl, qa⟩ := r1
    obtain ⟨vs, sa, ra⟩ := R1.seq qa e
    exact ⟨a, vs, rfl, sa, k _ S1 φ1 H1 _ q p1 m1 R1 (itr_rev qa ra.length.symm)⟩
   ·exact q.elim
  ·exact q.elim⟩)
end
end Ev
namespace Ev
open PySem PySem.Spec PyProof.Rows L2
section
variable {X : Cx} {G : GX} {pos : Pos}
end
end Ev
namespace My
open PySem L2 Ev
theorem ix_t (xs : List PV) (i : Int) (S : Store) (Q : VC) : bIx (.tup xs) (.int i) S Q = match atI xs i with
  | some v => Q v S
  | none => False := rfl
theorem ix_s (z : Str) (i : Int) (S : Store) (Q : VC) : bIx (.str z) (.int i) S Q = (z.length ≤ sizeLine ∧ match atI z.cps.toList i with
  | some c => Q (.str ⟨#[c]⟩) S
  | none => False) := rfl
theorem ix_f (xs : List PV) (i : Int) (S : Store) (Q : VC) : bIx (.frl xs) (.int i) S Q = match atI xs i with
  | some v => Q v S
  | none => False := rfl
theorem ix_r (n : Nat) (y : PV) (S : Store) (Q : VC) : bIx (.ref n) y S Q = match S[n]? with
  | some (.lst xs) => match y with
   | .int i => match atI xs i with
    | some v => Q v S
    | none => False
   | _ => False
  | some (.dK kvs) => match keyOf y with
   | some k => match valP kvs k with
    | some v => Q v S
    | none => False
   | none => False
  | _ => False := rfl
theorem compEnd {chk : Store → Prop} {g : WG} {wc : WT} {we : WE} {Q : VC} {ys : List PV} {σ : Ev.Loc} {S : Store} (h1 : chk S) (h : Q (.ref S.length) (S ++ [.lst ys])) : compGo chk g wc we Q [] ys σ S := ⟨h1, h⟩
theorem compStepT {chk : Store → Prop} {g : WG} {we : WE} {Q : VC} {x : PV} {r ys : List PV} {σ : Ev.Loc} {S : Store} (h1 : chk S)
  (h : ∀ N : List PV → Ev.Loc → Store → Prop, (∀ ys σ S, compGo chk g wtTrue we Q r ys σ S → N ys σ S) → g x σ S NoX fun σ2 S2 => we σ2 S2 NoX (fun y S4 => N (ys ++ [y]) σ2 S4)) : compGo chk g wtTrue we Q (x :: r) ys σ S :=
 ⟨h1, _, fun _ _ _ z => z, h _ fun _ _ _ z => z⟩
end My
namespace L2
open PySem PySem.Spec PyProof.Rows
noncomputable def Cx.nx (X : Cx) : Cx := { X with xe := fun _ _ => False }
noncomputable def Cx.hd (X : Cx) (e : Addr) : Cx := { X with A := X.A.mark (some (.ref e)), calm := false, xe := fun _ _ => False }
section
variable {X : Cx} {pins : List (Addr × Obj)} {σ : St} {H H' : Hp} {s : Shared}
theorem Inv.nx (I : Inv X pins σ H s) : Inv X.nx pins σ H s :=
 ⟨⟨I.ok.mod, I.ok.kind, I.ok.glob, I.ok.blt, I.ok.above, I.ok.inj, I.ok.has, I.ok.cab, I.ok.hd, I.ok.frames, I.ok.stk, I.ok.exf, I.ok.bs, I.ok.bsz, I.ok.noex, I.ok.exfs, I.ok.funs, I.ok.frf⟩, I.os, I.bare, I.base, I.loc, I.cell, I.free, I.freeC, I.pin, I.hok, I.len⟩
theorem Inv.hd {e : Addr} (I : Inv X pins σ H s) : Inv (X.hd e) pins σ H s :=
 ⟨⟨I.ok.mod, I.ok.kind, I.ok.glob, I.ok.blt, I.ok.above, I.ok.inj, I.ok.has, I.ok.cab, fun z => (Bool.false_ne_true z).elim, I.ok.frames, I.ok.stk, I.ok.exf, I.ok.bs, I.ok.bsz, I.ok.noex, I.ok.exfs, I.ok.funs, I.ok.frf⟩, I.os, I.bare, I.base, I.loc, I.cell, I.free, I.freeC, I.pin, I.hok, I.len⟩
theorem SP.imp {Y : Cx} {D : Ends} {f : Flow} (i : ∀ σ H s, Inv Y pins σ H s → Inv X pins σ H s) (h : SP Y pins D f s) : SP X pins D f s := by
 unfold SP at *
 cases f with
 | next => obtain ⟨a, b, c, d⟩ := h; exact ⟨a, b, i _ _ _ c, d⟩
 | brk => obtain ⟨a, b, c, d⟩ := h; exact ⟨a, b, i _ _ _ c, d⟩
 | cont => obtain ⟨a, b, c, d⟩ := h; exact ⟨a, b, i _ _ _ c, d⟩
 | ret u => obtain ⟨v, a, b, c, d⟩ := h; exact ⟨v, a, b, i _ _ _ c, d⟩
end
noncomputable def EXE (X : Cx) (pins : List (Addr × Obj)) (σ : St) (E : XK) : Value → Shared → Prop := fun e s' => ∃ H1 s1, Inv X pins σ H1 s1 ∧ CXE X.prog X.w X.stack H1 s1 E e s'
noncomputable abbrev TEX := St → Hp → VK → XK → Prop
noncomputable def PEX (X : Cx) (e : Expr) (t : TEX) : Prop :=
 ∀ (pins : List (Addr × Obj)) (s : Shared) (σ : St) (H : Hp) (Q : VK) (E : XK), Inv X pins σ H s → t σ H Q E → wpAny (model X.prog X.w) X.A (eval e X.env) (EP X pins σ Q) (EXE X pins σ E) s
noncomputable abbrev XC := Value → St → Hp → Prop
noncomputable abbrev TSX := Ends → XC → St → Hp → Prop
noncomputable def XEnd (X : Cx) (pins : List (Addr × Obj)) (E : XC) : Value → Shared → Prop := fun e s' => ∃ σ, EXE X pins σ (fun cls _ H' => E cls σ H') e s'
noncomputable def PSX (X : Cx) (st : Stmt) (t : TSX) : Prop :=
 ∀ (pins : List (Addr × Obj)) (s : Shared) (σ : St) (H : Hp) (D : Ends) (E : XC), Inv X pins σ H s → t D E σ H → wpAny (model X.prog X.w) X.A (exec st X.env) (SP X pins D) (XEnd X pins E) s
noncomputable def PSXs (X : Cx) (st : List Stmt) (t : TSX) : Prop :=
 ∀ (pins : List (Addr × Obj)) (s : Shared) (σ : St) (H : Hp) (D : Ends) (E : XC), Inv X pins σ H s → t D E σ H → wpAny (model X.prog X.w) X.A (execs st X.env) (SP X pins D) (XEnd X pins E) s
section
variable {X : Cx} {k : Nat} {f : Addr} {fd : FuncData} {ps : List Str} {sp : Sp} {dvs : List V} {ds : List Value} {x : Str} {p pos : Pos} {e : Expr} {es : List Expr} {t : TA}
end
section
variable {X : Cx} {e : Expr} {te : TEX} {pos : Pos}
end
end L2
namespace L2
open PySem PySem.Spec PyProof.Rows
section
variable {X : Cx} {pins : List (Addr × Obj)} {σ : St} {H H' : Hp} {s : Shared}
theorem Inv.gone {i : Nat} {x : Str} {h' : Heap} {t' : Nat} {m : Str → Option Value} {v : Option Value} (I : Inv X pins σ H s) (hN : X.N.Nodup) (hi : X.N[i]? = some x) (hm : s.heap.Ns X.env.locals m) (hn' : h'.Ns X.env.locals (fun y => if y = x then v else m y)) (hs : Heap.SameBut X.env.locals s.heap h') :
  Inv X pins (σ.set i none) H { s with heap := h', toks := t' } := by
 obtain ⟨m0, hn, hl⟩ := id I.loc
 have em : m0 = m := by rw [hn.eq_nsMap, hm.eq_nsMap]
 subst em
 have cne := I.cne
 have tracked : HOk X.prog X.w H h' := fun b ob e => by
  refine (I.hok b ob e).stay (fun c w' hc q => (hs.2 c ?_).trans q) (fun _ q => q) fun _ _ q => q
  rintro rfl
  rcases hc with rfl | hc
  ·rw [I.free] at e; cases e
  ·rw [I.free] at hc; cases hc
 refine ⟨I.ok, I.os, I.bare, ⟨fun b o e n hb hx => ?_, fun b o e n hb hx => ?_, I.base.free, fun b o e hx => ?_, I.base.tups, I.base.frzs, I.base.tbls⟩, ⟨_, hn', fun j y v' e1 e2 e3 => ?_⟩, fun y c e => ?_, I.free, I.freeC, fun p hp => ?_, tracked, by simpa using I.len⟩
 ·exact (hs.2 b (Nat.ne_of_lt (Nat.lt_of_lt_of_le (Heap.lt_size e) I.ok.above))).trans (I.base.keep b o e n hb hx)
 ·obtain ⟨sl, e1⟩ := I.base.slot b o e n hb hx
  exact ⟨sl, (hs.2 b (Nat.ne_of_lt (Nat.lt_of_lt_of_le (Heap.lt_size e) I.ok.above))).trans e1⟩
 ·obtain ⟨o', e1⟩ := I.base.there b o e hx
  exact ⟨o', (hs.2 b (Nat.ne_of_lt (Nat.lt_of_lt_of_le (Heap.lt_size e) I.ok.above))).trans e1⟩
 ·have hj : j ≠ i := by
   rintro rfl
   by_cases hlt : j < σ.length
   ·rw [List.getElem?_set_self hlt] at e2; cases e2
   ·rw [List.getElem?_eq_none (by simpa using hlt)] at e2; cases e2
  rw [List.getElem?_set_ne (Ne.symm hj)] at e2
  obtain ⟨u', r', q⟩ := hl j y v' e1 e2 e3
  refine ⟨u', r', ?_⟩
  rcases q with ⟨k, e⟩ | ⟨k, c, e, z⟩
  ·refine .inl ⟨k, ?_⟩
   have : y ≠ x := fun e => hj (nodup_ix hN e1 (e ▸ hi))
   simp [this, e]
  ·exact .inr ⟨k, c, e, z.sameBut hs (cne y c e)⟩
 ·obtain ⟨w', z⟩ := I.cell y c e
  exact ⟨w', z.sameBut hs (cne y c e)⟩
 ·obtain ⟨e, n, ne, nf, d⟩ := I.pin p hp
  exact ⟨(hs.2 p.1 ne).trans e, n, ne, nf, d⟩
theorem ns_slots {h h' : Heap} {L : Addr} {m : Str → Option Value} (hn : h.Ns L m) (k : ∀ o, h.get? L = some o → ∃ sl, h'.get? L = some { o with slots := sl }) : h'.Ns L m := by
 obtain ⟨o, es, ep, ho, r⟩ := hn
 obtain ⟨sl, e⟩ := k o ho
 exact ⟨_, es, ep, e, r⟩
theorem Inv.past {h' : Heap} {own : List Addr} (I : Inv X pins σ H s) (hst : X.stack = X.env :: X.outer) (hf : X.env.frame = some X.env.locals) (nw : ∀ b ∈ own, ((b ∈ X.ex ∨ X.s₀.heap.get? b = none) ∧ b ≠ X.env.locals ∧ (∀ x c, X.env.cells.lookup x = some c → c ≠ b) ∧ ∀ p ∈ X.pn ++ pins, p.1 ≠ b) ∧ H b = none)
  (p : Past (frs X.stack) own s.heap h') : Inv X pins σ H { s with heap := h' } := by
 have efs : frs X.stack = X.env.locals :: X.fs := by rw [hst]; show frs (X.env :: X.outer) = _; unfold frs; rw [List.filterMap_cons, hf]; rfl
 refine I.stepX (ch := own) (g' := s.gens) (d' := s.drawn) (t' := s.toks) (fun b hb => (nw b hb).1) (fun b o n1 n2 n3 e _ => ?_) (fun b o n1 n2 n3 e _ => ?_) (fun b o _ _ z => z) (fun b o _ e => p.there b o e) (fun b xs z => z) (fun b o u z => z) (fun b ps z => ⟨#[], by rw [Array.append_empty]; exact z⟩) (fun m hn => ?_) (HOk.past I.hok p I.stkFree fun b hb => (nw b hb).2) I.bare
 ·exact p.keep b o e n3 (by rw [efs]; exact fun z => (List.mem_cons.mp z).elim n1 n2)
 ·exact p.slot b o e n3 (by rw [efs]; exact List.mem_cons_of_mem _ n2)
 ·refine ns_slots hn fun o ho => p.slot _ o ho (fun z => (nw _ z).1.2.1 rfl) (by rw [efs]; exact List.mem_cons_self)
end
noncomputable def ExcRec (a : Addr) (cls : Value) (h : Heap) : Prop := ∃ o vs, h.get? a = some o ∧ o.cls = cls ∧ o.data = .fields vs
theorem ExcRec.ok {P : Program} {w : World} {H : Hp} {a T : Addr} {cls : Value} {h : Heap} (F : Fly a cls [T] h) : ObjOk P w H h a (.ext (ExcRec a cls)) := by
 obtain ⟨oe, vs, hd, he, hc, hdt, h1, hh⟩ := F.is
 refine ⟨⟨oe, vs, he, hc, hdt⟩, ⟨oe, he⟩, fun h1 h2 hh1 k => by obtain ⟨o, vs, q, c, d⟩ := hh1; exact (⟨o, vs, k o q, c, d⟩)⟩
section
variable {X : Cx} {i : Nat} {y n : Str} {yp hpos pos : Pos} {cv : Value} {body suite : List Stmt} {b₀ : Stmt} {tb : TSX} {ts : TS}
end
end L2
namespace L2
open PySem PySem.Spec PyProof.Rows
end L2
namespace L2
open PySem PySem.Spec PySem.W PySem.Calls PyProof.Rows Builtin Builtin.ObjectAttr Builtin.Getset_descriptor
structure ExcK (K : Frag) (D : Addr) : Prop where
 c : (clsIn K D).isSome = true
 ga : findIn K (.ref D) "__getattribute__" = some (some (.builtin "BaseException.__getattribute__"))
 nga : findIn K (.ref D) "__getattr__" = some none
 cl : findIn K (.ref D) "__class__" = some (some (.builtin "object.__class__"))
 gt : specialIn K (.builtin "object.__class__") "__get__" = some (some (.builtin "getset_descriptor.__get__"))
 tk : takesIn K (.builtin "object.__class__") = some true
 mo : mroIn K D (.type "object") = some true
 mb : mroIn K D (.type "BaseException") = some true
section
variable {K : Frag} {D x : Addr} {prog : Program} {w : World} {A : Around} {E : Value → Shared → Prop} {s : Shared}
end
end L2
namespace Ev
open PySem L2 PySem.Spec PyProof.Rows
structure ExcC (K : PySem.W.Frag) (mg : Str → Option Value) (c : String) : Prop where
 is : ∃ C, PySem.W.nsIn K mainGlobals (Str.ofString c) = some (some (.ref C)) ∧ mg (Str.ofString c) = some (.ref C) ∧ PySem.W.excIn K C vErr "ValueError.__new__" = true
noncomputable def wRaise (c : String) (wa : WA) : WS := fun _ E σ S => wa σ S E fun xs S1 => xs.length ≤ sizeLine ∧ E (.exc c) S1
section
variable {X : Cx} {G : GX} {pos : Pos}
theorem sim_raise {c : String} {x : Str} {np cpos : Pos} {e0 : Expr} {wa : WA} (C : ExcC X.K X.mg c) (hx : Passes (CXE X.prog X.w) X (xkOf X.K G.xh)) (hc : X.calm = true) (ha : SimA X G [e0] wa) (ex : x = Str.ofString c := by rfl) (hg : Gl X x := by rfl)
  (hd : (x == ("__debug__" : Str)) = false := by decide) (he : starEach [e0] X.env = (false, eval e0 X.env) :: starEach [] X.env := by rfl) : SimS X G (.Raise (some (.Call (.Name x np) [e0] [] cpos)) none pos) (wRaise c wa) := by
 obtain ⟨C, h1, h2, h3⟩ := C.is
 subst ex
 exact (ps_raise hx hc hg h2 h3 ha hd he).imp fun D σV H hh1 => by obtain ⟨φ, σ, S, D0, L, R, h, k⟩ := hh1; exact (⟨φ, σ, S, _, L, R, h, fun v S1 φ1 H1 x hh2 p1 m1 R1 r1 => by obtain ⟨hl, q⟩ := hh2; exact (⟨by rw [← r1.length]; exact hl, .exc c, ⟨c, C, rfl, rfl, h1⟩, (L.mono m1 p1).kx _ S1 φ1 H1 q (List.prefix_refl _) (.refl _) R1⟩)⟩)
end
noncomputable abbrev XEK := PV → Loc → Store → Prop
noncomputable def KXS (K : PySem.W.Frag) (G : GX) (φ : List Addr) (H : Hp) (E0 : XEK) (E : XC) : Prop := ∀ v σ' S' φ' H' σV' cls, E0 v σ' S' → φ <+: φ' → Mono H H' → Rel K φ' S' H' → LRel K G H' φ' σ' σV' → ClsP K v cls → E cls σV' H'
theorem KXS.up {K : PySem.W.Frag} {G : GX} {φ φ1 : List Addr} {H H1 : Hp} {E0 : XEK} {E : XC} (k : KXS K G φ H E0 E) (p : φ <+: φ1) (m : Mono H H1) : KXS K G φ1 H1 E0 E := fun v σ' S' φ' H' σV' cls q p' m' => k v σ' S' φ' H' σV' cls q (p.trans p') (m.trans m')
theorem _root_.L2.PEX.imp {X : Cx} {e : Expr} {t t' : TEX} (h : PEX X e t) (i : ∀ σ H Q E, t' σ H Q E → t σ H Q E) : PEX X e t' := fun pins s σ H Q E I q => h pins s σ H Q E I (i σ H Q E q)
theorem _root_.L2.PSX.imp {X : Cx} {e : Stmt} {t t' : TSX} (h : PSX X e t) (i : ∀ D E σ H, t' D E σ H → t D E σ H) : PSX X e t' := fun pins s σ H D E I q => h pins s σ H D E I (i D E σ H q)
theorem _root_.L2.PSXs.imp {X : Cx} {e : List Stmt} {t t' : TSX} (h : PSXs X e t) (i : ∀ D E σ H, t' D E σ H → t D E σ H) : PSXs X e t' := fun pins s σ H D E I q => h pins s σ H D E I (i D E σ H q)
section
variable {X : Cx} {G : GX} {pos : Pos}
end
structure Cau (K : PySem.W.Frag) (mg : Str → Option Value) (y : Str) (cs : List String) : Prop where
 is : ∃ cv, mg y = some cv ∧ ∀ c ∈ cs, ∃ C, PySem.W.nsIn K mainGlobals (Str.ofString c) = some (some (.ref C)) ∧ PySem.W.exmOne K (.ref C) cv = some true
section
variable {X : Cx} {G : GX} {pos : Pos}
end
end Ev
namespace Ev
open PySem L2 PySem.Spec PyProof.Rows
noncomputable def cV : V → Value
 | .ref a => .ref a
 | .ty T => .type T
 | _ => .none
noncomputable def IsCV (v : V) : Prop := (∃ a, v = .ref a) ∨ ∃ T, v = .ty T
theorem IsCV.eq {v : V} {u : Value} (h : IsCV v) (r : RelV v u) : u = cV v := by
 rcases h with ⟨a, rfl⟩ | ⟨T, rfl⟩
 ·exact r
 ·exact r
noncomputable def NameV (X : Cx) (y : Str) (v : V) : Prop := IsCV v ∧ ∃ u, RelV v u ∧ ((X.mg y = some u) ∨ (X.mg y = none ∧ bootBuiltins y = some u ∧ y ≠ "__name__"))
section
variable {X : Cx} {G : GX} {pos : Pos}
theorem pe_cls {y : Str} {v : V} (h : NameV X y v) (hg : Gl X y) (hd : (y == ("__debug__" : Str)) = false) : PE X (.Name y pos) (tC v) := by
 obtain ⟨_, u, r, h | ⟨h1, h2, h3⟩⟩ := h
 ·exact pe_glob hg h r hd
 ·exact pe_bltn hg h1 h2 r h3 hd
noncomputable def tList (vs : List V) : TA := fun _ H Q => Q vs H
inductive Names (X : Cx) : List Expr → List V → Prop
 | nil : Names X [] []
 | cons {y : Str} {p : Pos} {v : V} {es : List Expr} {vs : List V} (h : NameV X y v) (hg : Gl X y) (hd : (y == ("__debug__" : Str)) = false) (r : Names X es vs) : Names X (.Name y p :: es) (v :: vs)
theorem Names.pa {es : List Expr} {vs : List V} (h : Names X es vs) : PA X es (tList vs) := by
 induction h with
 | nil => exact pa_nil
 | cons h hg hd r ih => exact pa_cons (pe_cls h hg hd) ih
theorem Names.cv {es : List Expr} {vs : List V} (h : Names X es vs) : ∀ v ∈ vs, IsCV v := by
 induction h with
 | nil => simp
 | cons h hg hd r ih => intro v hv; rcases List.mem_cons.mp hv with rfl | hv; exact h.1; exact ih v hv
noncomputable def ExcH (H : Hp) (a C : Addr) : Prop := ∃ f : Heap → Prop, H a = some (.ext f) ∧ ∀ h, f h → ∃ o, h.get? a = some o ∧ o.cls = .ref C
structure TabX1 (K : PySem.W.Frag) (cv : Value) (tab : List (String × Bool)) : Prop where
 is : ∀ c b, tab.lookup c = some b → ∃ C, PySem.W.nsIn K mainGlobals (Str.ofString c) = some (some (.ref C)) ∧ ExcK K C ∧ PySem.W.kitOne K (.ref C) cv = some b
structure TabXT (K : PySem.W.Frag) (cvs : List Value) (tab : List (String × Bool)) : Prop where
 is : ∀ c b, tab.lookup c = some b → ∃ C, PySem.W.nsIn K mainGlobals (Str.ofString c) = some (some (.ref C)) ∧ ExcK K C ∧ PySem.W.kitAny K (.ref C) cvs = some b
theorem ExcH.upd {H : Hp} {a C p : Addr} {o : HO} (x : ExcH H a C) (hp : H p = none) : ExcH (upd H p o) a C := by
 obtain ⟨f, e, k⟩ := x
 exact ⟨f, by rw [upd_ne (fun z => by subst z; rw [hp] at e; cases e)]; exact e, k⟩
end
noncomputable def YV (mg : Str → Option Value) (y : Str) (v : V) : Prop := IsCV v ∧ ∃ u, RelV v u ∧ ((mg y = some u) ∨ (mg y = none ∧ bootBuiltins y = some u ∧ y ≠ "__name__"))
theorem YV.own {mg : Str → Option Value} {y : Str} {C : Addr} (h : mg y = some (.ref C)) : YV mg y (.ref C) := ⟨.inl ⟨C, rfl⟩, _, rfl, .inl h⟩
theorem YV.ty {mg : Str → Option Value} {y : Str} {T : String} (h : mg y = none) (b : bootBuiltins y = some (.type T)) (n : y ≠ "__name__" := by decide) : YV mg y (.ty T) := ⟨.inr ⟨T, rfl⟩, _, rfl, .inr ⟨h, b, n⟩⟩
structure HIs1 (K : PySem.W.Frag) (mg : Str → Option Value) (y : Str) (tab : List (String × Bool)) : Prop where
 is : ∃ v, YV mg y v ∧ TabX1 K (cV v) tab
noncomputable def NamesM (mg : Str → Option Value) : List Str → List V → Prop
 | [], [] => True
 | y :: ys, v :: vs => YV mg y v ∧ NamesM mg ys vs
 | _, _ => False
structure HIsT (K : PySem.W.Frag) (mg : Str → Option Value) (ys : List Str) (tab : List (String × Bool)) : Prop where
 is : ∃ vs, NamesM mg ys vs ∧ TabXT K (vs.map cV) tab
theorem TabX1.nil {K : PySem.W.Frag} {cv : Value} : TabX1 K cv [] := ⟨fun _ _ h => by cases h⟩
theorem TabX1.cons {K : PySem.W.Frag} {cv : Value} {c : String} {C : Addr} {b : Bool} {tab : List (String × Bool)} (h : PySem.W.nsIn K mainGlobals (Str.ofString c) = some (some (.ref C))) (k : ExcK K C) (e : PySem.W.kitOne K (.ref C) cv = some b) (r : TabX1 K cv tab) : TabX1 K cv ((c, b) :: tab) := ⟨fun c' b' q => by
 rw [List.lookup_cons] at q
 split at q
 ·rename_i z
  have z := eq_of_beq z
  subst z
  cases q
  exact ⟨C, h, k, e⟩
 ·exact r.is c' b' q⟩
theorem TabXT.nil {K : PySem.W.Frag} {cv : List Value} : TabXT K cv [] := ⟨fun _ _ h => by cases h⟩
theorem TabXT.cons {K : PySem.W.Frag} {cv : List Value} {c : String} {C : Addr} {b : Bool} {tab : List (String × Bool)} (h : PySem.W.nsIn K mainGlobals (Str.ofString c) = some (some (.ref C))) (k : ExcK K C) (e : PySem.W.kitAny K (.ref C) cv = some b) (r : TabXT K cv tab) : TabXT K cv ((c, b) :: tab) := ⟨fun c' b' q => by
 rw [List.lookup_cons] at q
 split at q
 ·rename_i z
  have z := eq_of_beq z
  subst z
  cases q
  exact ⟨C, h, k, e⟩
 ·exact r.is c' b' q⟩
noncomputable def CauL (K : PySem.W.Frag) (cv : Value) (cs : List String) : Prop := ∀ c ∈ cs, ∃ C, PySem.W.nsIn K mainGlobals (Str.ofString c) = some (some (.ref C)) ∧ PySem.W.exmOne K (.ref C) cv = some true
theorem CauL.nil {K : PySem.W.Frag} {cv : Value} : CauL K cv [] := fun _ h => by cases h
theorem CauL.cons {K : PySem.W.Frag} {cv : Value} {c : String} {C : Addr} {cs : List String} (h : PySem.W.nsIn K mainGlobals (Str.ofString c) = some (some (.ref C))) (e : PySem.W.exmOne K (.ref C) cv = some true) (r : CauL K cv cs) : CauL K cv (c :: cs) := fun c' hc => by
 rcases List.mem_cons.mp hc with rfl | hc
 ·exact ⟨C, h, e⟩
 ·exact r c' hc
section
variable {X : Cx} {G : GX} {pos : Pos}
end
end Ev
namespace Ev
open PySem L2 PySem.Spec PyProof.Rows
section
variable {X : Cx} {G : GX} {pos : Pos}
end
end Ev
namespace Ev
open PySem L2 PySem.Spec PyProof.Rows
end Ev
namespace Ev
open PySem PySem.Spec PyProof.Rows L2
open PySem.AutoSeq1 (wpAny_loadPart')
section
variable {X : Cx}
end
end Ev
namespace Ev
open PySem PySem.Spec PyProof.Rows L2
section
variable {prog : Program} {w : World} {A : Around} {E : Value → Shared → Prop} {s : Shared} {r : Addr} {n : Int} {t u v : Tok} {Q : Value → Shared → Prop}
end
section
variable {X : Cx} {G : GX} {pos : Pos}
end
end Ev
namespace Ev
open PySem PySem.Spec PyProof.Rows L2
section
variable {X : Cx} {G : GX} {pos : Pos} {a : Expr} {ta : TE} {wa : WE}
end
end Ev
namespace Ev
open PySem PySem.Spec PyProof.Rows L2
section
variable {X : Cx}
end
end Ev
namespace Ev
open PySem PySem.Spec PyProof.Rows L2
section
variable {X : Cx}
end
end Ev
namespace Ev
open PySem PySem.Spec PyProof.Rows L2
section
variable {X : Cx} {G : GX} {pos : Pos}
structure EAt (e it a : Addr) (i : Nat) (h : Heap) : Prop where
 ge : ∃ old, IsEnum h e it i old
 gi : h.IsListIter it a i
end
end Ev
namespace L2
open PySem PySem.Spec PyProof.Rows
section
variable {X : Cx} {tg iter kx vx : Expr} {scope : Scope} {pos : Pos} {N' : List Str} {ix : List (Option Nat)} {wi : TI}
end
end L2
namespace Ev
open PySem PySem.Spec PyProof.Rows L2
section
variable {X : Cx} {G : GX} {pos : Pos}
end
end Ev
namespace Ev
open PySem PySem.Spec PyProof.Rows L2
section
variable {X : Cx}
end
end Ev
namespace Ev
open PySem PySem.Spec PyProof.Rows L2
noncomputable def valN {β : Type} (kvs : List (KTr × β)) (k : KTr) : Option β := (kvs.find? fun p => decide (p.1 = k)).map (·.2)
noncomputable def putN {β : Type} (kvs : List (KTr × β)) (k : KTr) (v : β) : List (KTr × β) := if (valN kvs k).isSome then kvs.map (fun p => if p.1 = k then (p.1, v) else p) else kvs ++ [(k, v)]
theorem valN_cons {β : Type} (p : KTr × β) (r : List (KTr × β)) (k : KTr) : valN (p :: r) k = if p.1 = k then some p.2 else valN r k := by
 unfold valN
 rw [List.find?_cons]
 by_cases h : p.1 = k
 ·rw [if_pos h, decide_eq_true h]; rfl
 ·rw [if_neg h, decide_eq_false h]
theorem valN_map {β : Type} (kvs : List (KTr × β)) (k k' : KTr) (v : β) : valN (kvs.map (fun p => if p.1 = k then (p.1, v) else p)) k' = if k' = k then (if (valN kvs k).isSome then some v else none) else valN kvs k' := by
 induction kvs with
 | nil => simp [valN]
 | cons p r ih =>
  rw [List.map_cons, valN_cons, ih, valN_cons, valN_cons]
  by_cases h : p.1 = k
  ·by_cases h' : k' = k
   ·subst h'; simp [h]
   ·have : ¬ k = k' := fun z => h' z.symm
    simp [h, h', this]
  ·by_cases h' : k' = k
   ·subst h'; simp [h]
   ·by_cases h'' : p.1 = k' <;> simp [h, h', h'']
theorem valN_app {β : Type} (kvs : List (KTr × β)) (k k' : KTr) (v : β) (h : valN kvs k = none) : valN (kvs ++ [(k, v)]) k' = if k' = k then some v else valN kvs k' := by
 induction kvs with
 | nil =>
  by_cases h' : k' = k
  ·subst h'; simp [valN]
  ·have : ¬ k = k' := fun z => h' z.symm
   simp [valN, h', this]
 | cons p r ih =>
  rw [valN_cons] at h
  by_cases hp : p.1 = k
  ·rw [if_pos hp] at h; cases h
  ·rw [if_neg hp] at h
   rw [List.cons_append, valN_cons, ih h, valN_cons]
   by_cases h' : k' = k
   ·subst h'; simp [hp]
   ·simp [h']
theorem valN_put {β : Type} (kvs : List (KTr × β)) (k k' : KTr) (v : β) : valN (putN kvs k v) k' = if k' = k then some v else valN kvs k' := by
 unfold putN
 by_cases h : (valN kvs k).isSome
 ·rw [if_pos h, valN_map, if_pos h]
 ·rw [if_neg h]
  exact valN_app kvs k k' v (by simpa using h)
theorem putN_len {β : Type} (kvs : List (KTr × β)) (k : KTr) (v : β) : (putN kvs k v).length ≤ kvs.length + 1 := by
 unfold putN
 split <;> simp
section
variable {X : Cx} {G : GX} {pos : Pos} {pins : List (Addr × Obj)} {σ : L2.St} {H : Hp} {s : Shared} {φ : List Addr}
mutual
theorem rv_tr (I : Inv X pins σ H s) : ∀ (k : KTr) (x : V) (u : Value), RV X.K H φ (ktP k) x → RelV x u → TrA s.heap k u
 | .int i, x, u, r, q => by cases (show x = .int i from r); exact q
 | .str z, x, u, r, q => by cases (show x = .str z from r); exact q
 | .tup ks, x, u, r, q => by
  obtain ⟨a, vs, rfl, sa, ra⟩ := (show RV X.K H φ (.tup (ktPs ks)) x from r)
  cases (show u = Value.ref a from q)
  obtain ⟨its, rv, p, _⟩ := I.tuple sa
  exact ⟨a, its, rfl, p, rvs_tr I ks vs its ra rv⟩
theorem rvs_tr (I : Inv X pins σ H s) : ∀ (ks : List KTr) (vs : List V) (us : List Value), RVs X.K H φ (ktPs ks) vs → Vals vs us → TrAs s.heap ks us
 | [], vs, us, r, q => by
  rw [show vs = [] from r] at q
  cases q
  rfl
 | k :: ks, vs, us, r, q => by
  obtain ⟨y, ys, rfl, r1, r2⟩ := (show ∃ y ys, vs = y :: ys ∧ RV X.K H φ (ktP k) y ∧ RVs X.K H φ (ktPs ks) ys from r)
  cases q with
  | cons q1 q2 => exact ⟨_, _, rfl, rv_tr I k y _ r1 q1, rvs_tr I ks ys _ r2 q2⟩
end
theorem dicH_of (I : Inv X pins σ H s) {a : Addr} {kvs : List (KTr × PV)} {ws : List (KTr × Addr × V)} (e : H a = some (.dH ws)) (r : RNs X.K H φ kvs ws) :
  ∃ xs : List (KTr × Addr × Value), (a == sysModules) = false ∧ Paired (fun (p : KTr × Addr × V) (q : KTr × Addr × Value) => p.1 = q.1 ∧ p.2.1 = q.2.1 ∧ RelV p.2.2 q.2.2) ws xs ∧ s.heap.DictOfH (treeKind X.prog X.w) a xs := by
 obtain ⟨z, y, xs, rel, o, es, ep, h1, h2, h3, h4, h5⟩ := (show ObjOk X.prog X.w H s.heap a (.dH ws) from I.hok a _ e)
 refine ⟨xs, y, rel, o, es, ep, h1, h2, h3, h4, ?_, h5⟩
 clear h4 h5 z e
 induction rel generalizing kvs with
 | nil => intro x hx; cases hx
 | @cons p q ps qs hpq t ih =>
  cases r with
  | @cons p' _ _ _ hr tr =>
   intro x hx
   rcases List.mem_cons.mp hx with rfl | hx
   ·obtain ⟨e1, e2, e3⟩ := hpq
    obtain ⟨f1, ⟨f2, f3⟩, f4, f5⟩ := hr
    rw [← e1, ← f1, ← e2]
    exact ⟨f2, f3, rv_tr I _ _ _ f4 rfl⟩
   ·exact ih tr x hx
theorem get_rel {kvs : List (KTr × PV)} {ws : List (KTr × Addr × V)} {xs : List (KTr × Addr × Value)} (r : RNs X.K H φ kvs ws) (q : Paired (fun (p : KTr × Addr × V) (q : KTr × Addr × Value) => p.1 = q.1 ∧ p.2.1 = q.2.1 ∧ RelV p.2.2 q.2.2) ws xs) {k : KTr} {v : PV} (h : valN kvs k = some v) :
  ∃ p w, atKey xs k = some p ∧ RV X.K H φ v w ∧ RelV w p.2 := by
 induction r generalizing xs with
 | nil => simp [valN] at h
 | @cons p q' ps qs hpq t ih =>
  cases q with
  | @cons _ q'' _ qs' hq tq =>
   obtain ⟨e1, _, _, e4⟩ := hpq
   obtain ⟨f1, f2, f3⟩ := hq
   rw [valN_cons] at h
   unfold atKey
   rw [List.find?_cons]
   by_cases hk : p.1 = k
   ·rw [if_pos hk] at h
    cases h
    rw [decide_eq_true (show q''.1 = k by rw [← f1, ← e1]; exact hk)]
    exact ⟨q''.2, q'.2.2, rfl, e4, f3⟩
   ·rw [if_neg hk] at h
    rw [decide_eq_false (show ¬ q''.1 = k by rw [← f1, ← e1]; exact hk)]
    exact ih tq h
noncomputable def bIxN : F2 := fun x y S Q => ∃ n kvs k v, x = .ref n ∧ S[n]? = some (.dN kvs) ∧ y = ktP k ∧ ((∃ ys, k = .tup ys) ∧ kdep k ≤ 8) ∧ valN kvs k = some v ∧ Q v S
theorem ixs_N (hu : X.A.units + 200 < cLine) : IxR X (liftR X.K bIxN) := by
 rintro value slice pins s σ H x y v u Q I rx ry ⟨φ, S, px, py, Q0, R, hx, hy, h, k⟩ hs
 obtain ⟨n, kvs, kk, pv, rfl, e, rfl, ⟨⟨ys, ek⟩, hd⟩, ev, q⟩ := h
 obtain ⟨a, rfl, qa⟩ := hx
 cases rx
 obtain ⟨ws, ea, ra⟩ := R.obj n a _ qa e
 obtain ⟨xs, hsys, rel, dd⟩ := dicH_of I ea ra
 obtain ⟨p, w, hp, rw1, rw2⟩ := get_rel ra rel ev
 have ht := rv_tr I kk _ _ hy ry
 obtain ⟨b, rfl⟩ : ∃ b, u = .ref b := by subst ek; obtain ⟨b, _, e, _⟩ := ht; exact ⟨b, e⟩
 refine PyProof.Rows.tail_any dd.typeIs PySem.F.slot_dict_getitem.lookup (wpAny_getItem_heap (knd := treeKind X.prog X.w) (show X.A.in1.units + 8 < cLine by rw [kin1_units]; omega) ⟨⟨ys, ek⟩, hd, ht⟩ dd hp ?_) hs
 exact ⟨w, H, I.tok _, rw2, k _ S φ H _ q (List.prefix_refl _) (.refl _) R rw1⟩
theorem sim_ixN {a b : Expr} {wa wb : WE} (hu : X.A.units + 200 < cLine) (ha : SimE X G a wa) (hb : SimE X G b wb) (hs : PlainIx b := by exact fun _ _ => rfl) : SimE X G (.Subscript a b pos) (wBin bIxN wa wb) := (pe_ix (ixs_N hu) ha hb hs).imp fun _ _ _ h => lift_bin h
theorem has_rel {kvs : List (KTr × PV)} {ws : List (KTr × Addr × V)} {xs : List (KTr × Addr × Value)} (r : RNs X.K H φ kvs ws) (q : Paired (fun (p : KTr × Addr × V) (q : KTr × Addr × Value) => p.1 = q.1 ∧ p.2.1 = q.2.1 ∧ RelV p.2.2 q.2.2) ws xs) (k : KTr) : (atKey xs k).isSome = (valN kvs k).isSome := by
 induction r generalizing xs with
 | nil => cases q; rfl
 | @cons p q' ps qs hpq t ih =>
  cases q with
  | @cons _ q'' _ qs' hq tq =>
   obtain ⟨e1, _, _, e4⟩ := hpq
   obtain ⟨f1, f2, f3⟩ := hq
   have := ih tq
   rw [valN_cons]
   unfold atKey at this ⊢
   rw [List.find?_cons]
   by_cases hk : p.1 = k
   ·rw [if_pos hk, decide_eq_true (show q''.1 = k by rw [← f1, ← e1]; exact hk)]
    rfl
   ·rw [if_neg hk, decide_eq_false (show ¬ q''.1 = k by rw [← f1, ← e1]; exact hk)]
    exact this
theorem Paired.app {α β : Type} {F : α → β → Prop} {l : List α} {m : List β} {a : α} {b : β} (h : Paired F l m) (r : F a b) : Paired F (l ++ [a]) (m ++ [b]) := by
 induction h with
 | nil => exact .cons r .nil
 | cons r' _ ih => exact .cons r' ih
theorem Paired.maps {α β : Type} {F : α → β → Prop} {f : α → α} {g : β → β} {l : List α} {m : List β} (h : Paired F l m) (r : ∀ a b, F a b → F (f a) (g b)) : Paired F (l.map f) (m.map g) := by
 induction h with
 | nil => exact .nil
 | cons r' _ ih => exact .cons (r _ _ r') ih
theorem stored_rel {kvs : List (KTr × PV)} {ws : List (KTr × Addr × V)} {xs : List (KTr × Addr × Value)} (r : RNs X.K H φ kvs ws) (q : Paired (fun (p : KTr × Addr × V) (q : KTr × Addr × Value) => p.1 = q.1 ∧ p.2.1 = q.2.1 ∧ RelV p.2.2 q.2.2) ws xs) {k : KTr} {b : Addr} {pv : PV} {v : V} {u : Value}
  (hk : (∃ ys, k = .tup ys) ∧ kdep k ≤ 8) (rk : RV X.K H φ (ktP k) (.ref b)) (rv : RV X.K H φ pv v) (ru : RelV v u) :
  ∃ ws', Paired (fun (p : KTr × Addr × V) (q : KTr × Addr × Value) => p.1 = q.1 ∧ p.2.1 = q.2.1 ∧ RelV p.2.2 q.2.2) ws' (storedH xs k b u) ∧ RNs X.K H φ (putN kvs k pv) ws' ∧ ws'.length ≤ ws.length + 1 := by
 have hh := has_rel r q k
 unfold storedH putN
 by_cases h : (valN kvs k).isSome = true
 ·rw [if_pos h, if_pos (hh.trans h)]
  refine ⟨ws.map (fun p => if p.1 = k then (p.1, p.2.1, v) else p), Paired.maps q ?_, Paired.maps r ?_, by simp⟩
  ·rintro a c ⟨e1, e2, e3⟩
   unfold putAt
   by_cases z : a.1 = k
   ·rw [if_pos z, if_pos (e1 ▸ z)]; exact ⟨e1, e2, ru⟩
   ·rw [if_neg z, if_neg (e1 ▸ z)]; exact ⟨e1, e2, e3⟩
  ·rintro a c ⟨e1, e2, e3, e4⟩
   by_cases z : a.1 = k
   ·rw [if_pos z, if_pos (e1 ▸ z)]; exact ⟨e1, e2, e3, rv⟩
   ·rw [if_neg z, if_neg (e1 ▸ z)]; exact ⟨e1, e2, e3, e4⟩
 ·rw [if_neg h, if_neg (hh ▸ h)]
  exact ⟨ws ++ [(k, b, v)], Paired.app q ⟨rfl, rfl, ru⟩, Paired.app r ⟨rfl, hk, rk, rv⟩, by simp⟩
noncomputable def sSetN : FS := fun o i v S Q => ∃ n k kvs, o = .ref n ∧ i = ktP k ∧ ((∃ ys, k = .tup ys) ∧ kdep k ≤ 8) ∧ (S[n]? = some (.dN kvs) ∨ (S[n]? = some (.dK []) ∧ kvs = [])) ∧ kvs.length < sizeLine ∧ Q (S.set n (.dN (putN kvs k v)))
theorem sets_N (hu : X.A.units + 200 < cLine) : PSet X (liftSet X.K sSetN) := by
 rintro pins s σ H o i v ov iv u Q I ro ri rv ⟨φ, S, po, pi, pv, Q0, R, ho, hi, hv, h, k⟩
 obtain ⟨n, kk, kvs, rfl, rfl, hk, hS, hz, q⟩ := h
 obtain ⟨a, rfl, qa⟩ := ho
 cases ro
 have ht := rv_tr I kk _ _ hi ri
 obtain ⟨b, rfl⟩ : ∃ b, iv = .ref b := by obtain ⟨⟨ys, ek⟩, _⟩ := hk; subst ek; obtain ⟨b, _, e, _⟩ := ht; exact ⟨b, e⟩
 have hib : i = .ref b := by
  obtain ⟨⟨ys, ek⟩, _⟩ := hk
  subst ek
  obtain ⟨a', vs, rfl, _⟩ := (show RV X.K H φ (.tup (ktPs ys)) i from hi)
  cases (show Value.ref b = Value.ref a' from ri)
  rfl
 subst hib
 have hu' : X.A.in1.units + 8 < cLine := by rw [kin1_units]; omega
 have main : ∀ (ws : List (KTr × Addr × V)) (xs : List (KTr × Addr × Value)) (mo : ∀ ob, Mono H (upd H a ob)), Mut (H a) → RNs X.K H φ kvs ws → (a == sysModules) = false → Paired (fun (p : KTr × Addr × V) (q : KTr × Addr × Value) => p.1 = q.1 ∧ p.2.1 = q.2.1 ∧ RelV p.2.2 q.2.2) ws xs → s.heap.DictOfH (treeKind X.prog X.w) a xs →
   wpAny (model X.prog X.w) X.A (setItem (.ref a) (.ref b) u) (fun _ s' => ∃ H', Inv X pins σ H' s' ∧ Q H') X.xe s := by
  intro ws xs mo mu ra hsys rel dd
  have l1 : kvs.length = ws.length := Paired.length ra
  have l2 : ws.length = xs.length := Paired.length rel
  refine wpAny_setItem_heap (knd := treeKind X.prog X.w) (hsz := by omega) hu' ⟨hk.1, hk.2, ht⟩ dd fun h' dd' hs => ?_
  obtain ⟨ws', g1, g2, g3⟩ := stored_rel ra rel hk hi hv rv
  obtain ⟨o, es, ep, hq, h2, h3, h4, _, h5⟩ := dd'
  refine ⟨upd H a (.dH ws'), d_write I mu hs ⟨o, hq⟩ ⟨by omega, hsys, _, g1, o, es, ep, hq, h2, h3, h4, h5⟩, k _ _ q (mo _) (R.put (o := .dN (putN kvs kk pv)) qa (mo _) ⟨ws', upd_same, RNs.mono (mo _) (List.prefix_refl _) g2⟩)⟩
 rcases hS with e | ⟨e, rfl⟩
 ·obtain ⟨ws, ea, ra⟩ := R.obj n a _ qa e
  obtain ⟨xs, hsys, rel, dd⟩ := dicH_of I ea ra
  exact main ws xs (fun _ => .dicH ea) (by rw [ea]; trivial) ra hsys rel dd
 ·obtain ⟨ws, ea, ra⟩ := R.obj n a _ qa e
  cases ra
  obtain ⟨_, hsys, vs, rel, o, es, ep, h1, h2, h3, h4, h5⟩ := (show ObjOk X.prog X.w H s.heap a (.dK []) from I.hok a _ ea)
  cases rel
  have he : es.toList = [] := by
   generalize es.toList = l at h5
   cases h5.1
   rfl
  exact main [] [] (fun _ => .dict ea) (by rw [ea]; trivial) .nil hsys .nil ⟨o, es, ep, h1, h2, h3, he, fun x hx => (by cases hx), List.nodup_nil⟩
end
end Ev
namespace L2
open PySem PySem.Spec PyProof.Rows
theorem kcd_loop {prog : Program} {w : World} {A : Around} {s : Shared} {kx vx target iter : Expr} {scope : Scope} {pos : Pos} {it : Value} {D : Addr} {env : Env} {R : Result → Shared → Prop} (I : Nat → Shared → Prop)
  (turn : ∀ n s, I n s → wpAny (model prog w) A (pyNext it) (fun r s₁ => match r with
   | none => R (.ok .next) s₁
   | some v => wpAny (model prog w) A (letOwnedTupleGo target it v) (fun _ s₀ => wpAny (model prog w) A (assign target env v) (fun _ s₂ =>
     wpAny (model prog w) A (eval kx env) (fun kv s₄ => wpAny (model prog w) A (eval vx env) (fun vv s₅ =>
      wpAny (model prog w) A (dictSet D kv vv) (fun _ s₆ => ∃ m, m < n ∧ I m s₆) (notedBy (model prog w) A env fun e s' => R (.error e) s') s₅) (notedBy (model prog w) A env fun e s' => R (.error e) s') s₄)
      (notedBy (model prog w) A env fun e s' => R (.error e) s') s₂)
     (notedBy (model prog w) A env fun e s' => R (.error e) s') s₀) (notedBy (model prog w) A env fun e s' => R (.error e) s') s₁) (notedBy (model prog w) A env fun e s' => R (.error e) s') s)
  (n : Nat) (h : I n s) : codeAny (model prog w) A (.compLoop (.DictComp kx vx [⟨target, iter, [], 0⟩] scope pos) 0 it (.ref D) env) R s := by
 refine codeAny_loop rfl I (fun n s hI => ?_) n h
 show wpAny _ A ((compTurn (.DictComp kx vx [⟨target, iter, [], 0⟩] scope pos) 0 it (.ref D) env).onRaise (fun x => do noteFrame x env; theTreesLotGoes x)) _ _ s
 refine wpAny_noted ?_
 rw [compTurn_dict]
 refine wpAny_bind (wpAny_standAt (wpAny_bind (wpAny_mono (turn n s hI) (fun r s₁ h₁ => ?_) fun _ _ h' => h')))
 cases r with
 | none => exact wpAny_pure h₁
 | some v =>
  refine wpAny_bind (wpAny_mono h₁ (fun _ s₀ h₀' => ?_) fun _ _ h' => h')
  refine wpAny_bind (wpAny_mono h₀' (fun _ s₂ h₂ => ?_) fun _ _ h' => h')
  refine wpAny_bind (wpAny_tests_nil ?_)
  exact wpAny_bind (wpAny_bind (wpAny_mono h₂ (fun kv s₄ h₄ => wpAny_bind (wpAny_holding (wpAny_mono h₄ (fun vv s₅ h₅ => wpAny_bind (wpAny_standAt (wpAny_holding (wpAny_mono h₅ (fun _ s₆ h₆ => wpAny_pure ⟨rfl, h₆⟩) fun _ _ h' => h')))) fun _ _ h' => h'))) fun _ _ h' => h'))
theorem d_dictSet {X : Cx} {pins : List (Addr × Obj)} {σ : St} {H : Hp} {s : Shared} {a : Addr} {k : Key} {v : V} {kvs : List (Key × V)} {u r : Value} {A : Around} {E : Value → Shared → Prop} {Q : Unit → Shared → Prop} (I : Inv X pins σ H s) (e : H a = some (.dK kvs)) (l : kvs.length < sizeLine) (ry : RelV (kV k) u) (rv : RelV v r) (h : ∀ s', Inv X pins σ (upd H a (.dK (putK kvs k v))) s' → Q () s') :
  wpAny (model X.prog X.w) A (dictSet a u r) Q E s := by
 obtain ⟨z, hd, vs, rel, dd⟩ := dk_of I.hok e
 have hz : vs.length ≤ sizeLine := by rw [← rel.length]; exact z
 have hl : (putK kvs k v).length ≤ sizeLine := by have := length_putK kvs k v; omega
 refine wpAny_dictSet_pairs (hsz := hz) (kV_is ry) dd fun h' dd' hs => h _ ?_
 have he : ∃ q, h'.get? a = some q := let ⟨q, _, _, hq, _⟩ := dd'; ⟨q, hq⟩
 exact d_write I (by rw [e]; exact True.intro) hs he (dk_new hl hd (rel.put k rv) dd')
noncomputable def DcGo (J : It) (g : TG) (tk tv : TE) (p : Addr) (Q : Hp → Prop) (σ₀ : St) (H0 : Hp) : Prop := ∃ (W : Nat → St → Hp → Prop) (n : Nat), W 0 σ₀ H0 ∧ ∀ i σ H, i ≤ n → W i σ H →
 (J.stop i H ∧ Q H) ∨ (i < n ∧ J.go i H ∧ ∀ x H', J.yld i H x H' → g x σ H' fun σ2 H2 => tk σ2 H2 fun kv H3 => tv σ2 H3 fun vv H4 => ∃ kvs k, H4 p = some (.dK kvs) ∧ kv = kV k ∧ kvs.length < sizeLine ∧ W (i + 1) σ2 (upd H4 p (.dK (putK kvs k vv))))
noncomputable def tDComp (wi : TI) (ix : List (Option Nat)) (g : TG) (tk tv : TE) : TE := fun σ H Q => wi σ H fun J H1 => ∀ p, H1 p = none → DcGo J g tk tv p (Q (.ref p)) (innerSt ix σ) (upd H1 p (.dK []))
section
variable {X : Cx} {tg iter kx vx : Expr} {scope : Scope} {pos : Pos} {N' : List Str} {ix : List (Option Nat)} {wi : TI} {g : TG} {tk tv : TE}
end
end L2
namespace Ev
open PySem PySem.Spec PyProof.Rows L2
section
variable {X : Cx} {G : GX} {pos : Pos}
noncomputable def dcGo (chk : Store → Prop) (g : WG) (wk wv : WE) (d : Nat) (Q : VC) : List PV → Ev.Loc → Store → Prop
 | [], _, S => chk S ∧ Q (.ref d) S
 | x :: r, σ, S => chk S ∧ ∃ N : Ev.Loc → Store → Prop, (∀ σ' S', N σ' S' → dcGo chk g wk wv d Q r σ' S') ∧ g x σ S NoX fun σ2 S2 => wk σ2 S2 NoX fun k S3 => wv σ2 S3 NoX fun v S4 => ∃ kvs kk, S4[d]? = some (.dK kvs) ∧ keyOf k = some kk ∧ kvs.length < sizeLine ∧ N σ2 (S4.set d (.dK (putP kvs kk v)))
noncomputable def wDComp (wi : WI) (ix : List (Option Nat)) (g : WG) (wk wv : WE) : WE := fun σ S E Q => wi σ S E fun it S1 => dcGo it.chk g wk wv S1.length Q it.xs (innerP ix σ) (S1 ++ [.dK []])
end
end Ev
namespace Ev
open PySem PySem.Spec PyProof.Rows L2
section
variable {X : Cx} {G : GX} {pos : Pos}
noncomputable def wDNew : WE := fun _ S _ Q => Q (.ref S.length) (S ++ [.dK []])
theorem sim_dnew : SimE X G (.Dict [] [] pos) wDNew :=
 (pe_dnewK (X := X) (pos := pos)).imp fun σV H Q hh1 => by obtain ⟨φ, σ, S, Q0, L, R, h, k⟩ := hh1; exact (fun p hp =>
  have R2 : Rel X.K (φ ++ [p]) (S ++ [.dK []]) (upd H p (.dK [])) := R.new (o := .dK []) hp ⟨[], upd_same, .nil⟩
  k _ _ _ _ _ h (List.prefix_append _ _) (.new _ hp) R2 ⟨p, rfl, by rw [← R.len, List.getElem?_append_right (Nat.le_refl _)]; simp⟩)
noncomputable def wPar (i j : Nat) (wa : WA) : WS := fun D E σ S => wa σ S E fun xs S1 => ∃ v w, xs = [v, w] ∧ D.nx ((σ.set i (some v)).set j (some w)) S1
theorem sim_par (i j : Nat) {x y : Str} {a b : Expr} {wa : WA} {px py pt : Pos} {kt k2 pt2} (hN : X.N.Nodup) (hc : X.calm = true) (ha : SimA X G [a, b] wa) (hi : X.N[i]? = some x := by rfl) (hj : X.N[j]? = some y := by rfl) (hij : i ≠ j := by decide)
  (hx : X.env.scope.names.lookup x = some .local := by rfl) (hy : X.env.scope.names.lookup y = some .local := by rfl)
  (hw : swappedStores [.Tuple [.Name x px, .Name y py] kt pt] (.Tuple [a, b] k2 pt2) X.env = pure (some [x, y]) := by rfl)
  (hs : swapsWithSole [.Tuple [.Name x px, .Name y py] kt pt] (.Tuple [a, b] k2 pt2) pos.line X.env = pure false := by rfl) :
  SimS X G (.Assign [.Tuple [.Name x px, .Name y py] kt pt] (.Tuple [a, b] k2 pt2) pos) (wPar i j wa) :=
 (ps_par hc hN hi hj hij hx hy ha hw hs).imp fun D σV H hh1 => by obtain ⟨φ, σ, S, D0, L, R, h, k⟩ := hh1; exact (⟨φ, σ, S, _, L, R, h, fun vs S1 φ1 H1 xs q p1 m1 R1 r1 => by
  obtain ⟨v, w, rfl, q⟩ := q
  obtain ⟨y1, y2, rfl, g1, g2⟩ := two_rel r1
  exact ⟨y1, y2, rfl, k.nx _ S1 φ1 H1 _ q p1 m1 R1 (((L.mono m1 p1).set i g1).set j g2)⟩⟩)
end
end Ev
namespace L2
open PySem PySem.Spec PyProof.Rows
noncomputable def tAsgDC (wi : TI) (ix : List (Option Nat)) (g : TG) (tk tv : TE) (i : Nat) : TS := fun D σ H => tDComp wi ix g tk tv σ H fun v H1 => D.nx (σ.set i (some v)) H1
section
variable {X : Cx} {tg iter kx vx : Expr} {scope : Scope} {pos : Pos} {N' : List Str} {ix : List (Option Nat)} {wi : TI} {g : TG} {tk tv : TE}
theorem ps_setDC {i : Nat} {x : Str} {px sp : Pos} (hsw : swapsWith (.DictComp kx vx [⟨tg, iter, [], 0⟩] scope pos) (some (.Name x px)) sp.line X.env = pure true) (hN : X.N.Nodup) (hii : X.N[i]? = some x) (hx : Loc X.env.scope x) (hc : X.calm = true) (co : CompOk X scope N' ix) (hi : PI X tg iter wi) (hg : ∀ cl C s H fp, PG (X.comp scope N' cl C s H fp) tg g) (hk : ∀ cl C s H fp, PE (X.comp scope N' cl C s H fp) kx tk) (hv : ∀ cl C s H fp, PE (X.comp scope N' cl C s H fp) vx tv)
  (hs : ∀ x, foldedSetIterable iter X.env x = pure x := by intro _; rfl) (hf : X.fn x = true ∨ X.env.scope.names.lookup x = some .local := by first | exact .inl rfl | exact .inr rfl | assumption) : PS X (.Assign [.Name x px] (.DictComp kx vx [⟨tg, iter, [], 0⟩] scope pos) sp) (tAsgDC wi ix g tk tv i) := by
 intro pins s σ H Dn I h
 rw [exec_Assign_Name_used _ _ _ _ hsw]
 refine wpAny_bind (wpAny_standAt (wpAny_bind ?_))
 show wpAny _ X.A (do let _ ← comprehension (.DictComp kx vx [⟨tg, iter, [], 0⟩] scope pos) scope X.env _ newDict false (eval iter X.env) (some (assign (.Name x px) X.env))) _ _ s
 obtain ⟨cl, hclos, hcl1, hcl2⟩ := closure_free (scope := scope) (env := X.env) fun p hp e => by
  rcases co.free p hp e with z | z
  ·exact I.ok.has p.1 (.inl z)
  ·exact I.ok.has p.1 (.inr z)
 refine wpAny_bind (wpAny_mono (wpAny_comprehension_free (Q := fun _ s' => SP X pins Dn .next s') (use := some (assign (.Name x px) X.env)) rfl hs hclos co.kind co.names (thn (hi pins s σ H _ I h) fun v s1 h1 => thn h1 fun itv s₂ h2 => ?_)) (fun _ s' hq => wpAny_pure (wpAny_pure hq)) fun _ _ e => e)
 obtain ⟨it, fp, tn, J, H₂, rfl, I₂, T, st2, f2, go0⟩ := h2
 obtain ⟨W, n, w0, turn⟩ := go0 s₂.heap.objs.size I₂.fresh
 refine wpAny_newObj_type (wpAny_newFunctionEnv co.cell (by intro y hy; simp at hy) (fun h₁ hns₁ hsb₁ => ?_) co.kind)
 dsimp only at hns₁ hsb₁ ⊢
 have hne0 : (s₂.heap.push { cls := .type "dict", dict := none, data := .dict #[] }).DictOf (mixKind X.prog X.w) s₂.heap.objs.size [] := Heap.DictOf.new s₂.heap
 generalize hH2 : s₂.heap.push { cls := .type "dict", dict := none, data := .dict #[] } = H2 at hns₁ hsb₁ hne0 ⊢
 have hC : H2.objs.size = s₂.heap.objs.size + 1 := by rw [← hH2, Heap.size_push]
 have hCle : s₂.heap.objs.size ≤ H2.objs.size := by omega
 have hDC : s₂.heap.objs.size ≠ H2.objs.size := by omega
 have old : ∀ b o, s₂.heap.get? b = some o → h₁.get? b = some o := fun b o e => hsb₁.extBut b o (Nat.ne_of_lt (by rw [hC]; exact Nat.lt_succ_of_lt (Heap.lt_size e))) (Heap.get?_push_of_some _ (hH2 ▸ Heap.get?_push_of_some _ e))
 have hacc : h₁.DictOf (mixKind X.prog X.w) s₂.heap.objs.size [] := hne0.at fun o e => hsb₁.extBut _ _ hDC (Heap.get?_push_of_some _ e)
 have hfz : ∀ b ∈ fp, b < s₂.heap.objs.size := fun b hb => by
  obtain ⟨o, e, _⟩ := T.obj _ _ st2 b hb
  exact Heap.lt_size e
 have hclD : ∀ x c, cl.lookup x = some c → c ≠ s₂.heap.objs.size := fun x c e => by
  obtain ⟨v, o, ho, _⟩ := I₂.cell x c (hcl1 x c e)
  exact Nat.ne_of_lt (Heap.lt_size ho)
 have st0 : tn 0 h₁ := T.keep _ _ _ st2 fun b hb o e => old b o e
 have loop : ∀ s₃ : Shared, s₃ = { s₂ with heap := h₁, toks := s₂.toks + ([] : List (Str × Value)).length } →
   codeAny (model X.prog X.w) X.A (.compLoop (.DictComp kx vx [⟨tg, iter, [], 0⟩] scope pos) 0 (.ref it) (.ref s₂.heap.objs.size) (compEnvC scope cl H2.objs.size X.env))
    (compPost (model X.prog X.w) X.A X.xe (some (assign (.Name x px) X.env)) (fun _ s' => SP X pins Dn .next s') (.ref s₂.heap.objs.size) H2.objs.size) s₃ := by
  rintro s₃ rfl
  have I0 := I₂.comp (t' := s₂.toks + ([] : List (Str × Value)).length) co hcl1 hcl2 hc hCle hns₁ old f2 hfz
  have nof : s₂.heap.objs.size ∉ (X.comp scope N' cl H2.objs.size s₂ H₂ fp).fs := fun z => by
   obtain ⟨_, o, ho, _⟩ := I0.ok.funs.mem z
   exact absurd (Heap.lt_size ho) (Nat.lt_irrefl _)
  have fD : FpOk (X.comp scope N' cl H2.objs.size s₂ H₂ fp) [] H₂ s₂.heap.objs.size := ⟨I₂.fresh, hDC, nof, .inr (Nat.le_refl _), hclD, fun p hp => by cases hp⟩
  have I0' := I0.trackO (D := s₂.heap.objs.size) (ob := .dK []) fD (Nat.le_refl _) ⟨Nat.zero_le _, beq_eq_false_iff_ne.mpr (Ne.symm (Nat.ne_of_lt I₂.big)), [], .nil, hacc⟩
  have fpok : ∀ {H' : Hp}, (∀ b ∈ fp, H' b = none) → ∀ b ∈ fp, FpOk (X.comp scope N' cl H2.objs.size s₂ H₂ fp) [] H' b := fun hn' b hb =>
   ⟨hn' b hb, (I0.ok.exf b hb).1, I0.ok.exfs b hb, .inl hb, (I0.ok.exf b hb).2, fun p hp => by cases hp⟩
  refine kcd_loop (fun k s' => ∃ i σ' H', i ≤ n ∧ k = n - i ∧ Inv (X.comp scope N' cl H2.objs.size s₂ H₂ fp) [] σ' H' s' ∧ tn i s'.heap ∧ (∀ b ∈ fp, H' b = none) ∧ W i σ' H') ?_ n
   ⟨0, innerSt ix σ, _, Nat.zero_le _, rfl, I0', st0, fun b hb => by rw [upd_ne (Nat.ne_of_lt (hfz b hb))]; exact (f2 b hb).1, w0⟩
  rintro k s3 ⟨i, σ3, H3, hi3, rfl, I3, st3, fr3, w3⟩
  have weak : ∀ {e : Value} {s' : Shared}, False → notedBy (model X.prog X.w) X.A (compEnvC scope cl H2.objs.size X.env) (fun e s' => compPost (model X.prog X.w) X.A X.xe (some (assign (.Name x px) X.env)) (fun _ s' => SP X pins Dn .next s') (.ref s₂.heap.objs.size) H2.objs.size (.error e) s') e s' := fun z => z.elim
  rcases turn i σ3 H3 hi3 w3 with ⟨stop, q⟩ | ⟨hlt, go, step⟩
  ·refine thn (T.done (X.comp scope N' cl H2.objs.size s₂ H₂ fp) rfl rfl rfl rfl i _ s3 σ3 H3 _ I3 (fpok fr3) st3 stop) fun r s' hh1 => ?_
   obtain ⟨hr, I'⟩ := hh1
   subst hr
   obtain ⟨m, hm, _⟩ := I'.loc
   have new : ∀ a, s₂.heap.objs.size ≤ a → a ≠ X.env.locals ∧ X.s₀.heap.objs.size ≤ a ∧ (∀ x c, X.env.cells.lookup x = some c → c ≠ a) ∧ ∀ p ∈ X.pn ++ pins, p.1 ≠ a := fun a ha => by
    refine ⟨Nat.ne_of_gt (Nat.lt_of_lt_of_le I₂.lt ha), Nat.le_trans I₂.sz ha, fun x c e => ?_, fun p hp => ?_⟩
    ·obtain ⟨v, o, ho, _⟩ := I₂.cell x c e
     exact Nat.ne_of_lt (Nat.lt_of_lt_of_le (Heap.lt_size ho) ha)
    ·exact Nat.ne_of_lt (Nat.lt_of_lt_of_le (Heap.lt_size (I₂.pin p hp).1) ha)
   have I4 : Inv X pins σ H3 s' := I₂.call' I'.os I'.base I'.hok I'.bare fun b hb => ⟨(f2 b hb).2.2.2.1, (f2 b hb).2.1, (f2 b hb).2.2.2.2.1, (f2 b hb).2.2.2.2.2⟩
   obtain ⟨c1, c2, c3, c4⟩ := new H2.objs.size hCle
   show wpAny (model X.prog X.w) X.A (assign (.Name x px) X.env (.ref s₂.heap.objs.size)) _ _ _
   refine wpAny_assign_Name (store_ok2 I4 hN hii hx (v := .ref s₂.heap.objs.size) rfl (fun s'' I'' ⟨a, sb, ha⟩ => ?_) hf)
   have haC : a ≠ H2.objs.size := by
    rcases ha with rfl | ha
    ·exact c1.symm
    ·exact c3 _ _ ha
   refine ⟨m, hm.sameBut sb haC.symm, fun h' sb' => ⟨_, _, ?_, q⟩⟩
   exact I''.turned (t' := s''.toks) (it := H2.objs.size) (fun b o hb e => (sb'.2 b hb).trans e) I'.free c1 (.inr c2) c3 c4
  ·refine thn (T.item (X.comp scope N' cl H2.objs.size s₂ H₂ fp) rfl rfl rfl rfl i _ s3 σ3 H3 _ I3 (fpok fr3) st3 go) fun r s4 hh2 => ?_
   obtain ⟨u, hr, h4⟩ := hh2
   subst hr
   refine thn h4 fun _ s5 hh3 => ?_
   obtain ⟨x, H5, I5, r5, y5, st5, fr5⟩ := hh3
   have I5' := I5.pinned (fpok fr5) (T.obj _ _ st5)
   refine wpAny_mono (hg cl _ s₂ H₂ fp _ s5 σ3 H5 x u _ I5' r5 (step x H5 y5)) (fun _ s6 ⟨σ6, H6, I6, q6⟩ => ?_) fun _ _ z => weak z
   refine wpAny_mono (hk cl _ s₂ H₂ fp _ s6 σ6 H6 _ I6 q6) (fun u7 s7 ⟨y7, H7, I7, r7, q7⟩ => ?_) fun _ _ z => weak z
   refine wpAny_mono (hv cl _ s₂ H₂ fp _ s7 σ6 H7 _ I7 q7) (fun u8 s8 ⟨y8, H8, I8, r8, q8⟩ => ?_) fun _ _ z => weak z
   obtain ⟨kvs, kk, e8, rfl, l8, w8⟩ := q8
   refine d_dictSet (X := X.comp scope N' cl H2.objs.size s₂ H₂ fp) I8 e8 l8 r7 r8 fun s9 I9 => ?_
   refine ⟨n - (i + 1), by omega, i + 1, σ6, _, hlt, rfl, I9.unpinned, ?_, fun b hb => ?_, w8⟩
   ·exact T.keep _ _ _ st5 fun b hb o e => (I9.pin (b, o) (List.mem_append_right _ (List.mem_append_right _ (mem_pinsAt hb e)))).1
   ·obtain ⟨o, e, d⟩ := T.obj _ _ st5 b hb
    exact (I9.pin (b, o) (List.mem_append_right _ (List.mem_append_right _ (mem_pinsAt hb e)))).2.1
 exact codeAny_compStart_dict (loop _ rfl) (T.self _ 0 _ _ _ st0 (loop _ rfl))
end
noncomputable def rngV : Int → Nat → List V
 | _, 0 => []
 | k, n + 1 => .int k :: rngV (k + 1) n
theorem rngV_len : ∀ (n : Nat) (k : Int), (rngV k n).length = n
 | 0, _ => rfl
 | n + 1, k => by rw [rngV, List.length_cons, rngV_len n]
theorem vals_rng : ∀ (l : List Value) (k : Int), (∀ (i : Nat) v, l[i]? = some v → ∃ t, v = .int (k + i) t) → Vals (rngV k l.length) l
 | [], _, _ => .nil
 | v :: l, k, h => .cons (by obtain ⟨t, e⟩ := h 0 v rfl; exact ⟨t, by rw [e]; simp⟩) (vals_rng l (k + 1) fun i u e => by
   obtain ⟨t, e'⟩ := h (i + 1) u (by simpa using e)
   exact ⟨t, by rw [e', show k + ((i + 1 : Nat) : Int) = k + 1 + (i : Int) by omega]⟩)
noncomputable def tLRange (ta : TA) : TE := fun σ H Q => ta σ H fun vs H1 => ∃ j : Nat, vs = [.int j] ∧ j ≤ 100000 ∧ ∀ p, H1 p = none → Q (.ref p) (upd H1 p (.lst (rngV 0 j)))
theorem pe_lrange {X : Cx} {a : Expr} {ta : TA} {p p2 pos2 pos : Pos} (hc : X.calm = true) (ha : PA X [a] ta) (hm : X.mg "list" = none) (hm2 : X.mg "range" = none) (hg : Gl X "list" := by rfl) (hg2 : Gl X "range" := by rfl)
  (he : starEach [.Call (.Name "range" p2) [a] [] pos2] X.env = (false, eval (.Call (.Name "range" p2) [a] [] pos2) X.env) :: starEach [] X.env := by rfl) (hs : starEach [a] X.env = [(false, eval a X.env)] := by rfl) :
  PE X (.Call (.Name "list" p) [.Call (.Name "range" p2) [a] [] pos2] [] pos) (tLRange ta) := by
 intro pins s σ H Q I h
 refine wpAny_Call_Name_kw (ld_blt I hg hm boot_list ?_)
 refine PyProof.Rows.callWith_type1 ?_ he rfl
 rw [he]
 show wpAny _ _ (spliced ((false, eval (.Call (.Name "range" p2) [a] [] pos2) X.env) :: backTo pos (starEach [] X.env))) _ _ s
 refine Calls.spliced_cons (Call_ (ld_blt I hg2 hm2 boot_range (PyProof.Rows.callWith_type1 (thn (ha pos2 pins s σ H _ I h) fun us s1 ⟨vs, H1, I1, r1, q1⟩ => ?_) hs rfl)))
 obtain ⟨j, e, q2, q⟩ := q1
 subst e
 cases r1 with
 | cons r rr =>
  cases rr
  obtain ⟨t, rfl⟩ := r
  refine call_range_1 (Calls.spliced_nil ?_)
  have I2 : Inv X pins σ H1 { s1 with heap := s1.heap.push { cls := .type "range", data := .fields #[.int 0 s1.toks, .int j t, .int 1 (s1.toks + 1)] }, toks := s1.toks + 1 + 1 } := I1.kept fun b o e => Heap.get?_push_of_some _ e
  have fl : ∀ i : Int, -(2 ^ 63) ≤ i → i < 2 ^ 63 → Builtin.Range.rangeFitsLong i = true := fun i a b => by
   unfold Builtin.Range.rangeFitsLong
   rw [decide_eq_true a, decide_eq_true b]; rfl
  have e0 : Builtin.Range.rangeSize 0 (j : Int) 1 = (j : Nat) := by rw [rangeSize_one]; split <;> omega
  have hr : IsRange (s1.heap.push { cls := .type "range", data := .fields #[.int 0 s1.toks, .int j t, .int 1 (s1.toks + 1)] }) s1.heap.objs.size 0 j 1 s1.toks t (s1.toks + 1) := Heap.get?_push_size _ rfl
  generalize hS : s1.heap.push { cls := .type "range", data := .fields #[.int 0 s1.toks, .int j t, .int 1 (s1.toks + 1)] } = hp2 at I2 hr ⊢
  refine call_list_range (n := j) (I1.ok.hd hc) hr (by
   unfold Builtin.Range.small
   simp only [e0]
   rw [fl 0 (by omega) (by omega), fl _ (by omega) (by omega), fl 1 (by omega) (by omega), if_pos (show (1 : Int) > 0 by decide), fl ((j : Int) + (1 - 1)) (by omega) (by omega)]; simp) e0 (by omega) fun h' tk acc' c' kk hS' hacc => ?_
  obtain ⟨hsz, hit⟩ := hacc
  have hv : Vals (rngV 0 j) acc'.toList := by
   have := vals_rng acc'.toList 0 fun i v e => by
    obtain ⟨t', e'⟩ := hit i v (by simpa using e)
    exact ⟨t', by rw [e']; simp⟩
   rw [Array.length_toList, hsz] at this
   exact this
  refine ⟨.ref hp2.objs.size, _, I2.laid (a := hp2.objs.size) (o := .lst (rngV 0 j)) (t' := tk) kk (Nat.le_refl _) ⟨by rw [rngV_len]; exact Nat.le_trans q2 (by decide), acc'.toList, c', hv, hS'⟩, rfl, q _ (I2.hok.fresh (Nat.le_refl _))⟩
end L2
namespace Ev
open PySem PySem.Spec PyProof.Rows L2
section
variable {X : Cx} {G : GX} {pos : Pos}
theorem dc_go {tg iter : Expr} {scope : Scope} {wi : WI} {g : WG} {wk wv : WE} {ix : List (Option Nat)} {σV : L2.St} {H : Hp} {Q : VK} (h : liftE X.K G (wDComp wi ix g wk wv) σV H Q) : tDComp (liftI X.K G wi) ix (liftG X.K NoG g) (liftE X.K NoG wk) (liftE X.K NoG wv) σV H Q := by
 obtain ⟨φ, σ, S, Q0, L, R, h, k⟩ := h
 exact ⟨φ, σ, S, _, L, R, h, fun it S1 φ1 H1 J q p1 m1 R1 hj => by
  intro p hp
  have R2 : Rel X.K (φ1 ++ [p]) (S1 ++ [.dK []]) (upd H1 p (.dK [])) := R1.new (o := .dK []) hp ⟨[], upd_same, .nil⟩
  have ep : (φ1 ++ [p])[S1.length]? = some p := by rw [← R1.len, List.getElem?_append_right (Nat.le_refl _)]; simp
  have mp : Mono H1 (upd H1 p (.dK [])) := .new _ hp
  have pp : φ1 <+: φ1 ++ [p] := List.prefix_append _ _
  refine ⟨fun i σV' H' => ∃ φ' σ' S', (φ1 ++ [p]) <+: φ' ∧ Mono (upd H1 p (.dK [])) H' ∧ LRel X.K NoG H' φ' σ' σV' ∧ Rel X.K φ' S' H' ∧ dcGo it.chk g wk wv S1.length Q0 (it.xs.drop i) σ' S', it.xs.length, ⟨φ1 ++ [p], _, _, List.prefix_refl _, .refl _, inner_rel ix ((L.mono m1 p1).mono mp pp), R2, by simpa using q⟩, ?_⟩
  rintro i σV' H' hi ⟨φ', σ', S', p', m', L', R', hf⟩
  by_cases hlt : i < it.xs.length
  ·rw [List.drop_eq_getElem_cons hlt] at hf
   obtain ⟨hch, N, hN, hb⟩ := hf
   obtain ⟨jg, jy⟩ := hj.go φ' H' S' (pp.trans p') (mp.trans m') R' hch i _ (List.getElem?_eq_getElem hlt)
   refine .inr ⟨hlt, jg, fun y H2 hy => ?_⟩
   obtain ⟨φ2, p2, m2, R2, r2⟩ := jy y H2 hy
   refine ⟨φ2, _, σ', S', _, L'.mono m2 p2, R2, r2, hb, fun σ3 S3 φ3 H3 σ3V q3 p3 m3 R3 L3 => ?_⟩
   refine ⟨φ3, σ3, S3, _, L3, R3, q3, fun z S4 φ4 H4 z' q4 p4 m4 R4 r4 => ?_⟩
   refine ⟨φ4, σ3, S4, _, L3.mono m4 p4, R4, q4, fun v S5 φ5 H5 v' q5 p5 m5 R5 r5 => ?_⟩
   obtain ⟨kvs, kk, e5, ek, l5, n5⟩ := q5
   have hd : φ5[S1.length]? = some p := pre_get ((((p'.trans p2).trans p3).trans p4).trans p5) ep
   obtain ⟨ws, ea, ra⟩ := R5.obj _ _ _ hd e5
   have hk' := key_rel (RV.mono m5 p5 _ _ r4) ek
   refine ⟨ws, kk, ea, hk', by rw [← ra.length]; exact l5, ?_⟩
   refine ⟨φ5, σ3, _, (((p'.trans p2).trans p3).trans p4).trans p5, (((((m'.trans m2).trans m3).trans m4).trans m5)).trans (.dict ea), ((L3.mono m4 p4).mono m5 p5).mono (.dict ea) (List.prefix_refl _), R5.put (o := .dK (putP kvs kk v)) hd (.dict ea) ⟨_, upd_same, RKs.mono (.dict ea) (List.prefix_refl _) (ra.put kk r5)⟩, hN _ _ n5⟩
  ·have e : i = it.xs.length := by omega
   subst e
   rw [List.drop_length] at hf
   exact .inl ⟨hj.stop φ' H' S' (pp.trans p') (mp.trans m') R' hf.1 _ (Nat.le_refl _), k _ _ _ _ _ hf.2 ((p1.trans pp).trans p') ((m1.trans mp).trans m') R' ⟨p, rfl, pre_get p' ep⟩⟩⟩
theorem sim_setDC (i : Nat) {x : Str} {px sp : Pos} {tg iter kx vx : Expr} {scope : Scope} {wi : WI} {g : WG} {wk wv : WE} (N' : List Str) (ix : List (Option Nat)) (hN : X.N.Nodup) (hc : X.calm = true) (co : CompOk X scope N' ix) (hi : SimI X G tg iter wi) (hg : ∀ cl C s H fp, SimG (X.comp scope N' cl C s H fp) NoG tg g) (hk : ∀ cl C s H fp, SimE (X.comp scope N' cl C s H fp) NoG kx wk) (hv : ∀ cl C s H fp, SimE (X.comp scope N' cl C s H fp) NoG vx wv)
  (hsw : swapsWith (.DictComp kx vx [⟨tg, iter, [], 0⟩] scope pos) (some (.Name x px)) sp.line X.env = pure true := by rfl) (hii : X.N[i]? = some x := by rfl) (hx : L2.Loc X.env.scope x := by first | exact Or.inl rfl | exact Or.inr rfl)
  (hs : ∀ x, foldedSetIterable iter X.env x = pure x := by intro _; rfl) (hf : X.fn x = true ∨ X.env.scope.names.lookup x = some .local := by first | exact .inl rfl | exact .inr rfl | assumption) :
  SimS X G (.Assign [.Name x px] (.DictComp kx vx [⟨tg, iter, [], 0⟩] scope pos) sp) (wSet i (wDComp wi ix g wk wv)) :=
 (ps_setDC (g := liftG X.K NoG g) (tk := liftE X.K NoG wk) (tv := liftE X.K NoG wv) hsw hN hii hx hc co hi hg hk hv hs hf).imp fun D σV H h => dc_go (tg := tg) (iter := iter) (scope := scope) (set_lift h)
noncomputable def rPI : Int → Nat → List PV
 | _, 0 => []
 | k, n + 1 => .int k :: rPI (k + 1) n
theorem rPI_rel {K : PySem.W.Frag} {H : Hp} {φ : List Addr} : ∀ (n : Nat) (k : Int), RVs K H φ (rPI k n) (rngV k n)
 | 0, _ => rfl
 | n + 1, k => ⟨_, _, rfl, rfl, rPI_rel n (k + 1)⟩
noncomputable def wLRange (wa : WA) : WE := fun σ S E Q => wa σ S E fun xs S1 => ∃ j : Nat, xs = [.int j] ∧ j ≤ 100000 ∧ Q (.ref S1.length) (S1 ++ [.lst (rPI 0 j)])
theorem sim_lrange {a : Expr} {wa : WA} {p p2 pos2 : Pos} (hc : X.calm = true) (hm : X.mg "list" = none) (hm2 : X.mg "range" = none) (ha : SimA X G [a] wa) (hg : Gl X "list" := by rfl) (hg2 : Gl X "range" := by rfl)
  (he : starEach [.Call (.Name "range" p2) [a] [] pos2] X.env = (false, eval (.Call (.Name "range" p2) [a] [] pos2) X.env) :: starEach [] X.env := by rfl) (hs : starEach [a] X.env = [(false, eval a X.env)] := by rfl) :
  SimE X G (.Call (.Name "list" p) [.Call (.Name "range" p2) [a] [] pos2] [] pos) (wLRange wa) :=
 (pe_lrange hc ha hm hm2 hg hg2 he hs).imp fun σV H Q hh1 => by obtain ⟨φ, σ, S, Q0, L, R, h, k⟩ := hh1; exact (⟨φ, σ, S, _, L, R, h, fun vs S1 φ1 H1 xs q p1 m1 R1 r1 => by
  obtain ⟨j, rfl, q2, q⟩ := q
  obtain ⟨y, rfl, r⟩ := one_rel r1
  cases r
  exact ⟨j, rfl, q2, (k.up p1 m1).lst q R1 (rPI_rel j 0)⟩⟩)
end
end Ev
namespace My
open PySem L2 Ev
noncomputable def w_Ldeck_1929 : WS :=
 (wSeq (wSet 1 (wBin bAdd (wSl (wVar 0) wNoPart (wPart (wC (.int 63)))) (wLst (wCons (wC (.int 0)) wNil))))
 (wSeq (wSet 2 (wBin cEq (wBin bMod (wBin bIx (wVar 1) (wC (.int 0))) (wC (.int 2))) (wC (.int 1))))
 (wSeq (wAsg (wBin bFdiv (wBin bIx (wVar 1) (wC (.int 0))) (wC (.int 2))) (wgSub (wVar 1) (wC (.int 0)) sSet))
 (wRet (wDisp (wdCons (wC (.str (Str.ofString "cells"))) (wVar 1) (wdCons (wC (.str (Str.ofString "left"))) (wC (.int 12)) (wdCons (wC (.str (Str.ofString "at"))) (wC (.int 0)) (wdCons (wC (.str (Str.ofString "seed"))) (wBin bAdd (wC (.int 1)) (wBin bMod (wCB fSum (wCons (wVar 1) wNil)) (wC (.int 2147483646)))) (wdCons (wC (.str (Str.ofString "mixed"))) (wVar 2) wdNil))))))))))
noncomputable def w_Lnext_2686 : WS :=
 (wSeq (wSet 1 (wBin bIx (wVar 0) (wC (.str (Str.ofString "cells")))))
 (wSeq (wIfS (wTru (wBin bIx (wVar 0) (wC (.str (Str.ofString "mixed")))))
 (wSeq (wAsg (wBin bAdd (wBin bIx (wVar 0) (wC (.str (Str.ofString "at")))) (wC (.int 1))) (wgSub (wVar 0) (wC (.str (Str.ofString "at"))) sSet))
 (wSeq (wSet 2 (wBin bIx (wVar 1) (wBin bMod (wBin bIx (wVar 0) (wC (.str (Str.ofString "at")))) (wCB fLen (wCons (wVar 1) wNil)))))
 (wSeq (wAsg (wBin bMod (wBin bAdd (wBin bAdd (wBin bMul (wBin bIx (wVar 0) (wC (.str (Str.ofString "seed")))) (wC (.int 48271))) (wVar 2)) (wBin bIx (wVar 0) (wC (.str (Str.ofString "at"))))) (wC (.int 2147483647))) (wgSub (wVar 0) (wC (.str (Str.ofString "seed"))) sSet))
 (wSeq (wSet 3 (wBin bMod (wBin bAdd (wBin bMul (wBin bIx (wVar 0) (wC (.str (Str.ofString "seed")))) (wBin bIx (wVar 0) (wC (.str (Str.ofString "seed"))))) (wBin bMul (wC (.int 7919)) (wBin bIx (wVar 0) (wC (.str (Str.ofString "at")))))) (wC (.int 2147483629))))
 (wRet (wBin bMod (wBin bMul (wVar 3) (wBin bAdd (wVar 3) (wC (.int 69621)))) (wC (.int 999999999989))))))))
 wNext)
 (wSeq (wSet 3 (wBin bMod (wBin bIx (wVar 1) (wC (.int 0))) (wBin bPow (wC (.int 10)) (wC (.int 12)))))
 (wSeq (wAsg (wBin bFdiv (wBin bIx (wVar 1) (wC (.int 0))) (wBin bPow (wC (.int 10)) (wC (.int 12)))) (wgSub (wVar 1) (wC (.int 0)) sSet))
 (wSeq (wAsg (wBin bSub (wBin bIx (wVar 0) (wC (.str (Str.ofString "left")))) (wC (.int 1))) (wgSub (wVar 0) (wC (.str (Str.ofString "left"))) sSet))
 (wSeq (wIfS (wAnd (wTest (wBin cEq (wBin bIx (wVar 0) (wC (.str (Str.ofString "left")))) (wC (.int 0)))) (wTest (wBin cGt (wCB fLen (wCons (wVar 1) wNil)) (wC (.int 1)))))
 (wSeq (wDrop (wBM "list" mPopAt (wVar 1) (wCons (wC (.int 0)) wNil)))
 (wAsg (wC (.int 12)) (wgSub (wVar 0) (wC (.str (Str.ofString "left"))) sSet)))
 wNext)
 (wRet (wVar 3))))))))
noncomputable def w_Lspelled_70ad : WS :=
 (wSeq (wSet 2 (wC (.str (Str.ofString ""))))
 (wSeq (wFor (wiRange (wCons (wVar 1) wNil)) (wgName 3) (wSeq (wSet 2 (wBin bAdd (wVar 2) (wBin bIx (wC (.str (Str.ofString "abcdefghijklmnopqrstuvwxyz"))) (wBin bMod (wVar 0) (wC (.int 26))))))
 (wSet 0 (wBin bFdiv (wVar 0) (wC (.int 26))))))
 (wRet (wVar 2))))
noncomputable def w_Lword_e7ab (spLnext : Den) (spLspelled : Den) : WS :=
 (wSeq (wSet 2 (wCall spLnext (wCons (wVar 0) wNil)))
 (wSeq (wSet 3 (wCall spLnext (wCons (wVar 0) wNil)))
 (wSeq (wSet 4 (wBin bAdd (wC (.int 1)) (wBin bMod (wVar 2) (wC (.int 8)))))
 (wSeq (wSet 5 (wCall spLspelled (wCons (wVar 3) (wCons (wVar 4) wNil))))
 (wSeq (wIfS (wAnd (wTest (wBin cNe (wVar 1) (wLst wNil))) (wTest (wBin cEq (wBin bMod (wBin bFdiv (wVar 2) (wC (.int 8))) (wC (.int 2))) (wC (.int 1)))))
 (wSeq (wSet 6 (wBin bMod (wBin bFdiv (wVar 2) (wC (.int 16))) (wCB fLen (wCons (wBin bIx (wVar 1) (wC (.int 0))) wNil))))
 (wSet 5 (wBin bAdd (wBin bAdd (wSl (wBin bIx (wVar 1) (wC (.int 0))) wNoPart (wPart (wVar 6))) (wBin bIx (wVar 5) (wC (.int 0)))) (wSl (wBin bIx (wVar 1) (wC (.int 0))) (wPart (wBin bAdd (wVar 6) (wC (.int 1)))) wNoPart))))
 wNext)
 (wSeq (wWhile (wOr (wTest (wBin cIn (wVar 5) (wVar 1))) (wTest (wBin cEq (wVar 5) (wC (.str (Str.ofString "any")))))) (wSeq (wSet 3 (wBin bAdd (wVar 3) (wC (.int 1))))
 (wSeq (wSet 4 (wBin bAdd (wBin bMod (wVar 4) (wC (.int 8))) (wC (.int 1))))
 (wSet 5 (wCall spLspelled (wCons (wVar 3) (wCons (wVar 4) wNil)))))))
 (wRet (wVar 5))))))))
noncomputable def w_Lwords_3282 (spLword : Den) : WS :=
 (wSeq (wSet 2 (wLst wNil))
 (wSeq (wFor (wiRange (wCons (wVar 1) wNil)) (wgName 3) (wDrop (wBM "list" mAppend (wVar 2) (wCons (wCall spLword (wCons (wVar 0) (wCons (wVar 2) wNil))) wNil))))
 (wRet (wVar 2))))
local macro_rules | `(tactic| dsimp! [$xs,*]) => do
 let ns := (("wSet wAsg wgName wgSub wgTup wgCons wgNil sSet wIfS wTest wTru truK wAnd wOr wNot wAndV wNotV wNeg wBin wVar wC wCB wCons wNil wTup wLst wRet wDrop wCall wBM wSl bSl wPart wNoPart wNext wNever wFor wiAny wiRange wiRev wDComp wPar wDNew wiZip wComp wtTrue innerP bIAdd bAdd bI bSub bFdiv bMod bPow bMul cLt cGt cEq_ii cEq_ss cEq_tt cNe_ii cNe_rr cIn_t cIn_r cNotIn_r cIs isNon wRaise ix_t ix_s ix_f ix_r at_new keyOf fLen fIsi tyP fSum fAll fTuple fStr mAppend mPopAt wDisp wdCons wdNil List.getElem?_cons_zero List.getElem?_cons_succ List.set_cons_zero List.set_cons_succ List.map_cons List.map_nil List.replicate List.cons_append List.nil_append List.length_cons List.length_nil xor_f xor_t seq_new lst_new true_and if_true Bool.false_eq_true if_false Bool.not_true Bool.not_false kc_tuple kc_str kc_int kc_bool it_NoneType_list it_NoneType_tuple it_NoneType_str it_NoneType_int it_NoneType_bool it_bool_list it_bool_tuple it_bool_str it_bool_int it_bool_bool it_int_list it_int_tuple it_int_str it_int_int it_int_bool it_str_list it_str_tuple it_str_str it_str_int it_str_bool it_tuple_list it_tuple_tuple it_tuple_str it_tuple_int it_tuple_bool it_list_list it_list_tuple it_list_str it_list_int it_list_bool nrf_non nrf_bl nrf_int nrf_str nrf_tup eqB_ii eqB_ss eqB_tt okEq_str okEqs_nil decide_eq_true_eq and_self and_true decide_true decide_false not_true_eq_false not_false_eq_true Int.cast_ofNat_Int Int.reduceEq Int.reduceNeg Nat.reduceSub Nat.sub_self Bool.not_eq_true' decide_eq_false_iff_not Nat.reduceAdd".splitOn " ").map fun z => Lean.mkIdent z.toName).toArray
 let ds := (("wSet wAsg wgName wgSub wgTup wgCons wgNil sSet wIfS wTest wTru truK wAnd wOr wNot wAndV wNotV wNeg wBin wVar wC wCB wCons wNil wTup wLst wRet wDrop wCall wBM wSl bSl wPart wNoPart wNext wNever wFor wiAny wiRange wiRev wDComp wPar wDNew wiZip wComp wtTrue innerP bIAdd bAdd bI bSub bFdiv bMod bPow bMul cLt cGt cIs wRaise ix_t ix_s ix_f ix_r keyOf fLen fIsi tyP fSum fAll fTuple fStr mAppend mPopAt wDisp wdCons wdNil true_and List.getElem?_cons_zero List.getElem?_cons_succ List.set_cons_zero List.set_cons_succ List.map_cons List.map_nil List.cons_append List.nil_append".splitOn " ").map fun z => Lean.mkIdent z.toName).toArray
 `(tactic| first | (dsimp only [$[$ds:ident],*]; first | simp only [$[$ns:ident],*, $xs,*] | skip) | simp only [$[$ns:ident],*, $xs,*])
noncomputable def mk (l : List Nat) : Str := ⟨l.toArray⟩
theorem mk_list (l : List Nat) : (mk l).cps.toList = l := rfl
theorem mk_len (l : List Nat) : (mk l).length = l.length := by simp [mk, Str.length]
theorem mk_app (a b : List Nat) : mk a ++ mk b = mk (a ++ b) := by
 apply str_ext
 rw [app_list, mk_list, mk_list, mk_list]
theorem mk_inj {a b : List Nat} (h : mk a = mk b) : a = b := by rw [← mk_list a, h, mk_list]
theorem len_list (z : Str) : z.cps.toList.length = z.length := by simp [Str.length]
theorem empty_mk : Str.ofString "" = mk [] := by decide +kernel
theorem chr_mk (c : Nat) : (⟨#[c]⟩ : Str) = mk [c] := rfl
noncomputable def isL (c : Nat) : Bool := inS ⟨#[c]⟩ (Str.ofString "abcdefghijklmnopqrstuvwxyz")
noncomputable def nameB (z : Str) : Bool := !decide (z.length = 0) && !decide (8 < z.length) && z.cps.toList.all isL
inductive Kd where
 | a (s : Str) | p (f t : Kd)
noncomputable def Kd.pv : Kd → PV
 | .a s => .str s
 | .p f t => .tup [f.pv, t.pv]
noncomputable def Kd.lv : Kd → Nat
 | .a _ => 1
 | .p f t => f.lv + t.lv
noncomputable def Kd.ok : Kd → Prop
 | .a s => nameB s = true
 | .p f t => f.ok ∧ t.ok
theorem nameB_len {s : Str} (h : nameB s = true) : 1 ≤ s.length ∧ s.length ≤ 8 ∧ s.cps.toList.all isL = true := by
 unfold nameB at h
 simp only [Bool.and_eq_true, Bool.not_eq_true', decide_eq_false_iff_not] at h
 exact ⟨by omega, by omega, h.2⟩
theorem okEqs2 (a b : Str) : okEqs [.str a, .str b] := okEqs_strs [a, b]
structure ReadAt (S0 : Store) (z : Str) (np ns : Nat) (pcs : List Str) (st : List Kd) (σ : Ev.Loc) (S : Store) : Prop where
 loc : ∃ j, σ = [some (.str z), some (.ref np), some (.ref ns), j]
 pcs : S[np]? = some (.lst (pcs.map PV.str))
 stk : S[ns]? = some (.lst (st.map Kd.pv))
 ext : Ex [] S0 S
section
variable {spc spi : Den} {S0 : Store} {z : Str} {np ns : Nat} {pcs : List Str} {D : PEnds} {E : EK}
end
noncomputable def deckD (c : Nat) (l a s : Int) (m : Bool) : List (Key × PV) := [(.inr (Str.ofString "cells"), .ref c), (.inr (Str.ofString "left"), .int l), (.inr (Str.ofString "at"), .int a), (.inr (Str.ofString "seed"), .int s), (.inr (Str.ofString "mixed"), .bl m)]
theorem dk_cells (c : Nat) (l a s : Int) (m : Bool) : valP (deckD c l a s m) (.inr (Str.ofString "cells")) = some (.ref c) := rfl
theorem dk_left (c : Nat) (l a s : Int) (m : Bool) : valP (deckD c l a s m) (.inr (Str.ofString "left")) = some (.int l) := rfl
theorem dk_at (c : Nat) (l a s : Int) (m : Bool) : valP (deckD c l a s m) (.inr (Str.ofString "at")) = some (.int a) := rfl
theorem dk_seed (c : Nat) (l a s : Int) (m : Bool) : valP (deckD c l a s m) (.inr (Str.ofString "seed")) = some (.int s) := rfl
theorem dk_mixed (c : Nat) (l a s : Int) (m : Bool) : valP (deckD c l a s m) (.inr (Str.ofString "mixed")) = some (.bl m) := rfl
theorem dp_left (c : Nat) (l a s : Int) (m : Bool) (x : Int) : putP (deckD c l a s m) (.inr (Str.ofString "left")) (.int x) = deckD c x a s m := rfl
theorem dp_at (c : Nat) (l a s : Int) (m : Bool) (x : Int) : putP (deckD c l a s m) (.inr (Str.ofString "at")) (.int x) = deckD c l x s m := rfl
theorem dp_seed (c : Nat) (l a s : Int) (m : Bool) (x : Int) : putP (deckD c l a s m) (.inr (Str.ofString "seed")) (.int x) = deckD c l a x m := rfl
theorem dk_len (c : Nat) (l a s : Int) (m : Bool) : (deckD c l a s m).length < sizeLine := bigl (by show 5 ≤ 1000000; decide)
structure Deck (d c : Nat) (S : Store) : Prop where
 is : ∃ (l a s : Int) (m : Bool) (x : Int) (xs : List Int), S[d]? = some (.dK (deckD c l a s m)) ∧ S[c]? = some (.lst ((x :: xs).map PV.int)) ∧ xs.length ≤ 100 ∧ 0 ≤ s ∧ s < 2147483647
 ne : d ≠ c
theorem Deck.ex {d c : Nat} {S S' : Store} (h : Deck d c S) {D : List Nat} (e : Ex D S S') (h1 : d ∉ D) (h2 : c ∉ D) : Deck d c S' := by
 obtain ⟨⟨l, a, s, m, x, xs, g1, g2, r⟩, ne⟩ := h
 exact ⟨⟨l, a, s, m, x, xs, e.get g1 h1, e.get g2 h2, r⟩, ne⟩
noncomputable def NextD (sp : Den) : Prop := ∀ (d c : Nat) (S : Store) (E : EK) (Q : VC), Deck d c S → (∀ (n : Int) S', 0 ≤ n → n < 1000000000000 → Deck d c S' → Ex [d, c] S S' → Q (.int n) S') → sp [.ref d] S E Q
theorem ixN_zero (n : Nat) : ixN (n + 1) 0 = some 0 := by
 unfold ixN
 rw [if_pos (by decide), if_pos (by omega)]
 rfl
theorem atI_zero (x : PV) (xs : List PV) : atI (x :: xs) 0 = some x := by
 unfold atI ixN
 simp only [List.length_cons]
 rw [if_pos (by decide), if_pos (by omega)]
 rfl
theorem atI_mod {xs : List Int} {i : Int} (h : xs ≠ []) : ∃ y, atI (xs.map PV.int) (i % (xs.length : Int)) = some (.int y) := by
 have hp : 0 < xs.length := List.length_pos_iff.mpr h
 have h0 : 0 ≤ i % (xs.length : Int) := Int.emod_nonneg _ (by omega)
 have h1 : i % (xs.length : Int) < xs.length := Int.emod_lt_of_pos _ (by omega)
 unfold atI ixN
 rw [List.length_map, if_pos h0, if_pos h1]
 have : (i % (xs.length : Int)).toNat < xs.length := by omega
 exact ⟨xs[(i % (xs.length : Int)).toNat], by simp [this]⟩
theorem cmul_r {i j : Int} (h : -(2 ^ 64) < j) (h' : j < 2 ^ 64) : CMul i j := .inr ⟨h, h'⟩
theorem cmul_l {i j : Int} (h : -(2 ^ 64) < i) (h' : i < 2 ^ 64) : CMul i j := .inl ⟨h, h'⟩
theorem next_ok : NextD (fnP 1 4 w_Lnext_2686) := by
 rintro d c S E Q ⟨⟨l, a, s, m, x, xs, g1, g2, hl, s0, s1⟩, ne⟩ h
 refine ⟨rfl, ?_⟩
 unfold w_Lnext_2686
 refine seqI fun K hK => ?_
 dsimp! [g1, dk_cells]
 refine hK _ _ ?_
 refine seqI fun K hK => ?_
 dsimp! [g1, dk_mixed]
 refine ite2 (fun hm => ?_) (fun hm => ?_)
 ·refine seqI fun K2 hK2 => ?_
  dsimp! [g1, dk_at, dp_at]
  refine ⟨dk_len _ _ _ _ _, hK2 _ _ ?_⟩
  have a1 := at_set (.dK (deckD c l (a + 1) s m)) g1
  have b1 := at_ne (j := d) (.dK (deckD c l (a + 1) s m)) g2 ne
  refine seqI fun K2 hK2 => ?_
  obtain ⟨y, hy⟩ := atI_mod (xs := x :: xs) (i := a + 1) (by simp)
  dsimp! [a1, b1, dk_at, seq_at b1, List.length_map]
  simp only [List.map_cons, List.length_cons] at hy
  rw [show ((xs.length + 1 : Nat) : Int) = ((xs.length : Int) + 1) by omega] at hy ⊢
  refine ⟨by omega, ?_⟩
  rw [hy]
  refine hK2 _ _ ?_
  refine seqI fun K2 hK2 => ?_
  dsimp! [a1, dk_at, dk_seed, dp_seed]
  refine ⟨cmul_r (by decide) (by decide), by decide, dk_len _ _ _ _ _, hK2 _ _ ?_⟩
  have s2 : ∀ z : Int, 0 ≤ z % 2147483647 ∧ z % 2147483647 < 2147483647 := fun z => ⟨Int.emod_nonneg _ (by decide), Int.emod_lt_of_pos _ (by decide)⟩
  obtain ⟨t0, t1⟩ := s2 (s * 48271 + y + (a + 1))
  generalize hs' : (s * 48271 + y + (a + 1)) % 2147483647 = s' at t0 t1 ⊢
  have a2 := at_set (.dK (deckD c l (a + 1) s' m)) a1
  have b2 := at_ne (j := d) (.dK (deckD c l (a + 1) s' m)) b1 ne
  refine seqI fun K2 hK2 => ?_
  dsimp! [a2, dk_at, dk_seed]
  refine ⟨cmul_r (by omega) (by omega), cmul_l (by decide) (by decide), by decide, hK2 _ _ ?_⟩
  have n0 : 0 ≤ (s' * s' + 7919 * (a + 1)) % 2147483629 := Int.emod_nonneg _ (by decide)
  have n1 : (s' * s' + 7919 * (a + 1)) % 2147483629 < 2147483629 := Int.emod_lt_of_pos _ (by decide)
  generalize (s' * s' + 7919 * (a + 1)) % 2147483629 = nn at n0 n1 ⊢
  dsimp! [true_and]
  refine ⟨cmul_r (by omega) (by omega), by decide, ?_⟩
  refine h _ _ (Int.emod_nonneg _ (by decide)) (Int.lt_trans (Int.emod_lt_of_pos _ (by decide)) (by decide)) ⟨⟨l, a + 1, s', m, x, xs, a2, b2, hl, t0, t1⟩, ne⟩ (((Ex.refl _ _).set (.inl (by simp))).set (.inl (by simp)))
 ·refine hK _ _ ?_
  refine seqI fun K hK => ?_
  dsimp! [g2, atI_zero]
  refine ⟨⟨by decide, by decide, by decide⟩, by decide, hK _ _ ?_⟩
  rw [show ((10 : Int) ^ (12 : Int).toNat) = 1000000000000 by decide]
  refine seqI fun K hK => ?_
  simp only [List.map_cons] at g2
  dsimp! [g2, atI_zero, ixN_zero]
  rw [show ((10 : Int) ^ (12 : Int).toNat) = 1000000000000 by decide]
  refine ⟨⟨by decide, by decide, by decide⟩, ⟨by decide, by decide⟩, hK _ _ ?_⟩
  have b1 := at_set (.lst (PV.int (x / 1000000000000) :: xs.map PV.int)) g2
  have a1 := at_ne (j := c) (.lst (PV.int (x / 1000000000000) :: xs.map PV.int)) g1 (Ne.symm ne)
  refine seqI fun K hK => ?_
  dsimp! [a1, dk_left, dp_left]
  refine ⟨dk_len _ _ _ _ _, hK _ _ ?_⟩
  have a2 := at_set (.dK (deckD c (l - 1) a s m)) a1
  have b2 := at_ne (j := d) (.dK (deckD c (l - 1) a s m)) b1 ne
  have n0 : 0 ≤ x % 1000000000000 := Int.emod_nonneg _ (by decide)
  have n1 : x % 1000000000000 < 1000000000000 := Int.emod_lt_of_pos _ (by decide)
  have exx : Ex [d, c] S ((S.set c (.lst (PV.int (x / 1000000000000) :: xs.map PV.int))).set d (.dK (deckD c (l - 1) a s m))) := ((Ex.refl _ _).set (.inl (by simp))).set (.inl (by simp))
  refine seqI fun K hK => ?_
  dsimp! [a2, dk_left, seq_at b2, List.length_map]
  have fin0 : K [some (.ref d), some (.ref c), none, some (.int (x % 1000000000000))] ((S.set c (.lst (PV.int (x / 1000000000000) :: xs.map PV.int))).set d (.dK (deckD c (l - 1) a s m))) := by
   refine hK _ _ ?_
   dsimp! [true_and]
   exact h _ _ n0 n1 ⟨⟨l - 1, a, s, m, x / 1000000000000, xs, a2, b2, hl, s0, s1⟩, ne⟩ exx
  refine ite2 (fun z => ite2 (fun z2 => ?_) (fun z2 => fin0)) (fun z => fin0)
  refine seqI fun K2 hK2 => ?_
  dsimp! [b2, lst_at b2, ixN_zero, List.eraseIdx_zero, List.tail_cons]
  refine ⟨⟨by decide, by decide⟩, hK2 _ _ ?_⟩
  have b3 := at_set (.lst (xs.map PV.int)) b2
  have a3 := at_ne (j := c) (.lst (xs.map PV.int)) a2 (Ne.symm ne)
  dsimp! [a3, dp_left]
  refine ⟨dk_len _ _ _ _ _, hK _ _ ?_⟩
  dsimp! [true_and]
  obtain ⟨x', xs', rfl⟩ : ∃ x' xs', xs = x' :: xs' := by
   cases xs with
   | nil => simp at z2
   | cons a b => exact ⟨a, b, rfl⟩
  refine h _ _ n0 n1 ⟨⟨12, a, s, m, x', xs', at_set _ a3, at_ne _ b3 ne, by simp at hl; omega, s0, s1⟩, ne⟩ ((exx.set (.inl (by simp))).set (.inl (by simp)))
noncomputable def DeckD (sp : Den) : Prop := ∀ (ns : List Int) (S : Store) (E : EK) (Q : VC), ns.length ≤ 63 → (∀ d c S', Deck d c S' → Ex [] S S' → S.length ≤ c → S.length ≤ d → Q (.ref d) S') → sp [.frl (ns.map .int)] S E Q
theorem cut63 (ns : List Int) (h : ns.length ≤ 63) : cutP (ns.map PV.int) none (some 63) = ns.map PV.int := by
 unfold cutP
 have : HT.sIx (ns.map PV.int).length (ns.map PV.int).length (some 63) = (ns.map PV.int).length := by
  rw [show (63 : Int) = ((63 : Nat) : Int) from rfl, HT.sIx_nat, List.length_map]
  omega
 rw [this, HT.sIx_none, List.drop_zero, Nat.sub_zero, List.take_length]
theorem deck_ok : DeckD (fnP 1 3 w_Ldeck_1929) := by
 intro ns S E Q hl h
 refine ⟨rfl, ?_⟩
 unfold w_Ldeck_1929
 refine seqI fun K hK => ?_
 obtain ⟨x, xs, hxs, hxl⟩ : ∃ x xs, ns ++ [0] = x :: xs ∧ xs.length ≤ 100 := by
  cases ns with
  | nil => exact ⟨0, [], rfl, by simp⟩
  | cons a r => exact ⟨a, r ++ [0], rfl, by simp at hl ⊢; omega⟩
 have e0 : (S ++ [SO.lst (ns.map PV.int)])[S.length]? = some (.lst (ns.map PV.int)) := at_new _ _
 have e1 := at_old e0 [SO.lst [PV.int 0]]
 have e2 := at_new (S ++ [SO.lst (ns.map PV.int)]) (.lst [PV.int 0])
 dsimp! [cut63 ns hl, lst_at e1]
 refine ⟨big (by decide), ⟨by rw [List.length_map]; exact big (by omega), hK _ _ ?_⟩⟩
 have ecat : ns.map PV.int ++ [PV.int 0] = (x :: xs).map PV.int := by rw [← hxs]; simp
 rw [ecat]
 generalize hS3 : S ++ [SO.lst (ns.map PV.int)] ++ [SO.lst [PV.int 0]] = S3
 have hx3 : Ex [] S S3 := by rw [← hS3]; exact (Ex.new _ _ _).app _
 have g := at_new S3 (.lst ((x :: xs).map PV.int))
 refine seqI fun K hK => ?_
 simp only [List.map_cons] at g
 dsimp! [g, atI_zero]
 refine ⟨by decide, hK _ _ ?_⟩
 refine seqI fun K hK => ?_
 dsimp! [g, atI_zero, ixN_zero]
 refine ⟨⟨by decide, by decide⟩, hK _ _ ?_⟩
 have g2 := at_set (.lst (PV.int (x / 2) :: xs.map PV.int)) g
 have hx4 : Ex [] S ((S3 ++ [SO.lst (PV.int x :: xs.map PV.int)]).set S3.length (.lst (PV.int (x / 2) :: xs.map PV.int))) := (hx3.app _).set (.inr hx3.1)
 generalize hS4 : (S3 ++ [SO.lst (PV.int x :: xs.map PV.int)]).set S3.length (.lst (PV.int (x / 2) :: xs.map PV.int)) = S4 at g2 hx4 ⊢
 have g3 := at_old g2 [SO.dK []]
 have eI : intsOf (PV.int (x / 2) :: xs.map PV.int) = some ((x / 2) :: xs) := intsOf_map ((x / 2) :: xs)
 dsimp! [seq_at g3, Option.bind_some, eI]
 refine ⟨by decide, by first | exact ⟨at_new _ _, by decide⟩ | decide, ?_⟩
 have em : ∀ (b : Bool) (s : Int), mergeP [] [(Sum.inr (Str.ofString "cells"), PV.ref S3.length), (Sum.inr (Str.ofString "left"), PV.int 12), (Sum.inr (Str.ofString "at"), PV.int 0), (Sum.inr (Str.ofString "seed"), PV.int s), (Sum.inr (Str.ofString "mixed"), PV.bl b)] = deckD S3.length 12 0 s b := fun b s => rfl
 rw [em]
 have hlt : S3.length < S4.length := lt_of_at g2
 have n0 : 0 ≤ ((x / 2) :: xs).sum % 2147483646 := Int.emod_nonneg _ (by decide)
 have n1 : ((x / 2) :: xs).sum % 2147483646 < 2147483646 := Int.emod_lt_of_pos _ (by decide)
 refine h S4.length S3.length _ ⟨⟨12, 0, _, _, x / 2, xs, at_set _ (at_new S4 (SO.dK [])), at_ne _ g3 (by omega), hxl, ?_, ?_⟩, by omega⟩ ((hx4.app _).set (.inr hx4.1)) hx3.1 hx4.1
 ·generalize ((x / 2) :: xs).sum % 2147483646 = y at n0 n1 ⊢; omega
 ·generalize ((x / 2) :: xs).sum % 2147483646 = y at n0 n1 ⊢; omega
noncomputable def spl : Int → Nat → List Nat
 | _, 0 => []
 | n, k + 1 => (97 + (n % 26).toNat) :: spl (n / 26) k
theorem spl_len : ∀ (k : Nat) (n : Int), (spl n k).length = k
 | 0, _ => rfl
 | k + 1, n => by rw [spl, List.length_cons, spl_len k]
noncomputable def SpelledD (sp : Den) : Prop := ∀ (n : Int) (k : Nat) (S : Store) (E : EK) (Q : VC), k ≤ 8 → Q (.str (mk (spl n k))) S → sp [.int n, .int k] S E Q
theorem rng_len (lo : Int) (n : Nat) : (rngP lo n).length = n := by simp [rngP]
theorem spelled_ok : SpelledD (fnP 2 4 w_Lspelled_70ad) := by
 intro n k S E Q hk h
 refine ⟨rfl, ?_⟩
 unfold w_Lspelled_70ad
 refine seqI fun K hK => ?_
 dsimp! [true_and]
 refine hK _ _ ?_
 refine seqI fun K hK => ?_
 dsimp! [true_and]
 refine ⟨⟨by omega, by omega⟩, ?_⟩
 rw [Int.toNat_natCast]
 refine forI (fun rest σ S1 => ∃ (num : Int) (w : List Nat) (j : Option PV), σ = [some (.int num), some (.int k), some (.str (mk w)), j] ∧ S1 = S ∧ w ++ spl num rest.length = spl n k) ?_ ?_ _ _ _ ⟨n, [], none, by rw [empty_mk], rfl, by rw [rng_len]; rfl⟩
 ·rintro σ S1 ⟨num, w, j, rfl, rfl, hw⟩
  refine ⟨trivial, hK _ _ ?_⟩
  dsimp! [true_and]
  rw [List.length_nil, spl, List.append_nil] at hw
  rw [hw]
  exact h
 ·rintro x r σ S1 ⟨num, w, j, rfl, rfl, hw⟩ N hN
  rw [List.length_cons, spl] at hw
  refine ⟨trivial, ?_⟩
  have hwl : w.length ≤ 8 := by
   have := congrArg List.length hw
   rw [List.length_append, spl_len] at this
   omega
  have m0 : 0 ≤ num % 26 := Int.emod_nonneg _ (by decide)
  have m1 : num % 26 < 26 := Int.emod_lt_of_pos _ (by decide)
  dsimp! [true_and]
  refine seqI fun K2 hK2 => ?_
  dsimp! [letters_at m0 m1]
  refine ⟨by decide, letters_len, ?_⟩
  rw [chr_mk, mk_app, mk_len, mk_len]
  refine ⟨big (by simp; omega), hK2 _ _ ?_⟩
  dsimp! [true_and]
  refine ⟨⟨by decide, by decide⟩, hN _ _ ⟨num / 26, w ++ [97 + (num % 26).toNat], _, rfl, rfl, by rw [← hw]; simp⟩⟩
theorem isL_low : ∀ m : Nat, m < 26 → isL (97 + m) = true := by decide +kernel
theorem spl_isL : ∀ (k : Nat) (n : Int), (spl n k).all isL = true
 | 0, _ => rfl
 | k + 1, n => by
  have m0 : 0 ≤ n % 26 := Int.emod_nonneg _ (by decide)
  have m1 : n % 26 < 26 := Int.emod_lt_of_pos _ (by decide)
  rw [spl, List.all_cons, spl_isL k, Bool.and_true]
  exact isL_low _ (by omega)
theorem nameB_mk {l : List Nat} (h1 : 1 ≤ l.length) (h8 : l.length ≤ 8) (h : l.all isL = true) : nameB (mk l) = true := by
 unfold nameB
 rw [mk_len, mk_list, h, decide_eq_false (by omega), decide_eq_false (by omega)]
 rfl
theorem nodup_le {α : Type} [DecidableEq α] : ∀ {l F : List α}, l.Nodup → (∀ x ∈ l, x ∈ F) → l.length ≤ F.length
 | [], _, _, _ => Nat.zero_le _
 | a :: l, F, nd, h => by
  obtain ⟨h1, h2⟩ := List.nodup_cons.mp nd
  have ha : a ∈ F := h a (by simp)
  have := nodup_le (l := l) (F := F.erase a) h2 fun x hx => (List.mem_erase_of_ne (by rintro rfl; exact h1 hx)).mpr (h x (List.mem_cons_of_mem _ hx))
  rw [List.length_erase_of_mem ha] at this
  have : 0 < F.length := List.length_pos_of_mem ha
  simp only [List.length_cons]
  omega
noncomputable def sAny : Str := Str.ofString "any"
noncomputable def szn (k i : Nat) : Nat := (k - 1 + i) % 8 + 1
theorem szn_step (k i : Nat) : szn (szn k 1) i = szn k (i + 1) := by unfold szn; omega
noncomputable def Bad (ws : List Str) (w : Str) : Prop := w ∈ ws ∨ w = sAny
noncomputable def GoodAt (ws : List Str) (num : Int) (k i : Nat) : Prop := ¬ Bad ws (mk (spl (num + (i : Nat)) (szn k i)))
theorem sl_take (z : Str) (k : Nat) (h : k ≤ z.length) : Txt.slice z none (some (k : Int)) = mk (z.cps.toList.take k) := by
 apply str_ext
 rw [slice_list, mk_list, HT.sIx_none, HT.sIx_nat, List.drop_zero, Nat.sub_zero, Nat.min_eq_left h]
theorem sl_drop (z : Str) (k : Nat) (h : k ≤ z.length) : Txt.slice z (some (k : Int)) none = mk (z.cps.toList.drop k) := by
 apply str_ext
 rw [slice_list, mk_list, HT.sIx_none, HT.sIx_nat, Nat.min_eq_left h, List.take_of_length_le]
 rw [List.length_drop, len_list]
 exact Nat.le_refl _
theorem eqBs_nil (ws : List Str) : eqBs (ws.map PV.str) [] = ws.isEmpty := by cases ws <;> simp [eqBs]
theorem any_eq (ws : List Str) (w : Str) : ((ws.map PV.str).any fun y => eqB y (.str w)) = decide (w ∈ ws) := by
 rw [List.any_map, Bool.eq_iff_iff, List.any_eq_true, decide_eq_true_eq]
 constructor
 ·rintro ⟨x, hx, e⟩
  have e' : eqB (.str x) (.str w) = true := e
  rw [eqB_ss, decide_eq_true_eq] at e'
  rw [← e']; exact hx
 ·intro h
  exact ⟨w, h, by show eqB (.str w) (.str w) = true; rw [eqB_ss]; simp⟩
theorem all_take {p : Nat → Bool} {l : List Nat} (k : Nat) (h : l.all p = true) : (l.take k).all p = true := List.all_eq_true.mpr fun x hx => List.all_eq_true.mp h x (List.mem_of_mem_take hx)
theorem all_drop {p : Nat → Bool} {l : List Nat} (k : Nat) (h : l.all p = true) : (l.drop k).all p = true := List.all_eq_true.mpr fun x hx => List.all_eq_true.mp h x (List.mem_of_mem_drop hx)
theorem atI_nat' {α : Type} (xs : List α) (j : Nat) (h : j < xs.length) : atI xs (j : Int) = some xs[j] := by
 unfold atI ixN
 rw [if_pos (by omega), if_pos (by omega)]
 simp [h]
theorem cut_pre (xs : List PV) (k : Nat) (h : k ≤ xs.length) : cutP xs none (some (k : Int)) = xs.take k := by
 unfold cutP
 rw [HT.sIx_none, HT.sIx_nat, List.drop_zero, Nat.sub_zero, Nat.min_eq_left h]
theorem cut_suf (xs : List PV) (k : Nat) (h : k ≤ xs.length) : cutP xs (some (k : Int)) none = xs.drop k := by
 unfold cutP
 rw [HT.sIx_none, HT.sIx_nat, Nat.min_eq_left h, List.take_of_length_le]
 rw [List.length_drop]
 exact Nat.le_refl _
noncomputable def w_made_59db : WS :=
 (wSeq (wIfS (wTest (wBin cEq (wBin bIx (wVar 0) (wC (.int 0))) (wC (.str (Str.ofString "/")))))
 (wSeq (wIfS (wTest (wBin cEq (wBin bIx (wVar 0) (wC (.int 2))) (wVar 1)))
 (wRet (wTup (wCons (wC (.str (Str.ofString ">"))) (wCons (wBin bIx (wVar 0) (wC (.int 1))) wNil))))
 wNext)
 (wIfS (wAnd (wTest (wBin cEq (wBin bIx (wVar 1) (wC (.int 0))) (wC (.str (Str.ofString "/"))))) (wTest (wBin cEq (wBin bIx (wVar 0) (wC (.int 2))) (wBin bIx (wVar 1) (wC (.int 1))))))
 (wRet (wTup (wCons (wC (.str (Str.ofString ">>"))) (wCons (wTup (wCons (wC (.str (Str.ofString "/"))) (wCons (wBin bIx (wVar 0) (wC (.int 1))) (wCons (wBin bIx (wVar 1) (wC (.int 2))) wNil)))) wNil))))
 wNext))
 wNext)
 (wSeq (wIfS (wTest (wBin cEq (wBin bIx (wVar 1) (wC (.int 0))) (wC (.str (Str.ofString "\\")))))
 (wSeq (wIfS (wTest (wBin cEq (wBin bIx (wVar 1) (wC (.int 2))) (wVar 0)))
 (wRet (wTup (wCons (wC (.str (Str.ofString "<"))) (wCons (wBin bIx (wVar 1) (wC (.int 1))) wNil))))
 wNext)
 (wIfS (wAnd (wTest (wBin cEq (wBin bIx (wVar 0) (wC (.int 0))) (wC (.str (Str.ofString "\\"))))) (wTest (wBin cEq (wBin bIx (wVar 1) (wC (.int 2))) (wBin bIx (wVar 0) (wC (.int 1))))))
 (wRet (wTup (wCons (wC (.str (Str.ofString "<<"))) (wCons (wTup (wCons (wC (.str (Str.ofString "\\"))) (wCons (wBin bIx (wVar 1) (wC (.int 1))) (wCons (wBin bIx (wVar 0) (wC (.int 2))) wNil)))) wNil))))
 wNext))
 wNext)
 (wRet (wC .non))))
inductive Fm where
 | b (s : Str) | n (l : Bool) (x y : Fm)
deriving DecidableEq
noncomputable def sSl : Bool → Str
 | false => Str.ofString "/"
 | true => Str.ofString "\\"
noncomputable def Fm.pv : Fm → PV
 | .b s => .tup [.str (Str.ofString "basic"), .str s]
 | .n l x y => .tup [.str (sSl l), x.pv, y.pv]
noncomputable def Fm.dp : Fm → Nat
 | .b _ => 1
 | .n _ x y => max x.dp y.dp + 1
noncomputable def Fm.lv : Fm → Nat
 | .b _ => 1
 | .n _ x y => x.lv + y.lv
noncomputable def Fm.ov (ws : List Str) : Fm → Prop
 | .b s => s ∈ ws
 | .n _ x y => x.ov ws ∧ y.ov ws
theorem Fm.lv_pos : ∀ f : Fm, 1 ≤ f.lv
 | .b _ => Nat.le_refl _
 | .n _ x y => Nat.le_trans (Fm.lv_pos x) (Nat.le_add_right _ _)
theorem Fm.dp_lv : ∀ f : Fm, f.dp ≤ f.lv
 | .b _ => Nat.le_refl _
 | .n _ x y => by have := Fm.dp_lv x; have := Fm.dp_lv y; have := Fm.lv_pos x; have := Fm.lv_pos y; simp only [Fm.dp, Fm.lv]; omega
theorem Fm.pv_tup (f : Fm) : ∃ xs, f.pv = .tup xs := by cases f <;> exact ⟨_, rfl⟩
theorem nrf_fm : ∀ f : Fm, nrf f.pv = true
 | .b _ => rfl
 | .n _ x y => by simp only [Fm.pv, nrf, nrfs, nrf_fm x, nrf_fm y, Bool.and_self]
theorem dep_fm : ∀ f : Fm, dep f.pv = f.dp
 | .b _ => rfl
 | .n _ x y => by simp only [Fm.pv, dep, deps, dep_fm x, dep_fm y, Fm.dp]; omega
theorem sSl_ne : sSl false ≠ sSl true := by decide +kernel
theorem eqB_fm : ∀ f g : Fm, eqB f.pv g.pv = decide (f = g)
 | .b s, .b t => by simp [Fm.pv, eqB_tt, eqBs, eqB_ss]
 | .b s, .n l x y => by simp [Fm.pv, eqB_tt, eqBs, eqB_ss]
 | .n l x y, .b s => by simp [Fm.pv, eqB_tt, eqBs, eqB_ss]
 | .n l x y, .n m u v => by
  have h : (sSl l = sSl m) ↔ l = m := by
   cases l <;> cases m <;> simp [sSl_ne, sSl_ne.symm]
  simp [Fm.pv, eqB_tt, eqBs, eqB_ss, eqB_fm x u, eqB_fm y v, h]
theorem okEq_fm {f : Fm} (h : f.dp ≤ 190) : okEq f.pv := ⟨nrf_fm f, by rw [dep_fm]; exact h⟩
theorem cEq_fm {f g : Fm} (hf : f.dp ≤ 190) (hg : g.dp ≤ 190) (S : Store) (Q : VC) : cEq f.pv g.pv S Q = Q (.bl (decide (f = g))) S := by
 have h := eqB_fm f g
 have o1 := okEq_fm hf
 have o2 := okEq_fm hg
 obtain ⟨xs, hx⟩ := f.pv_tup
 obtain ⟨ys, hy⟩ := g.pv_tup
 rw [hx, hy] at h
 rw [hx] at o1 ⊢
 rw [hy] at o2 ⊢
 rw [cEq_tt, ← eqB_tt, h]
 simp only [o1, o2, and_self, true_and]
theorem fb0 (s : Str) (S : Store) (Q : VC) : bIx (Fm.b s).pv (.int 0) S Q = Q (.str (Str.ofString "basic")) S := rfl
theorem fb1 (s : Str) (S : Store) (Q : VC) : bIx (Fm.b s).pv (.int 1) S Q = Q (.str s) S := rfl
theorem fn0 (l : Bool) (x y : Fm) (S : Store) (Q : VC) : bIx (Fm.n l x y).pv (.int 0) S Q = Q (.str (sSl l)) S := rfl
theorem fn1 (l : Bool) (x y : Fm) (S : Store) (Q : VC) : bIx (Fm.n l x y).pv (.int 1) S Q = Q x.pv S := rfl
theorem fn2 (l : Bool) (x y : Fm) (S : Store) (Q : VC) : bIx (Fm.n l x y).pv (.int 2) S Q = Q y.pv S := rfl
theorem sl_ff : (sSl false = Str.ofString "/") = True := by simp only [sSl]
theorem sl_fb : (sSl false = Str.ofString "\\") = False := by simp only [eq_iff_iff, iff_false]; decide +kernel
theorem sl_tt : (sSl true = Str.ofString "\\") = True := by simp only [sSl]
theorem sl_tb : (sSl true = Str.ofString "/") = False := by simp only [eq_iff_iff, iff_false]; decide +kernel
theorem sl_basic (l : Bool) : (sSl l = Str.ofString "basic") = False := by cases l <;> (simp only [eq_iff_iff, iff_false]; decide +kernel)
theorem ba_f : (Str.ofString "basic" = Str.ofString "/") = False := by simp only [eq_iff_iff, iff_false]; decide +kernel
theorem ba_b : (Str.ofString "basic" = Str.ofString "\\") = False := by simp only [eq_iff_iff, iff_false]; decide +kernel
mutual
theorem eqB_self : ∀ x : PV, nrf x = true → eqB x x = true
 | .non, _ => rfl
 | .bl b, _ => by simp [eqB]
 | .int i, _ => by simp [eqB]
 | .str s, _ => by rw [eqB_ss]; simp
 | .tup xs, h => by rw [eqB_tt]; exact eqBs_self xs (by rw [nrf_tup] at h; exact h)
theorem eqBs_self : ∀ xs : List PV, nrfs xs = true → eqBs xs xs = true
 | [], _ => rfl
 | x :: xs, h => by
  simp only [nrfs, Bool.and_eq_true] at h
  simp only [eqBs, eqB_self x h.1, eqBs_self xs h.2, Bool.and_self]
end
theorem atI_emod {ws : List Str} {i : Int} (h : ws ≠ []) : ∃ y, y ∈ ws ∧ atI (ws.map PV.str) (i % (ws.length : Int)) = some (.str y) := by
 have hp : 0 < ws.length := List.length_pos_iff.mpr h
 have h0 : 0 ≤ i % (ws.length : Int) := Int.emod_nonneg _ (by omega)
 have h1 : i % (ws.length : Int) < ws.length := Int.emod_lt_of_pos _ (by omega)
 unfold atI ixN
 rw [List.length_map, if_pos h0, if_pos h1]
 have : (i % (ws.length : Int)).toNat < ws.length := by omega
 exact ⟨ws[(i % (ws.length : Int)).toNat], List.getElem_mem _, by simp [this]⟩
theorem at2 {a b : PV} (i : Int) : atI [a, b] (i % 2) = some (if i % 2 = 0 then a else b) := by
 have h0 : 0 ≤ i % 2 := Int.emod_nonneg _ (by decide)
 have h1 : i % 2 < 2 := Int.emod_lt_of_pos _ (by decide)
 rcases (show i % 2 = 0 ∨ i % 2 = 1 by omega) with z | z
 ·rw [z]; rfl
 ·rw [z]; rfl
theorem two_sl (i : Int) (x y : Fm) : PV.tup [if i % 2 = 0 then PV.str (Str.ofString "/") else PV.str (Str.ofString "\\"), x.pv, y.pv] = (Fm.n (!decide (i % 2 = 0)) x y).pv := by
 by_cases z : i % 2 = 0
 ·rw [if_pos z, decide_eq_true z]; rfl
 ·rw [if_neg z, decide_eq_false z]; rfl
noncomputable def lt (m : Nat) : Str := mk [97 + m]
noncomputable def tx (w : List Nat) : Str := mk (w.map (97 + ·))
noncomputable def ro (w : List Nat) (i : Nat) : List Nat := match w with
 | [] => []
 | a :: r => (a + i) % 26 :: r
theorem ixN_nat {n i : Nat} (h : i < n) : ixN n (i : Int) = some i := by
 unfold ixN
 rw [if_pos (by omega), if_pos (by omega)]
 simp
theorem mem_rng {x : PV} {n : Nat} (h : x ∈ rngP 0 n) : ∃ i : Nat, i < n ∧ x = .int (i : Nat) := by
 unfold rngP at h
 obtain ⟨i, hi, rfl⟩ := List.mem_map.mp h
 rw [List.mem_range] at hi
 exact ⟨i, hi, by simp⟩
noncomputable def mdL (a b : Fm) : Option (Str × Fm) := match a with
 | .n false x y => if y = b then some (Str.ofString ">", x) else match b with
  | .n false y' z => if y = y' then some (Str.ofString ">>", .n false x z) else none
  | _ => none
 | _ => none
noncomputable def mdR (a b : Fm) : Option (Str × Fm) := match b with
 | .n true x y => if y = a then some (Str.ofString "<", x) else match a with
  | .n true y' z => if y = y' then some (Str.ofString "<<", .n true x z) else none
  | _ => none
 | _ => none
noncomputable def md (a b : Fm) : Option (Str × Fm) := (mdL a b).or (mdR a b)
noncomputable def mdP : Option (Str × Fm) → PV
 | none => .non
 | some (s, f) => .tup [.str s, f.pv]
noncomputable def MadeD (sp : Den) : Prop := ∀ (a b : Fm) (S : Store) (E : EK) (Q : VC), a.dp ≤ 100 → b.dp ≤ 100 → Q (mdP (md a b)) S → sp [a.pv, b.pv] S E Q
theorem Fm.ne_in {l : Bool} {x y : Fm} : x ≠ .n l x y := by
 intro h
 have := congrArg Fm.lv h
 simp only [Fm.lv] at this
 have := Fm.lv_pos y
 omega
theorem cEq_100 {f g : Fm} (hf : f.dp ≤ 100) (hg : g.dp ≤ 100) (S : Store) (Q : VC) : cEq f.pv g.pv S Q = Q (.bl (decide (f = g))) S := cEq_fm (by omega) (by omega) _ _
theorem made_ok : MadeD (fnP 2 2 w_made_59db) := by
 intro a b S E Q ha hb h
 refine ⟨rfl, ?_⟩
 unfold w_made_59db
 have p2 : 2 ≤ sizeLine := big (by decide)
 have p3 : 3 ≤ sizeLine := big (by decide)
 refine seqI fun K hK => ?_
 have hnon : mdL a b = none → K [some a.pv, some b.pv] S := by
  intro hL
  refine hK _ _ ?_
  clear hK
  refine seqI fun K hK => ?_
  have hnon : mdR a b = none → K [some a.pv, some b.pv] S := fun z => hK _ _ (by
   rw [md, hL, z] at h
   exact h)
  have hsome : ∀ s f, mdR a b = some (s, f) → Q (.tup [.str s, f.pv]) S := fun s f z => by
   rw [md, hL, z] at h
   exact h
  clear h hK
  cases b with
  | b t => dsimp! [fb0, ba_b]; exact hnon rfl
  | n m u v =>
   cases m with
   | false => dsimp! [fn0, sl_fb]; exact hnon rfl
   | true =>
    simp only [Fm.dp] at hb
    dsimp! [fn0, sl_tt]
    refine seqI fun K2 hK2 => ?_
    dsimp! [fn1, fn2, cEq_100 (show v.dp ≤ 100 by omega) ha]
    refine ite2 (fun z => ⟨p2, hsome _ _ (by simp only [mdR, if_pos z])⟩) (fun z => hK2 _ _ ?_)
    cases a with
    | b t => dsimp! [fb0, ba_b]; exact hnon (by simp only [mdR, if_neg z])
    | n l x y =>
     cases l with
     | false => dsimp! [fn0, sl_fb]; exact hnon (by simp only [mdR, if_neg z])
     | true =>
      simp only [Fm.dp] at ha
      dsimp! [fn0, fn1, fn2, sl_tt, cEq_100 (show v.dp ≤ 100 by omega) (show x.dp ≤ 100 by omega)]
      exact ite2 (fun z2 => ⟨p3, p2, hsome _ (.n true u y) (by simp only [mdR, if_neg z, if_pos z2])⟩) (fun z2 => hnon (by simp only [mdR, if_neg z, if_neg z2]))
 have hsome : ∀ s f, mdL a b = some (s, f) → Q (.tup [.str s, f.pv]) S := fun s f z => by
  rw [md, z] at h
  exact h
 clear h hK
 cases a with
 | b t => dsimp! [fb0, ba_f]; exact hnon rfl
 | n l x y =>
  cases l with
  | true => dsimp! [fn0, sl_tb]; exact hnon rfl
  | false =>
   simp only [Fm.dp] at ha
   dsimp! [fn0, sl_ff]
   refine seqI fun K2 hK2 => ?_
   dsimp! [fn1, fn2, cEq_100 (show y.dp ≤ 100 by omega) hb]
   refine ite2 (fun z => ⟨p2, hsome _ _ (by simp only [mdL, if_pos z])⟩) (fun z => hK2 _ _ ?_)
   cases b with
   | b t => dsimp! [fb0, ba_f]; exact hnon (by simp only [mdL, if_neg z])
   | n m u v =>
    cases m with
    | true => dsimp! [fn0, sl_tb]; exact hnon (by simp only [mdL, if_neg z])
    | false =>
     simp only [Fm.dp] at hb
     dsimp! [fn0, fn1, fn2, sl_ff, cEq_100 (show y.dp ≤ 100 by omega) (show u.dp ≤ 100 by omega)]
     exact ite2 (fun z2 => ⟨p3, p2, hsome _ (.n false x v) (by simp only [mdL, if_neg z, if_pos z2])⟩) (fun z2 => hnon (by simp only [mdL, if_neg z, if_neg z2]))
theorem mdL_dp {a b : Fm} {s : Str} {f : Fm} (h : mdL a b = some (s, f)) : f.dp ≤ max a.dp b.dp := by
 unfold mdL at h
 repeat' split at h
 all_goals first
  | (cases h; done)
  | (simp only [Option.some.injEq, Prod.mk.injEq] at h; obtain ⟨-, rfl⟩ := h; simp only [Fm.dp]; omega)
theorem mdR_dp {a b : Fm} {s : Str} {f : Fm} (h : mdR a b = some (s, f)) : f.dp ≤ max a.dp b.dp := by
 unfold mdR at h
 repeat' split at h
 all_goals first
  | (cases h; done)
  | (simp only [Option.some.injEq, Prod.mk.injEq] at h; obtain ⟨-, rfl⟩ := h; simp only [Fm.dp]; omega)
theorem md_dp {a b : Fm} {s : Str} {f : Fm} (h : md a b = some (s, f)) : f.dp ≤ max a.dp b.dp := by
 unfold md at h
 cases e : mdL a b with
 | none => rw [e] at h; exact mdR_dp h
 | some p => rw [e] at h; cases h; exact mdL_dp e
theorem Fm.dp_pos (f : Fm) : 1 ≤ f.dp := by cases f <;> simp [Fm.dp]
noncomputable def w_Lkind_1662 (spLkind : Den) : WS :=
 (wSeq (wIfS (wTest (wBin cEq (wBin bIx (wVar 0) (wC (.int 0))) (wC (.str (Str.ofString "basic")))))
 (wRet (wBin bIx (wVar 0) (wC (.int 1))))
 wNext)
 (wRet (wTup (wCons (wCall spLkind (wCons (wBin bIx (wVar 0) (wC (.int 2))) wNil)) (wCons (wCall spLkind (wCons (wBin bIx (wVar 0) (wC (.int 1))) wNil)) wNil)))))
noncomputable def w_kind_of_form_6b1e (spkind_of_form : Den) : WS :=
 (wSeq (wIfS (wTest (wBin cEq (wBin bIx (wVar 0) (wC (.int 0))) (wC (.str (Str.ofString "basic")))))
 (wRet (wBin bIx (wVar 0) (wC (.int 1))))
 wNext)
 (wRet (wTup (wCons (wCall spkind_of_form (wCons (wBin bIx (wVar 0) (wC (.int 2))) wNil)) (wCons (wCall spkind_of_form (wCons (wBin bIx (wVar 0) (wC (.int 1))) wNil)) wNil)))))
noncomputable def w_joined_baf6 (spkind_of_form : Den) : WS :=
 (wRet (wTup (wCons (wC (.str (Str.ofString "fn"))) (wCons (wCall spkind_of_form (wCons (wVar 0) wNil)) (wCons (wTup (wCons (wC (.str (Str.ofString "of"))) (wCons (wVar 1) (wCons (wTup (wCons (wC (.str (Str.ofString "of"))) (wCons (wVar 2) (wCons (wTup (wCons (wC (.str (Str.ofString "bound"))) (wCons (wC (.int 0)) wNil))) wNil)))) wNil)))) wNil)))))
noncomputable def w_meant_762d (spjoined : Den) : WS :=
 (wSeq (wIfS (wTest (wBin cEq (wVar 0) (wC (.str (Str.ofString ">")))))
 (wRet (wTup (wCons (wC (.str (Str.ofString "of"))) (wCons (wVar 3) (wCons (wVar 4) wNil)))))
 wNext)
 (wSeq (wIfS (wTest (wBin cEq (wVar 0) (wC (.str (Str.ofString "<")))))
 (wRet (wTup (wCons (wC (.str (Str.ofString "of"))) (wCons (wVar 4) (wCons (wVar 3) wNil)))))
 wNext)
 (wSeq (wIfS (wTest (wBin cEq (wVar 0) (wC (.str (Str.ofString ">>")))))
 (wRet (wCall spjoined (wCons (wBin bIx (wVar 2) (wC (.int 2))) (wCons (wVar 3) (wCons (wVar 4) wNil)))))
 wNext)
 (wRet (wCall spjoined (wCons (wBin bIx (wVar 1) (wC (.int 2))) (wCons (wVar 4) (wCons (wVar 3) wNil))))))))
set_option maxHeartbeats 1000000
noncomputable def Fm.kd : Fm → PV
 | .b s => .str s
 | .n _ x y => .tup [y.kd, x.kd]
theorem dep_kd : ∀ f : Fm, dep f.kd + 1 = f.dp
 | .b _ => rfl
 | .n _ x y => by have := dep_kd x; have := dep_kd y; simp only [Fm.kd, dep, deps, Fm.dp]; omega
theorem kind_ok {T : Nat → Den} (hT : ∀ n, T (n + 1) = fnP 1 1 (w_Lkind_1662 (T n))) : ∀ (n : Nat) (f : Fm), f.dp ≤ n → ∀ (S : Store) (E : EK) (Q : VC), Q f.kd S → T n [f.pv] S E Q
 | 0, f, hd, S, E, Q, h => by have := f.dp_pos; omega
 | n + 1, .b s, hd, S, E, Q, h => by
  rw [hT]
  refine ⟨rfl, ?_⟩
  unfold w_Lkind_1662
  dsimp! [wSeq, fb0, fb1]
  exact h
 | n + 1, .n l x y, hd, S, E, Q, h => by
  simp only [Fm.dp] at hd
  rw [hT]
  refine ⟨rfl, ?_⟩
  unfold w_Lkind_1662
  dsimp! [wSeq, fn0, fn1, fn2, sl_basic]
  refine kind_ok hT n y (by omega) _ _ _ ?_
  refine kind_ok hT n x (by omega) _ _ _ ?_
  exact ⟨big (by decide), h⟩
noncomputable def KindD (sp : Den) (d : Nat) : Prop := ∀ (f : Fm), f.dp ≤ d → ∀ (S : Store) (E : EK) (Q : VC), Q f.kd S → sp [f.pv] S E Q
noncomputable def jnP (z : Fm) (f g : PV) : PV := .tup [.str (Str.ofString "fn"), z.kd, .tup [.str (Str.ofString "of"), f, .tup [.str (Str.ofString "of"), g, .tup [.str (Str.ofString "bound"), .int 0]]]]
theorem joined_ok {sp : Den} {d : Nat} (hk : KindD sp d) {z : Fm} {f g : PV} {S : Store} {E : EK} {Q : VC} (hd : z.dp ≤ d) (h : Q (jnP z f g) S) : fnP 3 3 (w_joined_baf6 sp) [z.pv, f, g] S E Q := by
 refine ⟨rfl, ?_⟩
 unfold w_joined_baf6
 dsimp! [true_and]
 refine hk z hd _ _ _ ?_
 exact ⟨big (by decide), big (by decide), big (by decide), big (by decide), h⟩
noncomputable def JoinedD (sp : Den) (d : Nat) : Prop := ∀ (z : Fm) (f g : PV) (S : Store) (E : EK) (Q : VC), z.dp ≤ d → Q (jnP z f g) S → sp [z.pv, f, g] S E Q
noncomputable def ofP (f g : PV) : PV := .tup [.str (Str.ofString "of"), f, g]
theorem sg1 : (Str.ofString "<" = Str.ofString ">") = False := by simp only [eq_iff_iff, iff_false]; decide +kernel
theorem sg2 : (Str.ofString ">>" = Str.ofString ">") = False := by simp only [eq_iff_iff, iff_false]; decide +kernel
theorem sg3 : (Str.ofString ">>" = Str.ofString "<") = False := by simp only [eq_iff_iff, iff_false]; decide +kernel
theorem sg4 : (Str.ofString "<<" = Str.ofString ">") = False := by simp only [eq_iff_iff, iff_false]; decide +kernel
theorem sg5 : (Str.ofString "<<" = Str.ofString "<") = False := by simp only [eq_iff_iff, iff_false]; decide +kernel
theorem sg6 : (Str.ofString "<<" = Str.ofString ">>") = False := by simp only [eq_iff_iff, iff_false]; decide +kernel
structure MeantD (sp : Den) (d : Nat) : Prop where
 a : ∀ (l r f g : PV) (S : Store) (E : EK) (Q : VC), Q (ofP f g) S → sp [.str (Str.ofString ">"), l, r, f, g] S E Q
 b : ∀ (l r f g : PV) (S : Store) (E : EK) (Q : VC), Q (ofP g f) S → sp [.str (Str.ofString "<"), l, r, f, g] S E Q
 c : ∀ (l : PV) (x z : Fm) (s : Bool) (f g : PV) (S : Store) (E : EK) (Q : VC), z.dp ≤ d → Q (jnP z f g) S → sp [.str (Str.ofString ">>"), l, (Fm.n s x z).pv, f, g] S E Q
 d : ∀ (r : PV) (x z : Fm) (s : Bool) (f g : PV) (S : Store) (E : EK) (Q : VC), z.dp ≤ d → Q (jnP z g f) S → sp [.str (Str.ofString "<<"), (Fm.n s x z).pv, r, f, g] S E Q
theorem meant_ok {sp : Den} {d : Nat} (hj : JoinedD sp d) : MeantD (fnP 5 5 (w_meant_762d sp)) d where
 a := fun l r f g S E Q h => by
  refine ⟨rfl, ?_⟩
  unfold w_meant_762d
  dsimp! [wSeq]
  exact ⟨big (by decide), h⟩
 b := fun l r f g S E Q h => by
  refine ⟨rfl, ?_⟩
  unfold w_meant_762d
  dsimp! [wSeq, sg1]
  exact ⟨big (by decide), h⟩
 c := fun l x z s f g S E Q hd h => by
  refine ⟨rfl, ?_⟩
  unfold w_meant_762d
  dsimp! [wSeq, sg2, sg3, fn2]
  exact hj z f g _ _ _ hd h
 d := fun r x z s f g S E Q hd h => by
  refine ⟨rfl, ?_⟩
  unfold w_meant_762d
  dsimp! [wSeq, sg4, sg5, sg6, fn2]
  exact hj z g f _ _ _ hd h
theorem md1 (x y : Fm) : md (.n false x y) y = some (Str.ofString ">", x) := by simp [md, mdL]
theorem mdL_no {x y : Fm} : mdL y (.n true x y) = none := by
 unfold mdL
 split
 ·rename_i u v
  rw [if_neg]
  intro z
  have := congrArg Fm.lv z
  simp only [Fm.lv] at this
  have := u.lv_pos
  have := x.lv_pos
  omega
 ·rfl
theorem md2 (x y : Fm) : md y (.n true x y) = some (Str.ofString "<", x) := by simp [md, mdL_no, mdR]
theorem md3 (x y z : Fm) : md (.n false x y) (.n false y z) = some (Str.ofString ">>", .n false x z) := by
 have h : ¬ y = .n false y z := Fm.ne_in
 simp only [md, mdL, mdR, if_neg h, if_true, Option.or_none]
theorem md4 (x y z : Fm) : md (.n true y z) (.n true x y) = some (Str.ofString "<<", .n true x z) := by
 have h : ¬ y = .n true y z := Fm.ne_in
 simp only [md, mdL, mdR, if_neg h, if_true, Option.none_or]
noncomputable def w_Lwide_d829 (spLwide : Den) : WS :=
 (wSeq (wIfS (wTest (wBin cEq (wBin bIx (wVar 0) (wC (.int 0))) (wC (.str (Str.ofString "basic")))))
 (wRet (wC (.int 1)))
 wNext)
 (wRet (wBin bAdd (wCall spLwide (wCons (wBin bIx (wVar 0) (wC (.int 1))) wNil)) (wCall spLwide (wCons (wBin bIx (wVar 0) (wC (.int 2))) wNil)))))
noncomputable def w_Lother_a5e2 (spLnext : Den) (spLwide : Den) : WS :=
 (wSeq (wSet 3 (wCall spLnext (wCons (wVar 0) wNil)))
 (wSeq (wSet 4 (wTup (wCons (wC (.str (Str.ofString "basic"))) (wCons (wBin bIx (wVar 1) (wBin bMod (wVar 3) (wCB fLen (wCons (wVar 1) wNil)))) wNil))))
 (wSeq (wIfS (wOr (wTest (wBin cGt (wBin bMod (wBin bFdiv (wVar 3) (wC (.int 3))) (wC (.int 4))) (wC (.int 0)))) (wTest (wBin cGt (wCall spLwide (wCons (wVar 2) wNil)) (wC (.int 3)))))
 (wRet (wVar 4))
 wNext)
 (wRet (wTup (wCons (wBin bIx (wLst (wCons (wC (.str (Str.ofString "/"))) (wCons (wC (.str (Str.ofString "\\"))) wNil))) (wBin bMod (wBin bFdiv (wVar 3) (wC (.int 12))) (wC (.int 2)))) (wCons (wVar 4) (wCons (wTup (wCons (wC (.str (Str.ofString "basic"))) (wCons (wBin bIx (wVar 1) (wBin bMod (wBin bFdiv (wVar 3) (wC (.int 24))) (wCB fLen (wCons (wVar 1) wNil)))) wNil))) wNil))))))))
noncomputable def w_Ldrawn_form_6081 (spLnext : Den) (spLother : Den) : WS :=
 (wSeq (wSet 2 (wTup (wCons (wC (.str (Str.ofString "basic"))) (wCons (wBin bIx (wVar 1) (wBin bMod (wCall spLnext (wCons (wVar 0) wNil)) (wCB fLen (wCons (wVar 1) wNil)))) wNil))))
 (wSeq (wSet 3 (wCall spLother (wCons (wVar 0) (wCons (wVar 1) (wCons (wVar 2) wNil)))))
 (wSeq (wSet 4 (wBin bMod (wCall spLnext (wCons (wVar 0) wNil)) (wC (.int 6))))
 (wSeq (wIfS (wTest (wBin cLt (wVar 4) (wC (.int 2))))
 (wRet (wVar 2))
 wNext)
 (wRet (wTup (wCons (wBin bIx (wLst (wCons (wC (.str (Str.ofString "/"))) (wCons (wC (.str (Str.ofString "\\"))) wNil))) (wBin bMod (wVar 4) (wC (.int 2)))) (wCons (wVar 2) (wCons (wVar 3) wNil)))))))))
noncomputable def w_Ltree_6b41 (spLnext : Den) (spLother : Den) (spLwide : Den) (spLtree : Den) : WS :=
 (wSeq (wIfS (wTest (wBin cLt (wVar 4) (wC (.int 2))))
 (wRet (wTup (wCons (wC (.str (Str.ofString "word"))) (wCons (wVar 3) (wCons (wVar 2) wNil)))))
 wNext)
 (wSeq (wSet 5 (wBin bAdd (wC (.int 1)) (wBin bMod (wCall spLnext (wCons (wVar 0) wNil)) (wBin bSub (wVar 4) (wC (.int 1))))))
 (wSeq (wSet 6 (wCall spLnext (wCons (wVar 0) wNil)))
 (wSeq (wSet 7 (wCall spLother (wCons (wVar 0) (wCons (wVar 1) (wCons (wVar 2) wNil)))))
 (wSeq (wSet 8 (wC (.str (Str.ofString ">"))))
 (wSeq (wSet 9 (wTup (wCons (wTup (wCons (wC (.str (Str.ofString "/"))) (wCons (wVar 2) (wCons (wVar 7) wNil)))) (wCons (wVar 7) wNil))))
 (wSeq (wIfS (wTest (wBin cEq (wBin bMod (wVar 6) (wC (.int 2))) (wC (.int 1))))
 (wSeq (wSet 8 (wC (.str (Str.ofString "<"))))
 (wSet 9 (wTup (wCons (wVar 7) (wCons (wTup (wCons (wC (.str (Str.ofString "\\"))) (wCons (wVar 2) (wCons (wVar 7) wNil)))) wNil)))))
 wNext)
 (wSeq (wIfS (wAnd (wTest (wBin cEq (wBin bIx (wVar 2) (wC (.int 0))) (wC (.str (Str.ofString "/"))))) (wOr (wTest (wBin cGt (wBin bMod (wVar 6) (wC (.int 8))) (wC (.int 1)))) (wTest (wBin cGt (wCall spLwide (wCons (wVar 2) wNil)) (wC (.int 4))))))
 (wSeq (wSet 8 (wC (.str (Str.ofString ">>"))))
 (wSet 9 (wTup (wCons (wTup (wCons (wC (.str (Str.ofString "/"))) (wCons (wBin bIx (wVar 2) (wC (.int 1))) (wCons (wVar 7) wNil)))) (wCons (wTup (wCons (wC (.str (Str.ofString "/"))) (wCons (wVar 7) (wCons (wBin bIx (wVar 2) (wC (.int 2))) wNil)))) wNil)))))
 wNext)
 (wSeq (wIfS (wAnd (wTest (wBin cEq (wBin bIx (wVar 2) (wC (.int 0))) (wC (.str (Str.ofString "\\"))))) (wOr (wTest (wBin cGt (wBin bMod (wVar 6) (wC (.int 8))) (wC (.int 1)))) (wTest (wBin cGt (wCall spLwide (wCons (wVar 2) wNil)) (wC (.int 4))))))
 (wSeq (wSet 8 (wC (.str (Str.ofString "<<"))))
 (wSet 9 (wTup (wCons (wTup (wCons (wC (.str (Str.ofString "\\"))) (wCons (wVar 7) (wCons (wBin bIx (wVar 2) (wC (.int 2))) wNil)))) (wCons (wTup (wCons (wC (.str (Str.ofString "\\"))) (wCons (wBin bIx (wVar 2) (wC (.int 1))) (wCons (wVar 7) wNil)))) wNil)))))
 wNext)
 (wSeq (wSet 10 (wCall spLtree (wCons (wVar 0) (wCons (wVar 1) (wCons (wBin bIx (wVar 9) (wC (.int 0))) (wCons (wVar 3) (wCons (wVar 5) wNil)))))))
 (wRet (wTup (wCons (wVar 8) (wCons (wVar 10) (wCons (wCall spLtree (wCons (wVar 0) (wCons (wVar 1) (wCons (wBin bIx (wVar 9) (wC (.int 1))) (wCons (wBin bAdd (wVar 3) (wVar 5)) (wCons (wBin bSub (wVar 4) (wVar 5)) wNil)))))) wNil)))))))))))))))
noncomputable def w_Lwithin_04fb (spLwithin : Den) : WS :=
 (wSeq (wIfS (wTest (wBin cEq (wBin bIx (wVar 0) (wC (.int 0))) (wC (.str (Str.ofString "word")))))
 (wRet (wLst (wCons (wVar 0) wNil)))
 wNext)
 (wRet (wBin bAdd (wBin bAdd (wLst (wCons (wVar 0) wNil)) (wCall spLwithin (wCons (wBin bIx (wVar 0) (wC (.int 1))) wNil))) (wCall spLwithin (wCons (wBin bIx (wVar 0) (wC (.int 2))) wNil)))))
set_option maxHeartbeats 1000000
inductive Sg where
 | a | b | c | d
deriving DecidableEq
noncomputable def Sg.st : Sg → Str
 | .a => Str.ofString ">"
 | .b => Str.ofString "<"
 | .c => Str.ofString ">>"
 | .d => Str.ofString "<<"
inductive Rd where
 | w (i : Int) (f : Fm) | n (s : Sg) (l r : Rd)
deriving DecidableEq
noncomputable def sWord : Str := Str.ofString "word"
noncomputable def Rd.pv : Rd → PV
 | .w i f => .tup [.str sWord, .int i, f.pv]
 | .n s l r => .tup [.str s.st, l.pv, r.pv]
noncomputable def Rd.lv : Rd → Nat
 | .w _ _ => 1
 | .n _ l r => l.lv + r.lv
noncomputable def Rd.fd : Rd → Nat
 | .w _ f => f.dp
 | .n _ l r => max l.fd r.fd
noncomputable def Rd.is : Rd → Int → Int → Fm → Prop
 | .w i f, a, b, g => i = a ∧ b = a + 1 ∧ f = g
 | .n s l r, a, b, g => ∃ k x y, l.is a k x ∧ r.is k b y ∧ md x y = some (s.st, g)
theorem Rd.lv_pos : ∀ r : Rd, 1 ≤ r.lv
 | .w _ _ => Nat.le_refl _
 | .n _ l r => Nat.le_trans (Rd.lv_pos l) (Nat.le_add_right _ _)
theorem st_word (s : Sg) : (s.st = sWord) = False := by cases s <;> (simp only [eq_iff_iff, iff_false]; decide +kernel)
theorem st_inj {s t : Sg} : s.st = t.st ↔ s = t := by
 refine ⟨fun h => ?_, fun h => by rw [h]⟩
 cases s <;> cases t <;> first | rfl | (exfalso; revert h; decide +kernel)
theorem rw1 (i : Int) (f : Fm) (S : Store) (Q : VC) : bIx (Rd.w i f).pv (.int 1) S Q = Q (.int i) S := rfl
theorem rw2 (i : Int) (f : Fm) (S : Store) (Q : VC) : bIx (Rd.w i f).pv (.int 2) S Q = Q f.pv S := rfl
theorem rn0 (s : Sg) (l r : Rd) (S : Store) (Q : VC) : bIx (Rd.n s l r).pv (.int 0) S Q = Q (.str s.st) S := rfl
theorem rn1 (s : Sg) (l r : Rd) (S : Store) (Q : VC) : bIx (Rd.n s l r).pv (.int 1) S Q = Q l.pv S := rfl
theorem rn2 (s : Sg) (l r : Rd) (S : Store) (Q : VC) : bIx (Rd.n s l r).pv (.int 2) S Q = Q r.pv S := rfl
theorem wide_ok {T : Nat → Den} (hT : ∀ n, T (n + 1) = fnP 1 1 (w_Lwide_d829 (T n))) : ∀ (n : Nat) (f : Fm), f.dp ≤ n → ∀ (S : Store) (E : EK) (Q : VC), Q (.int (f.lv : Nat)) S → T n [f.pv] S E Q
 | 0, f, hd, S, E, Q, h => by have := f.dp_pos; omega
 | n + 1, .b s, hd, S, E, Q, h => by
  rw [hT]
  refine ⟨rfl, ?_⟩
  unfold w_Lwide_d829
  dsimp! [wSeq, fb0]
  exact h
 | n + 1, .n l x y, hd, S, E, Q, h => by
  simp only [Fm.dp] at hd
  rw [hT]
  refine ⟨rfl, ?_⟩
  unfold w_Lwide_d829
  dsimp! [wSeq, fn0, fn1, fn2, sl_basic]
  refine wide_ok hT n x (by omega) _ _ _ ?_
  refine wide_ok hT n y (by omega) _ _ _ ?_
  dsimp! [true_and]
  simp only [Fm.lv, Int.natCast_add] at h
  exact h
noncomputable def WideD (sp : Den) (d : Nat) : Prop := ∀ (f : Fm), f.dp ≤ d → ∀ (S : Store) (E : EK) (Q : VC), Q (.int (f.lv : Nat)) S → sp [f.pv] S E Q
theorem basic_pv (s : Str) : PV.tup [.str (Str.ofString "basic"), .str s] = (Fm.b s).pv := rfl
set_option maxHeartbeats 1000000
theorem rdn_pv (s : Sg) (l r : Rd) : PV.tup [.str s.st, l.pv, r.pv] = (Rd.n s l r).pv := rfl
theorem pairs0 (x y : PV) (S : Store) (Q : VC) : bIx (.tup [x, y]) (.int 0) S Q = Q x S := rfl
theorem pairs1 (x y : PV) (S : Store) (Q : VC) : bIx (.tup [x, y]) (.int 1) S Q = Q y S := rfl
set_option maxHeartbeats 1000000
noncomputable def Rd.top : Rd → Option Rd
 | .n .a (.n .c x y) z => some (.n .a x (.n .a y z))
 | .n .c (.n .c x y) z => some (.n .c x (.n .c y z))
 | .n .b x (.n .d y z) => some (.n .b (.n .b x y) z)
 | .n .d x (.n .d y z) => some (.n .d (.n .d x y) z)
 | _ => none
noncomputable def Rd.once : Rd → List Rd
 | .w _ _ => []
 | .n s l r => (Rd.top (.n s l r)).toList ++ l.once.map (fun x => .n s x r) ++ r.once.map (fun x => .n s l x)
noncomputable def Rd.tn : Rd → Option Rd
 | .w _ _ => none
 | .n s l r => match Rd.top (.n s l r) with
  | some t => some t
  | none => match l.tn with
   | some t => some (.n s t r)
   | none => match r.tn with
    | some t => some (.n s l t)
    | none => none
noncomputable def Rd.ms : Rd → Nat
 | .w _ _ => 0
 | .n s l r => l.ms + r.ms + match s with
  | .a => l.lv
  | .c => l.lv
  | .b => r.lv
  | .d => r.lv
set_option maxHeartbeats 1000000
noncomputable def Rd.hd : Rd → Str
 | .w _ _ => sWord
 | .n s _ _ => s.st
theorem rd0 (r : Rd) (S : Store) (Q : VC) : bIx r.pv (.int 0) S Q = Q (.str r.hd) S := by cases r <;> rfl
noncomputable def Sg.ac : Sg → Bool
 | .a => true
 | .c => true
 | _ => false
theorem hd_w (s : Sg) (x y : Rd) : ((Rd.n s x y).hd = Str.ofString "word") = False := st_word s
theorem hd_w' (i : Int) (f : Fm) : ((Rd.w i f).hd = Str.ofString "word") = True := by simp only [Rd.hd, sWord]
theorem any_bd (s : Sg) : ([PV.str (Str.ofString "<"), PV.str (Str.ofString "<<")].any fun y => eqB y (.str s.st)) = !s.ac := by
 simp only [List.any_cons, List.any_nil, eqB_ss, Bool.or_false]
 cases s <;> decide +kernel
theorem ok2 (a b : Str) : okEqs [.str a, .str b] := okEqs2 a b
set_option maxHeartbeats 1000000
set_option maxHeartbeats 1000000
noncomputable def Rd.wi : Rd → List Rd
 | .w i f => [.w i f]
 | .n s l r => .n s l r :: (l.wi ++ r.wi)
theorem wi_len : ∀ r : Rd, r.wi.length + 1 = r.lv + r.lv
 | .w _ _ => rfl
 | .n s l r => by have := wi_len l; have := wi_len r; simp only [Rd.wi, Rd.lv, List.length_cons, List.length_append]; omega
theorem wi_le : ∀ {r t : Rd}, t ∈ r.wi → t.lv ≤ r.lv ∧ t.fd ≤ r.fd
 | .w i f, t, h => by simp only [Rd.wi, List.mem_singleton] at h; subst h; exact ⟨Nat.le_refl _, Nat.le_refl _⟩
 | .n s l r, t, h => by
  simp only [Rd.wi, List.mem_cons, List.mem_append] at h
  rcases h with rfl | h | h
  ·exact ⟨Nat.le_refl _, Nat.le_refl _⟩
  ·obtain ⟨a, b⟩ := wi_le h
   simp only [Rd.lv, Rd.fd]; omega
  ·obtain ⟨a, b⟩ := wi_le h
   simp only [Rd.lv, Rd.fd]; omega
noncomputable def WiD (sp : Den) (n : Nat) : Prop := ∀ (r : Rd), r.lv ≤ n → ∀ (S : Store) (E : EK) (Q : VC), (∀ (q : Nat) S', S.length ≤ q → S'[q]? = some (.lst (r.wi.map Rd.pv)) → Ex [] S S' → Q (.ref q) S') → sp [r.pv] S E Q
theorem wi_ok {T : Nat → Den} (hT : ∀ n, T (n + 1) = fnP 1 1 (w_Lwithin_04fb (T n))) : ∀ (n : Nat), n ≤ 1000 → WiD (T (n + 1)) n
 | 0, _ => fun r hr => by have := r.lv_pos; omega
 | n + 1, hn => by
  intro r hr S E Q h
  rw [hT]
  refine ⟨rfl, ?_⟩
  unfold w_Lwithin_04fb
  have p1 : 1 ≤ sizeLine := big (by decide)
  cases r with
  | w i f =>
   dsimp! [wSeq, rd0, hd_w']
   exact ⟨p1, h _ _ (Nat.le_refl _) (at_new _ _) (Ex.new _ _ _)⟩
  | n s l r =>
   have wl := wi_len l
   have wr := wi_len r
   simp only [Rd.lv] at hr
   have := l.lv_pos
   have := r.lv_pos
   dsimp! [wSeq, rd0, hd_w, rn1, rn2]
   refine ⟨p1, wi_ok hT n (by omega) l (by omega) _ _ _ fun q S1 hq0 hq hx1 => ?_⟩
   have a1 := hx1.get (at_new S (SO.lst [(Rd.n s l r).pv])) (by simp)
   dsimp! [lst_at a1, lst_at hq]
   refine ⟨by rw [List.length_map]; exact big (by omega), ?_⟩
   refine wi_ok hT n (by omega) r (by omega) _ _ _ fun q2 S2 hq20 hq2 hx2 => ?_
   have a2 := hx2.get (at_new S1 (SO.lst ((Rd.n s l r).pv :: l.wi.map Rd.pv))) (by simp)
   dsimp! [lst_at a2, lst_at hq2]
   refine ⟨by simp only [List.length_map]; exact big (by omega), ?_⟩
   have ex : Ex [] S S2 := (((Ex.refl _ _).app _).trans hx1).trans (((Ex.refl _ _).app _).trans hx2)
   refine h _ _ ex.1 ?_ (ex.app _)
   rw [at_new, Rd.wi, List.map_cons, List.map_append]
noncomputable def w_Lwords_of_c1a7 (spLwithin : Den) : WS :=
 (wRet (wComp (wiAny (wCall spLwithin (wCons (wVar 0) wNil))) [none] (wgName 0) (wTest (wBin cEq (wBin bIx (wVar 0) (wC (.int 0))) (wC (.str (Str.ofString "word"))))) (wSl (wVar 0) (wPart (wC (.int 1))) wNoPart)))
noncomputable def w_Lsame_bb4e (spLsame : Den) : WS :=
 (wSeq (wIfS (wTru (wCB fIsi (wCons (wVar 0) (wCons (wC (.ty "str")) wNil))))
 (wRet (wAndV (wCB fIsi (wCons (wVar 1) (wCons (wC (.ty "str")) wNil))) (wBin cEq (wVar 0) (wVar 1))))
 wNext)
 (wSeq (wIfS (wNot (wTru (wCB fIsi (wCons (wVar 0) (wCons (wC (.ty "tuple")) wNil)))))
 (wRet (wAndV (wCB fIsi (wCons (wVar 1) (wCons (wC (.ty "int")) wNil))) (wAndV (wNotV (wCB fIsi (wCons (wVar 1) (wCons (wC (.ty "bool")) wNil)))) (wBin cEq (wVar 0) (wVar 1)))))
 wNext)
 (wSeq (wIfS (wOr (wNot (wTru (wCB fIsi (wCons (wVar 1) (wCons (wC (.ty "tuple")) wNil))))) (wTest (wBin cNe (wCB fLen (wCons (wVar 0) wNil)) (wCB fLen (wCons (wVar 1) wNil)))))
 (wRet (wC (.bl false)))
 wNext)
 (wRet (wCB fAll (wCons (wComp (wiZip (wCons (wVar 0) (wCons (wVar 1) wNil))) [none, none] (wgTup 2 (wgCons (wgName 0) (wgCons (wgName 1) wgNil))) wtTrue (wCall spLsame (wCons (wVar 0) (wCons (wVar 1) wNil)))) wNil))))))
noncomputable def w_form_and_term_f2a5 (spform_and_term : Den) (spmade : Den) (spmeant : Den) : WS :=
 (wSeq (wIfS (wTest (wBin cEq (wBin bIx (wVar 0) (wC (.int 0))) (wC (.str (Str.ofString "word")))))
 (wRet (wTup (wCons (wBin bIx (wVar 0) (wC (.int 2))) (wCons (wBin bIx (wVar 1) (wBin bIx (wVar 0) (wC (.int 1)))) wNil))))
 wNext)
 (wSeq (wAsg (wCall spform_and_term (wCons (wBin bIx (wVar 0) (wC (.int 1))) (wCons (wVar 1) wNil))) (wgTup 2 (wgCons (wgName 2) (wgCons (wgName 3) wgNil))))
 (wSeq (wAsg (wCall spform_and_term (wCons (wBin bIx (wVar 0) (wC (.int 2))) (wCons (wVar 1) wNil))) (wgTup 2 (wgCons (wgName 4) (wgCons (wgName 5) wgNil))))
 (wSeq (wAsg (wCall spmade (wCons (wVar 2) (wCons (wVar 4) wNil))) (wgTup 2 (wgCons (wgName 6) (wgCons (wgName 7) wgNil))))
 (wRet (wTup (wCons (wVar 7) (wCons (wCall spmeant (wCons (wVar 6) (wCons (wVar 2) (wCons (wVar 4) (wCons (wVar 3) (wCons (wVar 5) wNil)))))) wNil))))))))
noncomputable def w_meaning_with_52ef (spform_and_term : Den) : WS :=
 (wRet (wBin bIx (wCall spform_and_term (wCons (wVar 0) (wCons (wVar 1) wNil))) (wC (.int 1))))
noncomputable def w_words_of_0033 (spwords_of : Den) : WS :=
 (wSeq (wIfS (wTest (wBin cEq (wBin bIx (wVar 0) (wC (.int 0))) (wC (.str (Str.ofString "word")))))
 (wRet (wLst (wCons (wTup (wCons (wBin bIx (wVar 0) (wC (.int 1))) (wCons (wBin bIx (wVar 0) (wC (.int 2))) wNil))) wNil)))
 wNext)
 (wRet (wBin bAdd (wCall spwords_of (wCons (wBin bIx (wVar 0) (wC (.int 1))) wNil)) (wCall spwords_of (wCons (wBin bIx (wVar 0) (wC (.int 2))) wNil)))))
noncomputable def w_Ljoined_5273 : WS :=
 (wSeq (wIfS (wTest (wBin cEq (wVar 0) (wC (.str (Str.ofString ">")))))
 (wRet (wBin bIx (wVar 1) (wC (.int 1))))
 wNext)
 (wSeq (wIfS (wTest (wBin cEq (wVar 0) (wC (.str (Str.ofString "<")))))
 (wRet (wBin bIx (wVar 2) (wC (.int 1))))
 wNext)
 (wSeq (wIfS (wTest (wBin cEq (wVar 0) (wC (.str (Str.ofString ">>")))))
 (wRet (wTup (wCons (wC (.str (Str.ofString "/"))) (wCons (wBin bIx (wVar 1) (wC (.int 1))) (wCons (wBin bIx (wVar 2) (wC (.int 2))) wNil)))))
 wNext)
 (wRet (wTup (wCons (wC (.str (Str.ofString "\\"))) (wCons (wBin bIx (wVar 2) (wC (.int 1))) (wCons (wBin bIx (wVar 1) (wC (.int 2))) wNil))))))))
noncomputable def w_Lkind_of_form_ebfd (spLkind_of_form : Den) : WS :=
 (wSeq (wIfS (wTest (wBin cEq (wBin bIx (wVar 0) (wC (.int 0))) (wC (.str (Str.ofString "basic")))))
 (wRet (wBin bIx (wVar 0) (wC (.int 1))))
 wNext)
 (wRet (wTup (wCons (wCall spLkind_of_form (wCons (wBin bIx (wVar 0) (wC (.int 2))) wNil)) (wCons (wCall spLkind_of_form (wCons (wBin bIx (wVar 0) (wC (.int 1))) wNil)) wNil)))))
noncomputable def Rd.sm : Rd → Prop
 | .w _ f => f.lv ≤ 5
 | .n _ l r => l.sm ∧ r.sm
noncomputable def OthD2 (sp : Den) (dd : Nat) : Prop := ∀ (d c b : Nat) (ws : List Str) (f : Fm) (S : Store) (E : EK) (Q : VC), Deck d c S → S[b]? = some (.lst (ws.map PV.str)) → ws ≠ [] → b ≠ d → b ≠ c → f.dp ≤ dd →
 (∀ (o : Fm) S', o.lv ≤ 2 → (3 < f.lv → o.lv = 1) → o.ov ws → Deck d c S' → Ex [d, c] S S' → Q o.pv S') → sp [.ref d, .ref b, f.pv] S E Q
theorem oth2_ok {spn spw : Den} {dd : Nat} (hn : NextD spn) (hw : WideD spw dd) : OthD2 (fnP 3 5 (w_Lother_a5e2 spn spw)) dd := by
 intro d c b ws f S E Q hd hb hne nd nc hf h
 refine ⟨rfl, ?_⟩
 unfold w_Lother_a5e2
 have p2 : 2 ≤ sizeLine := big (by decide)
 have p3 : 3 ≤ sizeLine := big (by decide)
 have hpos : 0 < (ws.length : Int) := by have := List.length_pos_iff.mpr hne; omega
 refine seqI fun K hK => ?_
 dsimp! [true_and]
 refine hn d c _ _ _ hd fun way S1 w0 w1 hd1 hx1 => hK _ _ ?_
 have hb1 := hx1.get hb (by simp; exact ⟨nd, nc⟩)
 obtain ⟨y, hy, hya⟩ := atI_emod (i := way) hne
 obtain ⟨z, hz, hza⟩ := atI_emod (i := way / 24) hne
 refine seqI fun K hK => ?_
 dsimp! [hb1, seq_at hb1, List.length_map, hya]
 refine ⟨hpos, p2, hK _ _ ?_⟩
 have d1 := h (.b y) S1 (by simp [Fm.lv]) (fun _ => rfl) hy hd1 hx1
 dsimp! [wSeq, hb1, seq_at hb1, List.length_map, hza]
 refine ⟨⟨by decide, by decide⟩, by decide, ite2 (fun _ => d1) (fun _ => ?_)⟩
 refine hw f hf _ _ _ ?_
 dsimp! [true_and]
 refine ite2 (fun _ => d1) (fun zw => ?_)
 have hb2 := at_old hb1 [SO.lst [PV.str (Str.ofString "/"), PV.str (Str.ofString "\\")]]
 dsimp! [at2, hb2, seq_at hb2, List.length_map, hza]
 refine ⟨p2, ⟨by decide, by decide⟩, by decide, ⟨by decide, by decide⟩, hpos, p2, p3, ?_⟩
 rw [basic_pv, basic_pv, two_sl]
 exact h _ _ (by simp [Fm.lv]) (fun z => by omega) ⟨hy, hz⟩ (hd1.ex (Ex.new [] _ _) (by simp) (by simp)) (hx1.app _)
noncomputable def DrawnD2 (sp : Den) : Prop := ∀ (d c b : Nat) (ws : List Str) (S : Store) (E : EK) (Q : VC), Deck d c S → S[b]? = some (.lst (ws.map PV.str)) → ws ≠ [] → b ≠ d → b ≠ c →
 (∀ (o : Fm) S', o.lv ≤ 3 → o.ov ws → Deck d c S' → Ex [d, c] S S' → Q o.pv S') → sp [.ref d, .ref b] S E Q
theorem drawn2_ok {spn spo : Den} {dd : Nat} (hn : NextD spn) (ho : OthD2 spo dd) (h1 : 1 ≤ dd) : DrawnD2 (fnP 2 5 (w_Ldrawn_form_6081 spn spo)) := by
 intro d c b ws S E Q hd hb hne nd nc h
 refine ⟨rfl, ?_⟩
 unfold w_Ldrawn_form_6081
 have p2 : 2 ≤ sizeLine := big (by decide)
 have p3 : 3 ≤ sizeLine := big (by decide)
 have hpos : 0 < (ws.length : Int) := by have := List.length_pos_iff.mpr hne; omega
 refine seqI fun K hK => ?_
 dsimp! [hb]
 refine hn d c _ _ _ hd fun n1 S1 w0 w1 hd1 hx1 => ?_
 have hb1 := hx1.get hb (by simp; exact ⟨nd, nc⟩)
 obtain ⟨y, hy, hya⟩ := atI_emod (i := n1) hne
 dsimp! [hb1, seq_at hb1, List.length_map, hya]
 refine ⟨hpos, p2, hK _ _ ?_⟩
 rw [basic_pv]
 clear hK
 refine seqI fun K hK => ?_
 dsimp! [true_and]
 refine ho d c b ws _ _ _ _ hd1 hb1 hne nd nc (by simp only [Fm.dp]; omega) fun o S2 ho2 _ hov hd2 hx2 => hK _ _ ?_
 clear hK
 refine seqI fun K hK => ?_
 dsimp! [true_and]
 refine hn d c _ _ _ hd2 fun n2 S3 n20 n21 hd3 hx3 => ?_
 dsimp! [true_and]
 refine ⟨by decide, hK _ _ ?_⟩
 clear hK
 dsimp! [wSeq, at2]
 refine ite2 (fun _ => h (.b y) S3 (by simp [Fm.lv]) hy hd3 (hx1.trans (hx2.trans hx3))) (fun _ => ⟨p2, by decide, p3, ?_⟩)
 rw [two_sl]
 exact h _ _ (by simp only [Fm.lv]; omega) ⟨hy, hov⟩ (hd3.ex (Ex.new [] _ _) (by simp) (by simp)) ((hx1.trans (hx2.trans hx3)).app _)
noncomputable def TreeD2 (sp : Den) (m : Nat) : Prop := ∀ (d c b : Nat) (ws : List Str) (f : Fm) (p : Int) (S : Store) (E : EK) (Q : VC), Deck d c S → S[b]? = some (.lst (ws.map PV.str)) → ws ≠ [] → b ≠ d → b ≠ c → m ≤ 15 → f.lv ≤ 5 → f.ov ws →
 (∀ (r : Rd) S', r.lv = m → r.sm → r.is p (p + (m : Nat)) f → Deck d c S' → Ex [d, c] S S' → Q r.pv S') → sp [.ref d, .ref b, f.pv, .int p, .int (m : Nat)] S E Q
theorem tree2_ok {T N O W : Nat → Den} (hT : ∀ n, T (n + 1) = fnP 5 11 (w_Ltree_6b41 (N n) (O n) (W n) (T n))) (hN : ∀ n, 20 ≤ n → NextD (N n)) (hO : ∀ n, 20 ≤ n → OthD2 (O n) 18) (hW : ∀ n, 20 ≤ n → WideD (W n) 18) : ∀ (n m : Nat), m + 20 ≤ n → 1 ≤ m → TreeD2 (T n) m
 | 0, m, hn, hm => by omega
 | n + 1, m, hn, hm => by
  intro d c b ws f p S E Q hd hb hne nd nc hg hlv hov h
  have hfd := f.dp_lv
  rw [hT]
  refine ⟨rfl, ?_⟩
  unfold w_Ltree_6b41
  have p2 : 2 ≤ sizeLine := big (by decide)
  have p3 : 3 ≤ sizeLine := big (by decide)
  refine seqI fun K hK => ?_
  dsimp! [true_and]
  refine ite2 (fun z => ⟨p3, ?_⟩) (fun z => hK _ _ ?_)
  ·obtain rfl : m = 1 := by omega
   exact h (.w p f) S rfl hlv ⟨rfl, rfl, rfl⟩ hd (Ex.refl _ _)
  clear hK
  have hmm : (0 : Int) < (m : Int) - 1 := by omega
  refine seqI fun K hK => ?_
  dsimp! [true_and]
  refine hN n (by omega) d c _ _ _ hd fun n1 S1 _ _ hd1 hx1 => ?_
  dsimp! [true_and]
  obtain ⟨k, hk, hk1, hk2⟩ : ∃ k : Nat, 1 + n1 % ((m : Int) - 1) = (k : Int) ∧ 1 ≤ k ∧ k < m := by
   have a := Int.emod_nonneg n1 (show (m : Int) - 1 ≠ 0 by omega)
   have b := Int.emod_lt_of_pos n1 hmm
   exact ⟨(1 + n1 % ((m : Int) - 1)).toNat, by omega, by omega, by omega⟩
  refine ⟨hmm, hK _ _ ?_⟩
  rw [hk]
  clear hK
  refine seqI fun K hK => ?_
  dsimp! [true_and]
  refine hN n (by omega) d c _ _ _ hd1 fun n2 S2 _ _ hd2 hx2 => hK _ _ ?_
  clear hK
  have hb2 := (hx1.trans hx2).get hb (by simp; exact ⟨nd, nc⟩)
  refine seqI fun K hK => ?_
  dsimp! [true_and]
  refine hO n (by omega) d c b ws f _ _ _ hd2 hb2 hne nd nc (by omega) fun o S3 ho ho1 hoo hd3 hx3 => hK _ _ ?_
  clear hK
  have hb3 := hx3.get hb2 (by simp; exact ⟨nd, nc⟩)
  have hx123 := (hx1.trans hx2).trans hx3
  clear hx1 hx2 hx3 hd1 hd2 hb2
  have hop := o.lv_pos
  have last : ∀ (s : Sg) (x y : Fm), md x y = some (s.st, f) → x.lv ≤ 5 → y.lv ≤ 5 → x.ov ws → y.ov ws → (wSeq (wSet 10 (wCall (T n) (wCons (wVar 0) (wCons (wVar 1) (wCons (wBin bIx (wVar 9) (wC (.int 0))) (wCons (wVar 3) (wCons (wVar 5) wNil)))))))
 (wRet (wTup (wCons (wVar 8) (wCons (wVar 10) (wCons (wCall (T n) (wCons (wVar 0) (wCons (wVar 1) (wCons (wBin bIx (wVar 9) (wC (.int 1))) (wCons (wBin bAdd (wVar 3) (wVar 5)) (wCons (wBin bSub (wVar 4) (wVar 5)) wNil)))))) wNil)))))) { nx := fun _ S' => Q .non S', rt := Q } E [some (.ref d), some (.ref b), some f.pv, some (.int p), some (.int (m : Nat)), some (.int (k : Nat)), some (.int n2), some o.pv, some (.str s.st), some (.tup [x.pv, y.pv]), none] S3 := by
   intro s x y hmd hx hy hxo hyo
   refine seqI fun K hK => ?_
   dsimp! [pairs0]
   refine tree2_ok hT hN hO hW n k (by omega) hk1 d c b ws x p S3 _ _ hd3 hb3 hne nd nc (by omega) hx hxo fun l S4 hl1 hl2 hl3 hd4 hx4 => hK _ _ ?_
   have hb4 := hx4.get hb3 (by simp; exact ⟨nd, nc⟩)
   dsimp! [pairs1]
   rw [show (m : Int) - (k : Int) = ((m - k : Nat) : Int) by omega]
   refine tree2_ok hT hN hO hW n (m - k) (by omega) (by omega) d c b ws y (p + k) S4 _ _ hd4 hb4 hne nd nc (by omega) hy hyo fun r S5 hr1 hr2 hr3 hd5 hx5 => ?_
   refine ⟨p3, ?_⟩
   rw [rdn_pv]
   refine h (.n s l r) S5 (by simp only [Rd.lv]; omega) ⟨hl2, hr2⟩ ⟨_, x, y, hl3, ?_, hmd⟩ hd5 (hx123.trans (hx4.trans hx5))
   rw [show p + (m : Int) = p + (k : Int) + ((m - k : Nat) : Int) by omega]
   exact hr3
  have third : ∀ (s : Sg) (x y : Fm), md x y = some (s.st, f) → ((x.lv ≤ 5 ∧ y.lv ≤ 5) ∨ (4 < f.lv ∧ ∃ u v, f = .n true u v)) → x.ov ws → y.ov ws → (wSeq (wIfS (wAnd (wTest (wBin cEq (wBin bIx (wVar 2) (wC (.int 0))) (wC (.str (Str.ofString "\\"))))) (wOr (wTest (wBin cGt (wBin bMod (wVar 6) (wC (.int 8))) (wC (.int 1)))) (wTest (wBin cGt (wCall (W n) (wCons (wVar 2) wNil)) (wC (.int 4))))))
 (wSeq (wSet 8 (wC (.str (Str.ofString "<<"))))
 (wSet 9 (wTup (wCons (wTup (wCons (wC (.str (Str.ofString "\\"))) (wCons (wVar 7) (wCons (wBin bIx (wVar 2) (wC (.int 2))) wNil)))) (wCons (wTup (wCons (wC (.str (Str.ofString "\\"))) (wCons (wBin bIx (wVar 2) (wC (.int 1))) (wCons (wVar 7) wNil)))) wNil)))))
 wNext)
 (wSeq (wSet 10 (wCall (T n) (wCons (wVar 0) (wCons (wVar 1) (wCons (wBin bIx (wVar 9) (wC (.int 0))) (wCons (wVar 3) (wCons (wVar 5) wNil)))))))
 (wRet (wTup (wCons (wVar 8) (wCons (wVar 10) (wCons (wCall (T n) (wCons (wVar 0) (wCons (wVar 1) (wCons (wBin bIx (wVar 9) (wC (.int 1))) (wCons (wBin bAdd (wVar 3) (wVar 5)) (wCons (wBin bSub (wVar 4) (wVar 5)) wNil)))))) wNil))))))) { nx := fun _ S' => Q .non S', rt := Q } E [some (.ref d), some (.ref b), some f.pv, some (.int p), some (.int (m : Nat)), some (.int (k : Nat)), some (.int n2), some o.pv, some (.str s.st), some (.tup [x.pv, y.pv]), none] S3 := by
   intro s x y hmd hxy hxo hyo
   refine seqI fun K hK => ?_
   cases f with
   | b t =>
    obtain ⟨hx, hy⟩ := hxy.resolve_right (by rintro ⟨_, u, v, e⟩; cases e)
    dsimp! [fb0, ba_b]; exact hK _ _ (last s x y hmd hx hy hxo hyo)
   | n l u v =>
    cases l with
    | false =>
     obtain ⟨hx, hy⟩ := hxy.resolve_right (by rintro ⟨_, u, v, e⟩; cases e)
     dsimp! [fn0, sl_fb]; exact hK _ _ (last s x y hmd hx hy hxo hyo)
    | true =>
     have hb5 : o.lv + v.lv ≤ 5 ∧ u.lv + o.lv ≤ 5 := by
      simp only [Fm.lv] at hlv ho1
      have := u.lv_pos
      have := v.lv_pos
      rcases Nat.lt_or_ge 3 (u.lv + v.lv) with z | z
      ·have := ho1 z; omega
      ·omega
     have l1 := hK _ _ (last .d (.n true o v) (.n true u o) (md4 u o v) (by simp only [Fm.lv]; exact hb5.1) (by simp only [Fm.lv]; exact hb5.2) ⟨hoo, hov.2⟩ ⟨hov.1, hoo⟩)
     dsimp! [wSeq, fn0, fn1, fn2, sl_tt]
     refine ⟨by decide, ite2 (fun _ => ⟨p3, p3, p2, l1⟩) (fun _ => ?_)⟩
     refine hW n (by omega) _ (by omega) _ _ _ ?_
     dsimp! [true_and]
     refine ite2 (fun _ => ⟨p3, p3, p2, l1⟩) (fun zw => ?_)
     obtain ⟨hx, hy⟩ := hxy.resolve_right (fun hh1 => by obtain ⟨h4, _⟩ := hh1; exact (zw (by omega)))
     exact hK _ _ (last s x y hmd hx hy hxo hyo)
  refine seqI fun K hK => ?_
  dsimp! [true_and]
  refine hK _ _ ?_
  clear hK
  refine seqI fun K hK => ?_
  dsimp! [true_and]
  refine ⟨p3, p2, hK _ _ ?_⟩
  clear hK
  have second : ∀ (s : Sg) (x y : Fm), md x y = some (s.st, f) → ((x.lv ≤ 5 ∧ y.lv ≤ 5) ∨ (4 < f.lv ∧ ∃ l u v, f = .n l u v)) → x.ov ws → y.ov ws → (wSeq (wIfS (wAnd (wTest (wBin cEq (wBin bIx (wVar 2) (wC (.int 0))) (wC (.str (Str.ofString "/"))))) (wOr (wTest (wBin cGt (wBin bMod (wVar 6) (wC (.int 8))) (wC (.int 1)))) (wTest (wBin cGt (wCall (W n) (wCons (wVar 2) wNil)) (wC (.int 4))))))
 (wSeq (wSet 8 (wC (.str (Str.ofString ">>"))))
 (wSet 9 (wTup (wCons (wTup (wCons (wC (.str (Str.ofString "/"))) (wCons (wBin bIx (wVar 2) (wC (.int 1))) (wCons (wVar 7) wNil)))) (wCons (wTup (wCons (wC (.str (Str.ofString "/"))) (wCons (wVar 7) (wCons (wBin bIx (wVar 2) (wC (.int 2))) wNil)))) wNil)))))
 wNext)
 (wSeq (wIfS (wAnd (wTest (wBin cEq (wBin bIx (wVar 2) (wC (.int 0))) (wC (.str (Str.ofString "\\"))))) (wOr (wTest (wBin cGt (wBin bMod (wVar 6) (wC (.int 8))) (wC (.int 1)))) (wTest (wBin cGt (wCall (W n) (wCons (wVar 2) wNil)) (wC (.int 4))))))
 (wSeq (wSet 8 (wC (.str (Str.ofString "<<"))))
 (wSet 9 (wTup (wCons (wTup (wCons (wC (.str (Str.ofString "\\"))) (wCons (wVar 7) (wCons (wBin bIx (wVar 2) (wC (.int 2))) wNil)))) (wCons (wTup (wCons (wC (.str (Str.ofString "\\"))) (wCons (wBin bIx (wVar 2) (wC (.int 1))) (wCons (wVar 7) wNil)))) wNil)))))
 wNext)
 (wSeq (wSet 10 (wCall (T n) (wCons (wVar 0) (wCons (wVar 1) (wCons (wBin bIx (wVar 9) (wC (.int 0))) (wCons (wVar 3) (wCons (wVar 5) wNil)))))))
 (wRet (wTup (wCons (wVar 8) (wCons (wVar 10) (wCons (wCall (T n) (wCons (wVar 0) (wCons (wVar 1) (wCons (wBin bIx (wVar 9) (wC (.int 1))) (wCons (wBin bAdd (wVar 3) (wVar 5)) (wCons (wBin bSub (wVar 4) (wVar 5)) wNil)))))) wNil)))))))) { nx := fun _ S' => Q .non S', rt := Q } E [some (.ref d), some (.ref b), some f.pv, some (.int p), some (.int (m : Nat)), some (.int (k : Nat)), some (.int n2), some o.pv, some (.str s.st), some (.tup [x.pv, y.pv]), none] S3 := by
   intro s x y hmd hxy hxo hyo
   refine seqI fun K hK => ?_
   cases f with
   | b t =>
    have hxy' := hxy.resolve_right (by rintro ⟨_, l, u, v, e⟩; cases e)
    dsimp! [fb0, ba_f]; exact hK _ _ (third s x y hmd (.inl hxy') hxo hyo)
   | n l u v =>
    cases l with
    | true =>
     have hxy' : ((x.lv ≤ 5 ∧ y.lv ≤ 5) ∨ (4 < (Fm.n true u v).lv ∧ ∃ u' v', Fm.n true u v = .n true u' v')) := hxy.imp id fun z => ⟨z.1, u, v, rfl⟩
     dsimp! [fn0, sl_tb]; exact hK _ _ (third s x y hmd hxy' hxo hyo)
    | false =>
     have hb5 : o.lv + v.lv ≤ 5 ∧ u.lv + o.lv ≤ 5 := by
      simp only [Fm.lv] at hlv ho1
      have := u.lv_pos
      have := v.lv_pos
      rcases Nat.lt_or_ge 3 (u.lv + v.lv) with z | z
      ·have := ho1 z; omega
      ·omega
     have l1 := hK _ _ (third .c (.n false u o) (.n false o v) (md3 u o v) (.inl ⟨by simp only [Fm.lv]; exact hb5.2, by simp only [Fm.lv]; exact hb5.1⟩) ⟨hov.1, hoo⟩ ⟨hoo, hov.2⟩)
     dsimp! [wSeq, fn0, fn1, fn2, sl_ff]
     refine ⟨by decide, ite2 (fun _ => ⟨p3, p3, p2, l1⟩) (fun _ => ?_)⟩
     refine hW n (by omega) _ (by omega) _ _ _ ?_
     dsimp! [true_and]
     refine ite2 (fun _ => ⟨p3, p3, p2, l1⟩) (fun zw => ?_)
     have hxy' := hxy.resolve_right (fun hh2 => by obtain ⟨h4, _⟩ := hh2; exact (zw (by omega)))
     exact hK _ _ (third s x y hmd (.inl hxy') hxo hyo)
  have top : (f.lv + o.lv ≤ 5) ∨ (4 < f.lv ∧ ∃ l u v, f = .n l u v) := by
   cases f with
   | b t => left; simp only [Fm.lv]; omega
   | n l u v =>
    rcases Nat.lt_or_ge 4 (Fm.n l u v).lv with z | z
    ·exact .inr ⟨z, l, u, v, rfl⟩
    ·left
     rcases Nat.lt_or_ge 3 (Fm.n l u v).lv with y | y
     ·have := ho1 y; omega
     ·omega
  refine seqI fun K hK => ?_
  dsimp! [wSeq]
  refine ⟨by decide, ite2 (fun _ => ⟨p3, p2, hK _ _ ?_⟩) (fun _ => hK _ _ ?_)⟩
  ·exact second .b o (.n true f o) (md2 f o) (top.imp (fun z => ⟨by omega, by simp only [Fm.lv]; exact z⟩) id) hoo ⟨hov, hoo⟩
  ·exact second .a (.n false f o) o (md1 f o) (top.imp (fun z => ⟨by simp only [Fm.lv]; exact z, by omega⟩) id) ⟨hov, hoo⟩ hoo
noncomputable def w_Lsentence_e832 (spLwords_of : Den) (spLwords : Den) (spLnext : Den) : WS :=
 (wSeq (wSet 2 (wCall spLwords_of (wCons (wVar 1) wNil)))
 (wSeq (wSet 3 (wCall spLwords (wCons (wVar 0) (wCons (wCB fLen (wCons (wVar 2) wNil)) wNil))))
 (wSeq (wIfS (wTest (wBin cEq (wBin bMod (wCall spLnext (wCons (wVar 0) wNil)) (wC (.int 3))) (wC (.int 0))))
 (wSet 3 (wComp (wiRange (wCons (wCB fLen (wCons (wVar 2) wNil)) wNil)) [none, some 3] (wgName 0) wtTrue (wBin bIx (wVar 1) (wBin bFdiv (wVar 0) (wC (.int 2))))))
 wNext)
 (wRet (wCB fTuple (wCons (wVar 3) wNil))))))
noncomputable def w_Lnamed_d254 : WS :=
 (wSeq (wFor (wiAny (wVar 0)) (wgTup 2 (wgCons (wgName 3) (wgCons (wgName 4) wgNil))) (wIfS (wTest (wBin cEq (wVar 4) (wVar 2)))
 (wRet (wTup (wCons (wC (.str (Str.ofString "name"))) (wCons (wVar 3) wNil))))
 wNext))
 (wSeq (wDrop (wBM "list" mAppend (wVar 0) (wCons (wTup (wCons (wBM "list" mPopAt (wVar 1) (wCons (wC (.int 0)) wNil)) (wCons (wVar 2) wNil))) wNil)))
 (wRet (wTup (wCons (wC (.str (Str.ofString "name"))) (wCons (wBin bIx (wBin bIx (wVar 0) (wNeg (wC (.int 1)))) (wC (.int 0))) wNil))))))
noncomputable def w_Lapplied_3da1 (spLnext : Den) (spLnamed : Den) : WS :=
 (wSeq (wSet 5 (wLRange (wCons (wCB fLen (wCons (wVar 3) wNil)) wNil)))
 (wSeq (wSet 6 (wLst wNil))
 (wSeq (wFor (wiRange (wCons (wBin bMod (wCall spLnext (wCons (wVar 0) wNil)) (wBin bAdd (wCB fLen (wCons (wVar 3) wNil)) (wC (.int 1)))) wNil)) (wgName 7) (wDrop (wBM "list" mAppend (wVar 6) (wCons (wBM "list" mPopAt (wVar 5) (wCons (wBin bMod (wCall spLnext (wCons (wVar 0) wNil)) (wCB fLen (wCons (wVar 5) wNil))) wNil)) wNil))))
 (wSeq (wSet 8 (wVar 4))
 (wSeq (wFor (wiRev (wVar 6)) (wgName 7) (wSet 8 (wTup (wCons (wBin bIx (wVar 3) (wVar 7)) (wCons (wVar 8) wNil)))))
 (wSeq (wSet 9 (wCall spLnamed (wCons (wVar 1) (wCons (wVar 2) (wCons (wVar 8) wNil)))))
 (wSeq (wFor (wiAny (wVar 6)) (wgName 7) (wSet 9 (wTup (wCons (wC (.str (Str.ofString "of"))) (wCons (wVar 9) (wCons (wTup (wCons (wC (.str (Str.ofString "bound"))) (wCons (wBin bSub (wBin bSub (wCB fLen (wCons (wVar 3) wNil)) (wC (.int 1))) (wVar 7)) wNil))) wNil))))))
 (wRet (wVar 9)))))))))
noncomputable def w_Lterm_dd14 (spLnext : Den) (spLnamed : Den) (spLapplied : Den) : WS :=
 (wSeq (wSet 4 (wBin bMod (wCall spLnext (wCons (wVar 0) wNil)) (wC (.int 4))))
 (wSeq (wIfS (wTest (wBin cEq (wVar 4) (wC (.int 0))))
 (wRet (wCall spLnamed (wCons (wVar 1) (wCons (wVar 2) (wCons (wVar 3) wNil)))))
 wNext)
 (wSeq (wSet 5 (wLst wNil))
 (wSeq (wSet 6 (wVar 3))
 (wSeq (wWhile (wTru (wCB fIsi (wCons (wVar 6) (wCons (wC (.ty "tuple")) wNil)))) (wSeq (wDrop (wBM "list" mAppend (wVar 5) (wCons (wBin bIx (wVar 6) (wC (.int 0))) wNil)))
 (wSet 6 (wBin bIx (wVar 6) (wC (.int 1))))))
 (wSeq (wSet 7 (wC .non))
 (wSeq (wFor (wiRange (wCons (wCB fLen (wCons (wVar 5) wNil)) wNil)) (wgName 8) (wFor (wiRange (wCons (wCB fLen (wCons (wVar 5) wNil)) wNil)) (wgName 9) (wIfS (wAnd (wTest (wBin cLt (wVar 4) (wC (.int 3)))) (wTest (wBin cEq (wBin bIx (wVar 5) (wVar 8)) (wTup (wCons (wBin bIx (wVar 5) (wVar 9)) (wCons (wVar 6) wNil))))))
 (wSet 7 (wTup (wCons (wC (.str (Str.ofString "of"))) (wCons (wTup (wCons (wC (.str (Str.ofString "bound"))) (wCons (wBin bSub (wBin bSub (wCB fLen (wCons (wVar 5) wNil)) (wC (.int 1))) (wVar 8)) wNil))) (wCons (wTup (wCons (wC (.str (Str.ofString "bound"))) (wCons (wBin bSub (wBin bSub (wCB fLen (wCons (wVar 5) wNil)) (wC (.int 1))) (wVar 9)) wNil))) wNil)))))
 wNext)))
 (wSeq (wIfS (wTest (wBin cIs (wVar 7) (wC .non)))
 (wSet 7 (wCall spLapplied (wCons (wVar 0) (wCons (wVar 1) (wCons (wVar 2) (wCons (wVar 5) (wCons (wVar 6) wNil)))))))
 wNext)
 (wSeq (wIfS (wTest (wBin cEq (wVar 4) (wC (.int 3))))
 (wSet 7 (wTup (wCons (wC (.str (Str.ofString "of"))) (wCons (wTup (wCons (wC (.str (Str.ofString "fn"))) (wCons (wVar 6) (wCons (wTup (wCons (wC (.str (Str.ofString "bound"))) (wCons (wC (.int 0)) wNil))) wNil)))) (wCons (wVar 7) wNil)))))
 wNext)
 (wSeq (wFor (wiRev (wVar 5)) (wgName 10) (wSet 7 (wTup (wCons (wC (.str (Str.ofString "fn"))) (wCons (wVar 10) (wCons (wVar 7) wNil))))))
 (wRet (wVar 7))))))))))))
noncomputable def w_Lbook_2f0c (spLwords : Den) (spLterm : Den) (spLkind_of_form : Den) : WS :=
 (wSeq (wSet 3 (wLst wNil))
 (wSeq (wSet 4 (wCall spLwords (wCons (wVar 0) (wCons (wC (.int 20)) wNil))))
 (wSeq (wSet 5 (wLst wNil))
 (wSeq (wFor (wiAny (wVar 2)) (wgTup 2 (wgCons (wgName 6) (wgCons (wgName 7) wgNil))) (wIfS (wTest (wBin cNotIn (wTup (wCons (wVar 6) (wCons (wVar 7) wNil))) (wComp (wiAny (wVar 5)) [none] (wgName 0) wtTrue (wSl (wVar 0) wNoPart (wPart (wC (.int 2)))))))
 (wDrop (wBM "list" mAppend (wVar 5) (wCons (wTup (wCons (wVar 6) (wCons (wVar 7) (wCons (wCall spLterm (wCons (wVar 0) (wCons (wVar 3) (wCons (wVar 4) (wCons (wCall spLkind_of_form (wCons (wVar 7) wNil)) wNil))))) wNil)))) wNil)))
 wNext))
 (wRet (wTup (wCons (wCB fTuple (wCons (wVar 1) wNil)) (wCons (wCB fTuple (wCons (wVar 3) wNil)) (wCons (wCB fTuple (wCons (wVar 5) wNil)) wNil)))))))))
noncomputable def w_Lmeans_bcd7 (spLwords_of : Den) : WS :=
 (wSeq (wSet 3 wDNew)
 (wSeq (wFor (wiAny (wCall spLwords_of (wCons (wVar 2) wNil))) (wgTup 2 (wgCons (wgName 4) (wgCons (wgName 5) wgNil))) (wFor (wiAny (wBin bIx (wVar 0) (wC (.int 2)))) (wgTup 3 (wgCons (wgName 6) (wgCons (wgName 7) (wgCons (wgName 8) wgNil)))) (wIfS (wAnd (wTest (wBin cEq (wVar 6) (wBin bIx (wVar 1) (wVar 4)))) (wTest (wBin cEq (wVar 7) (wVar 5))))
 (wAsg (wVar 8) (wgSub (wVar 3) (wTup (wCons (wVar 4) (wCons (wVar 5) wNil))) sSetN))
 wNext)))
 (wRet (wVar 3))))
noncomputable def w_rows_of_2836 : WS :=
 (wSeq (wSet 2 (wComp (wiAny (wBin bIx (wVar 0) (wC (.int 2)))) [none, none, none, some 1] (wgTup 3 (wgCons (wgName 0) (wgCons (wgName 1) (wgCons (wgName 2) wgNil)))) (wTest (wBin cEq (wVar 0) (wVar 3))) (wTup (wCons (wVar 1) (wCons (wVar 2) wNil)))))
 (wSeq (wIfS (wNot (wTru (wVar 2)))
 wNever
 wNext)
 (wRet (wVar 2))))
noncomputable def w_term_of_4c0a (sprows_of : Den) : WS :=
 (wSeq (wFor (wiAny (wCall sprows_of (wCons (wVar 0) (wCons (wVar 1) wNil)))) (wgTup 2 (wgCons (wgName 3) (wgCons (wgName 4) wgNil))) (wIfS (wTest (wBin cEq (wVar 3) (wVar 2)))
 (wRet (wVar 4))
 wNext))
 (wRaise "NoForm" (wCons (wC (.str (Str.ofString "the word has not this form"))) wNil)))
noncomputable def w_meaning_2428 (spterm_of : Den) (spwords_of : Den) (spmeaning_with : Den) : WS :=
 (wSeq (wSet 3 (wDComp (wiAny (wCall spwords_of (wCons (wVar 2) wNil))) [none, none, some 0, some 1] (wgTup 2 (wgCons (wgName 0) (wgCons (wgName 1) wgNil))) (wVar 0) (wCall spterm_of (wCons (wVar 2) (wCons (wBin bIx (wVar 3) (wVar 0)) (wCons (wVar 1) wNil))))))
 (wRet (wCall spmeaning_with (wCons (wVar 2) (wCons (wVar 3) wNil)))))
noncomputable def w_Lmeant_53cc (spLmeant : Den) (spLjoined : Den) (spLkind_of_form : Den) : WS :=
 (wSeq (wIfS (wTest (wBin cEq (wBin bIx (wVar 0) (wC (.int 0))) (wC (.str (Str.ofString "word")))))
 (wRet (wTup (wCons (wBin bIx (wVar 0) (wC (.int 2))) (wCons (wBin bIxN (wVar 1) (wSl (wVar 0) (wPart (wC (.int 1))) wNoPart)) wNil))))
 wNext)
 (wSeq (wAsg (wCall spLmeant (wCons (wBin bIx (wVar 0) (wC (.int 1))) (wCons (wVar 1) wNil))) (wgTup 2 (wgCons (wgName 2) (wgCons (wgName 3) wgNil))))
 (wSeq (wAsg (wCall spLmeant (wCons (wBin bIx (wVar 0) (wC (.int 2))) (wCons (wVar 1) wNil))) (wgTup 2 (wgCons (wgName 4) (wgCons (wgName 5) wgNil))))
 (wSeq (wSet 6 (wCall spLjoined (wCons (wBin bIx (wVar 0) (wC (.int 0))) (wCons (wVar 2) (wCons (wVar 4) wNil)))))
 (wSeq (wIfS (wTest (wBin cIn (wBin bIx (wVar 0) (wC (.int 0))) (wTup (wCons (wC (.str (Str.ofString "<"))) (wCons (wC (.str (Str.ofString "<<"))) wNil)))))
 (wPar 3 5 (wCons (wVar 5) (wCons (wVar 3) wNil)))
 wNext)
 (wSeq (wIfS (wTest (wBin cIn (wBin bIx (wVar 0) (wC (.int 0))) (wTup (wCons (wC (.str (Str.ofString ">"))) (wCons (wC (.str (Str.ofString "<"))) wNil)))))
 (wRet (wTup (wCons (wVar 6) (wCons (wTup (wCons (wC (.str (Str.ofString "of"))) (wCons (wVar 3) (wCons (wVar 5) wNil)))) wNil))))
 wNext)
 (wRet (wTup (wCons (wVar 6) (wCons (wTup (wCons (wC (.str (Str.ofString "fn"))) (wCons (wCall spLkind_of_form (wCons (wBin bIx (wVar 6) (wC (.int 2))) wNil)) (wCons (wTup (wCons (wC (.str (Str.ofString "of"))) (wCons (wVar 3) (wCons (wTup (wCons (wC (.str (Str.ofString "of"))) (wCons (wVar 5) (wCons (wTup (wCons (wC (.str (Str.ofString "bound"))) (wCons (wC (.int 0)) wNil))) wNil)))) wNil)))) wNil)))) wNil))))))))))
noncomputable def w_law_7c0c (spLdeck : Den) (spLwords : Den) (spLnext : Den) (spLtree : Den) (spLdrawn_form : Den) (spLsentence : Den) (spLwords_of : Den) (spLbook : Den) (spLmeans : Den) (spLwithin : Den) (spLsame : Den) (spmeaning : Den) (spLmeant : Den) : WS :=
 (wSeq (wSet 1 (wCall spLdeck (wCons (wVar 0) wNil)))
 (wSeq (wSet 2 (wCall spLwords (wCons (wVar 1) (wCons (wBin bAdd (wC (.int 2)) (wBin bMod (wCall spLnext (wCons (wVar 1) wNil)) (wC (.int 2)))) wNil))))
 (wSeq (wSet 3 (wCall spLtree (wCons (wVar 1) (wCons (wVar 2) (wCons (wCall spLdrawn_form (wCons (wVar 1) (wCons (wVar 2) wNil))) (wCons (wC (.int 0)) (wCons (wBin bAdd (wC (.int 1)) (wBin bMod (wCall spLnext (wCons (wVar 1) wNil)) (wC (.int 6)))) wNil)))))))
 (wSeq (wSet 4 (wCall spLsentence (wCons (wVar 1) (wCons (wVar 3) wNil))))
 (wSeq (wSet 5 (wComp (wiAny (wCall spLwords_of (wCons (wVar 3) wNil))) [none, none, some 4] (wgTup 2 (wgCons (wgName 0) (wgCons (wgName 1) wgNil))) wtTrue (wTup (wCons (wBin bIx (wVar 2) (wVar 0)) (wCons (wVar 1) wNil)))))
 (wSeq (wSet 6 (wBin bMod (wCall spLnext (wCons (wVar 1) wNil)) (wCB fLen (wCons (wVar 5) wNil))))
 (wSeq (wSet 7 (wCall spLbook (wCons (wVar 1) (wCons (wVar 2) (wCons (wBin bAdd (wSl (wVar 5) (wPart (wVar 6)) wNoPart) (wSl (wVar 5) wNoPart (wPart (wVar 6)))) wNil)))))
 (wSeq (wSet 8 (wCall spLmeans (wCons (wVar 7) (wCons (wVar 4) (wCons (wVar 3) wNil)))))
 (wSeq (wFor (wiAny (wBin bAdd (wCall spLwithin (wCons (wVar 3) wNil)) (wLst (wCons (wVar 3) wNil)))) (wgName 9) (wIfS (wNot (wTru (wCall spLsame (wCons (wBin bIx (wCall spLmeant (wCons (wVar 9) (wCons (wVar 8) wNil))) (wC (.int 1))) (wCons (wCall spmeaning (wCons (wVar 7) (wCons (wVar 4) (wCons (wVar 9) wNil)))) wNil)))))
 (wRet (wC (.bl false)))
 wNext))
 (wRet (wC (.bl true))))))))))))
noncomputable def Fm.k : Fm → KTr
 | .b s => .tup [.str (Str.ofString "basic"), .str s]
 | .n l x y => .tup [.str (sSl l), x.k, y.k]
theorem ktP_fm : ∀ f : Fm, ktP f.k = f.pv
 | .b s => rfl
 | .n l x y => by simp only [Fm.k, ktP, ktPs, ktP_fm x, ktP_fm y, Fm.pv]
theorem kdep_fm : ∀ f : Fm, kdep f.k = f.dp
 | .b s => rfl
 | .n l x y => by simp only [Fm.k, kdep, kdeps, kdep_fm x, kdep_fm y, Fm.dp]; omega
theorem pv_inj {f g : Fm} (h : f.pv = g.pv) : f = g := by
 have := eqB_fm f g
 rw [h, eqB_self _ (nrf_fm g)] at this
 exact of_decide_eq_true this.symm
noncomputable def wk (p : Int × Fm) : KTr := .tup [.int p.1, p.2.k]
theorem wk_inj {p q : Int × Fm} (h : wk p = wk q) : p = q := by
 obtain ⟨i, f⟩ := p
 obtain ⟨j, g⟩ := q
 have h1 := congrArg ktP h
 simp only [wk, ktP, ktPs, ktP_fm, PV.tup.injEq, List.cons.injEq, PV.int.injEq, and_true] at h1
 rw [h1.1, pv_inj h1.2]
theorem wk_pv (p : Int × Fm) : ktP (wk p) = .tup [.int p.1, p.2.pv] := by simp only [wk, ktP, ktPs, ktP_fm]
theorem wk_ok {p : Int × Fm} (h : p.2.lv ≤ 5) : (∃ ys, wk p = .tup ys) ∧ kdep (wk p) ≤ 8 := by
 have := p.2.dp_lv
 exact ⟨⟨_, rfl⟩, by simp only [wk, kdep, kdeps, kdep_fm]; omega⟩
noncomputable def mdI (x y g : Fm) : Sg → Prop
 | .a => x = .n false g y
 | .b => y = .n true g x
 | .c => ∃ u v z, x = .n false u v ∧ y = .n false v z ∧ g = .n false u z
 | .d => ∃ u v z, x = .n true v z ∧ y = .n true u v ∧ g = .n true u z
theorem md_inv {s : Sg} {x y g : Fm} (h : md x y = some (s.st, g)) : mdI x y g s := by
 have key : ∀ {t : Sg} {f : Fm}, some (t.st, f) = some (s.st, g) → t = s ∧ f = g := fun e => by
  simp only [Option.some.injEq, Prod.mk.injEq] at e
  exact ⟨st_inj.mp e.1, e.2⟩
 unfold md at h
 cases e : mdL x y with
 | some p =>
  rw [e] at h
  unfold mdL at e
  split at e
  ·rename_i u v
   split at e
   ·rename_i hv
    subst hv
    cases e
    obtain ⟨rfl, rfl⟩ := key (t := .a) h
    exact rfl
   ·split at e
    ·rename_i v' z _
     split at e
     ·rename_i hv
      subst hv
      cases e
      obtain ⟨rfl, rfl⟩ := key (t := .c) h
      exact ⟨_, _, _, rfl, rfl, rfl⟩
     ·cases e
    ·cases e
  ·cases e
 | none =>
  rw [e] at h
  have h : mdR x y = some (s.st, g) := h
  unfold mdR at h
  split at h
  ·rename_i u v
   split at h
   ·rename_i hv
    subst hv
    obtain ⟨rfl, rfl⟩ := key (t := .b) h
    exact rfl
   ·split at h
    ·rename_i v' z _
     split at h
     ·rename_i hv
      subst hv
      obtain ⟨rfl, rfl⟩ := key (t := .d) h
      exact ⟨_, _, _, rfl, rfl, rfl⟩
     ·cases h
    ·cases h
  ·cases h
noncomputable def Fm.arg : Fm → Fm
 | .n _ _ z => z
 | f => f
noncomputable def Fm.res : Fm → Fm
 | .n _ x _ => x
 | f => f
noncomputable def Rd.fm : Rd → Fm
 | .w _ f => f
 | .n .a l _ => l.fm.res
 | .n .b _ r => r.fm.res
 | .n .c l r => .n false l.fm.res r.fm.arg
 | .n .d l r => .n true r.fm.res l.fm.arg
noncomputable def Rd.tm (L : Int × Fm → PV) : Rd → PV
 | .w i f => L (i, f)
 | .n .a l r => ofP (l.tm L) (r.tm L)
 | .n .b l r => ofP (r.tm L) (l.tm L)
 | .n .c l r => jnP r.fm.arg (l.tm L) (r.tm L)
 | .n .d l r => jnP l.fm.arg (r.tm L) (l.tm L)
theorem is_fm : ∀ {r : Rd} {a b : Int} {g : Fm}, r.is a b g → r.fm = g
 | .w i f, a, b, g, ⟨_, _, e⟩ => e
 | .n s l r, a, b, g, ⟨k, x, y, h1, h2, h3⟩ => by
  have e1 := is_fm h1
  have e2 := is_fm h2
  have := md_inv h3
  cases s with
  | a => rw [show x = _ from this] at e1; simp only [Rd.fm, e1, Fm.res]
  | b => rw [show y = _ from this] at e2; simp only [Rd.fm, e2, Fm.res]
  | c => obtain ⟨u, v, z, rfl, rfl, rfl⟩ := this; simp only [Rd.fm, e1, e2, Fm.res, Fm.arg]
  | d => obtain ⟨u, v, z, rfl, rfl, rfl⟩ := this; simp only [Rd.fm, e1, e2, Fm.res, Fm.arg]
theorem is_dp : ∀ {r : Rd} {a b : Int} {g : Fm}, r.is a b g → r.sm → g.dp ≤ 5
 | .w i f, a, b, g, ⟨_, _, e⟩, h => by subst e; exact Nat.le_trans f.dp_lv h
 | .n s l r, a, b, g, ⟨k, x, y, h1, h2, h3⟩, h => by
  have := is_dp h1 h.1
  have := is_dp h2 h.2
  have := md_dp h3
  omega
noncomputable def Rd.ws : Rd → List (Int × Fm)
 | .w i f => [(i, f)]
 | .n _ l r => l.ws ++ r.ws
theorem ws_len : ∀ r : Rd, r.ws.length = r.lv
 | .w _ _ => rfl
 | .n _ l r => by simp only [Rd.ws, Rd.lv, List.length_append, ws_len l, ws_len r]
theorem ws_sm : ∀ {r : Rd} {p : Int × Fm}, r.sm → p ∈ r.ws → p.2.lv ≤ 5
 | .w i f, p, h, hp => by simp only [Rd.ws, List.mem_singleton] at hp; subst hp; exact h
 | .n s l r, p, h, hp => by
  rcases List.mem_append.mp hp with z | z
  ·exact ws_sm h.1 z
  ·exact ws_sm h.2 z
theorem ws_in : ∀ {r : Rd} {a b : Int} {g : Fm}, r.is a b g → a ≤ b ∧ (∀ p ∈ r.ws, a ≤ p.1 ∧ p.1 < b) ∧ (r.ws.map (·.1)).Nodup
 | .w i f, a, b, g, ⟨e1, e2, _⟩ => by
  subst e1 e2
  simp only [Rd.ws, List.mem_singleton, List.map_cons, List.map_nil, List.nodup_cons, List.not_mem_nil, not_false_eq_true, List.nodup_nil, and_true]
  exact ⟨by omega, by rintro p rfl; exact ⟨Int.le_refl _, by show i < i + 1; omega⟩⟩
 | .n s l r, a, b, g, ⟨k, x, y, h1, h2, _⟩ => by
  obtain ⟨a1, a2, a3⟩ := ws_in h1
  obtain ⟨b1, b2, b3⟩ := ws_in h2
  simp only [Rd.ws, List.mem_append, List.map_append, List.nodup_append]
  refine ⟨by omega, ?_, a3, b3, ?_⟩
  ·rintro p (h | h)
   ·have := a2 p h; omega
   ·have := b2 p h; omega
  ·intro i hi j hj e
   obtain ⟨p, hp, rfl⟩ := List.mem_map.mp hi
   obtain ⟨q, hq, rfl⟩ := List.mem_map.mp hj
   have := a2 p hp
   have := b2 q hq
   omega
noncomputable def encW (p : Int × Fm) : PV := .tup [.int p.1, p.2.pv]
theorem wi_is : ∀ {r t : Rd} {a b : Int} {g : Fm}, r.is a b g → t ∈ r.wi → ∃ a' b' g', t.is a' b' g'
 | .w i f, t, a, b, g, h, ht => by simp only [Rd.wi, List.mem_singleton] at ht; subst ht; exact ⟨_, _, _, h⟩
 | .n s l r, t, a, b, g, h, ht => by
  obtain ⟨k, x, y, h1, h2, h3⟩ := id h
  simp only [Rd.wi, List.mem_cons, List.mem_append] at ht
  rcases ht with rfl | ht | ht
  ·exact ⟨_, _, _, h⟩
  ·exact wi_is h1 ht
  ·exact wi_is h2 ht
theorem wi_sm : ∀ {r t : Rd}, r.sm → t ∈ r.wi → t.sm
 | .w i f, t, h, ht => by simp only [Rd.wi, List.mem_singleton] at ht; subst ht; exact h
 | .n s l r, t, h, ht => by
  simp only [Rd.wi, List.mem_cons, List.mem_append] at ht
  rcases ht with rfl | ht | ht
  ·exact h
  ·exact wi_sm h.1 ht
  ·exact wi_sm h.2 ht
theorem wi_ws : ∀ {r t : Rd}, t ∈ r.wi → ∀ p ∈ t.ws, p ∈ r.ws
 | .w i f, t, ht => by simp only [Rd.wi, List.mem_singleton] at ht; subst ht; exact fun p h => h
 | .n s l r, t, ht => by
  simp only [Rd.wi, List.mem_cons, List.mem_append] at ht
  rcases ht with rfl | ht | ht
  ·exact fun p h => h
  ·exact fun p h => List.mem_append_left _ (wi_ws ht p h)
  ·exact fun p h => List.mem_append_right _ (wi_ws ht p h)
theorem valP_cons (p : Key × PV) (r : List (Key × PV)) (k : Key) : valP (p :: r) k = if p.1 = k then some p.2 else valP r k := by
 unfold valP
 rw [List.find?_cons]
 by_cases h : p.1 = k
 ·rw [if_pos h, decide_eq_true h]; rfl
 ·rw [if_neg h, decide_eq_false h]
theorem valP_other (kvs : List (Key × PV)) (k k' : Key) (v : PV) (h : k' ≠ k) : valP (putP kvs k v) k' = valP kvs k' := by
 have hk : ¬ k = k' := fun z => h z.symm
 unfold putP
 split
 ·rename_i hh
  clear hh
  induction kvs with
  | nil => rfl
  | cons p r ih =>
   rw [List.map_cons, valP_cons, valP_cons]
   by_cases z : p.1 = k
   ·have : ¬ p.1 = k' := by rw [z]; exact hk
    rw [if_pos z, if_neg this, if_neg this, ih]
   ·rw [if_neg z, ih]
 ·rename_i hh
  clear hh
  induction kvs with
  | nil => simp [valP, hk]
  | cons p r ih => rw [List.cons_append, valP_cons, valP_cons]; simp_all
theorem valP_same (kvs : List (Key × PV)) (k : Key) (v : PV) : valP (putP kvs k v) k = some v := by
 unfold putP
 split
 ·rename_i h
  induction kvs with
  | nil => simp at h
  | cons p r ih =>
   rw [List.map_cons, valP_cons]
   by_cases z : p.1 = k
   ·simp [z]
   ·rw [if_neg z, if_neg z]
    refine ih ?_
    rw [List.any_cons, decide_eq_false z, Bool.false_or] at h
    exact h
 ·rename_i h
  induction kvs with
  | nil => simp [valP]
  | cons p r ih =>
   rw [List.cons_append, valP_cons]
   simp_all
theorem putP_len (kvs : List (Key × PV)) (k : Key) (v : PV) : (putP kvs k v).length ≤ kvs.length + 1 := by
 unfold putP
 split <;> simp
theorem dcI {chk : Store → Prop} {g : WG} {wk wv : WE} {d : Nat} {Q : VC} (P : List PV → Ev.Loc → Store → Prop) (hn : ∀ σ S, P [] σ S → chk S ∧ Q (.ref d) S)
  (hc : ∀ x r σ S, P (x :: r) σ S → ∀ N : Ev.Loc → Store → Prop, (∀ σ S, P r σ S → N σ S) → chk S ∧ g x σ S NoX fun σ2 S2 => wk σ2 S2 NoX fun k S3 => wv σ2 S3 NoX fun v S4 => ∃ kvs kk, S4[d]? = some (.dK kvs) ∧ keyOf k = some kk ∧ kvs.length < sizeLine ∧ N σ2 (S4.set d (.dK (putP kvs kk v)))) : ∀ (xs : List PV) (σ : Ev.Loc) (S : Store), P xs σ S → dcGo chk g wk wv d Q xs σ S
 | [], σ, S, h => hn σ S h
 | x :: r, σ, S, h => ⟨(hc x r σ S h (P r) fun _ _ z => z).1, P r, fun σ' S' q => dcI P hn hc r σ' S' q, (hc x r σ S h (P r) fun _ _ z => z).2⟩
noncomputable def WoD (sp : Den) (n : Nat) : Prop := ∀ (r : Rd), r.lv ≤ n → ∀ (S : Store) (E : EK) (Q : VC), (∀ (q : Nat) S', S.length ≤ q → S'[q]? = some (.lst (r.ws.map encW)) → Ex [] S S' → Q (.ref q) S') → sp [r.pv] S E Q
theorem wo_ok {T : Nat → Den} (hT : ∀ n, T (n + 1) = fnP 1 1 (w_words_of_0033 (T n))) : ∀ (n : Nat), n ≤ 1000 → WoD (T (n + 1)) n
 | 0, _ => fun r hr => by have := r.lv_pos; omega
 | n + 1, hn => by
  intro r hr S E Q h
  rw [hT]
  refine ⟨rfl, ?_⟩
  unfold w_words_of_0033
  cases r with
  | w i f =>
   dsimp! [wSeq, rd0, hd_w', rw1, rw2]
   exact ⟨big (by decide), big (by decide), h _ _ (Nat.le_refl _) (at_new _ _) (Ex.new _ _ _)⟩
  | n s l r =>
   have wl := ws_len l
   have wr := ws_len r
   simp only [Rd.lv] at hr
   have := l.lv_pos
   have := r.lv_pos
   dsimp! [wSeq, rd0, hd_w, rn1, rn2]
   refine wo_ok hT n (by omega) l (by omega) _ _ _ fun q S1 hq0 hq hx1 => ?_
   refine wo_ok hT n (by omega) r (by omega) _ _ _ fun q2 S2 hq20 hq2 hx2 => ?_
   have a1 := hx2.get hq (by simp)
   dsimp! [lst_at a1, lst_at hq2]
   refine ⟨by simp only [List.length_map]; exact big (by omega), ?_⟩
   have ex : Ex [] S S2 := hx1.trans hx2
   refine h _ _ ex.1 ?_ (ex.app _)
   rw [at_new, Rd.ws, List.map_append]
noncomputable def FtD (L : Int × Fm → PV) (sp : Den) (n : Nat) : Prop := ∀ (r : Rd) (a b : Int) (g : Fm), r.is a b g → r.sm → r.lv ≤ n → ∀ (t : Nat) (kvs : List (Key × PV)) (S : Store) (E : EK) (Q : VC), S[t]? = some (.dK kvs) → (∀ p ∈ r.ws, valP kvs (.inl p.1) = some (L p)) → Q (.tup [g.pv, r.tm L]) S → sp [r.pv, .ref t] S E Q
theorem ft_ok {L : Int × Fm → PV} {T M N : Nat → Den} (hT : ∀ n, T (n + 1) = fnP 2 8 (w_form_and_term_f2a5 (T n) (M n) (N n))) (hM : ∀ n, 20 ≤ n → MadeD (M n)) (hN : ∀ n, 20 ≤ n → MeantD (N n) 10) : ∀ (n m : Nat), m + 21 ≤ n → FtD L (T n) m
 | 0, m, h => by omega
 | n + 1, m, hnm => by
  intro r a b g his hsm hr t kvs S E Q ht hv h
  rw [hT]
  refine ⟨rfl, ?_⟩
  unfold w_form_and_term_f2a5
  have p2 : 2 ≤ sizeLine := big (by decide)
  cases r with
  | w i f =>
   obtain ⟨rfl, rfl, rfl⟩ := his
   have hv1 := hv (i, f) (by simp [Rd.ws])
   dsimp! [wSeq, rd0, hd_w', rw1, rw2, ht, hv1]
   exact ⟨p2, h⟩
  | n s l r =>
   obtain ⟨k, x, y, h1, h2, h3⟩ := his
   simp only [Rd.lv] at hr
   have := l.lv_pos
   have := r.lv_pos
   have hx := is_dp h1 hsm.1
   have hy := is_dp h2 hsm.2
   have e1 := is_fm h1
   have e2 := is_fm h2
   refine seqI fun K hK => ?_
   dsimp! [rd0, hd_w]
   refine hK _ _ ?_
   clear hK
   refine seqI fun K hK => ?_
   dsimp! [rn1]
   refine ft_ok hT hM hN n (m - 1) (by omega) l a k x h1 hsm.1 (by omega) t kvs S _ _ ht (fun p hp => hv p (by simp [Rd.ws, hp])) ?_
   dsimp! [true_and]
   refine hK _ _ ?_
   clear hK
   refine seqI fun K hK => ?_
   dsimp! [rn2]
   refine ft_ok hT hM hN n (m - 1) (by omega) r k b y h2 hsm.2 (by omega) t kvs S _ _ ht (fun p hp => hv p (by simp [Rd.ws, hp])) ?_
   dsimp! [true_and]
   refine hK _ _ ?_
   clear hK
   refine seqI fun K hK => ?_
   dsimp! [true_and]
   refine hM n (by omega) x y _ _ _ (by omega) (by omega) ?_
   rw [h3]
   dsimp! [mdP]
   refine hK _ _ ?_
   clear hK
   have hi := md_inv h3
   have H := hN n (by omega)
   cases s with
   | a =>
    dsimp! [true_and]
    exact H.a _ _ _ _ _ _ _ ⟨p2, h⟩
   | b =>
    dsimp! [true_and]
    exact H.b _ _ _ _ _ _ _ ⟨p2, h⟩
   | c =>
    obtain ⟨u, v, z, rfl, rfl, rfl⟩ := hi
    simp only [Rd.tm, e2, Fm.arg] at h
    simp only [Fm.dp] at hy
    dsimp! [true_and]
    exact H.c _ _ _ _ _ _ _ _ _ (by omega) ⟨p2, h⟩
   | d =>
    obtain ⟨u, v, z, rfl, rfl, rfl⟩ := hi
    simp only [Rd.tm, e1, Fm.arg] at h
    simp only [Fm.dp] at hx
    dsimp! [true_and]
    exact H.d _ _ _ _ _ _ _ _ _ (by omega) ⟨p2, h⟩
noncomputable def Rd.one : Rd → Option (Int × Fm)
 | .w i f => some (i, f)
 | _ => none
theorem wi_one : ∀ r : Rd, r.wi.filterMap Rd.one = r.ws
 | .w i f => rfl
 | .n s l r => by rw [Rd.wi, List.filterMap_cons_none rfl, List.filterMap_append, wi_one l, wi_one r]; rfl
theorem cut3 (a b c : PV) : cutP [a, b, c] (some 1) none = [b, c] := rfl
theorem ncut3 (a b c : PV) : ¬ (HT.sIx [a, b, c].length 0 (some 1) = 0 ∧ HT.sIx [a, b, c].length [a, b, c].length none = [a, b, c].length) := by
 rintro ⟨h, _⟩
 exact absurd (show (1 : Nat) = 0 from h) (by decide)
theorem rw_tup (i : Int) (f : Fm) : (Rd.w i f).pv = PV.tup [.str sWord, .int i, f.pv] := rfl
theorem lw_ok {sp : Den} (hp : WiD sp 10) : WoD (fnP 1 1 (w_Lwords_of_c1a7 sp)) 10 := by
 intro r hr S E Q h
 refine ⟨rfl, ?_⟩
 unfold w_Lwords_of_c1a7
 dsimp! [true_and]
 refine hp r hr _ _ _ fun q S1 hq0 hq hx => ?_
 have hwl := wi_len r
 dsimp! [seq_at hq]
 refine ⟨by rw [List.length_map]; exact big (by omega), ?_⟩
 refine compI (fun rest ys σ S2 => ∃ (ts us : List Rd) (j1 : Option PV), rest = ts.map Rd.pv ∧ σ = [j1] ∧ S2 = S1 ∧ ys = (us.filterMap Rd.one).map encW ∧ us ++ ts = r.wi) ?_ ?_ _ _ _ _ ⟨r.wi, [], none, rfl, rfl, rfl, rfl, rfl⟩
 ·rintro ys σ S2 ⟨ts, us, j1, hr', rfl, rfl, rfl, e⟩
  obtain rfl : ts = [] := by cases ts with
   | nil => rfl
   | cons a b => simp at hr'
  rw [List.append_nil] at e
  refine ⟨seq_at hq, h _ _ hx.1 ?_ (hx.app _)⟩
  rw [at_new, e, wi_one]
 ·rintro x rest ys σ S2 ⟨ts, us, j1, hr', rfl, rfl, rfl, e⟩ N hN
  obtain ⟨t, ts, rfl⟩ : ∃ p r, ts = p :: r := by
   cases ts with
   | nil => simp at hr'
   | cons a b => exact ⟨a, b, rfl⟩
  simp only [List.map_cons, List.cons.injEq] at hr'
  obtain ⟨rfl, rfl⟩ := hr'
  refine ⟨seq_at hq, ?_⟩
  cases t with
  | n s l r =>
   dsimp! [rd0, hd_w]
   exact hN _ _ _ ⟨ts, us ++ [.n s l r], _, rfl, rfl, rfl, by rw [List.filterMap_append, List.filterMap_cons_none rfl]; simp, by simp [← e]⟩
  | w i f =>
   have := hN _ _ _ ⟨ts, us ++ [.w i f], some (Rd.w i f).pv, rfl, rfl, rfl, rfl, by simp [← e]⟩
   rw [List.filterMap_append, List.map_append] at this
   dsimp! [rd0, hd_w']
   rw [rw_tup]
   refine ⟨ncut3 _ _ _, ?_⟩
   rw [cut3]
   exact this
noncomputable def JoD (sp : Den) : Prop := ∀ (s : Sg) (x y g : Fm), mdI x y g s → ∀ (S : Store) (E : EK) (Q : VC), Q g.pv S → sp [.str s.st, x.pv, y.pv] S E Q
theorem jo_ok : JoD (fnP 3 3 w_Ljoined_5273) := by
 intro s x y g hi S E Q h
 refine ⟨rfl, ?_⟩
 unfold w_Ljoined_5273
 have p3 : 3 ≤ sizeLine := big (by decide)
 cases s with
 | a =>
  obtain rfl := (show x = _ from hi)
  dsimp! [wSeq, Sg.st, fn1]
  exact h
 | b =>
  obtain rfl := (show y = _ from hi)
  dsimp! [wSeq, Sg.st, sg1, fn1]
  exact h
 | c =>
  obtain ⟨u, v, z, rfl, rfl, rfl⟩ := hi
  dsimp! [wSeq, Sg.st, sg2, sg3, fn1, fn2]
  exact ⟨p3, h⟩
 | d =>
  obtain ⟨u, v, z, rfl, rfl, rfl⟩ := hi
  dsimp! [wSeq, Sg.st, sg4, sg5, sg6, fn1, fn2]
  exact ⟨p3, h⟩
noncomputable def Sg.ab : Sg → Bool
 | .a => true
 | .b => true
 | _ => false
theorem any_ab (s : Sg) : ([PV.str (Str.ofString ">"), PV.str (Str.ofString "<")].any fun y => eqB y (.str s.st)) = s.ab := by
 simp only [List.any_cons, List.any_nil, eqB_ss, Bool.or_false]
 cases s <;> decide +kernel
noncomputable def LmD (L : Int × Fm → PV) (sp : Den) (n : Nat) : Prop := ∀ (r : Rd) (a b : Int) (g : Fm), r.is a b g → r.sm → r.lv ≤ n → ∀ (t : Nat) (kvs : List (KTr × PV)) (S : Store) (E : EK) (Q : VC), S[t]? = some (.dN kvs) → (∀ p ∈ r.ws, valN kvs (wk p) = some (L p)) → Q (.tup [g.pv, r.tm L]) S → sp [r.pv, .ref t] S E Q
theorem lm_ok {L : Int × Fm → PV} {T M N : Nat → Den} (hT : ∀ n, T (n + 1) = fnP 2 7 (w_Lmeant_53cc (T n) (M n) (N n))) (hM : ∀ n, 20 ≤ n → JoD (M n)) (hN : ∀ n, 20 ≤ n → KindD (N n) 10) : ∀ (n m : Nat), m + 21 ≤ n → LmD L (T n) m
 | 0, m, h => by omega
 | n + 1, m, hnm => by
  intro r a b g his hsm hr t kvs S E Q ht hv h
  rw [hT]
  refine ⟨rfl, ?_⟩
  unfold w_Lmeant_53cc
  have p2 : 2 ≤ sizeLine := big (by decide)
  have p3 : 3 ≤ sizeLine := big (by decide)
  cases r with
  | w i f =>
   obtain ⟨rfl, rfl, rfl⟩ := his
   have hv1 := hv (i, f) (by simp [Rd.ws])
   have key : bIxN (.ref t) (encW (i, f)) S fun v S1 => 2 ≤ sizeLine ∧ Q (.tup [f.pv, v]) S1 := ⟨t, kvs, wk (i, f), L (i, f), rfl, ht, (wk_pv (i, f)).symm, wk_ok hsm, hv1, p2, h⟩
   dsimp! [wSeq, rd0, hd_w', rw2]
   rw [rw_tup]
   refine ⟨ncut3 _ _ _, ?_⟩
   rw [cut3]
   exact key
  | n s l r =>
   obtain ⟨k, x, y, h1, h2, h3⟩ := his
   simp only [Rd.lv] at hr
   have := l.lv_pos
   have := r.lv_pos
   have hx := is_dp h1 hsm.1
   have hy := is_dp h2 hsm.2
   have e1 := is_fm h1
   have e2 := is_fm h2
   have hg : g.dp ≤ 5 := is_dp (r := .n s l r) (a := a) (b := b) ⟨k, x, y, h1, h2, h3⟩ hsm
   refine seqI fun K hK => ?_
   dsimp! [rd0, hd_w]
   refine hK _ _ ?_
   clear hK
   refine seqI fun K hK => ?_
   dsimp! [rn1]
   refine lm_ok hT hM hN n (m - 1) (by omega) l a k x h1 hsm.1 (by omega) t kvs S _ _ ht (fun p hp => hv p (by simp [Rd.ws, hp])) ?_
   dsimp! [true_and]
   refine hK _ _ ?_
   clear hK
   refine seqI fun K hK => ?_
   dsimp! [rn2]
   refine lm_ok hT hM hN n (m - 1) (by omega) r k b y h2 hsm.2 (by omega) t kvs S _ _ ht (fun p hp => hv p (by simp [Rd.ws, hp])) ?_
   dsimp! [true_and]
   refine hK _ _ ?_
   clear hK
   refine seqI fun K hK => ?_
   dsimp! [rn0]
   have hi := md_inv h3
   refine hM n (by omega) s x y g hi _ _ _ (hK _ _ ?_)
   clear hK
   have last : ∀ (u v : PV) (z : Fm), (s.ab = true → (Rd.n s l r).tm L = ofP u v) → (s.ab = false → z.dp ≤ 10 ∧ g.arg = z ∧ (∃ q x', g = .n q x' z) ∧ (Rd.n s l r).tm L = jnP z u v) → (wSeq (wIfS (wTest (wBin cIn (wBin bIx (wVar 0) (wC (.int 0))) (wTup (wCons (wC (.str (Str.ofString ">"))) (wCons (wC (.str (Str.ofString "<"))) wNil)))))
 (wRet (wTup (wCons (wVar 6) (wCons (wTup (wCons (wC (.str (Str.ofString "of"))) (wCons (wVar 3) (wCons (wVar 5) wNil)))) wNil))))
 wNext)
 (wRet (wTup (wCons (wVar 6) (wCons (wTup (wCons (wC (.str (Str.ofString "fn"))) (wCons (wCall (N n) (wCons (wBin bIx (wVar 6) (wC (.int 2))) wNil)) (wCons (wTup (wCons (wC (.str (Str.ofString "of"))) (wCons (wVar 3) (wCons (wTup (wCons (wC (.str (Str.ofString "of"))) (wCons (wVar 5) (wCons (wTup (wCons (wC (.str (Str.ofString "bound"))) (wCons (wC (.int 0)) wNil))) wNil)))) wNil)))) wNil)))) wNil))))) { nx := fun _ S' => Q .non S', rt := Q } E [some (Rd.n s l r).pv, some (.ref t), some x.pv, some u, some y.pv, some v, some g.pv] S := by
    intro u v z ha hb
    refine seqI fun K hK => ?_
    dsimp! [rn0, any_ab, ok2]
    refine ⟨p2, ite2 (fun c => ⟨p3, p2, ?_⟩) (fun c => hK _ _ ?_)⟩
    ·rw [ha c] at h
     exact h
    ·obtain ⟨z1, z2, ⟨q', x', rfl⟩, z4⟩ := hb (by simpa using c)
     dsimp! [fn2]
     refine hN n (by omega) z z1 _ _ _ ?_
     rw [z4] at h
     exact ⟨p2, p3, p3, p3, p2, h⟩
   refine seqI fun K hK => ?_
   dsimp! [rn0, any_bd, ok2]
   refine ⟨p2, ?_⟩
   cases s with
   | a => exact ite2 (fun c => by cases c) (fun _ => hK _ _ (last _ _ x (fun _ => rfl) (fun c => by cases c)))
   | b => exact ite2 (fun _ => ⟨_, _, rfl, hK _ _ (last _ _ x (fun _ => rfl) (fun c => by cases c))⟩) (fun c => absurd rfl c)
   | c =>
    obtain ⟨u, v, z, rfl, rfl, rfl⟩ := hi
    simp only [Fm.dp] at hy
    exact ite2 (fun c => by cases c) (fun _ => hK _ _ (last _ _ z (fun c => by cases c) (fun _ => ⟨by omega, rfl, ⟨_, _, rfl⟩, by simp only [Rd.tm, e2, Fm.arg]⟩)))
   | d =>
    obtain ⟨u, v, z, rfl, rfl, rfl⟩ := hi
    simp only [Fm.dp] at hx
    exact ite2 (fun _ => ⟨_, _, rfl, hK _ _ (last _ _ z (fun c => by cases c) (fun _ => ⟨by omega, rfl, ⟨_, _, rfl⟩, by simp only [Rd.tm, e1, Fm.arg]⟩))⟩) (fun c => absurd rfl c)
mutual
noncomputable def plV : PV → Bool
 | .str _ => true
 | .int _ => true
 | .tup xs => plVs xs && decide (xs.length ≤ 10)
 | _ => false
noncomputable def plVs : List PV → Bool
 | [] => true
 | x :: xs => plV x && plVs xs
end
theorem depV_mem : ∀ {xs : List PV} {x : PV}, x ∈ xs → dep x ≤ deps xs
 | y :: r, x, h => by
  rcases List.mem_cons.mp h with z | z
  ·subst z; simp only [deps]; omega
  ·have := depV_mem z; simp only [deps]; omega
theorem plV_mem : ∀ {xs : List PV} {x : PV}, plVs xs = true → x ∈ xs → plV x = true
 | y :: r, x, hp, h => by
  rw [plVs, Bool.and_eq_true] at hp
  rcases List.mem_cons.mp h with z | z
  ·subst z; exact hp.1
  ·exact plV_mem hp.2 z
theorem blsV_rep : ∀ n : Nat, blsOf (List.replicate n (PV.bl true)) = some (List.replicate n true)
 | 0 => rfl
 | n + 1 => by simp only [List.replicate, blsOf, blsV_rep n, Option.map_some]
theorem zipV_self : ∀ xs : List PV, zipP xs xs = xs.map fun z => PV.tup [z, z]
 | [] => rfl
 | x :: r => by have := zipV_self r; unfold zipP at this ⊢; rw [List.zip_cons_cons, List.map_cons, this]; rfl
theorem sameV_ok {T : Nat → Den} (hT : ∀ n, T (n + 1) = fnP 2 2 (w_Lsame_bb4e (T n))) : ∀ (n : Nat) (x : PV), plV x = true → dep x < n → ∀ (S : Store) (E : EK) (Q : VC), (∀ S', Ex [] S S' → Q (.bl true) S') → T n [x, x] S E Q := by
 intro n
 induction n with
 | zero => intro x _ h; omega
 | succ n ih =>
  intro x hp hd S E Q h
  rw [hT]
  refine ⟨rfl, ?_⟩
  unfold w_Lsame_bb4e
  refine seqI fun K hK => ?_
  cases x with
  | str s =>
   dsimp! [true_and]
   exact h S (Ex.refl _ _)
  | int i =>
   dsimp! [true_and]
   refine hK _ _ ?_
   refine seqI fun K hK => ?_
   dsimp! [true_and]
   exact h S (Ex.refl _ _)
  | tup xs =>
   rw [plV, Bool.and_eq_true, decide_eq_true_eq] at hp
   simp only [dep] at hd
   dsimp! [true_and]
   refine hK _ _ ?_
   refine seqI fun K hK => ?_
   dsimp! [true_and]
   refine hK _ _ ?_
   refine seqI fun K hK => ?_
   dsimp! [true_and]
   refine hK _ _ ?_
   dsimp! [sqOf]
   rw [zipV_self]
   refine ⟨by rw [List.length_map]; exact big (by omega), ?_⟩
   refine compI (fun rest ys σ S2 => ∃ (zs : List PV) (j1 j2 : Option PV) (m : Nat), rest = zs.map (fun z => PV.tup [z, z]) ∧ (∀ z ∈ zs, z ∈ xs) ∧ ys = List.replicate m (PV.bl true) ∧ σ = [j1, j2] ∧ Ex [] S S2) ?_ ?_ _ _ _ _ ⟨xs, none, none, 0, rfl, fun _ z => z, rfl, rfl, Ex.refl _ _⟩
   ·rintro ys σ S2 ⟨zs, j1, j2, m, hr, hz, rfl, rfl, hx⟩
    refine ⟨trivial, ?_⟩
    simp only [seq_new, Option.bind_some, blsV_rep]
    have := h _ (hx.app [.lst (List.replicate m (PV.bl true))])
    simpa using this
   ·rintro x rest ys σ S2 ⟨zs, j1, j2, m, hr, hz, rfl, rfl, hx⟩ N hN
    obtain ⟨u, zs, rfl⟩ : ∃ p r, zs = p :: r := by
     cases zs with
     | nil => simp at hr
     | cons a b => exact ⟨a, b, rfl⟩
    simp only [List.map_cons, List.cons.injEq] at hr
    obtain ⟨rfl, rfl⟩ := hr
    refine ⟨trivial, ?_⟩
    dsimp! [true_and]
    have hm := hz u (by simp)
    refine ih u (plV_mem hp.1 hm) (by have := depV_mem hm; omega) _ _ _ fun S3 hx3 => ?_
    exact hN _ _ _ ⟨zs, _, _, m + 1, rfl, fun z hz' => hz z (by simp [hz']), by rw [List.replicate_succ'], rfl, hx.trans hx3⟩
  | non => simp [plV] at hp
  | bl _ => simp [plV] at hp
  | ty _ => simp [plV] at hp
  | frl _ => simp [plV] at hp
  | ref _ => simp [plV] at hp
  | exc _ => simp [plV] at hp
theorem plV_fm : ∀ f : Fm, plV f.pv = true
 | .b s => rfl
 | .n l x y => by simp only [Fm.pv, plV, plVs, plV_fm x, plV_fm y, Bool.and_self, List.length_cons, List.length_nil]; rfl
theorem plV_kd : ∀ f : Fm, plV f.kd = true
 | .b s => rfl
 | .n l x y => by simp only [Fm.kd, plV, plVs, plV_kd x, plV_kd y, Bool.and_self, List.length_cons, List.length_nil]; rfl
theorem plV_of {u v : PV} (hu : plV u = true) (hv : plV v = true) : plV (ofP u v) = true := by simp only [ofP, plV, plVs, hu, hv, Bool.and_self, List.length_cons, List.length_nil]; rfl
theorem plV_jn (z : Fm) {u v : PV} (hu : plV u = true) (hv : plV v = true) : plV (jnP z u v) = true := by simp only [jnP, plV, plVs, plV_kd, hu, hv, Bool.and_self, List.length_cons, List.length_nil]; rfl
theorem dep_of (u v : PV) : dep (ofP u v) = 1 + max (dep u) (dep v) := by simp only [ofP, dep, deps]; omega
theorem dep_jn (z : Fm) (u v : PV) (hz : z.dp ≤ 5) : dep (jnP z u v) ≤ 3 + max 2 (max (dep u) (dep v)) := by
 have := dep_kd z
 simp only [jnP, dep, deps]; omega
theorem arg_dp (f : Fm) : f.arg.dp ≤ f.dp := by
 cases f with
 | b s => exact Nat.le_refl _
 | n l x y => simp only [Fm.arg, Fm.dp]; omega
theorem tm_ok {L : Int × Fm → PV} {D : Nat} (hD : 2 ≤ D) : ∀ {r : Rd} {a b : Int} {g : Fm}, r.is a b g → r.sm → (∀ p ∈ r.ws, plV (L p) = true ∧ dep (L p) ≤ D) → plV (r.tm L) = true ∧ dep (r.tm L) ≤ 3 * r.lv + D
 | .w i f, a, b, g, his, h, hL => by
  have := hL (i, f) (by simp [Rd.ws])
  exact ⟨this.1, Nat.le_trans this.2 (by simp only [Rd.lv]; omega)⟩
 | .n s l r, a, b, g, ⟨k, x, y, h1, h2, h3⟩, h, hL => by
  obtain ⟨l1, l2⟩ := tm_ok hD h1 h.1 (fun p hp => hL p (by simp [Rd.ws, hp]))
  obtain ⟨r1, r2⟩ := tm_ok hD h2 h.2 (fun p hp => hL p (by simp [Rd.ws, hp]))
  have hx := is_dp h1 h.1
  have hy := is_dp h2 h.2
  rw [← is_fm h1] at hx
  rw [← is_fm h2] at hy
  have hxa := arg_dp l.fm
  have hya := arg_dp r.fm
  have := l.lv_pos
  have := r.lv_pos
  cases s with
  | a => exact ⟨plV_of l1 r1, by simp only [Rd.tm, dep_of, Rd.lv]; omega⟩
  | b => exact ⟨plV_of r1 l1, by simp only [Rd.tm, dep_of, Rd.lv]; omega⟩
  | c =>
   have := dep_jn r.fm.arg (l.tm L) (r.tm L) (by omega)
   exact ⟨plV_jn _ l1 r1, by simp only [Rd.tm, Rd.lv]; omega⟩
  | d =>
   have := dep_jn l.fm.arg (r.tm L) (l.tm L) (by omega)
   exact ⟨plV_jn _ r1 l1, by simp only [Rd.tm, Rd.lv]; omega⟩
theorem spl_ne2 {n m : Int} (h : spl n 8 = spl m 8) (h1 : 0 < n - m) (h2 : n - m ≤ 640) : False := by
 simp only [spl, List.cons.injEq] at h
 obtain ⟨a, b, -⟩ := h
 have a' : n % 26 = m % 26 := by have := Int.emod_nonneg n (show (26 : Int) ≠ 0 by decide); have := Int.emod_nonneg m (show (26 : Int) ≠ 0 by decide); omega
 have b' : n / 26 % 26 = m / 26 % 26 := by have := Int.emod_nonneg (n / 26) (show (26 : Int) ≠ 0 by decide); have := Int.emod_nonneg (m / 26) (show (26 : Int) ≠ 0 by decide); omega
 clear a b
 omega
theorem row_free2 (n : Int) (F : List Str) (hF : F.length ≤ 80) : ∃ j : Nat, j ≤ 80 ∧ mk (spl (n + 8 * j) 8) ∉ F := by
 refine Classical.byContradiction fun hc => ?_
 have hall : ∀ j : Nat, j ≤ 80 → mk (spl (n + 8 * j) 8) ∈ F := fun j hj => Classical.byContradiction fun hz => hc ⟨j, hj, hz⟩
 have nd : ((List.range 81).map fun j : Nat => mk (spl (n + 8 * j) 8)).Nodup := by
  refine List.pairwise_map.mpr (List.Pairwise.imp_of_mem ?_ (List.nodup_range (n := 81)))
  intro a b ha hb hab e
  have e := mk_inj e
  rw [List.mem_range] at ha hb
  refine hab ?_
  rcases Nat.lt_trichotomy a b with z | z | z
  ·exact (spl_ne2 e.symm (by omega) (by omega)).elim
  ·exact z
  ·exact (spl_ne2 e (by omega) (by omega)).elim
 have := nodup_le nd (F := F) fun x hx => by
  obtain ⟨j, hj, rfl⟩ := List.mem_map.mp hx
  rw [List.mem_range] at hj
  exact hall j (by omega)
 rw [List.length_map, List.length_range] at this
 omega
theorem good_some2 (ws : List Str) (num : Int) (k : Nat) (h : ws.length ≤ 79) : ∃ i : Nat, GoodAt ws num k (i + 1) := by
 have h1 : ∃ r : Nat, r < 8 ∧ szn k (r + 1) = 8 := ⟨(15 - (k - 1) % 8 - 1) % 8, by omega, by unfold szn; omega⟩
 obtain ⟨r, hr, hs⟩ := h1
 obtain ⟨j, hj, hf⟩ := row_free2 (num + ((r + 1 : Nat) : Int)) (sAny :: ws) (by simp; omega)
 refine ⟨r + 8 * j, ?_⟩
 have e1 : szn k (r + 8 * j + 1) = 8 := by unfold szn at hs ⊢; omega
 have e2 : num + ((r + 8 * j + 1 : Nat) : Int) = num + ((r + 1 : Nat) : Int) + 8 * j := by omega
 unfold GoodAt Bad
 rw [e1, e2]
 rintro (z | z)
 ·exact hf (List.mem_cons_of_mem _ z)
 ·exact hf (by rw [z]; exact List.mem_cons_self)
noncomputable def WordD2 (sp : Den) : Prop := ∀ (d c n : Nat) (ws : List Str) (S : Store) (E : EK) (Q : VC), Deck d c S → S[n]? = some (.lst (ws.map PV.str)) → ws.length ≤ 79 → (∀ w ∈ ws, nameB w = true) → n ≠ d → n ≠ c →
 (∀ w S', nameB w = true → w ∉ ws → w ≠ sAny → Deck d c S' → Ex [d, c] S S' → Q (.str w) S') → sp [.ref d, .ref n] S E Q
theorem word_ok2 {spn sps : Den} (hn : NextD spn) (hs : SpelledD sps) : WordD2 (fnP 2 7 (w_Lword_e7ab spn sps)) := by
 intro d c n ws S E Q hd hw hl hna nd nc h
 refine ⟨rfl, ?_⟩
 unfold w_Lword_e7ab
 refine seqI fun K hK => ?_
 dsimp! [true_and]
 refine hn d c _ _ _ hd fun way S1 w0 w1 hd1 hx1 => hK _ _ ?_
 refine seqI fun K hK => ?_
 dsimp! [true_and]
 refine hn d c _ _ _ hd1 fun num S2 n0 n1 hd2 hx2 => hK _ _ ?_
 have hx12 := hx1.trans hx2
 have hw2 : S2[n]? = some (.lst (ws.map PV.str)) := hx12.get hw (by simp; exact ⟨nd, nc⟩)
 obtain ⟨k, hk, hk1, hk8⟩ : ∃ k : Nat, 1 + way % 8 = (k : Int) ∧ 1 ≤ k ∧ k ≤ 8 := ⟨(1 + way % 8).toNat, by omega, by omega, by omega⟩
 refine seqI fun K hK => ?_
 dsimp! [true_and]
 refine ⟨by decide, hK _ _ ?_⟩
 rw [hk]
 refine seqI fun K hK => ?_
 dsimp! [true_and]
 refine hs num k _ _ _ hk8 (hK _ _ ?_)
 have spn1 : nameB (mk (spl num k)) = true := nameB_mk (by rw [spl_len]; exact hk1) (by rw [spl_len]; exact hk8) (spl_isL _ _)
 have rest : ∀ (w : Str) (S' : Store) (j : Option PV), nameB w = true → Ex [] S2 S' → wSeq (wWhile (wOr (wTest (wBin cIn (wVar 5) (wVar 1))) (wTest (wBin cEq (wVar 5) (wC (.str (Str.ofString "any")))))) (wSeq (wSet 3 (wBin bAdd (wVar 3) (wC (.int 1))))
   (wSeq (wSet 4 (wBin bAdd (wBin bMod (wVar 4) (wC (.int 8))) (wC (.int 1))))
   (wSet 5 (wCall sps (wCons (wVar 3) (wCons (wVar 4) wNil)))))))
   (wRet (wVar 5)) { nx := fun _ S' => Q .non S', rt := Q } E [some (.ref d), some (.ref n), some (.int way), some (.int num), some (.int (k : Nat)), some (.str w), j] S' := by
  intro w S' j hwn hx'
  refine seqI fun K hK => ?_
  obtain ⟨i0, hi0⟩ := good_some2 ws num k hl
  refine whileI (fun m σ S3 => ∃ (nu : Int) (kk : Nat) (ww : Str), σ = [some (.ref d), some (.ref n), some (.int way), some (.int nu), some (.int (kk : Nat)), some (.str ww), j] ∧ S3 = S' ∧ 1 ≤ kk ∧ kk ≤ 8 ∧ nameB ww = true ∧ ((m = 0 ∧ ¬ Bad ws ww) ∨ ∃ i, m = i + 1 ∧ GoodAt ws nu kk (i + 1))) (i0 + 1) ⟨num, k, w, rfl, rfl, hk1, hk8, hwn, .inr ⟨i0, rfl, hi0⟩⟩ ?_
  rintro m σ S3 ⟨nu, kk, ww, rfl, rfl, k1, k8, nw, hm⟩ T F hT hF
  have hw3 := hx'.get hw2 (by simp)
  dsimp! [seq_at hw3, any_eq]
  refine ⟨okEqs_strs ws, ?_⟩
  have bad : Bad ws ww → T [some (.ref d), some (.ref n), some (.int way), some (.int nu), some (.int (kk : Nat)), some (.str ww), j] S3 := fun hb => by
   obtain ⟨i, rfl, hg⟩ : ∃ i, m = i + 1 ∧ GoodAt ws nu kk (i + 1) := by
    rcases hm with ⟨_, z⟩ | z
    ·exact absurd hb z
    ·exact z
   refine hT _ fun N hN => ?_
   refine seqI fun K2 hK2 => ?_
   dsimp! [true_and]
   refine hK2 _ _ ?_
   refine seqI fun K2 hK2 => ?_
   dsimp! [true_and]
   refine ⟨by decide, hK2 _ _ ?_⟩
   have ek : ((kk : Nat) : Int) % 8 + 1 = ((szn kk 1 : Nat) : Int) := by unfold szn; omega
   have hz1 : 1 ≤ szn kk 1 := by unfold szn; omega
   have hz8 : szn kk 1 ≤ 8 := by unfold szn; omega
   rw [ek]
   dsimp! [true_and]
   refine hs (nu + 1) (szn kk 1) _ _ _ hz8 ?_
   refine hN i _ _ (by omega) ⟨nu + 1, szn kk 1, mk (spl (nu + 1) (szn kk 1)), rfl, rfl, hz1, hz8, nameB_mk (by rw [spl_len]; exact hz1) (by rw [spl_len]; exact hz8) (spl_isL _ _), ?_⟩
   cases i with
   | zero => exact .inl ⟨rfl, hg⟩
   | succ i =>
    refine .inr ⟨i, rfl, ?_⟩
    unfold GoodAt at hg ⊢
    rw [szn_step, show nu + 1 + ((i + 1 : Nat) : Int) = nu + ((i + 1 + 1 : Nat) : Int) by omega]
    exact hg
  refine ite2 (fun z => bad (.inl z)) (fun z => ite2 (fun z2 => bad (.inr z2)) (fun z2 => ?_))
  refine hF _ (hK _ _ ?_)
  dsimp! [true_and]
  have hx3 : Ex [d, c] S S3 := hx12.trans hx'.nil
  exact h ww S3 nw z z2 (hd2.ex hx' (by simp) (by simp)) hx3
 refine seqI fun K hK => ?_
 have g1 := at_old hw2 [SO.lst []]
 have hx3 : Ex [] S2 (S2 ++ [SO.lst []]) := Ex.new _ _ _
 dsimp! [seq_at g1, eqBs_nil]
 refine ⟨big (by decide), okEqs_strs ws, ite2 (fun z => ?_) (fun z => hK _ _ (rest _ _ _ spn1 hx3))⟩
 refine ⟨by decide, by decide, ite2 (fun z2 => ?_) (fun z2 => hK _ _ (rest _ _ _ spn1 hx3))⟩
 obtain ⟨v, vs, rfl⟩ : ∃ v vs, ws = v :: vs := by
  cases ws with
  | nil => simp at z
  | cons a b => exact ⟨a, b, rfl⟩
 have hv := nameB_len (hna v (by simp))
 simp only [List.map_cons] at g1
 refine seqI fun K2 hK2 => ?_
 dsimp! [g1, atI_zero]
 refine ⟨⟨by decide, by decide⟩, big (by omega), by omega, hK2 _ _ ?_⟩
 obtain ⟨at', hat, hat1⟩ : ∃ a : Nat, way / 16 % (v.length : Int) = (a : Int) ∧ a < v.length := ⟨(way / 16 % (v.length : Int)).toNat, by have := Int.emod_nonneg (way / 16) (show (v.length : Int) ≠ 0 by omega); omega, by have := Int.emod_lt_of_pos (way / 16) (show (0 : Int) < v.length by omega); have := Int.emod_nonneg (way / 16) (show (v.length : Int) ≠ 0 by omega); omega⟩
 rw [hat]
 obtain ⟨c0, cs, hc0⟩ : ∃ c0 cs, spl num k = c0 :: cs := by
  obtain ⟨k', rfl⟩ : ∃ k', k = k' + 1 := ⟨k - 1, by omega⟩
  exact ⟨_, _, rfl⟩
 have hc0' : atI (mk (spl num k)).cps.toList 0 = some c0 := by
  rw [mk_list, hc0]
  unfold atI
  rw [List.length_cons, ixN_zero]
  rfl
 have hcl : isL c0 = true := by
  have := spl_isL k num
  rw [hc0, List.all_cons, Bool.and_eq_true] at this
  exact this.1
 dsimp! [g1, atI_zero, hc0']
 rw [show ((at' : Nat) : Int) + 1 = ((at' + 1 : Nat) : Int) by omega, sl_take v at' (by omega), sl_drop v (at' + 1) (by omega), chr_mk]
 have hvl := len_list v
 refine ⟨big (by omega), big (by rw [mk_len, spl_len]; omega), big (by rw [mk_len, mk_len]; simp; omega), big (by omega), ?_⟩
 rw [mk_app, mk_app, mk_len, mk_len]
 refine ⟨big (by simp only [List.length_append, List.length_take, List.length_drop, List.length_singleton]; omega), hK _ _ (rest _ _ _ ?_ hx3)⟩
 refine nameB_mk ?_ ?_ ?_
 ·simp only [List.length_append, List.length_take, List.length_drop, List.length_singleton]; omega
 ·simp only [List.length_append, List.length_take, List.length_drop, List.length_singleton]; omega
 ·simp only [List.all_append, all_take _ hv.2.2, all_drop _ hv.2.2, List.all_cons, List.all_nil, hcl, Bool.and_self]
noncomputable def WordsD2 (sp : Den) : Prop := ∀ (d c m : Nat) (S : Store) (E : EK) (Q : VC), Deck d c S → m ≤ 79 →
 (∀ (n : Nat) (ws : List Str) S', S'[n]? = some (.lst (ws.map PV.str)) → ws.length = m → (∀ w ∈ ws, nameB w = true) → S.length ≤ n → Deck d c S' → Ex [d, c] S S' → Q (.ref n) S') → sp [.ref d, .int m] S E Q
theorem words_ok2 {spw : Den} (hw : WordD2 spw) : WordsD2 (fnP 2 4 (w_Lwords_3282 spw)) := by
 intro d c m S E Q hd hm h
 refine ⟨rfl, ?_⟩
 unfold w_Lwords_3282
 refine seqI fun K hK => ?_
 dsimp! [true_and]
 refine ⟨big (by decide), hK _ _ ?_⟩
 refine seqI fun K hK => ?_
 dsimp! [true_and]
 refine ⟨⟨by omega, by omega⟩, ?_⟩
 rw [Int.toNat_natCast]
 have hdl : d < S.length := by obtain ⟨⟨_, _, _, _, _, _, g, _⟩, _⟩ := hd; exact lt_of_at g
 have hcl : c < S.length := by obtain ⟨⟨_, _, _, _, _, _, _, g, _⟩, _⟩ := hd; exact lt_of_at g
 refine forI (fun rest σ S1 => ∃ (ws : List Str) (j : Option PV), σ = [some (.ref d), some (.int m), some (.ref S.length), j] ∧ S1[S.length]? = some (.lst (ws.map PV.str)) ∧ ws.length + rest.length = m ∧ (∀ w ∈ ws, nameB w = true) ∧ Deck d c S1 ∧ Ex [d, c] S S1) ?_ ?_ _ _ _ ⟨[], none, rfl, at_new _ _, by rw [rng_len]; simp, by simp, hd.ex (Ex.new [] _ _) (by simp) (by simp), Ex.new _ _ _⟩
 ·rintro σ S1 ⟨ws, j, rfl, hs, hl, hn, hd1, hx⟩
  refine ⟨trivial, hK _ _ ?_⟩
  dsimp! [true_and]
  exact h _ ws _ hs (by simpa using hl) hn (Nat.le_refl _) hd1 hx
 ·rintro x r σ S1 ⟨ws, j, rfl, hs, hl, hn, hd1, hx⟩ N hN
  rw [List.length_cons] at hl
  refine ⟨trivial, ?_⟩
  dsimp! [hs]
  refine hw d c S.length ws _ _ _ hd1 hs (by omega) hn (by omega) (by omega) fun w S2 nw _ _ hd2 hx2 => ?_
  have hs2 : S2[S.length]? = some (.lst (ws.map PV.str)) := hx2.get hs (by simp; omega)
  dsimp! [lst_at hs2]
  refine ⟨by rw [List.length_map]; exact bigl (by omega), hN _ _ ⟨ws ++ [w], _, rfl, ?_, ?_, ?_, hd2.ex (D := [S.length]) ((Ex.refl _ _).set (.inl (by simp))) (by simp; omega) (by simp; omega), (hx.trans hx2).set (.inr (Nat.le_refl _))⟩⟩
  ·rw [at_set _ hs2]; simp
  ·simp; omega
  ·intro y hy
   rcases List.mem_append.mp hy with z | z
   ·exact hn y z
   ·simp at z; subst z; exact nw
mutual
theorem plV_nrf : ∀ v : PV, plV v = true → nrf v = true
 | .str _, _ => rfl
 | .int _, _ => rfl
 | .tup xs, h => by
  simp only [plV, Bool.and_eq_true] at h
  simp only [nrf]
  exact plVs_nrf xs h.1
 | .non, h => by simp [plV] at h
 | .bl _, h => by simp [plV] at h
 | .ref _, h => by simp [plV] at h
 | .frl _, h => by simp [plV] at h
 | .ty _, h => by simp [plV] at h
 | .exc _, h => by simp [plV] at h
theorem plVs_nrf : ∀ xs : List PV, plVs xs = true → nrfs xs = true
 | [], _ => rfl
 | x :: r, h => by
  simp only [plVs, Bool.and_eq_true] at h
  simp only [nrfs, plV_nrf x h.1, plVs_nrf r h.2, Bool.and_self]
end
noncomputable def okP (n : Nat) (v : PV) : Prop := plV v = true ∧ dep v ≤ n
theorem okP.le {n m : Nat} {v : PV} (h : okP n v) (k : n ≤ m) : okP m v := ⟨h.1, Nat.le_trans h.2 k⟩
theorem okP.eq {n : Nat} {v : PV} (h : okP n v) (k : n ≤ 190) : okEq v := ⟨plV_nrf v h.1, Nat.le_trans h.2 k⟩
theorem cEq_pl {u v : PV} (hu : okP 190 u) (hv : okP 190 v) (S : Store) (Q : VC) : cEq u v S Q = Q (.bl (eqB u v)) S := by
 have a := hu.eq (Nat.le_refl _)
 have b := hv.eq (Nat.le_refl _)
 obtain ⟨p, _⟩ := hu
 obtain ⟨q, _⟩ := hv
 cases u <;> first | (simp [plV] at p; done) | (cases v <;> first | (simp [plV] at q; done) | simp only [cEq, cEqG, xor_f, a, b, a.1, b.1, eqB_tt, and_self, true_and])
theorem okP_str (n : Nat) (s : Str) : okP n (.str s) := ⟨rfl, Nat.zero_le _⟩
theorem okP_int (n : Nat) (i : Int) : okP n (.int i) := ⟨rfl, Nat.zero_le _⟩
theorem okP_2 {n : Nat} {u v : PV} (hu : okP n u) (hv : okP n v) : okP (n + 1) (.tup [u, v]) := by
 refine ⟨by simp only [plV, plVs, hu.1, hv.1, Bool.and_self, List.length_cons, List.length_nil]; rfl, ?_⟩
 have := hu.2
 have := hv.2
 simp only [dep, deps]; omega
theorem okP_3 {n : Nat} {u v w : PV} (hu : okP n u) (hv : okP n v) (hw : okP n w) : okP (n + 1) (.tup [u, v, w]) := by
 refine ⟨by simp only [plV, plVs, hu.1, hv.1, hw.1, Bool.and_self, List.length_cons, List.length_nil]; rfl, ?_⟩
 have := hu.2
 have := hv.2
 have := hw.2
 simp only [dep, deps]; omega
theorem slast (xs : List PV) (y : PV) : atI (xs ++ [y]) (-1) = some y := by
 unfold atI ixN
 rw [if_neg (by decide), if_pos (by simp only [List.length_append, List.length_cons, List.length_nil]; omega), Option.bind_some]
 have : ((-1 : Int) + ((xs ++ [y]).length : Nat)).toNat = xs.length := by simp only [List.length_append, List.length_cons, List.length_nil]; omega
 rw [this]
 simp
noncomputable def prP (p : Str × PV) : PV := .tup [.str p.1, p.2]
noncomputable def nmP (s : Str) : PV := .tup [.str (Str.ofString "name"), .str s]
structure Bk (a b n : Nat) (S : Store) : Prop where
 is : ∃ (ps : List (Str × PV)) (ws : List Str), S[a]? = some (.lst (ps.map prP)) ∧ S[b]? = some (.lst (ws.map PV.str)) ∧ n ≤ ws.length ∧ ps.length + ws.length ≤ 100 ∧ ∀ p ∈ ps, okP 40 p.2
 ne : a ≠ b
theorem Bk.ex {a b n : Nat} {S S' : Store} {D : List Nat} (h : Bk a b n S) (e : Ex D S S') (h1 : a ∉ D) (h2 : b ∉ D) : Bk a b n S' := by
 obtain ⟨⟨ps, ws, g1, g2, r⟩, ne⟩ := h
 exact ⟨⟨ps, ws, e.get g1 h1, e.get g2 h2, r⟩, ne⟩
theorem Bk.lt {a b n : Nat} {S : Store} (h : Bk a b n S) : a < S.length ∧ b < S.length := by
 obtain ⟨⟨ps, ws, g1, g2, r⟩, ne⟩ := h
 exact ⟨lt_of_at g1, lt_of_at g2⟩
noncomputable def NamedD (sp : Den) : Prop := ∀ (a b n : Nat) (k : PV) (S : Store) (E : EK) (Q : VC), Bk a b (n + 1) S → okP 40 k → (∀ s S', Bk a b n S' → Ex [a, b] S S' → Q (nmP s) S') → sp [.ref a, .ref b, k] S E Q
theorem named_ok : NamedD (fnP 3 5 w_Lnamed_d254) := by
 intro a b n k S E Q hb hk h
 refine ⟨rfl, ?_⟩
 unfold w_Lnamed_d254
 have hb0 := hb
 obtain ⟨⟨ps, ws, g1, g2, hn, hl, ho⟩, ne⟩ := hb
 have hbn : Bk a b n S := ⟨⟨ps, ws, g1, g2, by omega, hl, ho⟩, ne⟩
 refine seqI fun K hK => ?_
 dsimp! [seq_at g1]
 refine forI (fun rest σ S1 => S1 = S ∧ ∃ (qs : List (Str × PV)) (j3 j4 : Option PV), rest = qs.map prP ∧ (∀ p ∈ qs, p ∈ ps) ∧ σ = [some (.ref a), some (.ref b), some k, j3, j4]) ?_ ?_ _ _ _ ⟨rfl, ps, none, none, rfl, fun p hp => hp, rfl⟩
 ·rintro σ S1 ⟨rfl, qs, j3, j4, hr, hm, rfl⟩
  refine ⟨seq_at g1, hK _ _ ?_⟩
  clear hK hr hm
  obtain ⟨w, wr, rfl⟩ : ∃ w wr, ws = w :: wr := by
   cases ws with
   | nil => simp at hn
   | cons a b => exact ⟨a, b, rfl⟩
  rw [List.map_cons] at g2
  rw [List.length_cons] at hn hl
  have g1' : ∀ o, (S1.set b o)[a]? = some (.lst (ps.map prP)) := fun o => at_ne _ g1 (Ne.symm ne)
  refine seqI fun K hK => ?_
  dsimp! [g1, g2, lst_at g2, ixN_zero, lst_at (g1' _), List.eraseIdx_cons_zero]
  refine ⟨⟨by decide, by decide⟩, big (by decide), bigl (by rw [List.length_map]; omega), hK _ _ ?_⟩
  have gA := at_set (SO.lst (ps.map prP ++ [PV.tup [PV.str w, k]])) (g1' (SO.lst (wr.map PV.str)))
  have gB := at_ne (SO.lst (ps.map prP ++ [PV.tup [PV.str w, k]])) (at_set (SO.lst (wr.map PV.str)) g2) ne
  dsimp! [gA, seq_at gA, slast, pairs0]
  refine ⟨big (by decide), h _ _ ⟨⟨ps ++ [(w, k)], wr, ?_, gB, by omega, by simp only [List.length_append, List.length_singleton]; omega, ?_⟩, ne⟩ ?_⟩
  ·rw [gA]; simp [prP]
  ·intro p hp
   rcases List.mem_append.mp hp with z | z
   ·exact ho p z
   ·simp at z; subst z; exact hk
  ·exact ((Ex.refl _ _).set (.inl (by simp))).set (.inl (by simp))
 ·rintro x r σ S1 ⟨rfl, qs, j3, j4, hr, hm, rfl⟩ N hN
  obtain ⟨p, qs, rfl⟩ : ∃ p r, qs = p :: r := by
   cases qs with
   | nil => simp at hr
   | cons a b => exact ⟨a, b, rfl⟩
  simp only [List.map_cons, List.cons.injEq] at hr
  obtain ⟨rfl, rfl⟩ := hr
  refine ⟨seq_at g1, ?_⟩
  dsimp! [prP, cEq_pl ((ho p (hm p (by simp))).le (by decide)) (hk.le (by decide))]
  refine ite2 (fun _ => ⟨big (by decide), h _ _ hbn (Ex.refl _ _)⟩) (fun _ => hN _ _ ⟨rfl, qs, _, _, rfl, fun q hq => hm q (by simp [hq]), rfl⟩)
theorem Deck.lt {d c : Nat} {S : Store} (h : Deck d c S) : d < S.length ∧ c < S.length := by
 obtain ⟨⟨_, _, _, _, _, _, g1, g2, _⟩, _⟩ := h
 exact ⟨lt_of_at g1, lt_of_at g2⟩
theorem rPI_is : ∀ (n : Nat) (k : Int), ∃ is : List Int, rPI k n = is.map PV.int ∧ is.length = n ∧ ∀ i ∈ is, k ≤ i ∧ i < k + (n : Nat)
 | 0, k => ⟨[], rfl, rfl, by simp⟩
 | n + 1, k => by
  obtain ⟨is, e, l, h⟩ := rPI_is n (k + 1)
  refine ⟨k :: is, by rw [rPI, e, List.map_cons], by simp [l], fun i hi => ?_⟩
  rcases List.mem_cons.mp hi with rfl | z
  ·omega
  ·have := h i z; omega
theorem mod_nat (n : Int) (m : Nat) (h : 0 < m) : ∃ a : Nat, n % (m : Int) = (a : Int) ∧ a < m := by
 have h1 := Int.emod_nonneg n (show (m : Int) ≠ 0 by omega)
 have h2 := Int.emod_lt_of_pos n (show (0 : Int) < (m : Int) by omega)
 exact ⟨(n % (m : Int)).toNat, by omega, by omega⟩
theorem era : ∀ (l : List Int) (j : Nat), (l.map PV.int).eraseIdx j = (l.eraseIdx j).map PV.int
 | [], j => rfl
 | x :: r, 0 => rfl
 | x :: r, j + 1 => by simp only [List.map_cons, List.eraseIdx_cons_succ, era r j]
noncomputable def boundP (i : Int) : PV := .tup [.str (Str.ofString "bound"), .int i]
structure Ap (d c a b : Nat) : Prop where
 ad : a ≠ d
 ac : a ≠ c
 bd : b ≠ d
 bc : b ≠ c
noncomputable def AppliedD (sp : Den) : Prop := ∀ (d c a b q n : Nat) (ks : List PV) (last : PV) (S : Store) (E : EK) (Q : VC), Ap d c a b → Deck d c S → Bk a b (n + 1) S → S[q]? = some (.lst ks) → q ∉ [d, c, a, b] → ks.length ≤ 6 → (∀ v ∈ ks, okP 10 v) → okP 10 last →
 (∀ v S', okP 12 v → Deck d c S' → Bk a b n S' → Ex [d, c, a, b] S S' → Q v S') → sp [.ref d, .ref a, .ref b, .ref q, last] S E Q
theorem applied_ok {sn sm : Den} (hn : NextD sn) (hm : NamedD sm) : AppliedD (fnP 5 10 (w_Lapplied_3da1 sn sm)) := by
 intro d c a b q n ks last S E Q ap hd hb hq hqn hkl hks hla h
 refine ⟨rfl, ?_⟩
 unfold w_Lapplied_3da1
 simp only [List.mem_cons, List.not_mem_nil, or_false, not_or] at hqn
 obtain ⟨qd, qc, qa, qb⟩ := hqn
 have hql := lt_of_at hq
 have hbl := hb.lt
 refine seqI fun K hK => ?_
 dsimp! [wLRange, hq, seq_at hq]
 refine ⟨ks.length, rfl, by omega, hK _ _ ?_⟩
 clear hK
 obtain ⟨is, e, hil, his⟩ := rPI_is ks.length 0
 rw [e]
 refine seqI fun K hK => ?_
 dsimp! [true_and]
 refine ⟨big (by decide), hK _ _ ?_⟩
 clear hK
 refine seqI fun K hK => ?_
 dsimp! [true_and]
 have n65 : (S ++ [SO.lst (is.map PV.int)]).length ≠ S.length := by simp
 have g5 : (S ++ [SO.lst (is.map PV.int)] ++ [SO.lst []])[S.length]? = some (.lst (is.map PV.int)) := at_old (at_new _ _) _
 have g6 : (S ++ [SO.lst (is.map PV.int)] ++ [SO.lst []])[(S ++ [SO.lst (is.map PV.int)]).length]? = some (.lst (([] : List Int).map PV.int)) := at_new _ _
 have x2 : Ex [] S (S ++ [SO.lst (is.map PV.int)] ++ [SO.lst []]) := (Ex.new [] _ _).app _
 have h6l : S.length ≤ (S ++ [SO.lst (is.map PV.int)]).length := by simp
 generalize (S ++ [SO.lst (is.map PV.int)]).length = n6 at *
 generalize S ++ [SO.lst (is.map PV.int)] ++ [SO.lst []] = S2 at *
 have hdl := hd.lt
 have hd2 := hd.ex x2 (by simp) (by simp)
 have hb2 := hb.ex x2 (by simp) (by simp)
 have hq2 := x2.get hq (by simp)
 refine hn d c _ _ _ hd2 fun n1 S3 h0 h1 hd3 hx3 => ?_
 have k5 : S.length ∉ [d, c] := by simp; omega
 have k6 : n6 ∉ [d, c] := by simp; omega
 have kq : q ∉ [d, c] := by simp; omega
 obtain ⟨m1, e1, l1⟩ := mod_nat n1 (ks.length + 1) (by omega)
 have e1 : n1 % ((ks.length : Int) + 1) = (m1 : Int) := e1
 dsimp! [seq_at (hx3.get hq2 kq), e1]
 refine ⟨by omega, ⟨by omega, by omega⟩, ?_⟩
 refine forI (fun rest σ S4 => ∃ (l s : List Int) (j7 : Option PV), σ = [some (.ref d), some (.ref a), some (.ref b), some (.ref q), some last, some (.ref S.length), some (.ref n6), j7, none, none] ∧ S4[S.length]? = some (.lst (l.map PV.int)) ∧ S4[n6]? = some (.lst (s.map PV.int)) ∧ rest.length ≤ l.length ∧ l.length + s.length = ks.length ∧ (∀ i ∈ l, 0 ≤ i ∧ i < (ks.length : Int)) ∧ (∀ i ∈ s, 0 ≤ i ∧ i < (ks.length : Int)) ∧ Deck d c S4 ∧ Bk a b (n + 1) S4 ∧ S4[q]? = some (.lst ks) ∧ Ex [d, c, a, b] S S4) ?_ ?_ _ _ _ ⟨is, [], none, rfl, hx3.get g5 k5, hx3.get g6 k6, by rw [rng_len]; simp; omega, by simp [hil], fun i hi => by have := his i hi; omega, by simp, hd3, hb2.ex hx3 (by simp [ap.ad, ap.ac]) (by simp [ap.bd, ap.bc]), hx3.get hq2 kq, x2.nil.trans (hx3.weak (by simp))⟩
 ·rintro σ S4 ⟨l, s, j7, rfl, q5, q6, hr, hls, hl, hs, hd4, hb4, hq4, hx4⟩
  refine ⟨trivial, hK _ _ ?_⟩
  clear hK
  have hsl : s.length ≤ 6 := by omega
  refine seqI fun K hK => ?_
  dsimp! [true_and]
  refine hK _ _ ?_
  clear hK
  refine seqI fun K hK => ?_
  dsimp! [seq_at q6]
  refine forI (fun rest σ S5 => S5 = S4 ∧ ∃ (t : List Int) (v : PV) (j7 : Option PV), rest = t.map PV.int ∧ (∀ i ∈ t, 0 ≤ i ∧ i < (ks.length : Int)) ∧ t.length ≤ s.length ∧ okP (10 + (s.length - t.length)) v ∧ σ = [some (.ref d), some (.ref a), some (.ref b), some (.ref q), some last, some (.ref S.length), some (.ref n6), j7, some v, none]) ?_ ?_ _ _ _ ⟨rfl, s.reverse, last, j7, by rw [List.map_reverse], fun i hi => hs i (List.mem_reverse.mp hi), by simp, by simpa using hla, rfl⟩
  ·rintro σ S5 ⟨rfl, t, v, j7, ht, hti, htl, hv, rfl⟩
   refine ⟨seq_at q6, hK _ _ ?_⟩
   clear hK
   refine seqI fun K hK => ?_
   dsimp! [true_and]
   refine hm a b n v _ _ _ hb4 (hv.le (by omega)) fun w S6 hb6 hx6 => hK _ _ ?_
   clear hK
   have k6' : n6 ∉ [a, b] := by simp; omega
   have kq' : q ∉ [a, b] := by simp; omega
   have r6 := hx6.get q6 k6'
   have rq := hx6.get hq4 kq'
   have hd6 := hd4.ex hx6 (by simp; exact ⟨ap.ad.symm, ap.bd.symm⟩) (by simp; exact ⟨ap.ac.symm, ap.bc.symm⟩)
   have hx7 := hx4.trans (hx6.weak (D' := [d, c, a, b]) (by simp))
   refine seqI fun K hK => ?_
   dsimp! [seq_at r6]
   refine forI (fun rest σ S7 => S7 = S6 ∧ ∃ (t : List Int) (v : PV) (j7 j8 : Option PV), rest = t.map PV.int ∧ t.length ≤ s.length ∧ okP (2 + (s.length - t.length)) v ∧ σ = [some (.ref d), some (.ref a), some (.ref b), some (.ref q), some last, some (.ref S.length), some (.ref n6), j7, j8, some v]) ?_ ?_ _ _ _ ⟨rfl, s, nmP w, _, _, rfl, Nat.le_refl _, (okP_2 (okP_str 0 _) (okP_str 0 _)).le (by omega), rfl⟩
   ·rintro σ S7 ⟨rfl, t, v, j7, j8, ht, htl, hv, rfl⟩
    refine ⟨seq_at r6, hK _ _ ?_⟩
    dsimp! [true_and]
    exact h v _ (hv.le (by omega)) hd6 hb6 hx7
   ·rintro x r σ S7 ⟨rfl, t, v, j7, j8, ht, htl, hv, rfl⟩ N hN
    obtain ⟨i, t, rfl⟩ : ∃ x y, t = x :: y := by
     cases t with
     | nil => simp at ht
     | cons a b => exact ⟨a, b, rfl⟩
    simp only [List.map_cons, List.cons.injEq] at ht
    obtain ⟨rfl, rfl⟩ := ht
    rw [List.length_cons] at htl
    refine ⟨seq_at r6, ?_⟩
    dsimp! [seq_at rq]
    refine ⟨big (by decide), big (by decide), hN _ _ ⟨rfl, t, _, _, _, rfl, by omega, ?_, rfl⟩⟩
    rw [show 2 + (s.length - t.length) = (2 + (s.length - (i :: t).length)) + 1 by simp only [List.length_cons]; omega]
    exact okP_3 (okP_str _ _) hv ((okP_2 (okP_str 0 _) (okP_int 0 _)).le (by omega))
  ·rintro x r σ S5 ⟨rfl, t, v, j7, ht, hti, htl, hv, rfl⟩ N hN
   obtain ⟨i, t, rfl⟩ : ∃ x y, t = x :: y := by
    cases t with
    | nil => simp at ht
    | cons a b => exact ⟨a, b, rfl⟩
   simp only [List.map_cons, List.cons.injEq] at ht
   obtain ⟨rfl, rfl⟩ := ht
   rw [List.length_cons] at htl
   have hi := hti i (by simp)
   obtain ⟨j, rfl⟩ : ∃ j : Nat, i = (j : Int) := ⟨i.toNat, by omega⟩
   have hj : j < ks.length := by omega
   refine ⟨seq_at q6, ?_⟩
   dsimp! [hq4, atI_nat' ks j hj]
   refine ⟨big (by decide), hN _ _ ⟨rfl, t, _, _, rfl, fun u hu => hti u (by simp [hu]), by omega, ?_, rfl⟩⟩
   rw [show 10 + (s.length - t.length) = (10 + (s.length - ((j : Int) :: t).length)) + 1 by simp only [List.length_cons]; omega]
   exact okP_2 ((hks _ (List.getElem_mem hj)).le (by omega)) hv
 ·rintro x r σ S4 ⟨l, s, j7, rfl, q5, q6, hr, hls, hl, hs, hd4, hb4, hq4, hx4⟩ N hN
  rw [List.length_cons] at hr
  refine ⟨trivial, ?_⟩
  have q5l := lt_of_at q5
  dsimp! [q5, q6, lst_at q5, lst_at q6]
  refine hn d c _ _ _ hd4 fun n2 S5 _ _ hd5 hx5 => ?_
  obtain ⟨m2, e2, l2⟩ := mod_nat n2 l.length (by omega)
  have p5 := hx5.get q5 k5
  have p6 := hx5.get q6 k6
  have p6' : ∀ o, (S5.set S.length o)[n6]? = some (.lst (s.map PV.int)) := fun o => at_ne _ p6 (Ne.symm n65)
  dsimp! [p5, p6, lst_at p5, lst_at p6, seq_at p5, List.length_map, e2, ixN_nat l2, List.getElem?_map, List.getElem?_eq_getElem l2, Option.map_some, era, lst_at (p6' _)]
  refine ⟨by omega, ⟨by omega, by omega⟩, bigl (by omega), hN _ _ ?_⟩
  have hb5 := hb4.ex hx5 (by simp [ap.ad, ap.ac]) (by simp [ap.bd, ap.bc])
  refine ⟨l.eraseIdx m2, s ++ [l[m2]], _, rfl, at_ne _ (at_set _ p5) n65, by rw [at_set _ (p6' _)]; simp, ?_, ?_, ?_, ?_, ?_, ?_, ?_, ?_⟩
  ·rw [List.length_eraseIdx, if_pos l2]; omega
  ·rw [List.length_eraseIdx, if_pos l2, List.length_append, List.length_singleton]; omega
  ·exact fun i hi => hl i (List.mem_of_mem_eraseIdx hi)
  ·intro i hi
   rcases List.mem_append.mp hi with z | z
   ·exact hs i z
   ·simp at z; subst z; exact hl _ (List.getElem_mem l2)
  ·exact hd5.ex (D := [S.length, n6]) (((Ex.refl _ _).set (.inl (by simp))).set (.inl (by simp))) (by simp; omega) (by simp; omega)
  ·exact hb5.ex (D := [S.length, n6]) (((Ex.refl _ _).set (.inl (by simp))).set (.inl (by simp))) (by simp; omega) (by simp; omega)
  ·exact at_ne _ (at_ne _ (hx5.get hq4 kq) (by omega)) (by omega)
  ·exact ((hx4.trans (hx5.weak (by simp))).set (.inr (Nat.le_refl _))).set (.inr h6l)
theorem Bk.down {a b n : Nat} {S : Store} (h : Bk a b (n + 1) S) : Bk a b n S := by
 obtain ⟨⟨ps, ws, g1, g2, h1, r⟩, ne⟩ := h
 exact ⟨⟨ps, ws, g1, g2, by omega, r⟩, ne⟩
theorem okP_kd {f : Fm} {n : Nat} (h : f.dp ≤ n + 1) : okP n f.kd := ⟨plV_kd f, by have := dep_kd f; omega⟩
theorem kb (s : Str) : (Fm.b s).kd = .str s := rfl
theorem kn (l : Bool) (x y : Fm) : (Fm.n l x y).kd = .tup [y.kd, x.kd] := rfl
noncomputable def Term61 (sp : Den) : Prop := ∀ (d c a b n : Nat) (f : Fm) (S : Store) (E : EK) (Q : VC), Ap d c a b → Deck d c S → Bk a b (n + 1) S → f.lv ≤ 6 →
 (∀ v S', okP 20 v → Deck d c S' → Bk a b n S' → Ex [d, c, a, b] S S' → Q v S') → sp [.ref d, .ref a, .ref b, f.kd] S E Q
theorem term61_ok {sn sm sa : Den} (hn : NextD sn) (hm : NamedD sm) (ha : AppliedD sa) : Term61 (fnP 4 11 (w_Lterm_dd14 sn sm sa)) := by
 intro d c a b n f S E Q ap hd hb hf h
 refine ⟨rfl, ?_⟩
 unfold w_Lterm_dd14
 have hfd := f.dp_lv
 have hdl := hd.lt
 have hbl := hb.lt
 refine seqI fun K hK => ?_
 dsimp! [true_and]
 refine hn d c _ _ _ hd fun n1 S1 h0 h1 hd1 hx1 => ?_
 have hb1 := hb.ex hx1 (by simp [ap.ad, ap.ac]) (by simp [ap.bd, ap.bc])
 dsimp! [true_and]
 refine ⟨by decide, hK _ _ ?_⟩
 clear hK
 generalize n1 % 4 = way at *
 refine seqI fun K hK => ?_
 dsimp! [true_and]
 refine ite2 (fun _ => hm a b n f.kd _ _ _ hb1 (okP_kd (by omega)) fun w S2 hb2 hx2 => h _ _ ((okP_2 (okP_str 0 _) (okP_str 0 _)).le (by omega)) (hd1.ex hx2 (by simp; exact ⟨ap.ad.symm, ap.bd.symm⟩) (by simp; exact ⟨ap.ac.symm, ap.bc.symm⟩)) hb2 ((hx1.weak (by simp)).trans (hx2.weak (by simp)))) (fun _ => hK _ _ ?_)
 clear hK
 refine seqI fun K hK => ?_
 dsimp! [true_and]
 refine ⟨big (by decide), hK _ _ ?_⟩
 clear hK
 refine seqI fun K hK => ?_
 dsimp! [true_and]
 refine hK _ _ ?_
 clear hK
 refine seqI fun K hK => ?_
 have x1l := hx1.1
 have hq0 : S.length ≤ S1.length := x1l
 have hqd : S1.length ≠ d := by omega
 have hqc : S1.length ≠ c := by omega
 have hqa : S1.length ≠ a := by omega
 have hqb : S1.length ≠ b := by omega
 refine whileI (fun m σ S2 => ∃ (g : Fm) (ks : List PV), σ = [some (.ref d), some (.ref a), some (.ref b), some f.kd, some (.int way), some (.ref S1.length), some g.kd, none, none, none, none] ∧ S2[S1.length]? = some (.lst ks) ∧ ks.length + g.lv ≤ f.lv ∧ m = g.lv ∧ (∀ v ∈ ks, okP 10 v) ∧ g.dp ≤ 6 ∧ Deck d c S2 ∧ Bk a b (n + 1) S2 ∧ Ex [d, c, a, b] S S2) f.lv ⟨f, [], rfl, at_new _ _, by simp, rfl, by simp, by omega, hd1.ex (Ex.new [] _ _) (by simp) (by simp), hb1.ex (Ex.new [] _ _) (by simp) (by simp), (hx1.weak (by simp)).app _⟩ ?_
 rintro m σ S2 ⟨g, ks, rfl, gq, hkl, rfl, hks, hgd, hd2, hb2, hx2⟩ T F hT hF
 have gp := g.lv_pos
 cases g with
 | n l x y =>
  have xp := x.lv_pos
  have yp := y.lv_pos
  simp only [Fm.lv] at hkl hT
  simp only [Fm.dp] at hgd
  dsimp! [kn]
  refine hT _ fun N hN => ?_
  refine seqI fun K2 hK2 => ?_
  dsimp! [kn, gq, lst_at gq, pairs0]
  refine ⟨bigl (by omega), hK2 _ _ ?_⟩
  dsimp! [kn, pairs1]
  refine hN x.lv _ _ (by omega) ⟨x, ks ++ [y.kd], rfl, at_set _ gq, by simp only [List.length_append, List.length_singleton]; omega, rfl, ?_, by omega, ?_, ?_, hx2.set (.inr hq0)⟩
  ·intro v hv
   rcases List.mem_append.mp hv with z | z
   ·exact hks v z
   ·simp at z; subst z; exact okP_kd (by omega)
  ·exact hd2.ex (D := [S1.length]) ((Ex.refl _ _).set (.inl (by simp))) (by simp; omega) (by simp; omega)
  ·exact hb2.ex (D := [S1.length]) ((Ex.refl _ _).set (.inl (by simp))) (by simp; omega) (by simp; omega)
 | b s =>
  dsimp! [kb]
  refine hF _ (hK _ _ ?_)
  clear hK hT hF
  have hkl : ks.length ≤ 6 := by simp only [Fm.lv] at hkl; omega
  refine seqI fun K hK => ?_
  dsimp! [true_and]
  refine hK _ _ ?_
  clear hK
  refine seqI fun K hK => ?_
  dsimp! [seq_at gq]
  refine ⟨⟨by omega, by omega⟩, ?_⟩
  rw [Int.toNat_natCast]
  refine forI (fun rest σ S3 => S3 = S2 ∧ (∀ x ∈ rest, x ∈ rngP 0 ks.length) ∧ ∃ (v7 : PV) (j8 j9 : Option PV), (v7 = .non ∨ okP 10 v7) ∧ σ = [some (.ref d), some (.ref a), some (.ref b), some f.kd, some (.int way), some (.ref S1.length), some (.str s), some v7, j8, j9, none]) ?_ ?_ _ _ _ ⟨rfl, fun x hx => hx, .non, none, none, .inl rfl, rfl⟩
  ·rintro σ S3 ⟨rfl, -, v7, j8, j9, hv7, rfl⟩
   refine ⟨trivial, hK _ _ ?_⟩
   clear hK
   have b2 : 2 ≤ sizeLine := big (by decide)
   have b3 : 3 ≤ sizeLine := big (by decide)
   have fin : ∀ (v : PV) (S4 : Store), okP 13 v → S4[S1.length]? = some (.lst ks) → Deck d c S4 → Bk a b n S4 → Ex [d, c, a, b] S S4 → ∀ (j8 j9 : Option PV), (wSeq
   (wFor (wiRev (wVar 5)) (wgName 10)
    (wSet 7 (wTup (wCons (wC (PV.str (Str.ofString "fn"))) (wCons (wVar 10) (wCons (wVar 7) wNil))))))
   (wRet (wVar 7))) { nx := fun x S' => Q PV.non S', rt := Q } E [some (PV.ref d), some (PV.ref a), some (PV.ref b), some f.kd, some (PV.int way), some (PV.ref S1.length), some (PV.str s), some v, j8, j9, none] S4 := by
    intro v S4 hv g4 hd4 hb4 hx4 j8 j9
    refine seqI fun K hK => ?_
    dsimp! [seq_at g4]
    refine forI (fun rest σ S5 => S5 = S4 ∧ ∃ (t : List PV) (v : PV) (j10 : Option PV), rest = t ∧ (∀ u ∈ t, okP 10 u) ∧ t.length ≤ ks.length ∧ okP (13 + (ks.length - t.length)) v ∧ σ = [some (PV.ref d), some (PV.ref a), some (PV.ref b), some f.kd, some (PV.int way), some (PV.ref S1.length), some (PV.str s), some v, j8, j9, j10]) ?_ ?_ _ _ _ ⟨rfl, ks.reverse, v, none, rfl, fun u hu => hks u (List.mem_reverse.mp hu), by simp, by simpa using hv, rfl⟩
    ·rintro σ S5 ⟨rfl, t, v, j10, ht, hti, htl, hv, rfl⟩
     refine ⟨seq_at g4, hK _ _ ?_⟩
     dsimp! [true_and]
     exact h v _ (hv.le (by omega)) hd4 hb4 hx4
    ·rintro x r σ S5 ⟨rfl, t, v, j10, rfl, hti, htl, hv, rfl⟩ N hN
     rw [List.length_cons] at htl
     refine ⟨seq_at g4, ?_⟩
     dsimp! [true_and]
     refine ⟨b3, hN _ _ ⟨rfl, r, _, _, rfl, fun u hu => hti u (by simp [hu]), by omega, ?_, rfl⟩⟩
     rw [show 13 + (ks.length - r.length) = (13 + (ks.length - (x :: r).length)) + 1 by simp only [List.length_cons]; omega]
     exact okP_3 (okP_str _ _) ((hti x (by simp)).le (by omega)) hv
   have mid : ∀ (v : PV) (S4 : Store), okP 12 v → S4[S1.length]? = some (.lst ks) → Deck d c S4 → Bk a b n S4 → Ex [d, c, a, b] S S4 → ∀ (j8 j9 : Option PV), (wSeq
   (wIfS (wTest (wBin cEq (wVar 4) (wC (PV.int 3))))
    (wSet 7
     (wTup
      (wCons (wC (PV.str (Str.ofString "of")))
       (wCons
        (wTup
         (wCons (wC (PV.str (Str.ofString "fn")))
          (wCons (wVar 6)
           (wCons (wTup (wCons (wC (PV.str (Str.ofString "bound"))) (wCons (wC (PV.int 0)) wNil))) wNil))))
        (wCons (wVar 7) wNil)))))
    wNext)
   (wSeq
    (wFor (wiRev (wVar 5)) (wgName 10)
     (wSet 7 (wTup (wCons (wC (PV.str (Str.ofString "fn"))) (wCons (wVar 10) (wCons (wVar 7) wNil))))))
    (wRet (wVar 7)))) { nx := fun x S' => Q PV.non S', rt := Q } E [some (PV.ref d), some (PV.ref a), some (PV.ref b), some f.kd, some (PV.int way), some (PV.ref S1.length), some (PV.str s), some v, j8, j9, none] S4 := by
    intro v S4 hv g4 hd4 hb4 hx4 j8 j9
    refine seqI fun K hK => ?_
    dsimp! [true_and]
    refine ite2 (fun _ => ⟨b2, b3, b3, hK _ _ (fin _ S4 ?_ g4 hd4 hb4 hx4 j8 j9)⟩) (fun _ => hK _ _ (fin v S4 (hv.le (by decide)) g4 hd4 hb4 hx4 j8 j9))
    exact okP_3 (okP_str _ _) ((okP_3 (okP_str 1 _) (okP_str 1 _) (okP_2 (okP_str 0 _) (okP_int 0 _))).le (by decide)) hv
   refine seqI fun K hK => ?_
   rcases hv7 with rfl | hv7
   ·dsimp! [true_and]
    refine ha d c a b S1.length n ks (.str s) _ _ _ ap hd2 hb2 gq (by simp [hqd, hqc, hqa, hqb]) hkl hks (okP_str _ _) fun v S4 hv hd4 hb4 hx4 => hK _ _ ?_
    exact mid v S4 hv (hx4.get gq (by simp [hqd, hqc, hqa, hqb])) hd4 hb4 (hx2.trans hx4) _ _
   ·dsimp! [true_and]
    refine ite2 (fun e => absurd e (by cases v7 <;> first | exact Bool.false_ne_true | (simp [okP, plV] at hv7))) (fun _ => hK _ _ (mid v7 _ (hv7.le (by decide)) gq hd2 hb2.down hx2 _ _))
  ·rintro x r σ S3 ⟨rfl, hr, v7, j8, j9, hv7, rfl⟩ N hN
   obtain ⟨i, hi, rfl⟩ := mem_rng (hr x (by simp))
   refine ⟨trivial, ?_⟩
   dsimp! [seq_at gq]
   refine ⟨⟨by omega, by omega⟩, ?_⟩
   rw [Int.toNat_natCast]
   refine forI (fun rest σ S4 => S4 = S3 ∧ (∀ x ∈ rest, x ∈ rngP 0 ks.length) ∧ ∃ (v7 : PV) (j9 : Option PV), (v7 = .non ∨ okP 10 v7) ∧ σ = [some (.ref d), some (.ref a), some (.ref b), some f.kd, some (.int way), some (.ref S1.length), some (.str s), some v7, some (.int (i : Nat)), j9, none]) ?_ ?_ _ _ _ ⟨rfl, fun x hx => hx, v7, j9, hv7, rfl⟩
   ·rintro σ S4 ⟨rfl, -, v7, j9, hv7, rfl⟩
    exact ⟨trivial, hN _ _ ⟨rfl, fun x hx => hr x (by simp [hx]), v7, _, _, hv7, rfl⟩⟩
   ·rintro x2 r2 σ S4 ⟨rfl, hr2, v7, j9, hv7, rfl⟩ N2 hN2
    obtain ⟨j, hj, rfl⟩ := mem_rng (hr2 x2 (by simp))
    refine ⟨trivial, ?_⟩
    have b2 : 2 ≤ sizeLine := big (by decide)
    have b3 : 3 ≤ sizeLine := big (by decide)
    have o1 := hks _ (List.getElem_mem hi)
    have o2 := okP_2 (hks _ (List.getElem_mem hj)) (okP_str 10 s)
    dsimp! [gq, seq_at gq, atI_nat' ks i hi, atI_nat' ks j hj, cEq_pl (o1.le (by decide)) (o2.le (by decide))]
    have nxt : ∀ v : PV, (v = .non ∨ okP 10 v) → N2 [some (PV.ref d), some (PV.ref a), some (PV.ref b), some f.kd, some (PV.int way), some (PV.ref S1.length), some (PV.str s), some v, some (PV.int (i : Nat)), some (PV.int (j : Nat)), none] S4 := fun v hv => hN2 _ _ ⟨rfl, fun x hx => hr2 x (by simp [hx]), v, _, hv, rfl⟩
    have bo : ∀ i : Int, okP 9 (boundP i) := fun i => (okP_2 (okP_str 0 _) (okP_int 0 _)).le (by decide)
    refine ite2 (fun _ => ⟨b2, ite2 (fun _ => ⟨b2, b2, b3, nxt _ (.inr (okP_3 (okP_str 9 _) (bo _) (bo _)))⟩) (fun _ => nxt _ hv7)⟩) (fun _ => nxt _ hv7)
theorem Bk.le {a b n m : Nat} {S : Store} (h : Bk a b n S) (k : m ≤ n) : Bk a b m S := by
 obtain ⟨⟨ps, ws, g1, g2, h1, r⟩, ne⟩ := h
 exact ⟨⟨ps, ws, g1, g2, by omega, r⟩, ne⟩
noncomputable def pfP (p : Str × Fm) : PV := .tup [.str p.1, p.2.pv]
noncomputable def trP (t : (Str × Fm) × PV) : PV := .tup [.str t.1.1, t.1.2.pv, t.2]
theorem eqB_pf (p q : Str × Fm) : eqB (pfP p) (pfP q) = decide (p = q) := by
 obtain ⟨s, f⟩ := p
 obtain ⟨t, g⟩ := q
 simp only [pfP, eqB_tt, eqBs, eqB_ss, eqB_fm, Bool.and_true, Prod.mk.injEq]
 by_cases h1 : s = t <;> by_cases h2 : f = g <;> simp [h1, h2]
theorem okP_pv {f : Fm} {n : Nat} (h : f.dp ≤ n) : okP n f.pv := ⟨plV_fm f, by rw [dep_fm]; exact h⟩
theorem okP_pf {p : Str × Fm} (h : p.2.lv ≤ 5) : okP 6 (pfP p) := okP_2 (okP_str 5 _) (okP_pv (Nat.le_trans p.2.dp_lv h))
theorem okEqs_of : ∀ {xs : List PV}, (∀ x ∈ xs, okP 190 x) → okEqs xs
 | [], _ => by rw [okEqs_nil]; trivial
 | x :: r, h => by
  obtain ⟨a, b⟩ := okEqs_of (xs := r) fun y hy => h y (by simp [hy])
  have c := (h x (by simp)).eq (Nat.le_refl _)
  exact ⟨by simp only [nrfs, c.1, a, Bool.and_self], by have := c.2; simp only [deps]; omega⟩
structure Trs (ps : List (Str × Fm)) (tr : List ((Str × Fm) × PV)) : Prop where
 nd : (tr.map (·.1)).Nodup
 all : ∀ p ∈ ps, p ∈ tr.map (·.1)
 ok : ∀ t ∈ tr, okP 20 t.2 ∧ t.1.2.lv ≤ 5
 len : tr.length ≤ ps.length
noncomputable def BookD (sp : Den) : Prop := ∀ (d c bs sm : Nat) (xs : List PV) (ps : List (Str × Fm)) (S : Store) (E : EK) (Q : VC), Deck d c S → S[bs]? = some (.lst xs) → xs.length ≤ 100 → S[sm]? = some (.lst (ps.map pfP)) → ps.length ≤ 10 → (∀ p ∈ ps, p.2.lv ≤ 5) → bs ∉ [d, c] → sm ∉ [d, c] →
 (∀ tr S' x y, Trs ps tr → Deck d c S' → Ex [d, c] S S' → Q (.tup [x, y, .tup (tr.map trP)]) S') → sp [.ref d, .ref bs, .ref sm] S E Q
theorem keys_go {chk : Store → Prop} {Q : VC} : ∀ (tr : List ((Str × Fm) × PV)) (ys : List PV) (σ : Ev.Loc) (S : Store), (∃ j, σ = [j]) → chk S → Q (.ref S.length) (S ++ [.lst (ys ++ tr.map fun t => pfP t.1)]) → compGo chk (wgName 0) wtTrue (wSl (wVar 0) wNoPart (wPart (wC (.int 2)))) Q (tr.map trP) ys σ S
 | [], ys, σ, S, _, hc, h => compEnd hc (by simpa using h)
 | t :: r, ys, σ, S, ⟨j, e⟩, hc, h => by
  subst e
  refine compStepT hc fun N hN => ?_
  dsimp! [trP]
  refine ⟨by decide, hN _ _ _ ?_⟩
  refine keys_go r _ _ S ⟨_, rfl⟩ hc ?_
  rw [List.append_assoc]
  exact h
theorem book_ok {sw st sk : Den} (hw : WordsD2 sw) (ht : Term61 st) (hk : KindD sk 10) : BookD (fnP 3 8 (w_Lbook_2f0c sw st sk)) := by
 intro d c bs sm xs ps S E Q hd hbs hxl hsm hpl hpf nb ns h
 refine ⟨rfl, ?_⟩
 unfold w_Lbook_2f0c
 simp only [List.mem_cons, List.not_mem_nil, or_false, not_or] at nb ns
 have hdl := hd.lt
 have hbl := lt_of_at hbs
 have hsl := lt_of_at hsm
 refine seqI fun K hK => ?_
 dsimp! [true_and]
 refine ⟨big (by decide), hK _ _ ?_⟩
 clear hK
 refine seqI fun K hK => ?_
 dsimp! [true_and]
 have x1 : Ex [] S (S ++ [SO.lst []]) := Ex.new [] _ _
 refine hw d c 20 _ _ _ (hd.ex x1 (by simp) (by simp)) (by decide) fun b ws S2 gb hwl hwn hb hd2 hx2 => hK _ _ ?_
 clear hK
 rw [List.length_append, List.length_singleton] at hb
 have ga : S2[S.length]? = some (.lst (([] : List (Str × PV)).map prP)) := hx2.get (at_new _ _) (by simp; omega)
 have hb2 : Bk S.length b 20 S2 := ⟨⟨[], ws, ga, gb, by omega, by simp; omega, by simp⟩, by omega⟩
 have hbs2 := hx2.get (x1.get hbs (by simp)) (by simp; omega)
 have hsm2 := hx2.get (x1.get hsm (by simp)) (by simp; omega)
 have hx2' : Ex [d, c] S S2 := x1.nil.trans hx2
 have ap : Ap d c S.length b := ⟨by omega, by omega, by omega, by omega⟩
 have hbl2 := lt_of_at gb
 refine seqI fun K hK => ?_
 dsimp! [true_and]
 refine ⟨big (by decide), hK _ _ ?_⟩
 clear hK
 have x3 : Ex [] S2 (S2 ++ [SO.lst []]) := Ex.new [] _ _
 have gt : (S2 ++ [SO.lst []])[S2.length]? = some (.lst (([] : List ((Str × Fm) × PV)).map trP)) := at_new _ _
 refine seqI fun K hK => ?_
 dsimp! [seq_at (x3.get hsm2 (by simp))]
 have hl2 : S.length ≤ S2.length := hx2'.1
 refine forI (fun rest σ S3 => ∃ (qs us : List (Str × Fm)) (tr : List ((Str × Fm) × PV)) (j6 j7 : Option PV), rest = qs.map pfP ∧ us ++ qs = ps ∧ Trs us tr ∧ σ = [some (.ref d), some (.ref bs), some (.ref sm), some (.ref S.length), some (.ref b), some (.ref S2.length), j6, j7] ∧ S3[S2.length]? = some (.lst (tr.map trP)) ∧ Deck d c S3 ∧ Bk S.length b qs.length S3 ∧ S3[bs]? = some (.lst xs) ∧ S3[sm]? = some (.lst (ps.map pfP)) ∧ Ex [d, c] S S3) ?_ ?_ _ _ _ ⟨ps, [], [], none, none, rfl, rfl, ⟨by simp, by simp, by simp, by simp⟩, rfl, gt, hd2.ex x3 (by simp) (by simp), (hb2.ex x3 (by simp) (by simp)).le (by omega), x3.get hbs2 (by simp), x3.get hsm2 (by simp), hx2'.app _⟩
 ·rintro σ S3 ⟨qs, us, tr, j6, j7, hr, hu, htr, rfl, gt3, hd3, hb3, hbs3, hsm3, hx3⟩
  obtain rfl : qs = [] := by cases qs with
   | nil => rfl
   | cons a b => simp at hr
  rw [List.append_nil] at hu
  subst hu
  refine ⟨seq_at hsm3, hK _ _ ?_⟩
  obtain ⟨⟨qs2, ws2, ga3, _, _, hq, _⟩, _⟩ := hb3
  dsimp! [seq_at hbs3, seq_at gt3, seq_at ga3]
  exact ⟨big (by decide), h tr S3 _ _ htr hd3 hx3⟩
 ·rintro x r σ S3 ⟨qs, us, tr, j6, j7, hr, hu, htr, rfl, gt3, hd3, hb3, hbs3, hsm3, hx3⟩ N hN
  obtain ⟨p, qs, rfl⟩ : ∃ x y, qs = x :: y := by
   cases qs with
   | nil => simp at hr
   | cons a b => exact ⟨a, b, rfl⟩
  simp only [List.map_cons, List.cons.injEq] at hr
  obtain ⟨rfl, rfl⟩ := hr
  refine ⟨seq_at hsm3, ?_⟩
  dsimp! [pfP, seq_at gt3]
  have tl := htr.len
  have ul : us.length + (qs.length + 1) = ps.length := by rw [← hu]; simp
  have hpp : p ∈ ps := by rw [← hu]; simp
  have hp5 := hpf p hpp
  refine ⟨big (by decide), big (show (tr.map trP).length ≤ 1000000 by rw [List.length_map]; omega), ?_⟩
  refine keys_go tr [] _ S3 ⟨_, rfl⟩ (seq_at gt3) ?_
  have ge : seqOf (S3 ++ [SO.lst ([] ++ tr.map fun t => pfP t.1)]) S3.length = some (tr.map fun t => pfP t.1) := seq_at (at_new _ _)
  have x4 : Ex [] S3 (S3 ++ [SO.lst ([] ++ tr.map fun t => pfP t.1)]) := Ex.new [] _ _
  generalize S3 ++ [SO.lst ([] ++ tr.map fun t => pfP t.1)] = S4 at *
  have gt4 := x4.get gt3 (by simp)
  have hd4 := hd3.ex x4 (by simp) (by simp)
  have hb4 := hb3.ex x4 (by simp) (by simp)
  have hbs4 := x4.get hbs3 (by simp)
  have hsm4 := x4.get hsm3 (by simp)
  rw [cNotIn_r, ge]
  have e : ((tr.map fun t => pfP t.1).any fun y => eqB y (PV.tup [PV.str p.fst, p.snd.pv])) = decide (p ∈ tr.map (·.1)) := by
   show ((tr.map fun t => pfP t.1).any fun y => eqB y (pfP p)) = _
   rw [Bool.eq_iff_iff]
   simp only [List.any_eq_true, decide_eq_true_eq, List.mem_map]
   constructor
   ·rintro ⟨y, ⟨t, ht', rfl⟩, he⟩
    rw [eqB_pf] at he
    exact ⟨t, ht', by simpa using he⟩
   ·rintro ⟨t, ht', rfl⟩
    exact ⟨_, ⟨t, ht', rfl⟩, by rw [eqB_pf]; simp⟩
  refine ⟨⟨(okP_pf hp5).eq (by decide), okEqs_of fun y hy => ?_⟩, ?_⟩
  ·obtain ⟨t, ht', rfl⟩ := List.mem_map.mp hy
   exact (okP_pf (htr.ok t ht').2).le (by decide)
  ·rw [e]
   dsimp! [gt4]
   refine ite2 (fun hc => ?_) (fun hc => ?_)
   ·have hni : p ∉ tr.map (·.1) := by simpa using hc
    refine hk p.2 (Nat.le_trans p.2.dp_lv (by omega)) _ _ _ ?_
    have hbx : Bk S.length b (qs.length + 1) S4 := hb4
    refine ht d c S.length b qs.length p.2 _ _ _ ap hd4 hbx (by omega) fun v S5 hv hd5 hb5 hx5 => ?_
    have nt : S2.length ∉ [d, c, S.length, b] := by simp; omega
    have gt5 := hx5.get gt4 nt
    dsimp! [lst_at gt5]
    refine ⟨big (by decide), bigl (by rw [List.length_map]; omega), hN _ _ ⟨qs, us ++ [p], tr ++ [(p, v)], _, _, rfl, by rw [← hu]; simp, ?_, rfl, by rw [at_set _ gt5]; simp [trP], ?_, ?_, ?_, ?_, ?_⟩⟩
    ·refine ⟨?_, ?_, ?_, ?_⟩
     ·rw [List.map_append, List.map_cons, List.map_nil]
      exact List.nodup_append.mpr ⟨htr.nd, by simp, by
       intro u hu' w hw' ee
       simp at hw'
       rw [ee, hw'] at hu'
       exact hni hu'⟩
     ·intro u hu'
      rw [List.map_append]
      rcases List.mem_append.mp hu' with z | z
      ·exact List.mem_append_left _ (htr.all u z)
      ·exact List.mem_append_right _ (by simpa using z)
     ·intro u hu'
      rcases List.mem_append.mp hu' with z | z
      ·exact htr.ok u z
      ·simp at z; subst z; exact ⟨hv, hp5⟩
     ·simp only [List.length_append, List.length_singleton]; omega
    ·exact hd5.ex (D := [S2.length]) ((Ex.refl _ _).set (.inl (by simp))) (by simp; omega) (by simp; omega)
    ·exact hb5.ex (D := [S2.length]) ((Ex.refl _ _).set (.inl (by simp))) (by simp; omega) (by simp; omega)
    ·exact at_ne _ (hx5.get hbs4 (by simp; omega)) (by omega)
    ·exact at_ne _ (hx5.get hsm4 (by simp; omega)) (by omega)
    ·have : Ex [d, c] S S5 := ⟨Nat.le_trans (hx3.trans x4.nil).1 hx5.1, fun i hi ni => by
      have := (hx3.trans x4.nil).2 i hi ni
      rw [← this]
      exact hx5.2 i (Nat.lt_of_lt_of_le hi (hx3.trans x4.nil).1) (by simp only [List.mem_cons, List.not_mem_nil, or_false, not_or] at ni ⊢; omega)⟩
     exact this.set (.inr hl2)
   ·have hin : p ∈ tr.map (·.1) := by simpa using hc
    refine hN _ _ ⟨qs, us ++ [p], tr, _, _, rfl, by rw [← hu]; simp, ⟨htr.nd, ?_, htr.ok, by simp only [List.length_append, List.length_singleton]; omega⟩, rfl, gt4, hd4, hb4.le (by simp), hbs4, hsm4, hx3.trans x4.nil⟩
    intro u hu'
    rcases List.mem_append.mp hu' with z | z
    ·exact htr.all u z
    ·simp at z; subst z; exact hin
noncomputable def SentD (sp : Den) : Prop := ∀ (d c : Nat) (r : Rd) (S : Store) (E : EK) (Q : VC), Deck d c S → r.lv ≤ 10 → (∀ (ws : List Str) S', ws.length = r.lv → Deck d c S' → Ex [d, c] S S' → Q (.tup (ws.map PV.str)) S') → sp [.ref d, r.pv] S E Q
theorem half_go {chk : Store → Prop} {Q : VC} {ws : List Str} {n : Nat} {S : Store} (hn : S[n]? = some (.lst (ws.map PV.str))) (hc : chk S) :
  ∀ (is : List PV) (vs : List Str) (σ : Ev.Loc), (∃ j, σ = [j, some (.ref n)]) → (∀ x ∈ is, x ∈ rngP 0 ws.length) → (∀ us : List Str, us.length = vs.length + is.length → Q (.ref S.length) (S ++ [.lst (us.map PV.str)])) →
  compGo chk (wgName 0) wtTrue (wBin bIx (wVar 1) (wBin bFdiv (wVar 0) (wC (.int 2)))) Q is (vs.map PV.str) σ S
 | [], vs, σ, _, hi, h => compEnd hc (h vs (by simp))
 | x :: r, vs, σ, ⟨j, e⟩, hi, h => by
  subst e
  obtain ⟨i, hil, rfl⟩ := mem_rng (hi x (by simp))
  have h2 : i / 2 < ws.length := Nat.lt_of_le_of_lt (Nat.div_le_self _ _) hil
  have e2 : ((i : Nat) : Int) / 2 = ((i / 2 : Nat) : Int) := by omega
  refine compStepT hc fun N hN => ?_
  dsimp! [hn, e2, atI_nat' (ws.map PV.str) (i / 2) (by rw [List.length_map]; exact h2)]
  refine ⟨⟨by decide, by decide⟩, hN _ _ _ ?_⟩
  rw [List.getElem_map, show vs.map PV.str ++ [PV.str ws[i / 2]] = (vs ++ [ws[i / 2]]).map PV.str by simp]
  refine half_go hn hc r _ _ ⟨_, rfl⟩ (fun y hy => hi y (by simp [hy])) fun us hu => h us ?_
  rw [hu]
  simp only [List.length_append, List.length_cons, List.length_nil]; omega
theorem sent_ok {so sw sn : Den} (ho : WoD so 10) (hw : WordsD2 sw) (hn : NextD sn) : SentD (fnP 2 4 (w_Lsentence_e832 so sw sn)) := by
 intro d c r S E Q hd hr h
 refine ⟨rfl, ?_⟩
 unfold w_Lsentence_e832
 refine seqI fun K hK => ?_
 dsimp! [true_and]
 refine ho r hr _ _ _ fun q S1 hq gq hx1 => hK _ _ ?_
 clear hK
 have hl := ws_len r
 refine seqI fun K hK => ?_
 dsimp! [seq_at gq, List.length_map, hl]
 refine hw d c r.lv _ _ _ (hd.ex hx1 (by simp) (by simp)) (by omega) fun n ws S2 gn hwl hwn hb hd2 hx2 => hK _ _ ?_
 clear hK
 refine seqI fun K hK => ?_
 dsimp! [true_and]
 refine hn d c _ _ _ hd2 fun n1 S3 h0 h1 hd3 hx3 => ?_
 dsimp! [true_and]
 refine ⟨by decide, ?_⟩
 have hdl := hd.lt
 have hx13 : Ex [d, c] S S3 := (hx1.nil.trans hx2).trans hx3
 have hq3 := hx3.get (hx2.get gq (by simp; omega)) (by simp; omega)
 have hn3 := hx3.get gn (by have := hx1.1; simp; omega)
 have fin : ∀ (m : Nat) (us : List Str) (S4 : Store), S4[m]? = some (.lst (us.map PV.str)) → us.length = r.lv → Deck d c S4 → Ex [d, c] S S4 → K [some (PV.ref d), some r.pv, some (PV.ref q), some (PV.ref m)] S4 := fun m us S4 g4 hu hd4 hx4 => hK _ _ (by
  dsimp! [seq_at g4]
  exact h us S4 hu hd4 hx4)
 refine ite2 (fun _ => ?_) (fun _ => fin n ws S3 hn3 hwl hd3 hx13)
 dsimp! [seq_at hq3, List.length_map, hl]
 rw [Int.toNat_natCast]
 refine ⟨⟨by omega, by omega⟩, big (by rw [rng_len]; exact Nat.le_trans hr (by decide)), ?_⟩
 refine half_go hn3 trivial _ [] _ ⟨_, rfl⟩ (fun x hx => by rw [hwl]; exact hx) fun us hu => ?_
 rw [rng_len] at hu
 exact fin _ us _ (at_new _ _) (by simpa using hu) (hd3.ex (Ex.new [] _ _) (by simp) (by simp)) (hx13.app _)
noncomputable def lkT (tr : List ((Str × Fm) × PV)) (k : Str × Fm) : PV := ((tr.find? fun t => decide (t.1 = k)).map (·.2)).getD .non
theorem lkT_of : ∀ {tr : List ((Str × Fm) × PV)}, (tr.map (·.1)).Nodup → ∀ {t : (Str × Fm) × PV}, t ∈ tr → lkT tr t.1 = t.2
 | x :: r, nd, t, ht => by
  rw [List.map_cons, List.nodup_cons] at nd
  unfold lkT
  rw [List.find?_cons]
  rcases List.mem_cons.mp ht with z | z
  ·subst z; simp
  ·have : ¬ x.1 = t.1 := fun e => nd.1 (List.mem_map.mpr ⟨t, z, e.symm⟩)
   rw [decide_eq_false this]
   exact lkT_of nd.2 z
noncomputable def ky (ws : List Str) (p : Int × Fm) : Str × Fm := ((ws[p.1.toNat]?).getD (mk []), p.2)
theorem ky_at {ws : List Str} {p : Int × Fm} (h0 : 0 ≤ p.1) (h1 : p.1 < (ws.length : Int)) : atI (ws.map PV.str) p.1 = some (.str (ky ws p).1) := by
 obtain ⟨i, f⟩ := p
 obtain ⟨n, rfl⟩ := Int.eq_ofNat_of_zero_le h0
 have hn : n < ws.length := by simpa using h1
 show atI (ws.map PV.str) ((n : Nat) : Int) = _
 rw [atI_nat' _ n (by rw [List.length_map]; exact hn), List.getElem_map]
 simp [ky, hn]
noncomputable def LK (tr : List ((Str × Fm) × PV)) (ws : List Str) (p : Int × Fm) : PV := lkT tr (ky ws p)
noncomputable def bkP (x y : PV) (tr : List ((Str × Fm) × PV)) : PV := .tup [x, y, .tup (tr.map trP)]
theorem bk2 (x y : PV) (tr : List ((Str × Fm) × PV)) (S : Store) (Q : VC) : bIx (bkP x y tr) (.int 2) S Q = Q (.tup (tr.map trP)) S := rfl
structure GB (tr : List ((Str × Fm) × PV)) (ws : List Str) (r : Rd) : Prop where
 nd : (tr.map (·.1)).Nodup
 len : tr.length ≤ 10
 ok : ∀ t ∈ tr, okP 20 t.2 ∧ t.1.2.lv ≤ 5
 all : ∀ p ∈ r.ws, 0 ≤ p.1 ∧ p.1 < (ws.length : Int) ∧ ky ws p ∈ tr.map (·.1) ∧ p.2.lv ≤ 5
noncomputable def MeansD (sp : Den) : Prop := ∀ (x y : PV) (tr : List ((Str × Fm) × PV)) (ws : List Str) (r : Rd) (S : Store) (E : EK) (Q : VC), GB tr ws r → r.lv ≤ 10 →
 (∀ (t : Nat) (kvs : List (KTr × PV)) S', S'[t]? = some (.dN kvs) → (∀ p ∈ r.ws, valN kvs (wk p) = some (LK tr ws p)) → Ex [] S S' → Q (.ref t) S') → sp [bkP x y tr, .tup (ws.map PV.str), r.pv] S E Q
theorem means_ok {so : Den} (ho : WoD so 10) : MeansD (fnP 3 9 (w_Lmeans_bcd7 so)) := by
 intro x y tr ws r S E Q gb hr h
 refine ⟨rfl, ?_⟩
 unfold w_Lmeans_bcd7
 have hwl := ws_len r
 have hrp := r.lv_pos
 refine seqI fun K hK => ?_
 dsimp! [true_and]
 refine hK _ _ ?_
 clear hK
 have g0 := at_new S (.dK [])
 have x0 : Ex [] S (S ++ [SO.dK []]) := Ex.new [] _ _
 have l0 : (S ++ [SO.dK []]).length = S.length + 1 := by simp
 refine seqI fun K hK => ?_
 dsimp! [true_and]
 refine ho r hr _ _ _ fun q S1 hq0 hq hx1 => ?_
 dsimp! [seq_at hq]
 refine forI (fun rest σ S2 => ∃ (ps qs : List (Int × Fm)) (kvs : List (KTr × PV)) (j4 j5 j6 j7 j8 : Option PV), rest = ps.map encW ∧ σ = [some (bkP x y tr), some (.tup (ws.map PV.str)), some r.pv, some (.ref S.length), j4, j5, j6, j7, j8] ∧ qs ++ ps = r.ws ∧ (S2[S.length]? = some (.dN kvs) ∨ (S2[S.length]? = some (.dK []) ∧ kvs = [])) ∧ S2[q]? = some (.lst (r.ws.map encW)) ∧ Ex [] S S2 ∧ kvs.length ≤ 20 * qs.length ∧ (∀ p ∈ qs, valN kvs (wk p) = some (LK tr ws p))) ?_ ?_ _ _ _
  ⟨r.ws, [], [], _, _, _, _, _, rfl, rfl, rfl, .inr ⟨hx1.get g0 (by simp), rfl⟩, hq, x0.trans hx1, Nat.zero_le _, by simp⟩
 ·rintro σ S2 ⟨ps, qs, kvs, j4, j5, j6, j7, j8, hr', rfl, e, k1, k2, k3, k4, k5⟩
  obtain rfl : ps = [] := by cases ps with
   | nil => rfl
   | cons a b => simp at hr'
  rw [List.append_nil] at e
  refine ⟨seq_at k2, hK _ _ ?_⟩
  clear hK
  have hdn : S2[S.length]? = some (.dN kvs) := by
   rcases k1 with z | ⟨_, z⟩
   ·exact z
   ·subst z
    cases qs with
    | nil => rw [← e] at hwl; simp at hwl; omega
    | cons p r => have := k5 p (by simp); simp [valN] at this
  dsimp! [true_and]
  exact h _ kvs S2 hdn (fun p hp => k5 p (by rw [e]; exact hp)) k3
 ·rintro z rest σ S2 ⟨ps, qs, kvs, j4, j5, j6, j7, j8, hr', rfl, e, k1, k2, k3, k4, k5⟩ N hN
  obtain ⟨p, ps, rfl⟩ : ∃ p r, ps = p :: r := by
   cases ps with
   | nil => simp at hr'
   | cons a b => exact ⟨a, b, rfl⟩
  simp only [List.map_cons, List.cons.injEq] at hr'
  obtain ⟨rfl, rfl⟩ := hr'
  refine ⟨seq_at k2, ?_⟩
  have hle := congrArg List.length e
  simp only [List.length_append, List.length_cons] at hle
  have hpm : p ∈ r.ws := by rw [← e]; simp
  obtain ⟨p0, p1, pk, p5⟩ := gb.all p hpm
  have p2 : 2 ≤ sizeLine := big (by decide)
  dsimp! [encW, bk2]
  refine forI (fun rest σ S3 => ∃ (us vs : List ((Str × Fm) × PV)) (kvs : List (KTr × PV)) (j6 j7 j8 : Option PV), rest = us.map trP ∧ vs ++ us = tr ∧ σ = [some (bkP x y tr), some (.tup (ws.map PV.str)), some r.pv, some (.ref S.length), some (.int p.1), some p.2.pv, j6, j7, j8] ∧ (S3[S.length]? = some (.dN kvs) ∨ (S3[S.length]? = some (.dK []) ∧ kvs = [])) ∧ S3[q]? = some (.lst (r.ws.map encW)) ∧ Ex [] S S3 ∧ kvs.length ≤ 20 * qs.length + vs.length ∧ (∀ p ∈ qs, valN kvs (wk p) = some (LK tr ws p)) ∧ (ky ws p ∈ vs.map (·.1) → valN kvs (wk p) = some (LK tr ws p))) ?_ ?_ _ _ _
   ⟨tr, [], kvs, _, _, _, rfl, rfl, rfl, k1, k2, k3, k4, k5, by simp⟩
  ·rintro σ S3 ⟨us, vs, kvs, j6, j7, j8, hr', hvs, rfl, m1, m2, m3, m4, m5, m6⟩
   obtain rfl : us = [] := by cases us with
    | nil => rfl
    | cons a b => simp at hr'
   rw [List.append_nil] at hvs
   subst hvs
   have := gb.len
   refine ⟨trivial, hN _ _ ⟨ps, qs ++ [p], kvs, _, _, _, _, _, rfl, rfl, by rw [← e]; simp, m1, m2, m3, by simp only [List.length_append, List.length_singleton]; omega, ?_⟩⟩
   intro p' hp'
   rcases List.mem_append.mp hp' with z | z
   ·exact m5 p' z
   ·rw [List.mem_singleton] at z
    subst z
    exact m6 pk
  ·rintro z rest σ S3 ⟨us, vs, kvs, j6, j7, j8, hr', hvs, rfl, m1, m2, m3, m4, m5, m6⟩ N2 hN2
   obtain ⟨t, us, rfl⟩ : ∃ p r, us = p :: r := by
    cases us with
    | nil => simp at hr'
    | cons a b => exact ⟨a, b, rfl⟩
   simp only [List.map_cons, List.cons.injEq] at hr'
   obtain ⟨rfl, rfl⟩ := hr'
   have hvl := congrArg List.length hvs
   simp only [List.length_append, List.length_cons] at hvl
   have htm : t ∈ tr := by rw [← hvs]; simp
   have htk := gb.ok t htm
   have := gb.len
   refine ⟨trivial, ?_⟩
   dsimp! [trP, ky_at p0 p1, cEq_fm (f := t.1.2) (g := p.2) (Nat.le_trans t.1.2.dp_lv (by omega)) (Nat.le_trans p.2.dp_lv (by omega))]
   have skip : t.1 ≠ ky ws p → N2 [some (bkP x y tr), some (.tup (ws.map PV.str)), some r.pv, some (.ref S.length), some (.int p.1), some p.2.pv, some (.str t.1.1), some t.1.2.pv, some t.2] S3 := fun hne =>
    hN2 _ _ ⟨us, vs ++ [t], kvs, _, _, _, rfl, by rw [← hvs]; simp, rfl, m1, m2, m3, by simp only [List.length_append, List.length_singleton]; omega, m5, fun hm => m6 (by
     simp only [List.map_append, List.mem_append, List.map_cons, List.map_nil, List.mem_singleton] at hm
     exact hm.resolve_right fun z => hne z.symm)⟩
   refine ite2 (fun c1 => ite2 (fun c2 => ?_) (fun c2 => ?_)) (fun c1 => ?_)
   ·have ek : t.1 = ky ws p := Prod.ext c1 c2
    have ev : t.2 = LK tr ws p := by unfold LK; rw [← ek]; exact (lkT_of gb.nd htm).symm
    have hneq : S.length ≠ q := by omega
    have hat : ∃ o, S3[S.length]? = some o := by
     rcases m1 with z | ⟨z, _⟩
     ·exact ⟨_, z⟩
     ·exact ⟨_, z⟩
    obtain ⟨o, ho⟩ := hat
    refine ⟨p2, S.length, wk p, kvs, rfl, (wk_pv p).symm, wk_ok p5, m1, bigl (by omega), ?_⟩
    refine hN2 _ _ ⟨us, vs ++ [t], putN kvs (wk p) t.2, _, _, _, rfl, by rw [← hvs]; simp, rfl, .inl (at_set _ ho), at_ne _ m2 hneq, m3.set (.inr (Nat.le_refl _)), ?_, ?_, ?_⟩
    ·have := putN_len kvs (wk p) t.2
     simp only [List.length_append, List.length_singleton]; omega
    ·intro p' hp'
     rw [valN_put]
     by_cases z : wk p' = wk p
     ·rw [if_pos z, wk_inj z, ev]
     ·rw [if_neg z]
      exact m5 p' hp'
    ·intro _
     rw [valN_put, if_pos rfl, ev]
   ·exact skip fun z => c2 (by rw [z]; rfl)
   ·exact skip fun z => c1 (by rw [z])
noncomputable def ftP (t : (Str × Fm) × PV) : PV := .tup [t.1.2.pv, t.2]
noncomputable def RowsD (sp : Den) : Prop := ∀ (x y : PV) (tr : List ((Str × Fm) × PV)) (w : Str) (S : Store) (E : EK) (Q : VC), tr.length ≤ 100 → (∃ t ∈ tr, t.1.1 = w) →
 (∀ (q : Nat) S', S'[q]? = some (.lst ((tr.filter fun t => decide (t.1.1 = w)).map ftP)) → Ex [] S S' → Q (.ref q) S') → sp [bkP x y tr, .str w] S E Q
theorem rows_ok : RowsD (fnP 2 3 w_rows_of_2836) := by
 intro x y tr w S E Q hl hex h
 refine ⟨rfl, ?_⟩
 unfold w_rows_of_2836
 have p2 : 2 ≤ sizeLine := big (by decide)
 refine seqI fun K hK => ?_
 dsimp! [bk2]
 refine ⟨by rw [List.length_map]; exact big (by omega), ?_⟩
 refine compI (fun rest ys σ S2 => ∃ (us vs : List ((Str × Fm) × PV)) (j0 j1 j2 : Option PV), rest = us.map trP ∧ σ = [j0, j1, j2, some (.str w)] ∧ S2 = S ∧ ys = (vs.filter fun t => decide (t.1.1 = w)).map ftP ∧ vs ++ us = tr) ?_ ?_ _ _ _ _ ⟨tr, [], none, none, none, rfl, rfl, rfl, rfl, rfl⟩
 ·rintro ys σ S2 ⟨us, vs, j0, j1, j2, hr', rfl, rfl, rfl, e⟩
  obtain rfl : us = [] := by cases us with
   | nil => rfl
   | cons a b => simp at hr'
  rw [List.append_nil] at e
  subst e
  refine ⟨trivial, hK _ _ ?_⟩
  clear hK
  have gn := at_new S2 (.lst ((vs.filter fun t => decide (t.1.1 = w)).map ftP))
  have hx : Ex [] S2 (S2 ++ [SO.lst ((vs.filter fun t => decide (t.1.1 = w)).map ftP)]) := Ex.new [] _ _
  refine seqI fun K hK => ?_
  have hne : (vs.filter fun t => decide (t.1.1 = w)).map ftP ≠ [] := by
   obtain ⟨t, ht, e⟩ := hex
   have : t ∈ vs.filter fun t => decide (t.1.1 = w) := List.mem_filter.mpr ⟨ht, by simpa using e⟩
   intro z
   rw [List.map_eq_nil_iff] at z
   rw [z] at this
   cases this
  generalize S2.length = q at *
  generalize S2 ++ [SO.lst ((vs.filter fun t => decide (t.1.1 = w)).map ftP)] = S3 at *
  dsimp! [gn]
  refine ite2 (fun c => absurd (List.isEmpty_iff.mp (by simpa using c)) hne) (fun _ => hK _ _ ?_)
  dsimp! [true_and]
  exact h q S3 gn hx
 ·rintro z rest ys σ S2 ⟨us, vs, j0, j1, j2, hr', rfl, rfl, rfl, e⟩ N hN
  obtain ⟨t, us, rfl⟩ : ∃ p r, us = p :: r := by
   cases us with
   | nil => simp at hr'
   | cons a b => exact ⟨a, b, rfl⟩
  simp only [List.map_cons, List.cons.injEq] at hr'
  obtain ⟨rfl, rfl⟩ := hr'
  refine ⟨trivial, ?_⟩
  dsimp! [trP]
  have e2 : (vs ++ [t]) ++ us = tr := by simp [← e]
  refine ite2 (fun c => ⟨p2, ?_⟩) (fun c => ?_)
  ·have := hN _ _ _ ⟨us, vs ++ [t], some (.str t.1.1), some t.1.2.pv, some t.2, rfl, rfl, rfl, rfl, e2⟩
   rw [List.filter_append, List.filter_cons_of_pos (by simpa using c), List.filter_nil, List.map_append] at this
   exact this
  ·have := hN _ _ _ ⟨us, vs ++ [t], some (.str t.1.1), some t.1.2.pv, some t.2, rfl, rfl, rfl, rfl, e2⟩
   rw [List.filter_append, List.filter_cons_of_neg (by simpa using c), List.filter_nil, List.append_nil] at this
   exact this
noncomputable def TermOfD (sp : Den) : Prop := ∀ (x y : PV) (tr : List ((Str × Fm) × PV)) (k : Str × Fm) (S : Store) (E : EK) (Q : VC), tr.length ≤ 100 → (tr.map (·.1)).Nodup → (∀ t ∈ tr, t.1.2.lv ≤ 5) → k ∈ tr.map (·.1) →
 (∀ S', Ex [] S S' → Q (lkT tr k) S') → sp [bkP x y tr, .str k.1, k.2.pv] S E Q
theorem term_of_ok {sr : Den} (hr : RowsD sr) : TermOfD (fnP 3 5 (w_term_of_4c0a sr)) := by
 intro x y tr k S E Q hl nd h5 hk h
 refine ⟨rfl, ?_⟩
 unfold w_term_of_4c0a
 obtain ⟨t0, ht0, rfl⟩ := List.mem_map.mp hk
 have k5 := h5 t0 ht0
 refine seqI fun K hK => ?_
 dsimp! [true_and]
 refine hr x y tr t0.1.1 _ _ _ hl ⟨t0, ht0, rfl⟩ fun q S1 hq hx => ?_
 dsimp! [seq_at hq]
 generalize hLL : (tr.filter fun t => decide (t.1.1 = t0.1.1)).map ftP = LL at *
 refine forI (fun rest σ S2 => ∃ (us : List ((Str × Fm) × PV)) (j3 j4 : Option PV), rest = us.map ftP ∧ S2 = S1 ∧ t0 ∈ us ∧ (∀ t ∈ us, t ∈ tr ∧ t.1.1 = t0.1.1) ∧ σ = [some (bkP x y tr), some (.str t0.1.1), some t0.1.2.pv, j3, j4]) ?_ ?_ _ _ _ ⟨tr.filter fun t => decide (t.1.1 = t0.1.1), _, _, hLL.symm, rfl, List.mem_filter.mpr ⟨ht0, by simp⟩, fun t ht => ⟨(List.mem_filter.mp ht).1, by simpa using (List.mem_filter.mp ht).2⟩, rfl⟩
 ·rintro σ S2 ⟨us, j3, j4, hr', rfl, hm, _⟩
  cases us with
  | nil => cases hm
  | cons a b => simp at hr'
 ·rintro z rest σ S2 ⟨us, j3, j4, hr', rfl, hm, ha, rfl⟩ N hN
  obtain ⟨t, us, rfl⟩ : ∃ p r, us = p :: r := by
   cases us with
   | nil => simp at hr'
   | cons a b => exact ⟨a, b, rfl⟩
  simp only [List.map_cons, List.cons.injEq] at hr'
  obtain ⟨rfl, rfl⟩ := hr'
  refine ⟨seq_at hq, ?_⟩
  obtain ⟨ht, hw⟩ := ha t (by simp)
  have t5 := h5 t ht
  dsimp! [ftP, cEq_fm (f := t.1.2) (g := t0.1.2) (Nat.le_trans t.1.2.dp_lv (by omega)) (Nat.le_trans t0.1.2.dp_lv (by omega))]
  refine ite2 (fun c => ?_) (fun c => hN _ _ ⟨us, _, _, rfl, rfl, ?_, fun u hu => ha u (by simp [hu]), rfl⟩)
  ·have ek : t.1 = t0.1 := Prod.ext hw c
   have := h S2 hx
   rw [← ek, lkT_of nd ht] at this
   exact this
  ·rcases List.mem_cons.mp hm with z | z
   ·subst z; exact absurd rfl c
   ·exact z
noncomputable def MngD (sp : Den) : Prop := ∀ (x y : PV) (tr : List ((Str × Fm) × PV)) (ws : List Str) (r : Rd) (a b : Int) (g : Fm), r.is a b g → r.sm → r.lv ≤ 10 → GB tr ws r → ∀ (S : Store) (E : EK) (Q : VC), (∀ S', Ex [] S S' → Q (r.tm (LK tr ws)) S') → sp [bkP x y tr, .tup (ws.map PV.str), r.pv] S E Q
theorem mng_ok {st s1 s2 sf : Den} (ht : TermOfD st) (h1 : WoD s2 10) (hf : ∀ L, FtD L sf 10) (hs : s1 = fnP 2 2 (w_meaning_with_52ef sf)) : MngD (fnP 3 4 (w_meaning_2428 st s2 s1)) := by
 intro x y tr ws r a b g his hsm hr gb S E Q h
 refine ⟨rfl, ?_⟩
 unfold w_meaning_2428
 refine seqI fun K hK => ?_
 dsimp! [true_and]
 refine h1 r hr _ _ _ fun q S1 _ hq hx1 => ?_
 dsimp! [seq_at hq]
 obtain ⟨_, _, nd⟩ := ws_in his
 have hl := ws_len r
 refine dcI (fun rest σ S2 => ∃ (ps qs : List (Int × Fm)) (kvs : List (Key × PV)) (j1 j2 : Option PV), rest = ps.map encW ∧ σ = [j1, j2, some (bkP x y tr), some (.tup (ws.map PV.str))] ∧ qs ++ ps = r.ws ∧ S2[S1.length]? = some (.dK kvs) ∧ S2[q]? = some (.lst (r.ws.map encW)) ∧ Ex [] S S2 ∧ kvs.length ≤ qs.length ∧ (∀ p ∈ qs, valP kvs (.inl p.1) = some (LK tr ws p))) ?_ ?_ _ _ _ ⟨r.ws, [], [], none, none, rfl, rfl, rfl, at_new _ _, at_old hq _, hx1.app _, Nat.le_refl _, by simp⟩
 ·rintro σ S2 ⟨ps, qs, kvs, j1, j2, hr', rfl, e, k1, k2, k3, k4, k5⟩
  obtain rfl : ps = [] := by cases ps with
   | nil => rfl
   | cons a b => simp at hr'
  rw [List.append_nil] at e
  refine ⟨seq_at k2, hK _ _ ?_⟩
  dsimp! [true_and]
  rw [hs]
  refine ⟨rfl, ?_⟩
  unfold w_meaning_with_52ef
  dsimp! [true_and]
  refine hf (LK tr ws) r a b g his hsm hr _ kvs S2 _ _ k1 (fun p hp => k5 p (by rw [e]; exact hp)) ?_
  dsimp! [pairs1]
  exact h _ k3
 ·rintro z rest σ S2 ⟨ps, qs, kvs, j1, j2, hr', rfl, e, k1, k2, k3, k4, k5⟩ N hN
  obtain ⟨p, ps, rfl⟩ : ∃ p r, ps = p :: r := by
   cases ps with
   | nil => simp at hr'
   | cons a b => exact ⟨a, b, rfl⟩
  simp only [List.map_cons, List.cons.injEq] at hr'
  obtain ⟨rfl, rfl⟩ := hr'
  refine ⟨seq_at k2, ?_⟩
  have hle := congrArg List.length e
  simp only [List.length_append, List.length_cons] at hle
  have hq2 := lt_of_at k2
  have hq1 := lt_of_at hq
  have hS1 := lt_of_at k1
  obtain ⟨p0, p1, pk, p5⟩ := gb.all p (by rw [← e]; simp)
  dsimp! [encW, ky_at p0 p1]
  refine ht x y tr (ky ws p) _ _ _ (Nat.le_trans gb.len (by decide)) gb.nd (fun t ht => (gb.ok t ht).2) pk fun S3 hx3 => ?_
  have k1' := hx3.get k1 (by simp)
  have k2' := hx3.get k2 (by simp)
  refine ⟨kvs, .inl p.1, k1', rfl, bigl (by omega), hN _ _ ⟨ps, qs ++ [p], putP kvs (.inl p.1) (LK tr ws p), _, _, rfl, rfl, by rw [← e]; simp, at_set _ k1', at_ne _ k2' (by omega), (k3.trans hx3).set (.inr hx1.1), ?_, ?_⟩⟩
  ·have := putP_len kvs (.inl p.1) (LK tr ws p)
   simp only [List.length_append, List.length_singleton]; omega
  ·intro p' hp'
   rcases List.mem_append.mp hp' with z | z
   ·have hne : p'.1 ≠ p.1 := by
     intro y
     rw [← e, List.map_append, List.nodup_append] at nd
     exact nd.2.2 p'.1 (List.mem_map.mpr ⟨p', z, rfl⟩) p.1 (by simp) y
    rw [valP_other _ _ _ _ (by simpa using hne)]
    exact k5 p' z
   ·rw [List.mem_singleton] at z
    subst z
    exact valP_same _ _ _
section
open PySem L2 Ev PySem.Spec PyProof.Rows
noncomputable def top (i : Nat) : Stmt := PySem.Challenge.pw_slashwise_k61_meaning_by_a_book.main.body.getD i (.Pass ⟨0, 0, 0, 0⟩)
noncomputable abbrev sLdeck : Stmt := top 19
theorem scLdeck : FnScope ["_law_script", "_law_cells", "_law_mixed"] ["_law_script"] (defScope sLdeck) := ⟨rfl, rfl, rfl, by decide +kernel, rfl, by decide +kernel, by decide +kernel⟩
noncomputable abbrev sLnext : Stmt := top 20
theorem scLnext : FnScope ["_law_deck_here", "_law_cells", "_law_cell", "_law_number"] ["_law_deck_here"] (defScope sLnext) := ⟨rfl, rfl, rfl, by decide +kernel, rfl, by decide +kernel, by decide +kernel⟩
noncomputable abbrev sLspelled : Stmt := top 21
theorem scLspelled : FnScope ["_law_number", "_law_size", "_law_word_here", "_law_k"] ["_law_number", "_law_size"] (defScope sLspelled) := ⟨rfl, rfl, rfl, by decide +kernel, rfl, by decide +kernel, by decide +kernel⟩
noncomputable abbrev sLword : Stmt := top 22
theorem scLword : FnScope ["_law_deck_here", "_law_words_here", "_law_way", "_law_number", "_law_size", "_law_word_here", "_law_at"] ["_law_deck_here", "_law_words_here"] (defScope sLword) := ⟨rfl, rfl, rfl, by decide +kernel, rfl, by decide +kernel, by decide +kernel⟩
noncomputable abbrev sLwords : Stmt := top 23
theorem scLwords : FnScope ["_law_deck_here", "_law_many", "_law_words_here", "_law_k"] ["_law_deck_here", "_law_many"] (defScope sLwords) := ⟨rfl, rfl, rfl, by decide +kernel, rfl, by decide +kernel, by decide +kernel⟩
noncomputable abbrev sLwide : Stmt := top 24
theorem scLwide : FnScope ["_law_form"] ["_law_form"] (defScope sLwide) := ⟨rfl, rfl, rfl, by decide +kernel, rfl, by decide +kernel, by decide +kernel⟩
noncomputable abbrev sLother : Stmt := top 25
theorem scLother : FnScope ["_law_deck_here", "_law_basics", "_law_form", "_law_way", "_law_one"] ["_law_deck_here", "_law_basics", "_law_form"] (defScope sLother) := ⟨rfl, rfl, rfl, by decide +kernel, rfl, by decide +kernel, by decide +kernel⟩
noncomputable abbrev sLtree : Stmt := top 26
theorem scLtree : FnScope ["_law_deck_here", "_law_basics", "_law_form", "_law_at", "_law_many", "_law_cut", "_law_way", "_law_other_here", "_law_sign", "_law_some", "_law_left"] ["_law_deck_here", "_law_basics", "_law_form", "_law_at", "_law_many"] (defScope sLtree) := ⟨rfl, rfl, rfl, by decide +kernel, rfl, by decide +kernel, by decide +kernel⟩
noncomputable abbrev sLdrawn_form : Stmt := top 27
theorem scLdrawn_form : FnScope ["_law_deck_here", "_law_basics", "_law_one", "_law_other_here", "_law_way"] ["_law_deck_here", "_law_basics"] (defScope sLdrawn_form) := ⟨rfl, rfl, rfl, by decide +kernel, rfl, by decide +kernel, by decide +kernel⟩
noncomputable abbrev sLwithin : Stmt := top 31
theorem scLwithin : FnScope ["_law_reading"] ["_law_reading"] (defScope sLwithin) := ⟨rfl, rfl, rfl, by decide +kernel, rfl, by decide +kernel, by decide +kernel⟩
noncomputable abbrev sLwords_of : Stmt := top 32
theorem scLwords_of : FnScope ["_law_reading"] ["_law_reading"] (defScope sLwords_of) := ⟨rfl, rfl, rfl, by decide +kernel, rfl, by decide +kernel, by decide +kernel⟩
noncomputable abbrev sLsentence : Stmt := top 37
theorem scLsentence : FnScope ["_law_deck_here", "_law_reading", "_law_some", "_law_words_here"] ["_law_deck_here", "_law_reading"] (defScope sLsentence) := ⟨rfl, rfl, rfl, by decide +kernel, rfl, by decide +kernel, by decide +kernel⟩
noncomputable abbrev sLnamed : Stmt := top 33
theorem scLnamed : FnScope ["_law_book_names", "_law_words_here", "_law_kind", "_law_name", "_law_other_here"] ["_law_book_names", "_law_words_here", "_law_kind"] (defScope sLnamed) := ⟨rfl, rfl, rfl, by decide +kernel, rfl, by decide +kernel, by decide +kernel⟩
noncomputable abbrev sLapplied : Stmt := top 34
theorem scLapplied : FnScope ["_law_deck_here", "_law_names", "_law_words_here", "_law_kinds", "_law_last", "_law_left", "_law_some", "_law_k", "_law_kind", "_law_body"] ["_law_deck_here", "_law_names", "_law_words_here", "_law_kinds", "_law_last"] (defScope sLapplied) := ⟨rfl, rfl, rfl, by decide +kernel, rfl, by decide +kernel, by decide +kernel⟩
noncomputable abbrev sLterm : Stmt := top 35
theorem scLterm : FnScope ["_law_deck_here", "_law_names", "_law_words_here", "_law_kind", "_law_way", "_law_kinds", "_law_last", "_law_body", "_law_i", "_law_j", "_law_one"] ["_law_deck_here", "_law_names", "_law_words_here", "_law_kind"] (defScope sLterm) := ⟨rfl, rfl, rfl, by decide +kernel, rfl, by decide +kernel, by decide +kernel⟩
noncomputable abbrev sLkind_of_form : Stmt := top 28
theorem scLkind_of_form : FnScope ["_law_form"] ["_law_form"] (defScope sLkind_of_form) := ⟨rfl, rfl, rfl, by decide +kernel, rfl, by decide +kernel, by decide +kernel⟩
noncomputable abbrev sLbook : Stmt := top 36
theorem scLbook : FnScope ["_law_deck_here", "_law_basics", "_law_some", "_law_names", "_law_words_here", "_law_triples", "_law_word_here", "_law_form"] ["_law_deck_here", "_law_basics", "_law_some"] (defScope sLbook) := ⟨rfl, rfl, rfl, by decide +kernel, rfl, by decide +kernel, by decide +kernel⟩
noncomputable abbrev sLmeans : Stmt := top 38
theorem scLmeans : FnScope ["_law_book_here", "_law_words_here", "_law_reading", "_law_means_here", "_law_place", "_law_form", "_law_word_here", "_law_other_here", "_law_term_here"] ["_law_book_here", "_law_words_here", "_law_reading"] (defScope sLmeans) := ⟨rfl, rfl, rfl, by decide +kernel, rfl, by decide +kernel, by decide +kernel⟩
noncomputable abbrev sLsame : Stmt := top 39
theorem scLsame : FnScope ["_law_one", "_law_other_here"] ["_law_one", "_law_other_here"] (defScope sLsame) := ⟨rfl, rfl, rfl, by decide +kernel, rfl, by decide +kernel, by decide +kernel⟩
noncomputable abbrev srows_of : Stmt := top 7
theorem scrows_of : FnScope ["book", "word", "rows"] ["book", "word"] (defScope srows_of) := ⟨rfl, rfl, rfl, by decide +kernel, rfl, by decide +kernel, by decide +kernel⟩
noncomputable abbrev sterm_of : Stmt := top 8
theorem scterm_of : FnScope ["book", "word", "form", "own", "term"] ["book", "word", "form"] (defScope sterm_of) := ⟨rfl, rfl, rfl, by decide +kernel, rfl, by decide +kernel, by decide +kernel⟩
noncomputable abbrev swords_of : Stmt := top 15
theorem scwords_of : FnScope ["reading"] ["reading"] (defScope swords_of) := ⟨rfl, rfl, rfl, by decide +kernel, rfl, by decide +kernel, by decide +kernel⟩
noncomputable abbrev smade : Stmt := top 10
theorem scmade : FnScope ["left", "right"] ["left", "right"] (defScope smade) := ⟨rfl, rfl, rfl, by decide +kernel, rfl, by decide +kernel, by decide +kernel⟩
noncomputable abbrev skind_of_form : Stmt := top 5
theorem sckind_of_form : FnScope ["form"] ["form"] (defScope skind_of_form) := ⟨rfl, rfl, rfl, by decide +kernel, rfl, by decide +kernel, by decide +kernel⟩
noncomputable abbrev sjoined : Stmt := top 12
theorem scjoined : FnScope ["wanted", "f", "g"] ["wanted", "f", "g"] (defScope sjoined) := ⟨rfl, rfl, rfl, by decide +kernel, rfl, by decide +kernel, by decide +kernel⟩
noncomputable abbrev smeant : Stmt := top 11
theorem scmeant : FnScope ["sign", "left", "right", "first", "second"] ["sign", "left", "right", "first", "second"] (defScope smeant) := ⟨rfl, rfl, rfl, by decide +kernel, rfl, by decide +kernel, by decide +kernel⟩
noncomputable abbrev sform_and_term : Stmt := top 17
theorem scform_and_term : FnScope ["reading", "terms", "left", "first", "right", "second", "sign", "form"] ["reading", "terms"] (defScope sform_and_term) := ⟨rfl, rfl, rfl, by decide +kernel, rfl, by decide +kernel, by decide +kernel⟩
noncomputable abbrev smeaning_with : Stmt := top 16
theorem scmeaning_with : FnScope ["reading", "terms"] ["reading", "terms"] (defScope smeaning_with) := ⟨rfl, rfl, rfl, by decide +kernel, rfl, by decide +kernel, by decide +kernel⟩
noncomputable abbrev smeaning : Stmt := top 14
theorem scmeaning : FnScope ["book", "words", "reading", "terms"] ["book", "words", "reading"] (defScope smeaning) := ⟨rfl, rfl, rfl, by decide +kernel, rfl, by decide +kernel, by decide +kernel⟩
noncomputable abbrev sLjoined : Stmt := top 29
theorem scLjoined : FnScope ["_law_sign", "_law_left", "_law_right"] ["_law_sign", "_law_left", "_law_right"] (defScope sLjoined) := ⟨rfl, rfl, rfl, by decide +kernel, rfl, by decide +kernel, by decide +kernel⟩
noncomputable abbrev sLmeant : Stmt := top 30
theorem scLmeant : FnScope ["_law_reading", "_law_means_here", "_law_left", "_law_first", "_law_right", "_law_second", "_law_form"] ["_law_reading", "_law_means_here"] (defScope sLmeant) := ⟨rfl, rfl, rfl, by decide +kernel, rfl, by decide +kernel, by decide +kernel⟩
noncomputable abbrev slaw : Stmt := top 40
theorem sclaw : FnScope ["_law_script", "_law_deck_here", "_law_basics", "_law_reading", "_law_words_here", "_law_some", "_law_turn", "_law_book_here", "_law_means_here", "_law_one"] ["_law_script"] (defScope slaw) := ⟨rfl, rfl, rfl, by decide +kernel, rfl, by decide +kernel, by decide +kernel⟩
theorem simLdeck {P : Program} {w : World} {K : PySem.W.Frag} {mg : Str → Option Value} {base : Heap} {f : Addr} {k : Nat} (z_sum : mg "sum" = none) {cdv : Value} {A : Around} {outer : List Env} {s : Shared} {H : Hp} {E : XK} {G : GX} (hr : Room k (A.deeper (envOfC "_law_deck" (defScope sLdeck) s.heap.objs.size f cdv))) (hx : Passes (CXE P w) (cxOf (CXE P w) P w K mg base ["_law_script", "_law_cells", "_law_mixed"] "_law_deck" (defScope sLdeck) f cdv A outer s H E) (xkOf K G.xh)) :
  SimSs (cxOf (CXE P w) P w K mg base ["_law_script", "_law_cells", "_law_mixed"] "_law_deck" (defScope sLdeck) f cdv A outer s H E) G (defBody sLdeck) (w_Ldeck_1929) := by
 have hu : (A.deeper (envOfC "_law_deck" (defScope sLdeck) s.heap.objs.size f cdv)).units + 200 < cLine := by have := hr.un; omega
 unfold w_Ldeck_1929
 exact (sims_cons (sim_set 1 scLdeck.nd (sim_bin ops_add (sim_slice (sim_var 0) simO_none (simO_some sim_int)) (sim_lst (simA_cons sim_int simA_nil))))
 (sims_cons (sim_set 2 scLdeck.nd (sim_cmp (ops_eq hu) (sim_bin ops_mod (sim_ix hu (sim_var 1) sim_int) sim_int) sim_int (nomark _)))
 (sims_cons (sim_asg (sim_bin ops_fdiv (sim_ix hu (sim_var 1) sim_int) sim_int) (simG_sub (sets hu) (sim_var 1) sim_int))
 (sims_one (sim_ret (sim_disp (simD_cons sim_str (sim_var 1) (simD_cons sim_str sim_int (simD_cons sim_str sim_int (simD_cons sim_str (sim_bin ops_add sim_int (sim_bin ops_mod (sim_callB (calls_sum rfl) z_sum L2.boot_sum (simA_cons (sim_var 1) simA_nil)) sim_int)) (simD_cons sim_str (sim_var 2) simD_nil)))))))))))
theorem simLnext {P : Program} {w : World} {K : PySem.W.Frag} {mg : Str → Option Value} {base : Heap} {f : Addr} {k : Nat} (z_len : mg "len" = none) {cdv : Value} {A : Around} {outer : List Env} {s : Shared} {H : Hp} {E : XK} {G : GX} (hr : Room k (A.deeper (envOfC "_law_next" (defScope sLnext) s.heap.objs.size f cdv))) (hx : Passes (CXE P w) (cxOf (CXE P w) P w K mg base ["_law_deck_here", "_law_cells", "_law_cell", "_law_number"] "_law_next" (defScope sLnext) f cdv A outer s H E) (xkOf K G.xh)) :
  SimSs (cxOf (CXE P w) P w K mg base ["_law_deck_here", "_law_cells", "_law_cell", "_law_number"] "_law_next" (defScope sLnext) f cdv A outer s H E) G (defBody sLnext) (w_Lnext_2686) := by
 have hu : (A.deeper (envOfC "_law_next" (defScope sLnext) s.heap.objs.size f cdv)).units + 200 < cLine := by have := hr.un; omega
 unfold w_Lnext_2686
 exact (sims_cons (sim_set 1 scLnext.nd (sim_ix hu (sim_var 0) sim_str))
 (sims_cons (sim_if (simT_tru (sim_ix hu (sim_var 0) sim_str)) (sims_cons (sim_asg (sim_bin ops_add (sim_ix hu (sim_var 0) sim_str) sim_int) (simG_sub (sets hu) (sim_var 0) sim_str))
 (sims_cons (sim_set 2 scLnext.nd (sim_ix hu (sim_var 1) (sim_bin ops_mod (sim_ix hu (sim_var 0) sim_str) (sim_callB calls_len z_len PySem.boot_len (simA_cons (sim_var 1) simA_nil)))))
 (sims_cons (sim_asg (sim_bin ops_mod (sim_bin ops_add (sim_bin ops_add (sim_bin ops_mul (sim_ix hu (sim_var 0) sim_str) sim_int) (sim_var 2)) (sim_ix hu (sim_var 0) sim_str)) sim_int) (simG_sub (sets hu) (sim_var 0) sim_str))
 (sims_cons (sim_set 3 scLnext.nd (sim_bin ops_mod (sim_bin ops_add (sim_bin ops_mul (sim_ix hu (sim_var 0) sim_str) (sim_ix hu (sim_var 0) sim_str)) (sim_bin ops_mul sim_int (sim_ix hu (sim_var 0) sim_str))) sim_int))
 (sims_one (sim_ret (sim_bin ops_mod (sim_bin ops_mul (sim_var 3) (sim_bin ops_add (sim_var 3) sim_int)) sim_int))))))) sims_nil)
 (sims_cons (sim_set 3 scLnext.nd (sim_bin ops_mod (sim_ix hu (sim_var 1) sim_int) (sim_bin ops_pow sim_int sim_int)))
 (sims_cons (sim_asg (sim_bin ops_fdiv (sim_ix hu (sim_var 1) sim_int) (sim_bin ops_pow sim_int sim_int)) (simG_sub (sets hu) (sim_var 1) sim_int))
 (sims_cons (sim_asg (sim_bin ops_sub (sim_ix hu (sim_var 0) sim_str) sim_int) (simG_sub (sets hu) (sim_var 0) sim_str))
 (sims_cons (sim_if (SimW.t (simW_and (simT_cmp (ops_eq hu) (sim_ix hu (sim_var 0) sim_str) sim_int (nomark _)) (simW_and1 (simT_cmp ops_gt (sim_callB calls_len z_len PySem.boot_len (simA_cons (sim_var 1) simA_nil)) sim_int (nomark _))))) (sims_cons (sim_expr (sim_bm PySem.F.plainAttrs_list PySem.F.slot_list_pop PySem.F.type_list_pop mts_popAt (sim_var 1) (simA_cons sim_int simA_nil)))
 (sims_one (sim_asg sim_int (simG_sub (sets hu) (sim_var 0) sim_str)))) sims_nil)
 (sims_one (sim_ret (sim_var 3)))))))))
theorem simLspelled {P : Program} {w : World} {K : PySem.W.Frag} {mg : Str → Option Value} {base : Heap} {f : Addr} {k : Nat} (z_range : mg "range" = none) {cdv : Value} {A : Around} {outer : List Env} {s : Shared} {H : Hp} {E : XK} {G : GX} (hr : Room k (A.deeper (envOfC "_law_spelled" (defScope sLspelled) s.heap.objs.size f cdv))) (hx : Passes (CXE P w) (cxOf (CXE P w) P w K mg base ["_law_number", "_law_size", "_law_word_here", "_law_k"] "_law_spelled" (defScope sLspelled) f cdv A outer s H E) (xkOf K G.xh)) :
  SimSs (cxOf (CXE P w) P w K mg base ["_law_number", "_law_size", "_law_word_here", "_law_k"] "_law_spelled" (defScope sLspelled) f cdv A outer s H E) G (defBody sLspelled) (w_Lspelled_70ad) := by
 have hu : (A.deeper (envOfC "_law_spelled" (defScope sLspelled) s.heap.objs.size f cdv)).units + 200 < cLine := by have := hr.un; omega
 unfold w_Lspelled_70ad
 exact (sims_cons (sim_set 2 scLspelled.nd sim_str)
 (sims_cons (sim_for PassesOwn.leaving rfl (simI_range z_range (simA_cons (sim_var 1) simA_nil)) (simG_name (i := 3) scLspelled.nd) (sims_cons (sim_set 2 scLspelled.nd (sim_bin ops_add (sim_var 2) (sim_ix hu sim_str (sim_bin ops_mod (sim_var 0) sim_int))))
 (sims_one (sim_set 0 scLspelled.nd (sim_bin ops_fdiv (sim_var 0) sim_int)))))
 (sims_one (sim_ret (sim_var 2)))))
theorem simLword {P : Program} {w : World} {K : PySem.W.Frag} {mg : Str → Option Value} {base : Heap} {f : Addr} {k : Nat} {spLnext : Den} {fLnext : Addr} {fdLnext : FuncData} {spLspelled : Den} {fLspelled : Addr} {fdLspelled : FuncData} (z_len : mg "len" = none) (C_law_next : Cal P w K mg base k "_law_next" ["_law_deck_here"] (spLift K spLnext) fLnext fdLnext) (C_law_spelled : Cal P w K mg base k "_law_spelled" ["_law_number", "_law_size"] (spLift K spLspelled) fLspelled fdLspelled) {cdv : Value} {A : Around} {outer : List Env} {s : Shared} {H : Hp} {E : XK} {G : GX} (hr : Room k (A.deeper (envOfC "_law_word" (defScope sLword) s.heap.objs.size f cdv))) (hx : Passes (CXE P w) (cxOf (CXE P w) P w K mg base ["_law_deck_here", "_law_words_here", "_law_way", "_law_number", "_law_size", "_law_word_here", "_law_at"] "_law_word" (defScope sLword) f cdv A outer s H E) (xkOf K G.xh)) :
  SimSs (cxOf (CXE P w) P w K mg base ["_law_deck_here", "_law_words_here", "_law_way", "_law_number", "_law_size", "_law_word_here", "_law_at"] "_law_word" (defScope sLword) f cdv A outer s H E) G (defBody sLword) (w_Lword_e7ab spLnext spLspelled) := by
 have hu : (A.deeper (envOfC "_law_word" (defScope sLword) s.heap.objs.size f cdv)).units + 200 < cLine := by have := hr.un; omega
 unfold w_Lword_e7ab
 exact (sims_cons (sim_set 2 scLword.nd (sim_call C_law_next hr hx (simA_cons (sim_var 0) simA_nil)))
 (sims_cons (sim_set 3 scLword.nd (sim_call C_law_next hr hx (simA_cons (sim_var 0) simA_nil)))
 (sims_cons (sim_set 4 scLword.nd (sim_bin ops_add sim_int (sim_bin ops_mod (sim_var 2) sim_int)))
 (sims_cons (sim_set 5 scLword.nd (sim_call C_law_spelled hr hx (simA_cons (sim_var 3) (simA_cons (sim_var 4) simA_nil))))
 (sims_cons (sim_if (SimW.t (simW_and (simT_cmp (ops_ne hu) (sim_var 1) (sim_lst simA_nil) (nomark _)) (simW_and1 (simT_cmp (ops_eq hu) (sim_bin ops_mod (sim_bin ops_fdiv (sim_var 2) sim_int) sim_int) sim_int (nomark _))))) (sims_cons (sim_set 6 scLword.nd (sim_bin ops_mod (sim_bin ops_fdiv (sim_var 2) sim_int) (sim_callB calls_len z_len PySem.boot_len (simA_cons (sim_ix hu (sim_var 1) sim_int) simA_nil))))
 (sims_one (sim_set 5 scLword.nd (sim_bin ops_add (sim_bin ops_add (sim_slice (sim_ix hu (sim_var 1) sim_int) simO_none (simO_some (sim_var 6))) (sim_ix hu (sim_var 5) sim_int)) (sim_slice (sim_ix hu (sim_var 1) sim_int) (simO_some (sim_bin ops_add (sim_var 6) sim_int)) simO_none))))) sims_nil)
 (sims_cons (sim_while PassesOwn.leaving (SimW.t (simW_or (simT_cmp (ops_in hu) (sim_var 5) (sim_var 1) (by with_unfolding_all rfl)) (simW_or1 (simT_cmp (ops_eq hu) (sim_var 5) sim_str (nomark _))))) (sims_cons (sim_set 3 scLword.nd (sim_bin ops_add (sim_var 3) sim_int))
 (sims_cons (sim_set 4 scLword.nd (sim_bin ops_add (sim_bin ops_mod (sim_var 4) sim_int) sim_int))
 (sims_one (sim_set 5 scLword.nd (sim_call C_law_spelled hr hx (simA_cons (sim_var 3) (simA_cons (sim_var 4) simA_nil))))))))
 (sims_one (sim_ret (sim_var 5)))))))))
theorem simLwords {P : Program} {w : World} {K : PySem.W.Frag} {mg : Str → Option Value} {base : Heap} {f : Addr} {k : Nat} {spLword : Den} {fLword : Addr} {fdLword : FuncData} (z_range : mg "range" = none) (C_law_word : Cal P w K mg base k "_law_word" ["_law_deck_here", "_law_words_here"] (spLift K spLword) fLword fdLword) {cdv : Value} {A : Around} {outer : List Env} {s : Shared} {H : Hp} {E : XK} {G : GX} (hr : Room k (A.deeper (envOfC "_law_words" (defScope sLwords) s.heap.objs.size f cdv))) (hx : Passes (CXE P w) (cxOf (CXE P w) P w K mg base ["_law_deck_here", "_law_many", "_law_words_here", "_law_k"] "_law_words" (defScope sLwords) f cdv A outer s H E) (xkOf K G.xh)) :
  SimSs (cxOf (CXE P w) P w K mg base ["_law_deck_here", "_law_many", "_law_words_here", "_law_k"] "_law_words" (defScope sLwords) f cdv A outer s H E) G (defBody sLwords) (w_Lwords_3282 spLword) := by
 have hu : (A.deeper (envOfC "_law_words" (defScope sLwords) s.heap.objs.size f cdv)).units + 200 < cLine := by have := hr.un; omega
 unfold w_Lwords_3282
 exact (sims_cons (sim_set 2 scLwords.nd (sim_lst simA_nil))
 (sims_cons (sim_for PassesOwn.leaving rfl (simI_range z_range (simA_cons (sim_var 1) simA_nil)) (simG_name (i := 3) scLwords.nd) (sims_one (sim_expr (sim_bm PySem.F.plainAttrs_list PySem.F.slot_list_append PySem.F.type_list_append mts_append (sim_var 2) (simA_cons (sim_call C_law_word hr hx (simA_cons (sim_var 0) (simA_cons (sim_var 2) simA_nil))) simA_nil)))))
 (sims_one (sim_ret (sim_var 2)))))
theorem simLwide {P : Program} {w : World} {K : PySem.W.Frag} {mg : Str → Option Value} {base : Heap} {f : Addr} {k : Nat} {spLwide : Den} {fLwide : Addr} {fdLwide : FuncData} (C_law_wide : Cal P w K mg base k "_law_wide" ["_law_form"] (spLift K spLwide) fLwide fdLwide) {cdv : Value} {A : Around} {outer : List Env} {s : Shared} {H : Hp} {E : XK} {G : GX} (hr : Room k (A.deeper (envOfC "_law_wide" (defScope sLwide) s.heap.objs.size f cdv))) (hx : Passes (CXE P w) (cxOf (CXE P w) P w K mg base ["_law_form"] "_law_wide" (defScope sLwide) f cdv A outer s H E) (xkOf K G.xh)) :
  SimSs (cxOf (CXE P w) P w K mg base ["_law_form"] "_law_wide" (defScope sLwide) f cdv A outer s H E) G (defBody sLwide) (w_Lwide_d829 spLwide) := by
 have hu : (A.deeper (envOfC "_law_wide" (defScope sLwide) s.heap.objs.size f cdv)).units + 200 < cLine := by have := hr.un; omega
 unfold w_Lwide_d829
 exact (sims_cons (sim_if (simT_cmp (ops_eq hu) (sim_ix hu (sim_var 0) sim_int) sim_str (nomark _)) (sims_one (sim_ret sim_int)) sims_nil)
 (sims_one (sim_ret (sim_bin ops_add (sim_call C_law_wide hr hx (simA_cons (sim_ix hu (sim_var 0) sim_int) simA_nil)) (sim_call C_law_wide hr hx (simA_cons (sim_ix hu (sim_var 0) sim_int) simA_nil))))))
theorem simLother {P : Program} {w : World} {K : PySem.W.Frag} {mg : Str → Option Value} {base : Heap} {f : Addr} {k : Nat} {spLnext : Den} {fLnext : Addr} {fdLnext : FuncData} {spLwide : Den} {fLwide : Addr} {fdLwide : FuncData} (z_len : mg "len" = none) (C_law_next : Cal P w K mg base k "_law_next" ["_law_deck_here"] (spLift K spLnext) fLnext fdLnext) (C_law_wide : Cal P w K mg base k "_law_wide" ["_law_form"] (spLift K spLwide) fLwide fdLwide) {cdv : Value} {A : Around} {outer : List Env} {s : Shared} {H : Hp} {E : XK} {G : GX} (hr : Room k (A.deeper (envOfC "_law_other" (defScope sLother) s.heap.objs.size f cdv))) (hx : Passes (CXE P w) (cxOf (CXE P w) P w K mg base ["_law_deck_here", "_law_basics", "_law_form", "_law_way", "_law_one"] "_law_other" (defScope sLother) f cdv A outer s H E) (xkOf K G.xh)) :
  SimSs (cxOf (CXE P w) P w K mg base ["_law_deck_here", "_law_basics", "_law_form", "_law_way", "_law_one"] "_law_other" (defScope sLother) f cdv A outer s H E) G (defBody sLother) (w_Lother_a5e2 spLnext spLwide) := by
 have hu : (A.deeper (envOfC "_law_other" (defScope sLother) s.heap.objs.size f cdv)).units + 200 < cLine := by have := hr.un; omega
 unfold w_Lother_a5e2
 exact (sims_cons (sim_set 3 scLother.nd (sim_call C_law_next hr hx (simA_cons (sim_var 0) simA_nil)))
 (sims_cons (sim_set 4 scLother.nd (sim_tup (simA_cons sim_str (simA_cons (sim_ix hu (sim_var 1) (sim_bin ops_mod (sim_var 3) (sim_callB calls_len z_len PySem.boot_len (simA_cons (sim_var 1) simA_nil)))) simA_nil))))
 (sims_cons (sim_if (SimW.t (simW_or (simT_cmp ops_gt (sim_bin ops_mod (sim_bin ops_fdiv (sim_var 3) sim_int) sim_int) sim_int (nomark _)) (simW_or1 (simT_cmp ops_gt (sim_call C_law_wide hr hx (simA_cons (sim_var 2) simA_nil)) sim_int (nomark _))))) (sims_one (sim_ret (sim_var 4))) sims_nil)
 (sims_one (sim_ret (sim_tup (simA_cons (sim_ix hu (sim_lst (simA_cons sim_str (simA_cons sim_str simA_nil))) (sim_bin ops_mod (sim_bin ops_fdiv (sim_var 3) sim_int) sim_int)) (simA_cons (sim_var 4) (simA_cons (sim_tup (simA_cons sim_str (simA_cons (sim_ix hu (sim_var 1) (sim_bin ops_mod (sim_bin ops_fdiv (sim_var 3) sim_int) (sim_callB calls_len z_len PySem.boot_len (simA_cons (sim_var 1) simA_nil)))) simA_nil))) simA_nil)))))))))
theorem simLtree {P : Program} {w : World} {K : PySem.W.Frag} {mg : Str → Option Value} {base : Heap} {f : Addr} {k : Nat} {spLnext : Den} {fLnext : Addr} {fdLnext : FuncData} {spLother : Den} {fLother : Addr} {fdLother : FuncData} {spLwide : Den} {fLwide : Addr} {fdLwide : FuncData} {spLtree : Den} {fLtree : Addr} {fdLtree : FuncData} (C_law_next : Cal P w K mg base k "_law_next" ["_law_deck_here"] (spLift K spLnext) fLnext fdLnext) (C_law_other : Cal P w K mg base k "_law_other" ["_law_deck_here", "_law_basics", "_law_form"] (spLift K spLother) fLother fdLother) (C_law_wide : Cal P w K mg base k "_law_wide" ["_law_form"] (spLift K spLwide) fLwide fdLwide) (C_law_tree : Cal P w K mg base k "_law_tree" ["_law_deck_here", "_law_basics", "_law_form", "_law_at", "_law_many"] (spLift K spLtree) fLtree fdLtree) {cdv : Value} {A : Around} {outer : List Env} {s : Shared} {H : Hp} {E : XK} {G : GX} (hr : Room k (A.deeper (envOfC "_law_tree" (defScope sLtree) s.heap.objs.size f cdv))) (hx : Passes (CXE P w) (cxOf (CXE P w) P w K mg base ["_law_deck_here", "_law_basics", "_law_form", "_law_at", "_law_many", "_law_cut", "_law_way", "_law_other_here", "_law_sign", "_law_some", "_law_left"] "_law_tree" (defScope sLtree) f cdv A outer s H E) (xkOf K G.xh)) :
  SimSs (cxOf (CXE P w) P w K mg base ["_law_deck_here", "_law_basics", "_law_form", "_law_at", "_law_many", "_law_cut", "_law_way", "_law_other_here", "_law_sign", "_law_some", "_law_left"] "_law_tree" (defScope sLtree) f cdv A outer s H E) G (defBody sLtree) (w_Ltree_6b41 spLnext spLother spLwide spLtree) := by
 have hu : (A.deeper (envOfC "_law_tree" (defScope sLtree) s.heap.objs.size f cdv)).units + 200 < cLine := by have := hr.un; omega
 unfold w_Ltree_6b41
 exact (sims_cons (sim_if (simT_cmp ops_lt (sim_var 4) sim_int (nomark _)) (sims_one (sim_ret (sim_tup (simA_cons sim_str (simA_cons (sim_var 3) (simA_cons (sim_var 2) simA_nil)))))) sims_nil)
 (sims_cons (sim_set 5 scLtree.nd (sim_bin ops_add sim_int (sim_bin ops_mod (sim_call C_law_next hr hx (simA_cons (sim_var 0) simA_nil)) (sim_bin ops_sub (sim_var 4) sim_int))))
 (sims_cons (sim_set 6 scLtree.nd (sim_call C_law_next hr hx (simA_cons (sim_var 0) simA_nil)))
 (sims_cons (sim_set 7 scLtree.nd (sim_call C_law_other hr hx (simA_cons (sim_var 0) (simA_cons (sim_var 1) (simA_cons (sim_var 2) simA_nil)))))
 (sims_cons (sim_set 8 scLtree.nd sim_str)
 (sims_cons (sim_set 9 scLtree.nd (sim_tup (simA_cons (sim_tup (simA_cons sim_str (simA_cons (sim_var 2) (simA_cons (sim_var 7) simA_nil)))) (simA_cons (sim_var 7) simA_nil))))
 (sims_cons (sim_if (simT_cmp (ops_eq hu) (sim_bin ops_mod (sim_var 6) sim_int) sim_int (nomark _)) (sims_cons (sim_set 8 scLtree.nd sim_str)
 (sims_one (sim_set 9 scLtree.nd (sim_tup (simA_cons (sim_var 7) (simA_cons (sim_tup (simA_cons sim_str (simA_cons (sim_var 2) (simA_cons (sim_var 7) simA_nil)))) simA_nil)))))) sims_nil)
 (sims_cons (sim_if (SimW.t (simW_and (simT_cmp (ops_eq hu) (sim_ix hu (sim_var 2) sim_int) sim_str (nomark _)) (simW_and1 (SimW.t (simW_or (simT_cmp ops_gt (sim_bin ops_mod (sim_var 6) sim_int) sim_int (nomark _)) (simW_or1 (simT_cmp ops_gt (sim_call C_law_wide hr hx (simA_cons (sim_var 2) simA_nil)) sim_int (nomark _)))))))) (sims_cons (sim_set 8 scLtree.nd sim_str)
 (sims_one (sim_set 9 scLtree.nd (sim_tup (simA_cons (sim_tup (simA_cons sim_str (simA_cons (sim_ix hu (sim_var 2) sim_int) (simA_cons (sim_var 7) simA_nil)))) (simA_cons (sim_tup (simA_cons sim_str (simA_cons (sim_var 7) (simA_cons (sim_ix hu (sim_var 2) sim_int) simA_nil)))) simA_nil)))))) sims_nil)
 (sims_cons (sim_if (SimW.t (simW_and (simT_cmp (ops_eq hu) (sim_ix hu (sim_var 2) sim_int) sim_str (nomark _)) (simW_and1 (SimW.t (simW_or (simT_cmp ops_gt (sim_bin ops_mod (sim_var 6) sim_int) sim_int (nomark _)) (simW_or1 (simT_cmp ops_gt (sim_call C_law_wide hr hx (simA_cons (sim_var 2) simA_nil)) sim_int (nomark _)))))))) (sims_cons (sim_set 8 scLtree.nd sim_str)
 (sims_one (sim_set 9 scLtree.nd (sim_tup (simA_cons (sim_tup (simA_cons sim_str (simA_cons (sim_var 7) (simA_cons (sim_ix hu (sim_var 2) sim_int) simA_nil)))) (simA_cons (sim_tup (simA_cons sim_str (simA_cons (sim_ix hu (sim_var 2) sim_int) (simA_cons (sim_var 7) simA_nil)))) simA_nil)))))) sims_nil)
 (sims_cons (sim_set 10 scLtree.nd (sim_call C_law_tree hr hx (simA_cons (sim_var 0) (simA_cons (sim_var 1) (simA_cons (sim_ix hu (sim_var 9) sim_int) (simA_cons (sim_var 3) (simA_cons (sim_var 5) simA_nil)))))))
 (sims_one (sim_ret (sim_tup (simA_cons (sim_var 8) (simA_cons (sim_var 10) (simA_cons (sim_call C_law_tree hr hx (simA_cons (sim_var 0) (simA_cons (sim_var 1) (simA_cons (sim_ix hu (sim_var 9) sim_int) (simA_cons (sim_bin ops_add (sim_var 3) (sim_var 5)) (simA_cons (sim_bin ops_sub (sim_var 4) (sim_var 5)) simA_nil)))))) simA_nil))))))))))))))))
theorem simLdrawn_form {P : Program} {w : World} {K : PySem.W.Frag} {mg : Str → Option Value} {base : Heap} {f : Addr} {k : Nat} {spLnext : Den} {fLnext : Addr} {fdLnext : FuncData} {spLother : Den} {fLother : Addr} {fdLother : FuncData} (z_len : mg "len" = none) (C_law_next : Cal P w K mg base k "_law_next" ["_law_deck_here"] (spLift K spLnext) fLnext fdLnext) (C_law_other : Cal P w K mg base k "_law_other" ["_law_deck_here", "_law_basics", "_law_form"] (spLift K spLother) fLother fdLother) {cdv : Value} {A : Around} {outer : List Env} {s : Shared} {H : Hp} {E : XK} {G : GX} (hr : Room k (A.deeper (envOfC "_law_drawn_form" (defScope sLdrawn_form) s.heap.objs.size f cdv))) (hx : Passes (CXE P w) (cxOf (CXE P w) P w K mg base ["_law_deck_here", "_law_basics", "_law_one", "_law_other_here", "_law_way"] "_law_drawn_form" (defScope sLdrawn_form) f cdv A outer s H E) (xkOf K G.xh)) :
  SimSs (cxOf (CXE P w) P w K mg base ["_law_deck_here", "_law_basics", "_law_one", "_law_other_here", "_law_way"] "_law_drawn_form" (defScope sLdrawn_form) f cdv A outer s H E) G (defBody sLdrawn_form) (w_Ldrawn_form_6081 spLnext spLother) := by
 have hu : (A.deeper (envOfC "_law_drawn_form" (defScope sLdrawn_form) s.heap.objs.size f cdv)).units + 200 < cLine := by have := hr.un; omega
 unfold w_Ldrawn_form_6081
 exact (sims_cons (sim_set 2 scLdrawn_form.nd (sim_tup (simA_cons sim_str (simA_cons (sim_ix hu (sim_var 1) (sim_bin ops_mod (sim_call C_law_next hr hx (simA_cons (sim_var 0) simA_nil)) (sim_callB calls_len z_len PySem.boot_len (simA_cons (sim_var 1) simA_nil)))) simA_nil))))
 (sims_cons (sim_set 3 scLdrawn_form.nd (sim_call C_law_other hr hx (simA_cons (sim_var 0) (simA_cons (sim_var 1) (simA_cons (sim_var 2) simA_nil)))))
 (sims_cons (sim_set 4 scLdrawn_form.nd (sim_bin ops_mod (sim_call C_law_next hr hx (simA_cons (sim_var 0) simA_nil)) sim_int))
 (sims_cons (sim_if (simT_cmp ops_lt (sim_var 4) sim_int (nomark _)) (sims_one (sim_ret (sim_var 2))) sims_nil)
 (sims_one (sim_ret (sim_tup (simA_cons (sim_ix hu (sim_lst (simA_cons sim_str (simA_cons sim_str simA_nil))) (sim_bin ops_mod (sim_var 4) sim_int)) (simA_cons (sim_var 2) (simA_cons (sim_var 3) simA_nil))))))))))
theorem simLwithin {P : Program} {w : World} {K : PySem.W.Frag} {mg : Str → Option Value} {base : Heap} {f : Addr} {k : Nat} {spLwithin : Den} {fLwithin : Addr} {fdLwithin : FuncData} (C_law_within : Cal P w K mg base k "_law_within" ["_law_reading"] (spLift K spLwithin) fLwithin fdLwithin) {cdv : Value} {A : Around} {outer : List Env} {s : Shared} {H : Hp} {E : XK} {G : GX} (hr : Room k (A.deeper (envOfC "_law_within" (defScope sLwithin) s.heap.objs.size f cdv))) (hx : Passes (CXE P w) (cxOf (CXE P w) P w K mg base ["_law_reading"] "_law_within" (defScope sLwithin) f cdv A outer s H E) (xkOf K G.xh)) :
  SimSs (cxOf (CXE P w) P w K mg base ["_law_reading"] "_law_within" (defScope sLwithin) f cdv A outer s H E) G (defBody sLwithin) (w_Lwithin_04fb spLwithin) := by
 have hu : (A.deeper (envOfC "_law_within" (defScope sLwithin) s.heap.objs.size f cdv)).units + 200 < cLine := by have := hr.un; omega
 unfold w_Lwithin_04fb
 exact (sims_cons (sim_if (simT_cmp (ops_eq hu) (sim_ix hu (sim_var 0) sim_int) sim_str (nomark _)) (sims_one (sim_ret (sim_lst (simA_cons (sim_var 0) simA_nil)))) sims_nil)
 (sims_one (sim_ret (sim_bin ops_add (sim_bin ops_add (sim_lst (simA_cons (sim_var 0) simA_nil)) (sim_call C_law_within hr hx (simA_cons (sim_ix hu (sim_var 0) sim_int) simA_nil))) (sim_call C_law_within hr hx (simA_cons (sim_ix hu (sim_var 0) sim_int) simA_nil))))))
theorem simLwords_of {P : Program} {w : World} {K : PySem.W.Frag} {mg : Str → Option Value} {base : Heap} {f : Addr} {k : Nat} {spLwithin : Den} {fLwithin : Addr} {fdLwithin : FuncData} (C_law_within : Cal P w K mg base k "_law_within" ["_law_reading"] (spLift K spLwithin) fLwithin fdLwithin) {cdv : Value} {A : Around} {outer : List Env} {s : Shared} {H : Hp} {E : XK} {G : GX} (hr : Room k (A.deeper (envOfC "_law_words_of" (defScope sLwords_of) s.heap.objs.size f cdv))) (hx : Passes (CXE P w) (cxOf (CXE P w) P w K mg base ["_law_reading"] "_law_words_of" (defScope sLwords_of) f cdv A outer s H E) (xkOf K G.xh)) :
  SimSs (cxOf (CXE P w) P w K mg base ["_law_reading"] "_law_words_of" (defScope sLwords_of) f cdv A outer s H E) G (defBody sLwords_of) (w_Lwords_of_c1a7 spLwithin) := by
 have hu : (A.deeper (envOfC "_law_words_of" (defScope sLwords_of) s.heap.objs.size f cdv)).units + 200 < cLine := by have := hr.un; omega
 unfold w_Lwords_of_c1a7
 exact (sims_one (sim_ret (sim_compIf ["_law_one"] [none] rfl (compOk rfl (by decide +kernel) (by decide +kernel) rfl trivial) (simI_any (sim_call C_law_within hr hx (simA_cons (sim_var 0) simA_nil))) (fun _ _ _ _ _ => (simG_name (i := 0) (show (["_law_one"] : List Str).Nodup by decide +kernel))) (fun _ _ _ _ _ => (simT_cmp (ops_eq hu) (sim_ix hu (sim_var 0) sim_int) sim_str (nomark _))) (fun _ _ _ _ _ => (sim_slice (sim_var 0) (simO_some sim_int) simO_none)))))
theorem simLsentence {P : Program} {w : World} {K : PySem.W.Frag} {mg : Str → Option Value} {base : Heap} {f : Addr} {k : Nat} {spLwords_of : Den} {fLwords_of : Addr} {fdLwords_of : FuncData} {spLwords : Den} {fLwords : Addr} {fdLwords : FuncData} {spLnext : Den} {fLnext : Addr} {fdLnext : FuncData} (z_len : mg "len" = none) (z_range : mg "range" = none) (z_tuple : mg "tuple" = none) (C_law_words_of : Cal P w K mg base k "_law_words_of" ["_law_reading"] (spLift K spLwords_of) fLwords_of fdLwords_of) (C_law_words : Cal P w K mg base k "_law_words" ["_law_deck_here", "_law_many"] (spLift K spLwords) fLwords fdLwords) (C_law_next : Cal P w K mg base k "_law_next" ["_law_deck_here"] (spLift K spLnext) fLnext fdLnext) {cdv : Value} {A : Around} {outer : List Env} {s : Shared} {H : Hp} {E : XK} {G : GX} (hr : Room k (A.deeper (envOfC "_law_sentence" (defScope sLsentence) s.heap.objs.size f cdv))) (hx : Passes (CXE P w) (cxOf (CXE P w) P w K mg base ["_law_deck_here", "_law_reading", "_law_some", "_law_words_here"] "_law_sentence" (defScope sLsentence) f cdv A outer s H E) (xkOf K G.xh)) :
  SimSs (cxOf (CXE P w) P w K mg base ["_law_deck_here", "_law_reading", "_law_some", "_law_words_here"] "_law_sentence" (defScope sLsentence) f cdv A outer s H E) G (defBody sLsentence) (w_Lsentence_e832 spLwords_of spLwords spLnext) := by
 have hu : (A.deeper (envOfC "_law_sentence" (defScope sLsentence) s.heap.objs.size f cdv)).units + 200 < cLine := by have := hr.un; omega
 unfold w_Lsentence_e832
 exact (sims_cons (sim_set 2 scLsentence.nd (sim_call C_law_words_of hr hx (simA_cons (sim_var 1) simA_nil)))
 (sims_cons (sim_set 3 scLsentence.nd (sim_call C_law_words hr hx (simA_cons (sim_var 0) (simA_cons (sim_callB calls_len z_len PySem.boot_len (simA_cons (sim_var 2) simA_nil)) simA_nil))))
 (sims_cons (sim_if (simT_cmp (ops_eq hu) (sim_bin ops_mod (sim_call C_law_next hr hx (simA_cons (sim_var 0) simA_nil)) sim_int) sim_int (nomark _)) (sims_one (sim_set 3 scLsentence.nd (sim_comp ["_law_k", "_law_words_here"] [none, some 3] rfl (compOk rfl (by decide +kernel) (by decide +kernel) rfl ⟨⟨rfl, rfl, by first | exact Or.inl rfl | exact Or.inr rfl⟩, trivial⟩) (simI_range z_range (simA_cons (sim_callB calls_len z_len PySem.boot_len (simA_cons (sim_var 2) simA_nil)) simA_nil)) (fun _ _ _ _ _ => (simG_name (i := 0) (show (["_law_k", "_law_words_here"] : List Str).Nodup by decide +kernel))) (fun _ _ _ _ _ => (sim_ix hu (sim_var 1) (sim_bin ops_fdiv (sim_var 0) sim_int)))))) sims_nil)
 (sims_one (sim_ret (sim_callTy calls_tuple z_tuple L2.boot_tuple (simA_cons (sim_var 3) simA_nil)))))))
theorem simLnamed {P : Program} {w : World} {K : PySem.W.Frag} {mg : Str → Option Value} {base : Heap} {f : Addr} {k : Nat} {cdv : Value} {A : Around} {outer : List Env} {s : Shared} {H : Hp} {E : XK} {G : GX} (hr : Room k (A.deeper (envOfC "_law_named" (defScope sLnamed) s.heap.objs.size f cdv))) (hx : Passes (CXE P w) (cxOf (CXE P w) P w K mg base ["_law_book_names", "_law_words_here", "_law_kind", "_law_name", "_law_other_here"] "_law_named" (defScope sLnamed) f cdv A outer s H E) (xkOf K G.xh)) :
  SimSs (cxOf (CXE P w) P w K mg base ["_law_book_names", "_law_words_here", "_law_kind", "_law_name", "_law_other_here"] "_law_named" (defScope sLnamed) f cdv A outer s H E) G (defBody sLnamed) (w_Lnamed_d254) := by
 have hu : (A.deeper (envOfC "_law_named" (defScope sLnamed) s.heap.objs.size f cdv)).units + 200 < cLine := by have := hr.un; omega
 unfold w_Lnamed_d254
 exact (sims_cons (sim_for PassesOwn.leaving rfl (simI_any (sim_var 0)) (simG_tup 2 rfl (simGs_cons (simG_name (i := 3) scLnamed.nd) (simGs_cons (simG_name (i := 4) scLnamed.nd) simGs_nil))) (sims_one (sim_if (simT_cmp (ops_eq hu) (sim_var 4) (sim_var 2) (nomark _)) (sims_one (sim_ret (sim_tup (simA_cons sim_str (simA_cons (sim_var 3) simA_nil))))) sims_nil)))
 (sims_cons (sim_expr (sim_bm PySem.F.plainAttrs_list PySem.F.slot_list_append PySem.F.type_list_append mts_append (sim_var 0) (simA_cons (sim_tup (simA_cons (sim_bm PySem.F.plainAttrs_list PySem.F.slot_list_pop PySem.F.type_list_pop mts_popAt (sim_var 1) (simA_cons sim_int simA_nil)) (simA_cons (sim_var 2) simA_nil))) simA_nil)))
 (sims_one (sim_ret (sim_tup (simA_cons sim_str (simA_cons (sim_ix hu (sim_ix hu (sim_var 0) (sim_neg sim_int)) sim_int) simA_nil)))))))
theorem simLapplied {P : Program} {w : World} {K : PySem.W.Frag} {mg : Str → Option Value} {base : Heap} {f : Addr} {k : Nat} {spLnext : Den} {fLnext : Addr} {fdLnext : FuncData} {spLnamed : Den} {fLnamed : Addr} {fdLnamed : FuncData} (z_len : mg "len" = none) (z_list : mg "list" = none) (z_range : mg "range" = none) (z_reversed : mg "reversed" = none) (C_law_next : Cal P w K mg base k "_law_next" ["_law_deck_here"] (spLift K spLnext) fLnext fdLnext) (C_law_named : Cal P w K mg base k "_law_named" ["_law_book_names", "_law_words_here", "_law_kind"] (spLift K spLnamed) fLnamed fdLnamed) {cdv : Value} {A : Around} {outer : List Env} {s : Shared} {H : Hp} {E : XK} {G : GX} (hr : Room k (A.deeper (envOfC "_law_applied" (defScope sLapplied) s.heap.objs.size f cdv))) (hx : Passes (CXE P w) (cxOf (CXE P w) P w K mg base ["_law_deck_here", "_law_names", "_law_words_here", "_law_kinds", "_law_last", "_law_left", "_law_some", "_law_k", "_law_kind", "_law_body"] "_law_applied" (defScope sLapplied) f cdv A outer s H E) (xkOf K G.xh)) :
  SimSs (cxOf (CXE P w) P w K mg base ["_law_deck_here", "_law_names", "_law_words_here", "_law_kinds", "_law_last", "_law_left", "_law_some", "_law_k", "_law_kind", "_law_body"] "_law_applied" (defScope sLapplied) f cdv A outer s H E) G (defBody sLapplied) (w_Lapplied_3da1 spLnext spLnamed) := by
 have hu : (A.deeper (envOfC "_law_applied" (defScope sLapplied) s.heap.objs.size f cdv)).units + 200 < cLine := by have := hr.un; omega
 unfold w_Lapplied_3da1
 exact (sims_cons (sim_set 5 scLapplied.nd (sim_lrange rfl z_list z_range (simA_cons (sim_callB calls_len z_len PySem.boot_len (simA_cons (sim_var 3) simA_nil)) simA_nil)))
 (sims_cons (sim_set 6 scLapplied.nd (sim_lst simA_nil))
 (sims_cons (sim_for PassesOwn.leaving rfl (simI_range z_range (simA_cons (sim_bin ops_mod (sim_call C_law_next hr hx (simA_cons (sim_var 0) simA_nil)) (sim_bin ops_add (sim_callB calls_len z_len PySem.boot_len (simA_cons (sim_var 3) simA_nil)) sim_int)) simA_nil)) (simG_name (i := 7) scLapplied.nd) (sims_one (sim_expr (sim_bm PySem.F.plainAttrs_list PySem.F.slot_list_append PySem.F.type_list_append mts_append (sim_var 6) (simA_cons (sim_bm PySem.F.plainAttrs_list PySem.F.slot_list_pop PySem.F.type_list_pop mts_popAt (sim_var 5) (simA_cons (sim_bin ops_mod (sim_call C_law_next hr hx (simA_cons (sim_var 0) simA_nil)) (sim_callB calls_len z_len PySem.boot_len (simA_cons (sim_var 5) simA_nil))) simA_nil)) simA_nil)))))
 (sims_cons (sim_set 8 scLapplied.nd (sim_var 4))
 (sims_cons (sim_for PassesOwn.leaving rfl (simI_rev z_reversed (sim_var 6)) (simG_name (i := 7) scLapplied.nd) (sims_one (sim_set 8 scLapplied.nd (sim_tup (simA_cons (sim_ix hu (sim_var 3) (sim_var 7)) (simA_cons (sim_var 8) simA_nil))))))
 (sims_cons (sim_set 9 scLapplied.nd (sim_call C_law_named hr hx (simA_cons (sim_var 1) (simA_cons (sim_var 2) (simA_cons (sim_var 8) simA_nil)))))
 (sims_cons (sim_for PassesOwn.leaving rfl (simI_any (sim_var 6)) (simG_name (i := 7) scLapplied.nd) (sims_one (sim_set 9 scLapplied.nd (sim_tup (simA_cons sim_str (simA_cons (sim_var 9) (simA_cons (sim_tup (simA_cons sim_str (simA_cons (sim_bin ops_sub (sim_bin ops_sub (sim_callB calls_len z_len PySem.boot_len (simA_cons (sim_var 3) simA_nil)) sim_int) (sim_var 7)) simA_nil))) simA_nil)))))))
 (sims_one (sim_ret (sim_var 9))))))))))
theorem simLterm {P : Program} {w : World} {K : PySem.W.Frag} {mg : Str → Option Value} {base : Heap} {f : Addr} {k : Nat} {spLnext : Den} {fLnext : Addr} {fdLnext : FuncData} {spLnamed : Den} {fLnamed : Addr} {fdLnamed : FuncData} {spLapplied : Den} {fLapplied : Addr} {fdLapplied : FuncData} (z_isinstance : mg "isinstance" = none) (z_len : mg "len" = none) (z_range : mg "range" = none) (z_reversed : mg "reversed" = none) (z_tuple : mg "tuple" = none) (C_law_next : Cal P w K mg base k "_law_next" ["_law_deck_here"] (spLift K spLnext) fLnext fdLnext) (C_law_named : Cal P w K mg base k "_law_named" ["_law_book_names", "_law_words_here", "_law_kind"] (spLift K spLnamed) fLnamed fdLnamed) (C_law_applied : Cal P w K mg base k "_law_applied" ["_law_deck_here", "_law_names", "_law_words_here", "_law_kinds", "_law_last"] (spLift K spLapplied) fLapplied fdLapplied) {cdv : Value} {A : Around} {outer : List Env} {s : Shared} {H : Hp} {E : XK} {G : GX} (hr : Room k (A.deeper (envOfC "_law_term" (defScope sLterm) s.heap.objs.size f cdv))) (hx : Passes (CXE P w) (cxOf (CXE P w) P w K mg base ["_law_deck_here", "_law_names", "_law_words_here", "_law_kind", "_law_way", "_law_kinds", "_law_last", "_law_body", "_law_i", "_law_j", "_law_one"] "_law_term" (defScope sLterm) f cdv A outer s H E) (xkOf K G.xh)) :
  SimSs (cxOf (CXE P w) P w K mg base ["_law_deck_here", "_law_names", "_law_words_here", "_law_kind", "_law_way", "_law_kinds", "_law_last", "_law_body", "_law_i", "_law_j", "_law_one"] "_law_term" (defScope sLterm) f cdv A outer s H E) G (defBody sLterm) (w_Lterm_dd14 spLnext spLnamed spLapplied) := by
 have hu : (A.deeper (envOfC "_law_term" (defScope sLterm) s.heap.objs.size f cdv)).units + 200 < cLine := by have := hr.un; omega
 unfold w_Lterm_dd14
 exact (sims_cons (sim_set 4 scLterm.nd (sim_bin ops_mod (sim_call C_law_next hr hx (simA_cons (sim_var 0) simA_nil)) sim_int))
 (sims_cons (sim_if (simT_cmp (ops_eq hu) (sim_var 4) sim_int (nomark _)) (sims_one (sim_ret (sim_call C_law_named hr hx (simA_cons (sim_var 1) (simA_cons (sim_var 2) (simA_cons (sim_var 3) simA_nil)))))) sims_nil)
 (sims_cons (sim_set 5 scLterm.nd (sim_lst simA_nil))
 (sims_cons (sim_set 6 scLterm.nd (sim_var 3))
 (sims_cons (sim_while PassesOwn.leaving (simT_tru (sim_callB calls_isi z_isinstance L2.boot_isinst (simA_cons (sim_var 6) (simA_cons (sim_ty z_tuple L2.boot_tuple) simA_nil)))) (sims_cons (sim_expr (sim_bm PySem.F.plainAttrs_list PySem.F.slot_list_append PySem.F.type_list_append mts_append (sim_var 5) (simA_cons (sim_ix hu (sim_var 6) sim_int) simA_nil)))
 (sims_one (sim_set 6 scLterm.nd (sim_ix hu (sim_var 6) sim_int)))))
 (sims_cons (sim_set 7 scLterm.nd sim_non)
 (sims_cons (sim_for PassesOwn.leaving rfl (simI_range z_range (simA_cons (sim_callB calls_len z_len PySem.boot_len (simA_cons (sim_var 5) simA_nil)) simA_nil)) (simG_name (i := 8) scLterm.nd) (sims_one (sim_for PassesOwn.leaving rfl (simI_range z_range (simA_cons (sim_callB calls_len z_len PySem.boot_len (simA_cons (sim_var 5) simA_nil)) simA_nil)) (simG_name (i := 9) scLterm.nd) (sims_one (sim_if (SimW.t (simW_and (simT_cmp ops_lt (sim_var 4) sim_int (nomark _)) (simW_and1 (simT_cmp (ops_eq hu) (sim_ix hu (sim_var 5) (sim_var 8)) (sim_tup (simA_cons (sim_ix hu (sim_var 5) (sim_var 9)) (simA_cons (sim_var 6) simA_nil))) (nomark _))))) (sims_one (sim_set 7 scLterm.nd (sim_tup (simA_cons sim_str (simA_cons (sim_tup (simA_cons sim_str (simA_cons (sim_bin ops_sub (sim_bin ops_sub (sim_callB calls_len z_len PySem.boot_len (simA_cons (sim_var 5) simA_nil)) sim_int) (sim_var 8)) simA_nil))) (simA_cons (sim_tup (simA_cons sim_str (simA_cons (sim_bin ops_sub (sim_bin ops_sub (sim_callB calls_len z_len PySem.boot_len (simA_cons (sim_var 5) simA_nil)) sim_int) (sim_var 9)) simA_nil))) simA_nil)))))) sims_nil)))))
 (sims_cons (sim_if (simT_cmp ops_is (sim_var 7) sim_non (nomark _)) (sims_one (sim_set 7 scLterm.nd (sim_call C_law_applied hr hx (simA_cons (sim_var 0) (simA_cons (sim_var 1) (simA_cons (sim_var 2) (simA_cons (sim_var 5) (simA_cons (sim_var 6) simA_nil)))))))) sims_nil)
 (sims_cons (sim_if (simT_cmp (ops_eq hu) (sim_var 4) sim_int (nomark _)) (sims_one (sim_set 7 scLterm.nd (sim_tup (simA_cons sim_str (simA_cons (sim_tup (simA_cons sim_str (simA_cons (sim_var 6) (simA_cons (sim_tup (simA_cons sim_str (simA_cons sim_int simA_nil))) simA_nil)))) (simA_cons (sim_var 7) simA_nil)))))) sims_nil)
 (sims_cons (sim_for PassesOwn.leaving rfl (simI_rev z_reversed (sim_var 5)) (simG_name (i := 10) scLterm.nd) (sims_one (sim_set 7 scLterm.nd (sim_tup (simA_cons sim_str (simA_cons (sim_var 10) (simA_cons (sim_var 7) simA_nil)))))))
 (sims_one (sim_ret (sim_var 7)))))))))))))
theorem simLkind_of_form {P : Program} {w : World} {K : PySem.W.Frag} {mg : Str → Option Value} {base : Heap} {f : Addr} {k : Nat} {spLkind_of_form : Den} {fLkind_of_form : Addr} {fdLkind_of_form : FuncData} (C_law_kind_of_form : Cal P w K mg base k "_law_kind_of_form" ["_law_form"] (spLift K spLkind_of_form) fLkind_of_form fdLkind_of_form) {cdv : Value} {A : Around} {outer : List Env} {s : Shared} {H : Hp} {E : XK} {G : GX} (hr : Room k (A.deeper (envOfC "_law_kind_of_form" (defScope sLkind_of_form) s.heap.objs.size f cdv))) (hx : Passes (CXE P w) (cxOf (CXE P w) P w K mg base ["_law_form"] "_law_kind_of_form" (defScope sLkind_of_form) f cdv A outer s H E) (xkOf K G.xh)) :
  SimSs (cxOf (CXE P w) P w K mg base ["_law_form"] "_law_kind_of_form" (defScope sLkind_of_form) f cdv A outer s H E) G (defBody sLkind_of_form) (w_Lkind_of_form_ebfd spLkind_of_form) := by
 have hu : (A.deeper (envOfC "_law_kind_of_form" (defScope sLkind_of_form) s.heap.objs.size f cdv)).units + 200 < cLine := by have := hr.un; omega
 unfold w_Lkind_of_form_ebfd
 exact (sims_cons (sim_if (simT_cmp (ops_eq hu) (sim_ix hu (sim_var 0) sim_int) sim_str (nomark _)) (sims_one (sim_ret (sim_ix hu (sim_var 0) sim_int))) sims_nil)
 (sims_one (sim_ret (sim_tup (simA_cons (sim_call C_law_kind_of_form hr hx (simA_cons (sim_ix hu (sim_var 0) sim_int) simA_nil)) (simA_cons (sim_call C_law_kind_of_form hr hx (simA_cons (sim_ix hu (sim_var 0) sim_int) simA_nil)) simA_nil))))))
theorem simLbook {P : Program} {w : World} {K : PySem.W.Frag} {mg : Str → Option Value} {base : Heap} {f : Addr} {k : Nat} {spLwords : Den} {fLwords : Addr} {fdLwords : FuncData} {spLterm : Den} {fLterm : Addr} {fdLterm : FuncData} {spLkind_of_form : Den} {fLkind_of_form : Addr} {fdLkind_of_form : FuncData} (z_tuple : mg "tuple" = none) (C_law_words : Cal P w K mg base k "_law_words" ["_law_deck_here", "_law_many"] (spLift K spLwords) fLwords fdLwords) (C_law_term : Cal P w K mg base k "_law_term" ["_law_deck_here", "_law_names", "_law_words_here", "_law_kind"] (spLift K spLterm) fLterm fdLterm) (C_law_kind_of_form : Cal P w K mg base k "_law_kind_of_form" ["_law_form"] (spLift K spLkind_of_form) fLkind_of_form fdLkind_of_form) {cdv : Value} {A : Around} {outer : List Env} {s : Shared} {H : Hp} {E : XK} {G : GX} (hr : Room k (A.deeper (envOfC "_law_book" (defScope sLbook) s.heap.objs.size f cdv))) (hx : Passes (CXE P w) (cxOf (CXE P w) P w K mg base ["_law_deck_here", "_law_basics", "_law_some", "_law_names", "_law_words_here", "_law_triples", "_law_word_here", "_law_form"] "_law_book" (defScope sLbook) f cdv A outer s H E) (xkOf K G.xh)) :
  SimSs (cxOf (CXE P w) P w K mg base ["_law_deck_here", "_law_basics", "_law_some", "_law_names", "_law_words_here", "_law_triples", "_law_word_here", "_law_form"] "_law_book" (defScope sLbook) f cdv A outer s H E) G (defBody sLbook) (w_Lbook_2f0c spLwords spLterm spLkind_of_form) := by
 have hu : (A.deeper (envOfC "_law_book" (defScope sLbook) s.heap.objs.size f cdv)).units + 200 < cLine := by have := hr.un; omega
 unfold w_Lbook_2f0c
 exact (sims_cons (sim_set 3 scLbook.nd (sim_lst simA_nil))
 (sims_cons (sim_set 4 scLbook.nd (sim_call C_law_words hr hx (simA_cons (sim_var 0) (simA_cons sim_int simA_nil))))
 (sims_cons (sim_set 5 scLbook.nd (sim_lst simA_nil))
 (sims_cons (sim_for PassesOwn.leaving rfl (simI_any (sim_var 2)) (simG_tup 2 rfl (simGs_cons (simG_name (i := 6) scLbook.nd) (simGs_cons (simG_name (i := 7) scLbook.nd) simGs_nil))) (sims_one (sim_if (simT_cmp (ops_notIn hu) (sim_tup (simA_cons (sim_var 6) (simA_cons (sim_var 7) simA_nil))) (sim_comp ["_law_triple"] [none] rfl (compOk rfl (by decide +kernel) (by decide +kernel) rfl trivial) (simI_any (sim_var 5)) (fun _ _ _ _ _ => (simG_name (i := 0) (show (["_law_triple"] : List Str).Nodup by decide +kernel))) (fun _ _ _ _ _ => (sim_slice (sim_var 0) simO_none (simO_some sim_int)))) (by with_unfolding_all rfl)) (sims_one (sim_expr (sim_bm PySem.F.plainAttrs_list PySem.F.slot_list_append PySem.F.type_list_append mts_append (sim_var 5) (simA_cons (sim_tup (simA_cons (sim_var 6) (simA_cons (sim_var 7) (simA_cons (sim_call C_law_term hr hx (simA_cons (sim_var 0) (simA_cons (sim_var 3) (simA_cons (sim_var 4) (simA_cons (sim_call C_law_kind_of_form hr hx (simA_cons (sim_var 7) simA_nil)) simA_nil))))) simA_nil)))) simA_nil)))) sims_nil)))
 (sims_one (sim_ret (sim_tup (simA_cons (sim_callTy calls_tuple z_tuple L2.boot_tuple (simA_cons (sim_var 1) simA_nil)) (simA_cons (sim_callTy calls_tuple z_tuple L2.boot_tuple (simA_cons (sim_var 3) simA_nil)) (simA_cons (sim_callTy calls_tuple z_tuple L2.boot_tuple (simA_cons (sim_var 5) simA_nil)) simA_nil))))))))))
theorem simLmeans {P : Program} {w : World} {K : PySem.W.Frag} {mg : Str → Option Value} {base : Heap} {f : Addr} {k : Nat} {spLwords_of : Den} {fLwords_of : Addr} {fdLwords_of : FuncData} (C_law_words_of : Cal P w K mg base k "_law_words_of" ["_law_reading"] (spLift K spLwords_of) fLwords_of fdLwords_of) {cdv : Value} {A : Around} {outer : List Env} {s : Shared} {H : Hp} {E : XK} {G : GX} (hr : Room k (A.deeper (envOfC "_law_means" (defScope sLmeans) s.heap.objs.size f cdv))) (hx : Passes (CXE P w) (cxOf (CXE P w) P w K mg base ["_law_book_here", "_law_words_here", "_law_reading", "_law_means_here", "_law_place", "_law_form", "_law_word_here", "_law_other_here", "_law_term_here"] "_law_means" (defScope sLmeans) f cdv A outer s H E) (xkOf K G.xh)) :
  SimSs (cxOf (CXE P w) P w K mg base ["_law_book_here", "_law_words_here", "_law_reading", "_law_means_here", "_law_place", "_law_form", "_law_word_here", "_law_other_here", "_law_term_here"] "_law_means" (defScope sLmeans) f cdv A outer s H E) G (defBody sLmeans) (w_Lmeans_bcd7 spLwords_of) := by
 have hu : (A.deeper (envOfC "_law_means" (defScope sLmeans) s.heap.objs.size f cdv)).units + 200 < cLine := by have := hr.un; omega
 unfold w_Lmeans_bcd7
 exact (sims_cons (sim_set 3 scLmeans.nd sim_dnew)
 (sims_cons (sim_for PassesOwn.leaving rfl (simI_any (sim_call C_law_words_of hr hx (simA_cons (sim_var 2) simA_nil))) (simG_tup 2 rfl (simGs_cons (simG_name (i := 4) scLmeans.nd) (simGs_cons (simG_name (i := 5) scLmeans.nd) simGs_nil))) (sims_one (sim_for PassesOwn.leaving rfl (simI_any (sim_ix hu (sim_var 0) sim_int)) (simG_tup 3 rfl (simGs_cons (simG_name (i := 6) scLmeans.nd) (simGs_cons (simG_name (i := 7) scLmeans.nd) (simGs_cons (simG_name (i := 8) scLmeans.nd) simGs_nil)))) (sims_one (sim_if (SimW.t (simW_and (simT_cmp (ops_eq hu) (sim_var 6) (sim_ix hu (sim_var 1) (sim_var 4)) (nomark _)) (simW_and1 (simT_cmp (ops_eq hu) (sim_var 7) (sim_var 5) (nomark _))))) (sims_one (sim_asg (sim_var 8) (simG_sub (sets_N hu) (sim_var 3) (sim_tup (simA_cons (sim_var 4) (simA_cons (sim_var 5) simA_nil)))))) sims_nil)))))
 (sims_one (sim_ret (sim_var 3)))))
theorem simLsame {P : Program} {w : World} {K : PySem.W.Frag} {mg : Str → Option Value} {base : Heap} {f : Addr} {k : Nat} {spLsame : Den} {fLsame : Addr} {fdLsame : FuncData} (z_all : mg "all" = none) (z_bool : mg "bool" = none) (z_int : mg "int" = none) (z_isinstance : mg "isinstance" = none) (z_len : mg "len" = none) (z_str : mg "str" = none) (z_tuple : mg "tuple" = none) (z_zip : mg "zip" = none) (C_law_same : Cal P w K mg base k "_law_same" ["_law_one", "_law_other_here"] (spLift K spLsame) fLsame fdLsame) {cdv : Value} {A : Around} {outer : List Env} {s : Shared} {H : Hp} {E : XK} {G : GX} (hr : Room k (A.deeper (envOfC "_law_same" (defScope sLsame) s.heap.objs.size f cdv))) (hx : Passes (CXE P w) (cxOf (CXE P w) P w K mg base ["_law_one", "_law_other_here"] "_law_same" (defScope sLsame) f cdv A outer s H E) (xkOf K G.xh)) :
  SimSs (cxOf (CXE P w) P w K mg base ["_law_one", "_law_other_here"] "_law_same" (defScope sLsame) f cdv A outer s H E) G (defBody sLsame) (w_Lsame_bb4e spLsame) := by
 have hu : (A.deeper (envOfC "_law_same" (defScope sLsame) s.heap.objs.size f cdv)).units + 200 < cLine := by have := hr.un; omega
 unfold w_Lsame_bb4e
 exact (sims_cons (sim_if (simT_tru (sim_callB calls_isi z_isinstance L2.boot_isinst (simA_cons (sim_var 0) (simA_cons (sim_ty z_str L2.boot_str) simA_nil)))) (sims_one (sim_ret (sim_and (sim_callB calls_isi z_isinstance L2.boot_isinst (simA_cons (sim_var 1) (simA_cons (sim_ty z_str L2.boot_str) simA_nil))) (sim_one (sim_cmp (ops_eq hu) (sim_var 0) (sim_var 1) (nomark _)))))) sims_nil)
 (sims_cons (sim_if (simT_not (simT_tru (sim_callB calls_isi z_isinstance L2.boot_isinst (simA_cons (sim_var 0) (simA_cons (sim_ty z_tuple L2.boot_tuple) simA_nil))))) (sims_one (sim_ret (sim_and (sim_callB calls_isi z_isinstance L2.boot_isinst (simA_cons (sim_var 1) (simA_cons (sim_ty z_int L2.boot_int) simA_nil))) (sim_and (sim_not (sim_callB calls_isi z_isinstance L2.boot_isinst (simA_cons (sim_var 1) (simA_cons (sim_ty z_bool L2.boot_bool) simA_nil)))) (sim_one (sim_cmp (ops_eq hu) (sim_var 0) (sim_var 1) (nomark _))))))) sims_nil)
 (sims_cons (sim_if (SimW.t (simW_or (simT_not (simT_tru (sim_callB calls_isi z_isinstance L2.boot_isinst (simA_cons (sim_var 1) (simA_cons (sim_ty z_tuple L2.boot_tuple) simA_nil))))) (simW_or1 (simT_cmp (ops_ne hu) (sim_callB calls_len z_len PySem.boot_len (simA_cons (sim_var 0) simA_nil)) (sim_callB calls_len z_len PySem.boot_len (simA_cons (sim_var 1) simA_nil)) (nomark _))))) (sims_one (sim_ret sim_bl)) sims_nil)
 (sims_one (sim_ret (sim_callB (calls_all rfl) z_all L2.boot_all (simA_cons (sim_comp ["_law_here", "_law_there"] [none, none] rfl (compOk rfl (by decide +kernel) (by decide +kernel) rfl trivial) (simI_zip z_zip (simA_cons (sim_var 0) (simA_cons (sim_var 1) simA_nil))) (fun _ _ _ _ _ => (simG_tup 2 rfl (simGs_cons (simG_name (i := 0) (show (["_law_here", "_law_there"] : List Str).Nodup by decide +kernel)) (simGs_cons (simG_name (i := 1) (show (["_law_here", "_law_there"] : List Str).Nodup by decide +kernel)) simGs_nil)))) (fun _ _ _ _ _ => (sim_call C_law_same hr passNo (simA_cons (sim_var 0) (simA_cons (sim_var 1) simA_nil))))) simA_nil)))))))
theorem simrows_of {P : Program} {w : World} {K : PySem.W.Frag} {mg : Str → Option Value} {base : Heap} {f : Addr} {k : Nat} {cdv : Value} {A : Around} {outer : List Env} {s : Shared} {H : Hp} {E : XK} {G : GX} (hr : Room k (A.deeper (envOfC "rows_of" (defScope srows_of) s.heap.objs.size f cdv))) (hx : Passes (CXE P w) (cxOf (CXE P w) P w K mg base ["book", "word", "rows"] "rows_of" (defScope srows_of) f cdv A outer s H E) (xkOf K G.xh)) :
  SimSs (cxOf (CXE P w) P w K mg base ["book", "word", "rows"] "rows_of" (defScope srows_of) f cdv A outer s H E) G (defBody srows_of) (w_rows_of_2836) := by
 have hu : (A.deeper (envOfC "rows_of" (defScope srows_of) s.heap.objs.size f cdv)).units + 200 < cLine := by have := hr.un; omega
 unfold w_rows_of_2836
 exact (sims_cons (sim_setCompIf 2 ["own", "form", "term", "word"] [none, none, none, some 1] scrows_of.nd rfl (compOk rfl (by decide +kernel) (by decide +kernel) rfl ⟨⟨rfl, rfl, by first | exact Or.inl rfl | exact Or.inr rfl⟩, trivial⟩) (simI_any (sim_ix hu (sim_var 0) sim_int)) (fun _ _ _ _ _ => (simG_tup 3 rfl (simGs_cons (simG_name (i := 0) (show (["own", "form", "term", "word"] : List Str).Nodup by decide +kernel)) (simGs_cons (simG_name (i := 1) (show (["own", "form", "term", "word"] : List Str).Nodup by decide +kernel)) (simGs_cons (simG_name (i := 2) (show (["own", "form", "term", "word"] : List Str).Nodup by decide +kernel)) simGs_nil))))) (fun _ _ _ _ _ => (simT_cmp (ops_eq hu) (sim_var 0) (sim_var 3) (nomark _))) (fun _ _ _ _ _ => (sim_tup (simA_cons (sim_var 1) (simA_cons (sim_var 2) simA_nil)))))
 (sims_cons (sim_if (simT_not (simT_tru (sim_var 2))) (sims_one sim_never) sims_nil)
 (sims_one (sim_ret (sim_var 2)))))
theorem simterm_of {P : Program} {w : World} {K : PySem.W.Frag} {mg : Str → Option Value} {base : Heap} {f : Addr} {k : Nat} {sprows_of : Den} {frows_of : Addr} {fdrows_of : FuncData} (x_NoForm : ExcC K mg "NoForm") (Crows_of : Cal P w K mg base k "rows_of" ["book", "word"] (spLift K sprows_of) frows_of fdrows_of) {cdv : Value} {A : Around} {outer : List Env} {s : Shared} {H : Hp} {E : XK} {G : GX} (hr : Room k (A.deeper (envOfC "term_of" (defScope sterm_of) s.heap.objs.size f cdv))) (hx : Passes (CXE P w) (cxOf (CXE P w) P w K mg base ["book", "word", "form", "own", "term"] "term_of" (defScope sterm_of) f cdv A outer s H E) (xkOf K G.xh)) :
  SimSs (cxOf (CXE P w) P w K mg base ["book", "word", "form", "own", "term"] "term_of" (defScope sterm_of) f cdv A outer s H E) G (defBody sterm_of) (w_term_of_4c0a sprows_of) := by
 have hu : (A.deeper (envOfC "term_of" (defScope sterm_of) s.heap.objs.size f cdv)).units + 200 < cLine := by have := hr.un; omega
 unfold w_term_of_4c0a
 exact (sims_cons (sim_for PassesOwn.leaving rfl (simI_any (sim_call Crows_of hr hx (simA_cons (sim_var 0) (simA_cons (sim_var 1) simA_nil)))) (simG_tup 2 rfl (simGs_cons (simG_name (i := 3) scterm_of.nd) (simGs_cons (simG_name (i := 4) scterm_of.nd) simGs_nil))) (sims_one (sim_if (simT_cmp (ops_eq hu) (sim_var 3) (sim_var 2) (nomark _)) (sims_one (sim_ret (sim_var 4))) sims_nil)))
 (sims_one (sim_raise x_NoForm hx rfl (simA_cons sim_str simA_nil))))
theorem simwords_of {P : Program} {w : World} {K : PySem.W.Frag} {mg : Str → Option Value} {base : Heap} {f : Addr} {k : Nat} {spwords_of : Den} {fwords_of : Addr} {fdwords_of : FuncData} (Cwords_of : Cal P w K mg base k "words_of" ["reading"] (spLift K spwords_of) fwords_of fdwords_of) {cdv : Value} {A : Around} {outer : List Env} {s : Shared} {H : Hp} {E : XK} {G : GX} (hr : Room k (A.deeper (envOfC "words_of" (defScope swords_of) s.heap.objs.size f cdv))) (hx : Passes (CXE P w) (cxOf (CXE P w) P w K mg base ["reading"] "words_of" (defScope swords_of) f cdv A outer s H E) (xkOf K G.xh)) :
  SimSs (cxOf (CXE P w) P w K mg base ["reading"] "words_of" (defScope swords_of) f cdv A outer s H E) G (defBody swords_of) (w_words_of_0033 spwords_of) := by
 have hu : (A.deeper (envOfC "words_of" (defScope swords_of) s.heap.objs.size f cdv)).units + 200 < cLine := by have := hr.un; omega
 unfold w_words_of_0033
 exact (sims_cons (sim_if (simT_cmp (ops_eq hu) (sim_ix hu (sim_var 0) sim_int) sim_str (nomark _)) (sims_one (sim_ret (sim_lst (simA_cons (sim_tup (simA_cons (sim_ix hu (sim_var 0) sim_int) (simA_cons (sim_ix hu (sim_var 0) sim_int) simA_nil))) simA_nil)))) sims_nil)
 (sims_one (sim_ret (sim_bin ops_add (sim_call Cwords_of hr hx (simA_cons (sim_ix hu (sim_var 0) sim_int) simA_nil)) (sim_call Cwords_of hr hx (simA_cons (sim_ix hu (sim_var 0) sim_int) simA_nil))))))
theorem simmade {P : Program} {w : World} {K : PySem.W.Frag} {mg : Str → Option Value} {base : Heap} {f : Addr} {k : Nat} {cdv : Value} {A : Around} {outer : List Env} {s : Shared} {H : Hp} {E : XK} {G : GX} (hr : Room k (A.deeper (envOfC "made" (defScope smade) s.heap.objs.size f cdv))) (hx : Passes (CXE P w) (cxOf (CXE P w) P w K mg base ["left", "right"] "made" (defScope smade) f cdv A outer s H E) (xkOf K G.xh)) :
  SimSs (cxOf (CXE P w) P w K mg base ["left", "right"] "made" (defScope smade) f cdv A outer s H E) G (defBody smade) (w_made_59db) := by
 have hu : (A.deeper (envOfC "made" (defScope smade) s.heap.objs.size f cdv)).units + 200 < cLine := by have := hr.un; omega
 unfold w_made_59db
 exact (sims_cons (sim_if (simT_cmp (ops_eq hu) (sim_ix hu (sim_var 0) sim_int) sim_str (nomark _)) (sims_cons (sim_if (simT_cmp (ops_eq hu) (sim_ix hu (sim_var 0) sim_int) (sim_var 1) (nomark _)) (sims_one (sim_ret (sim_tup (simA_cons sim_str (simA_cons (sim_ix hu (sim_var 0) sim_int) simA_nil))))) sims_nil)
 (sims_one (sim_if (SimW.t (simW_and (simT_cmp (ops_eq hu) (sim_ix hu (sim_var 1) sim_int) sim_str (nomark _)) (simW_and1 (simT_cmp (ops_eq hu) (sim_ix hu (sim_var 0) sim_int) (sim_ix hu (sim_var 1) sim_int) (nomark _))))) (sims_one (sim_ret (sim_tup (simA_cons sim_str (simA_cons (sim_tup (simA_cons sim_str (simA_cons (sim_ix hu (sim_var 0) sim_int) (simA_cons (sim_ix hu (sim_var 1) sim_int) simA_nil)))) simA_nil))))) sims_nil))) sims_nil)
 (sims_cons (sim_if (simT_cmp (ops_eq hu) (sim_ix hu (sim_var 1) sim_int) sim_str (nomark _)) (sims_cons (sim_if (simT_cmp (ops_eq hu) (sim_ix hu (sim_var 1) sim_int) (sim_var 0) (nomark _)) (sims_one (sim_ret (sim_tup (simA_cons sim_str (simA_cons (sim_ix hu (sim_var 1) sim_int) simA_nil))))) sims_nil)
 (sims_one (sim_if (SimW.t (simW_and (simT_cmp (ops_eq hu) (sim_ix hu (sim_var 0) sim_int) sim_str (nomark _)) (simW_and1 (simT_cmp (ops_eq hu) (sim_ix hu (sim_var 1) sim_int) (sim_ix hu (sim_var 0) sim_int) (nomark _))))) (sims_one (sim_ret (sim_tup (simA_cons sim_str (simA_cons (sim_tup (simA_cons sim_str (simA_cons (sim_ix hu (sim_var 1) sim_int) (simA_cons (sim_ix hu (sim_var 0) sim_int) simA_nil)))) simA_nil))))) sims_nil))) sims_nil)
 (sims_one (sim_ret sim_non))))
theorem simkind_of_form {P : Program} {w : World} {K : PySem.W.Frag} {mg : Str → Option Value} {base : Heap} {f : Addr} {k : Nat} {spkind_of_form : Den} {fkind_of_form : Addr} {fdkind_of_form : FuncData} (Ckind_of_form : Cal P w K mg base k "kind_of_form" ["form"] (spLift K spkind_of_form) fkind_of_form fdkind_of_form) {cdv : Value} {A : Around} {outer : List Env} {s : Shared} {H : Hp} {E : XK} {G : GX} (hr : Room k (A.deeper (envOfC "kind_of_form" (defScope skind_of_form) s.heap.objs.size f cdv))) (hx : Passes (CXE P w) (cxOf (CXE P w) P w K mg base ["form"] "kind_of_form" (defScope skind_of_form) f cdv A outer s H E) (xkOf K G.xh)) :
  SimSs (cxOf (CXE P w) P w K mg base ["form"] "kind_of_form" (defScope skind_of_form) f cdv A outer s H E) G (defBody skind_of_form) (w_kind_of_form_6b1e spkind_of_form) := by
 have hu : (A.deeper (envOfC "kind_of_form" (defScope skind_of_form) s.heap.objs.size f cdv)).units + 200 < cLine := by have := hr.un; omega
 unfold w_kind_of_form_6b1e
 exact (sims_cons (sim_if (simT_cmp (ops_eq hu) (sim_ix hu (sim_var 0) sim_int) sim_str (nomark _)) (sims_one (sim_ret (sim_ix hu (sim_var 0) sim_int))) sims_nil)
 (sims_one (sim_ret (sim_tup (simA_cons (sim_call Ckind_of_form hr hx (simA_cons (sim_ix hu (sim_var 0) sim_int) simA_nil)) (simA_cons (sim_call Ckind_of_form hr hx (simA_cons (sim_ix hu (sim_var 0) sim_int) simA_nil)) simA_nil))))))
theorem simjoined {P : Program} {w : World} {K : PySem.W.Frag} {mg : Str → Option Value} {base : Heap} {f : Addr} {k : Nat} {spkind_of_form : Den} {fkind_of_form : Addr} {fdkind_of_form : FuncData} (Ckind_of_form : Cal P w K mg base k "kind_of_form" ["form"] (spLift K spkind_of_form) fkind_of_form fdkind_of_form) {cdv : Value} {A : Around} {outer : List Env} {s : Shared} {H : Hp} {E : XK} {G : GX} (hr : Room k (A.deeper (envOfC "joined" (defScope sjoined) s.heap.objs.size f cdv))) (hx : Passes (CXE P w) (cxOf (CXE P w) P w K mg base ["wanted", "f", "g"] "joined" (defScope sjoined) f cdv A outer s H E) (xkOf K G.xh)) :
  SimSs (cxOf (CXE P w) P w K mg base ["wanted", "f", "g"] "joined" (defScope sjoined) f cdv A outer s H E) G (defBody sjoined) (w_joined_baf6 spkind_of_form) := by
 have hu : (A.deeper (envOfC "joined" (defScope sjoined) s.heap.objs.size f cdv)).units + 200 < cLine := by have := hr.un; omega
 unfold w_joined_baf6
 exact (sims_one (sim_ret (sim_tup (simA_cons sim_str (simA_cons (sim_call Ckind_of_form hr hx (simA_cons (sim_var 0) simA_nil)) (simA_cons (sim_tup (simA_cons sim_str (simA_cons (sim_var 1) (simA_cons (sim_tup (simA_cons sim_str (simA_cons (sim_var 2) (simA_cons (sim_tup (simA_cons sim_str (simA_cons sim_int simA_nil))) simA_nil)))) simA_nil)))) simA_nil))))))
theorem simmeant {P : Program} {w : World} {K : PySem.W.Frag} {mg : Str → Option Value} {base : Heap} {f : Addr} {k : Nat} {spjoined : Den} {fjoined : Addr} {fdjoined : FuncData} (Cjoined : Cal P w K mg base k "joined" ["wanted", "f", "g"] (spLift K spjoined) fjoined fdjoined) {cdv : Value} {A : Around} {outer : List Env} {s : Shared} {H : Hp} {E : XK} {G : GX} (hr : Room k (A.deeper (envOfC "meant" (defScope smeant) s.heap.objs.size f cdv))) (hx : Passes (CXE P w) (cxOf (CXE P w) P w K mg base ["sign", "left", "right", "first", "second"] "meant" (defScope smeant) f cdv A outer s H E) (xkOf K G.xh)) :
  SimSs (cxOf (CXE P w) P w K mg base ["sign", "left", "right", "first", "second"] "meant" (defScope smeant) f cdv A outer s H E) G (defBody smeant) (w_meant_762d spjoined) := by
 have hu : (A.deeper (envOfC "meant" (defScope smeant) s.heap.objs.size f cdv)).units + 200 < cLine := by have := hr.un; omega
 unfold w_meant_762d
 exact (sims_cons (sim_if (simT_cmp (ops_eq hu) (sim_var 0) sim_str (nomark _)) (sims_one (sim_ret (sim_tup (simA_cons sim_str (simA_cons (sim_var 3) (simA_cons (sim_var 4) simA_nil)))))) sims_nil)
 (sims_cons (sim_if (simT_cmp (ops_eq hu) (sim_var 0) sim_str (nomark _)) (sims_one (sim_ret (sim_tup (simA_cons sim_str (simA_cons (sim_var 4) (simA_cons (sim_var 3) simA_nil)))))) sims_nil)
 (sims_cons (sim_if (simT_cmp (ops_eq hu) (sim_var 0) sim_str (nomark _)) (sims_one (sim_ret (sim_call Cjoined hr hx (simA_cons (sim_ix hu (sim_var 2) sim_int) (simA_cons (sim_var 3) (simA_cons (sim_var 4) simA_nil)))))) sims_nil)
 (sims_one (sim_ret (sim_call Cjoined hr hx (simA_cons (sim_ix hu (sim_var 1) sim_int) (simA_cons (sim_var 4) (simA_cons (sim_var 3) simA_nil)))))))))
theorem simform_and_term {P : Program} {w : World} {K : PySem.W.Frag} {mg : Str → Option Value} {base : Heap} {f : Addr} {k : Nat} {spform_and_term : Den} {fform_and_term : Addr} {fdform_and_term : FuncData} {spmade : Den} {fmade : Addr} {fdmade : FuncData} {spmeant : Den} {fmeant : Addr} {fdmeant : FuncData} (Cform_and_term : Cal P w K mg base k "form_and_term" ["reading", "terms"] (spLift K spform_and_term) fform_and_term fdform_and_term) (Cmade : Cal P w K mg base k "made" ["left", "right"] (spLift K spmade) fmade fdmade) (Cmeant : Cal P w K mg base k "meant" ["sign", "left", "right", "first", "second"] (spLift K spmeant) fmeant fdmeant) {cdv : Value} {A : Around} {outer : List Env} {s : Shared} {H : Hp} {E : XK} {G : GX} (hr : Room k (A.deeper (envOfC "form_and_term" (defScope sform_and_term) s.heap.objs.size f cdv))) (hx : Passes (CXE P w) (cxOf (CXE P w) P w K mg base ["reading", "terms", "left", "first", "right", "second", "sign", "form"] "form_and_term" (defScope sform_and_term) f cdv A outer s H E) (xkOf K G.xh)) :
  SimSs (cxOf (CXE P w) P w K mg base ["reading", "terms", "left", "first", "right", "second", "sign", "form"] "form_and_term" (defScope sform_and_term) f cdv A outer s H E) G (defBody sform_and_term) (w_form_and_term_f2a5 spform_and_term spmade spmeant) := by
 have hu : (A.deeper (envOfC "form_and_term" (defScope sform_and_term) s.heap.objs.size f cdv)).units + 200 < cLine := by have := hr.un; omega
 unfold w_form_and_term_f2a5
 exact (sims_cons (sim_if (simT_cmp (ops_eq hu) (sim_ix hu (sim_var 0) sim_int) sim_str (nomark _)) (sims_one (sim_ret (sim_tup (simA_cons (sim_ix hu (sim_var 0) sim_int) (simA_cons (sim_ix hu (sim_var 1) (sim_ix hu (sim_var 0) sim_int)) simA_nil))))) sims_nil)
 (sims_cons (sim_asg (sim_call Cform_and_term hr hx (simA_cons (sim_ix hu (sim_var 0) sim_int) (simA_cons (sim_var 1) simA_nil))) (simG_tup 2 rfl (simGs_cons (simG_name (i := 2) scform_and_term.nd) (simGs_cons (simG_name (i := 3) scform_and_term.nd) simGs_nil))))
 (sims_cons (sim_asg (sim_call Cform_and_term hr hx (simA_cons (sim_ix hu (sim_var 0) sim_int) (simA_cons (sim_var 1) simA_nil))) (simG_tup 2 rfl (simGs_cons (simG_name (i := 4) scform_and_term.nd) (simGs_cons (simG_name (i := 5) scform_and_term.nd) simGs_nil))))
 (sims_cons (sim_asg (sim_call Cmade hr hx (simA_cons (sim_var 2) (simA_cons (sim_var 4) simA_nil))) (simG_tup 2 rfl (simGs_cons (simG_name (i := 6) scform_and_term.nd) (simGs_cons (simG_name (i := 7) scform_and_term.nd) simGs_nil))))
 (sims_one (sim_ret (sim_tup (simA_cons (sim_var 7) (simA_cons (sim_call Cmeant hr hx (simA_cons (sim_var 6) (simA_cons (sim_var 2) (simA_cons (sim_var 4) (simA_cons (sim_var 3) (simA_cons (sim_var 5) simA_nil)))))) simA_nil)))))))))
theorem simmeaning_with {P : Program} {w : World} {K : PySem.W.Frag} {mg : Str → Option Value} {base : Heap} {f : Addr} {k : Nat} {spform_and_term : Den} {fform_and_term : Addr} {fdform_and_term : FuncData} (Cform_and_term : Cal P w K mg base k "form_and_term" ["reading", "terms"] (spLift K spform_and_term) fform_and_term fdform_and_term) {cdv : Value} {A : Around} {outer : List Env} {s : Shared} {H : Hp} {E : XK} {G : GX} (hr : Room k (A.deeper (envOfC "meaning_with" (defScope smeaning_with) s.heap.objs.size f cdv))) (hx : Passes (CXE P w) (cxOf (CXE P w) P w K mg base ["reading", "terms"] "meaning_with" (defScope smeaning_with) f cdv A outer s H E) (xkOf K G.xh)) :
  SimSs (cxOf (CXE P w) P w K mg base ["reading", "terms"] "meaning_with" (defScope smeaning_with) f cdv A outer s H E) G (defBody smeaning_with) (w_meaning_with_52ef spform_and_term) := by
 have hu : (A.deeper (envOfC "meaning_with" (defScope smeaning_with) s.heap.objs.size f cdv)).units + 200 < cLine := by have := hr.un; omega
 unfold w_meaning_with_52ef
 exact (sims_one (sim_ret (sim_ix hu (sim_call Cform_and_term hr hx (simA_cons (sim_var 0) (simA_cons (sim_var 1) simA_nil))) sim_int)))
theorem simmeaning {P : Program} {w : World} {K : PySem.W.Frag} {mg : Str → Option Value} {base : Heap} {f : Addr} {k : Nat} {spterm_of : Den} {fterm_of : Addr} {fdterm_of : FuncData} {spwords_of : Den} {fwords_of : Addr} {fdwords_of : FuncData} {spmeaning_with : Den} {fmeaning_with : Addr} {fdmeaning_with : FuncData} (Cterm_of : Cal P w K mg base k "term_of" ["book", "word", "form"] (spLift K spterm_of) fterm_of fdterm_of) (Cwords_of : Cal P w K mg base k "words_of" ["reading"] (spLift K spwords_of) fwords_of fdwords_of) (Cmeaning_with : Cal P w K mg base k "meaning_with" ["reading", "terms"] (spLift K spmeaning_with) fmeaning_with fdmeaning_with) {cdv : Value} {A : Around} {outer : List Env} {s : Shared} {H : Hp} {E : XK} {G : GX} (hr : Room k (A.deeper (envOfC "meaning" (defScope smeaning) s.heap.objs.size f cdv))) (hx : Passes (CXE P w) (cxOf (CXE P w) P w K mg base ["book", "words", "reading", "terms"] "meaning" (defScope smeaning) f cdv A outer s H E) (xkOf K G.xh)) :
  SimSs (cxOf (CXE P w) P w K mg base ["book", "words", "reading", "terms"] "meaning" (defScope smeaning) f cdv A outer s H E) G (defBody smeaning) (w_meaning_2428 spterm_of spwords_of spmeaning_with) := by
 have hu : (A.deeper (envOfC "meaning" (defScope smeaning) s.heap.objs.size f cdv)).units + 200 < cLine := by have := hr.un; omega
 unfold w_meaning_2428
 exact (sims_cons (sim_setDC 3 ["place", "form", "book", "words"] [none, none, some 0, some 1] scmeaning.nd rfl (compOk rfl (by decide +kernel) (by decide +kernel) rfl ⟨⟨rfl, rfl, by first | exact Or.inl rfl | exact Or.inr rfl⟩, ⟨⟨rfl, rfl, by first | exact Or.inl rfl | exact Or.inr rfl⟩, trivial⟩⟩) (simI_any (sim_call Cwords_of hr hx (simA_cons (sim_var 2) simA_nil))) (fun _ _ _ _ _ => (simG_tup 2 rfl (simGs_cons (simG_name (i := 0) (show (["place", "form", "book", "words"] : List Str).Nodup by decide +kernel)) (simGs_cons (simG_name (i := 1) (show (["place", "form", "book", "words"] : List Str).Nodup by decide +kernel)) simGs_nil)))) (fun _ _ _ _ _ => (sim_var 0)) (fun _ _ _ _ _ => (sim_call Cterm_of hr passNo (simA_cons (sim_var 2) (simA_cons (sim_ix hu (sim_var 3) (sim_var 0)) (simA_cons (sim_var 1) simA_nil))))))
 (sims_one (sim_ret (sim_call Cmeaning_with hr hx (simA_cons (sim_var 2) (simA_cons (sim_var 3) simA_nil))))))
theorem simLjoined {P : Program} {w : World} {K : PySem.W.Frag} {mg : Str → Option Value} {base : Heap} {f : Addr} {k : Nat} {cdv : Value} {A : Around} {outer : List Env} {s : Shared} {H : Hp} {E : XK} {G : GX} (hr : Room k (A.deeper (envOfC "_law_joined" (defScope sLjoined) s.heap.objs.size f cdv))) (hx : Passes (CXE P w) (cxOf (CXE P w) P w K mg base ["_law_sign", "_law_left", "_law_right"] "_law_joined" (defScope sLjoined) f cdv A outer s H E) (xkOf K G.xh)) :
  SimSs (cxOf (CXE P w) P w K mg base ["_law_sign", "_law_left", "_law_right"] "_law_joined" (defScope sLjoined) f cdv A outer s H E) G (defBody sLjoined) (w_Ljoined_5273) := by
 have hu : (A.deeper (envOfC "_law_joined" (defScope sLjoined) s.heap.objs.size f cdv)).units + 200 < cLine := by have := hr.un; omega
 unfold w_Ljoined_5273
 exact (sims_cons (sim_if (simT_cmp (ops_eq hu) (sim_var 0) sim_str (nomark _)) (sims_one (sim_ret (sim_ix hu (sim_var 1) sim_int))) sims_nil)
 (sims_cons (sim_if (simT_cmp (ops_eq hu) (sim_var 0) sim_str (nomark _)) (sims_one (sim_ret (sim_ix hu (sim_var 2) sim_int))) sims_nil)
 (sims_cons (sim_if (simT_cmp (ops_eq hu) (sim_var 0) sim_str (nomark _)) (sims_one (sim_ret (sim_tup (simA_cons sim_str (simA_cons (sim_ix hu (sim_var 1) sim_int) (simA_cons (sim_ix hu (sim_var 2) sim_int) simA_nil)))))) sims_nil)
 (sims_one (sim_ret (sim_tup (simA_cons sim_str (simA_cons (sim_ix hu (sim_var 2) sim_int) (simA_cons (sim_ix hu (sim_var 1) sim_int) simA_nil)))))))))
theorem simLmeant {P : Program} {w : World} {K : PySem.W.Frag} {mg : Str → Option Value} {base : Heap} {f : Addr} {k : Nat} {spLmeant : Den} {fLmeant : Addr} {fdLmeant : FuncData} {spLjoined : Den} {fLjoined : Addr} {fdLjoined : FuncData} {spLkind_of_form : Den} {fLkind_of_form : Addr} {fdLkind_of_form : FuncData} (C_law_meant : Cal P w K mg base k "_law_meant" ["_law_reading", "_law_means_here"] (spLift K spLmeant) fLmeant fdLmeant) (C_law_joined : Cal P w K mg base k "_law_joined" ["_law_sign", "_law_left", "_law_right"] (spLift K spLjoined) fLjoined fdLjoined) (C_law_kind_of_form : Cal P w K mg base k "_law_kind_of_form" ["_law_form"] (spLift K spLkind_of_form) fLkind_of_form fdLkind_of_form) {cdv : Value} {A : Around} {outer : List Env} {s : Shared} {H : Hp} {E : XK} {G : GX} (hr : Room k (A.deeper (envOfC "_law_meant" (defScope sLmeant) s.heap.objs.size f cdv))) (hx : Passes (CXE P w) (cxOf (CXE P w) P w K mg base ["_law_reading", "_law_means_here", "_law_left", "_law_first", "_law_right", "_law_second", "_law_form"] "_law_meant" (defScope sLmeant) f cdv A outer s H E) (xkOf K G.xh)) :
  SimSs (cxOf (CXE P w) P w K mg base ["_law_reading", "_law_means_here", "_law_left", "_law_first", "_law_right", "_law_second", "_law_form"] "_law_meant" (defScope sLmeant) f cdv A outer s H E) G (defBody sLmeant) (w_Lmeant_53cc spLmeant spLjoined spLkind_of_form) := by
 have hu : (A.deeper (envOfC "_law_meant" (defScope sLmeant) s.heap.objs.size f cdv)).units + 200 < cLine := by have := hr.un; omega
 unfold w_Lmeant_53cc
 exact (sims_cons (sim_if (simT_cmp (ops_eq hu) (sim_ix hu (sim_var 0) sim_int) sim_str (nomark _)) (sims_one (sim_ret (sim_tup (simA_cons (sim_ix hu (sim_var 0) sim_int) (simA_cons (sim_ixN hu (sim_var 1) (sim_slice (sim_var 0) (simO_some sim_int) simO_none)) simA_nil))))) sims_nil)
 (sims_cons (sim_asg (sim_call C_law_meant hr hx (simA_cons (sim_ix hu (sim_var 0) sim_int) (simA_cons (sim_var 1) simA_nil))) (simG_tup 2 rfl (simGs_cons (simG_name (i := 2) scLmeant.nd) (simGs_cons (simG_name (i := 3) scLmeant.nd) simGs_nil))))
 (sims_cons (sim_asg (sim_call C_law_meant hr hx (simA_cons (sim_ix hu (sim_var 0) sim_int) (simA_cons (sim_var 1) simA_nil))) (simG_tup 2 rfl (simGs_cons (simG_name (i := 4) scLmeant.nd) (simGs_cons (simG_name (i := 5) scLmeant.nd) simGs_nil))))
 (sims_cons (sim_set 6 scLmeant.nd (sim_call C_law_joined hr hx (simA_cons (sim_ix hu (sim_var 0) sim_int) (simA_cons (sim_var 2) (simA_cons (sim_var 4) simA_nil)))))
 (sims_cons (sim_if (simT_cmp (ops_in hu) (sim_ix hu (sim_var 0) sim_int) (sim_tup (simA_cons sim_str (simA_cons sim_str simA_nil))) (by with_unfolding_all rfl)) (sims_one (sim_par 3 5 scLmeant.nd rfl (simA_cons (sim_var 5) (simA_cons (sim_var 3) simA_nil)))) sims_nil)
 (sims_cons (sim_if (simT_cmp (ops_in hu) (sim_ix hu (sim_var 0) sim_int) (sim_tup (simA_cons sim_str (simA_cons sim_str simA_nil))) (by with_unfolding_all rfl)) (sims_one (sim_ret (sim_tup (simA_cons (sim_var 6) (simA_cons (sim_tup (simA_cons sim_str (simA_cons (sim_var 3) (simA_cons (sim_var 5) simA_nil)))) simA_nil))))) sims_nil)
 (sims_one (sim_ret (sim_tup (simA_cons (sim_var 6) (simA_cons (sim_tup (simA_cons sim_str (simA_cons (sim_call C_law_kind_of_form hr hx (simA_cons (sim_ix hu (sim_var 6) sim_int) simA_nil)) (simA_cons (sim_tup (simA_cons sim_str (simA_cons (sim_var 3) (simA_cons (sim_tup (simA_cons sim_str (simA_cons (sim_var 5) (simA_cons (sim_tup (simA_cons sim_str (simA_cons sim_int simA_nil))) simA_nil)))) simA_nil)))) simA_nil)))) simA_nil)))))))))))
theorem simlaw {P : Program} {w : World} {K : PySem.W.Frag} {mg : Str → Option Value} {base : Heap} {f : Addr} {k : Nat} {spLdeck : Den} {fLdeck : Addr} {fdLdeck : FuncData} {spLwords : Den} {fLwords : Addr} {fdLwords : FuncData} {spLnext : Den} {fLnext : Addr} {fdLnext : FuncData} {spLtree : Den} {fLtree : Addr} {fdLtree : FuncData} {spLdrawn_form : Den} {fLdrawn_form : Addr} {fdLdrawn_form : FuncData} {spLsentence : Den} {fLsentence : Addr} {fdLsentence : FuncData} {spLwords_of : Den} {fLwords_of : Addr} {fdLwords_of : FuncData} {spLbook : Den} {fLbook : Addr} {fdLbook : FuncData} {spLmeans : Den} {fLmeans : Addr} {fdLmeans : FuncData} {spLwithin : Den} {fLwithin : Addr} {fdLwithin : FuncData} {spLsame : Den} {fLsame : Addr} {fdLsame : FuncData} {spmeaning : Den} {fmeaning : Addr} {fdmeaning : FuncData} {spLmeant : Den} {fLmeant : Addr} {fdLmeant : FuncData} (z_len : mg "len" = none) (C_law_deck : Cal P w K mg base k "_law_deck" ["_law_script"] (spLift K spLdeck) fLdeck fdLdeck) (C_law_words : Cal P w K mg base k "_law_words" ["_law_deck_here", "_law_many"] (spLift K spLwords) fLwords fdLwords) (C_law_next : Cal P w K mg base k "_law_next" ["_law_deck_here"] (spLift K spLnext) fLnext fdLnext) (C_law_tree : Cal P w K mg base k "_law_tree" ["_law_deck_here", "_law_basics", "_law_form", "_law_at", "_law_many"] (spLift K spLtree) fLtree fdLtree) (C_law_drawn_form : Cal P w K mg base k "_law_drawn_form" ["_law_deck_here", "_law_basics"] (spLift K spLdrawn_form) fLdrawn_form fdLdrawn_form) (C_law_sentence : Cal P w K mg base k "_law_sentence" ["_law_deck_here", "_law_reading"] (spLift K spLsentence) fLsentence fdLsentence) (C_law_words_of : Cal P w K mg base k "_law_words_of" ["_law_reading"] (spLift K spLwords_of) fLwords_of fdLwords_of) (C_law_book : Cal P w K mg base k "_law_book" ["_law_deck_here", "_law_basics", "_law_some"] (spLift K spLbook) fLbook fdLbook) (C_law_means : Cal P w K mg base k "_law_means" ["_law_book_here", "_law_words_here", "_law_reading"] (spLift K spLmeans) fLmeans fdLmeans) (C_law_within : Cal P w K mg base k "_law_within" ["_law_reading"] (spLift K spLwithin) fLwithin fdLwithin) (C_law_same : Cal P w K mg base k "_law_same" ["_law_one", "_law_other_here"] (spLift K spLsame) fLsame fdLsame) (Cmeaning : Cal P w K mg base k "meaning" ["book", "words", "reading"] (spLift K spmeaning) fmeaning fdmeaning) (C_law_meant : Cal P w K mg base k "_law_meant" ["_law_reading", "_law_means_here"] (spLift K spLmeant) fLmeant fdLmeant) {cdv : Value} {A : Around} {outer : List Env} {s : Shared} {H : Hp} {E : XK} {G : GX} (hr : Room k (A.deeper (envOfC "law" (defScope slaw) s.heap.objs.size f cdv))) (hx : Passes (CXE P w) (cxOf (CXE P w) P w K mg base ["_law_script", "_law_deck_here", "_law_basics", "_law_reading", "_law_words_here", "_law_some", "_law_turn", "_law_book_here", "_law_means_here", "_law_one"] "law" (defScope slaw) f cdv A outer s H E) (xkOf K G.xh)) :
  SimSs (cxOf (CXE P w) P w K mg base ["_law_script", "_law_deck_here", "_law_basics", "_law_reading", "_law_words_here", "_law_some", "_law_turn", "_law_book_here", "_law_means_here", "_law_one"] "law" (defScope slaw) f cdv A outer s H E) G (defBody slaw) (w_law_7c0c spLdeck spLwords spLnext spLtree spLdrawn_form spLsentence spLwords_of spLbook spLmeans spLwithin spLsame spmeaning spLmeant) := by
 have hu : (A.deeper (envOfC "law" (defScope slaw) s.heap.objs.size f cdv)).units + 200 < cLine := by have := hr.un; omega
 unfold w_law_7c0c
 exact (sims_cons (sim_set 1 sclaw.nd (sim_call C_law_deck hr hx (simA_cons (sim_var 0) simA_nil)))
 (sims_cons (sim_set 2 sclaw.nd (sim_call C_law_words hr hx (simA_cons (sim_var 1) (simA_cons (sim_bin ops_add sim_int (sim_bin ops_mod (sim_call C_law_next hr hx (simA_cons (sim_var 1) simA_nil)) sim_int)) simA_nil))))
 (sims_cons (sim_set 3 sclaw.nd (sim_call C_law_tree hr hx (simA_cons (sim_var 1) (simA_cons (sim_var 2) (simA_cons (sim_call C_law_drawn_form hr hx (simA_cons (sim_var 1) (simA_cons (sim_var 2) simA_nil))) (simA_cons sim_int (simA_cons (sim_bin ops_add sim_int (sim_bin ops_mod (sim_call C_law_next hr hx (simA_cons (sim_var 1) simA_nil)) sim_int)) simA_nil)))))))
 (sims_cons (sim_set 4 sclaw.nd (sim_call C_law_sentence hr hx (simA_cons (sim_var 1) (simA_cons (sim_var 3) simA_nil))))
 (sims_cons (sim_setComp 5 ["_law_place", "_law_form", "_law_words_here"] [none, none, some 4] sclaw.nd rfl (compOk rfl (by decide +kernel) (by decide +kernel) rfl ⟨⟨rfl, rfl, by first | exact Or.inl rfl | exact Or.inr rfl⟩, trivial⟩) (simI_any (sim_call C_law_words_of hr hx (simA_cons (sim_var 3) simA_nil))) (fun _ _ _ _ _ => (simG_tup 2 rfl (simGs_cons (simG_name (i := 0) (show (["_law_place", "_law_form", "_law_words_here"] : List Str).Nodup by decide +kernel)) (simGs_cons (simG_name (i := 1) (show (["_law_place", "_law_form", "_law_words_here"] : List Str).Nodup by decide +kernel)) simGs_nil)))) (fun _ _ _ _ _ => (sim_tup (simA_cons (sim_ix hu (sim_var 2) (sim_var 0)) (simA_cons (sim_var 1) simA_nil)))))
 (sims_cons (sim_set 6 sclaw.nd (sim_bin ops_mod (sim_call C_law_next hr hx (simA_cons (sim_var 1) simA_nil)) (sim_callB calls_len z_len PySem.boot_len (simA_cons (sim_var 5) simA_nil))))
 (sims_cons (sim_set 7 sclaw.nd (sim_call C_law_book hr hx (simA_cons (sim_var 1) (simA_cons (sim_var 2) (simA_cons (sim_bin ops_add (sim_slice (sim_var 5) (simO_some (sim_var 6)) simO_none) (sim_slice (sim_var 5) simO_none (simO_some (sim_var 6)))) simA_nil)))))
 (sims_cons (sim_set 8 sclaw.nd (sim_call C_law_means hr hx (simA_cons (sim_var 7) (simA_cons (sim_var 4) (simA_cons (sim_var 3) simA_nil)))))
 (sims_cons (sim_for PassesOwn.leaving rfl (simI_any (sim_bin ops_add (sim_call C_law_within hr hx (simA_cons (sim_var 3) simA_nil)) (sim_lst (simA_cons (sim_var 3) simA_nil)))) (simG_name (i := 9) sclaw.nd) (sims_one (sim_if (simT_not (simT_tru (sim_call C_law_same hr hx (simA_cons (sim_ix hu (sim_call C_law_meant hr hx (simA_cons (sim_var 9) (simA_cons (sim_var 8) simA_nil))) sim_int) (simA_cons (sim_call Cmeaning hr hx (simA_cons (sim_var 7) (simA_cons (sim_var 4) (simA_cons (sim_var 9) simA_nil)))) simA_nil))))) (sims_one (sim_ret sim_bl)) sims_nil)))
 (sims_one (sim_ret sim_bl)))))))))))
structure Tab where
 dLdeck : Den
 dLnext : Den
 dLspelled : Den
 dLword : Den
 dLwords : Den
 dLwide : Den
 dLother : Den
 dLtree : Den
 dLdrawn_form : Den
 dLwithin : Den
 dLwords_of : Den
 dLsentence : Den
 dLnamed : Den
 dLapplied : Den
 dLterm : Den
 dLkind_of_form : Den
 dLbook : Den
 dLmeans : Den
 dLsame : Den
 drows_of : Den
 dterm_of : Den
 dwords_of : Den
 dmade : Den
 dkind_of_form : Den
 djoined : Den
 dmeant : Den
 dform_and_term : Den
 dmeaning_with : Den
 dmeaning : Den
 dLjoined : Den
 dLmeant : Den
 dlaw : Den
noncomputable def tabS (t : Tab) : Tab where
 dLdeck := fnP 1 3 (w_Ldeck_1929)
 dLnext := fnP 1 4 (w_Lnext_2686)
 dLspelled := fnP 2 4 (w_Lspelled_70ad)
 dLword := fnP 2 7 (w_Lword_e7ab t.dLnext t.dLspelled)
 dLwords := fnP 2 4 (w_Lwords_3282 t.dLword)
 dLwide := fnP 1 1 (w_Lwide_d829 t.dLwide)
 dLother := fnP 3 5 (w_Lother_a5e2 t.dLnext t.dLwide)
 dLtree := fnP 5 11 (w_Ltree_6b41 t.dLnext t.dLother t.dLwide t.dLtree)
 dLdrawn_form := fnP 2 5 (w_Ldrawn_form_6081 t.dLnext t.dLother)
 dLwithin := fnP 1 1 (w_Lwithin_04fb t.dLwithin)
 dLwords_of := fnP 1 1 (w_Lwords_of_c1a7 t.dLwithin)
 dLsentence := fnP 2 4 (w_Lsentence_e832 t.dLwords_of t.dLwords t.dLnext)
 dLnamed := fnP 3 5 (w_Lnamed_d254)
 dLapplied := fnP 5 10 (w_Lapplied_3da1 t.dLnext t.dLnamed)
 dLterm := fnP 4 11 (w_Lterm_dd14 t.dLnext t.dLnamed t.dLapplied)
 dLkind_of_form := fnP 1 1 (w_Lkind_of_form_ebfd t.dLkind_of_form)
 dLbook := fnP 3 8 (w_Lbook_2f0c t.dLwords t.dLterm t.dLkind_of_form)
 dLmeans := fnP 3 9 (w_Lmeans_bcd7 t.dLwords_of)
 dLsame := fnP 2 2 (w_Lsame_bb4e t.dLsame)
 drows_of := fnP 2 3 (w_rows_of_2836)
 dterm_of := fnP 3 5 (w_term_of_4c0a t.drows_of)
 dwords_of := fnP 1 1 (w_words_of_0033 t.dwords_of)
 dmade := fnP 2 2 (w_made_59db)
 dkind_of_form := fnP 1 1 (w_kind_of_form_6b1e t.dkind_of_form)
 djoined := fnP 3 3 (w_joined_baf6 t.dkind_of_form)
 dmeant := fnP 5 5 (w_meant_762d t.djoined)
 dform_and_term := fnP 2 8 (w_form_and_term_f2a5 t.dform_and_term t.dmade t.dmeant)
 dmeaning_with := fnP 2 2 (w_meaning_with_52ef t.dform_and_term)
 dmeaning := fnP 3 4 (w_meaning_2428 t.dterm_of t.dwords_of t.dmeaning_with)
 dLjoined := fnP 3 3 (w_Ljoined_5273)
 dLmeant := fnP 2 7 (w_Lmeant_53cc t.dLmeant t.dLjoined t.dLkind_of_form)
 dlaw := fnP 1 10 (w_law_7c0c t.dLdeck t.dLwords t.dLnext t.dLtree t.dLdrawn_form t.dLsentence t.dLwords_of t.dLbook t.dLmeans t.dLwithin t.dLsame t.dmeaning t.dLmeant)
noncomputable def tab : Nat → Tab
 | 0 => ⟨fun _ _ _ _ => False, fun _ _ _ _ => False, fun _ _ _ _ => False, fun _ _ _ _ => False, fun _ _ _ _ => False, fun _ _ _ _ => False, fun _ _ _ _ => False, fun _ _ _ _ => False, fun _ _ _ _ => False, fun _ _ _ _ => False, fun _ _ _ _ => False, fun _ _ _ _ => False, fun _ _ _ _ => False, fun _ _ _ _ => False, fun _ _ _ _ => False, fun _ _ _ _ => False, fun _ _ _ _ => False, fun _ _ _ _ => False, fun _ _ _ _ => False, fun _ _ _ _ => False, fun _ _ _ _ => False, fun _ _ _ _ => False, fun _ _ _ _ => False, fun _ _ _ _ => False, fun _ _ _ _ => False, fun _ _ _ _ => False, fun _ _ _ _ => False, fun _ _ _ _ => False, fun _ _ _ _ => False, fun _ _ _ _ => False, fun _ _ _ _ => False, fun _ _ _ _ => False⟩
 | k + 1 => tabS (tab k)
theorem good {P : Program} {w : World} {K : PySem.W.Frag} {mg : Str → Option Value} {base : Heap} {fLdeck : Addr} {fdLdeck : FuncData} {fLnext : Addr} {fdLnext : FuncData} {fLspelled : Addr} {fdLspelled : FuncData} {fLword : Addr} {fdLword : FuncData} {fLwords : Addr} {fdLwords : FuncData} {fLwide : Addr} {fdLwide : FuncData} {fLother : Addr} {fdLother : FuncData} {fLtree : Addr} {fdLtree : FuncData} {fLdrawn_form : Addr} {fdLdrawn_form : FuncData} {fLwithin : Addr} {fdLwithin : FuncData} {fLwords_of : Addr} {fdLwords_of : FuncData} {fLsentence : Addr} {fdLsentence : FuncData} {fLnamed : Addr} {fdLnamed : FuncData} {fLapplied : Addr} {fdLapplied : FuncData} {fLterm : Addr} {fdLterm : FuncData} {fLkind_of_form : Addr} {fdLkind_of_form : FuncData} {fLbook : Addr} {fdLbook : FuncData} {fLmeans : Addr} {fdLmeans : FuncData} {fLsame : Addr} {fdLsame : FuncData} {frows_of : Addr} {fdrows_of : FuncData} {fterm_of : Addr} {fdterm_of : FuncData} {fwords_of : Addr} {fdwords_of : FuncData} {fmade : Addr} {fdmade : FuncData} {fkind_of_form : Addr} {fdkind_of_form : FuncData} {fjoined : Addr} {fdjoined : FuncData} {fmeant : Addr} {fdmeant : FuncData} {fform_and_term : Addr} {fdform_and_term : FuncData} {fmeaning_with : Addr} {fdmeaning_with : FuncData} {fmeaning : Addr} {fdmeaning : FuncData} {fLjoined : Addr} {fdLjoined : FuncData} {fLmeant : Addr} {fdLmeant : FuncData} {flaw : Addr} {fdlaw : FuncData} (L_law_deck : Loc2 K mg "_law_deck" sLdeck ["_law_script"] fLdeck fdLdeck) (L_law_next : Loc2 K mg "_law_next" sLnext ["_law_deck_here"] fLnext fdLnext) (L_law_spelled : Loc2 K mg "_law_spelled" sLspelled ["_law_number", "_law_size"] fLspelled fdLspelled) (L_law_word : Loc2 K mg "_law_word" sLword ["_law_deck_here", "_law_words_here"] fLword fdLword) (L_law_words : Loc2 K mg "_law_words" sLwords ["_law_deck_here", "_law_many"] fLwords fdLwords) (L_law_wide : Loc2 K mg "_law_wide" sLwide ["_law_form"] fLwide fdLwide) (L_law_other : Loc2 K mg "_law_other" sLother ["_law_deck_here", "_law_basics", "_law_form"] fLother fdLother) (L_law_tree : Loc2 K mg "_law_tree" sLtree ["_law_deck_here", "_law_basics", "_law_form", "_law_at", "_law_many"] fLtree fdLtree) (L_law_drawn_form : Loc2 K mg "_law_drawn_form" sLdrawn_form ["_law_deck_here", "_law_basics"] fLdrawn_form fdLdrawn_form) (L_law_within : Loc2 K mg "_law_within" sLwithin ["_law_reading"] fLwithin fdLwithin) (L_law_words_of : Loc2 K mg "_law_words_of" sLwords_of ["_law_reading"] fLwords_of fdLwords_of) (L_law_sentence : Loc2 K mg "_law_sentence" sLsentence ["_law_deck_here", "_law_reading"] fLsentence fdLsentence) (L_law_named : Loc2 K mg "_law_named" sLnamed ["_law_book_names", "_law_words_here", "_law_kind"] fLnamed fdLnamed) (L_law_applied : Loc2 K mg "_law_applied" sLapplied ["_law_deck_here", "_law_names", "_law_words_here", "_law_kinds", "_law_last"] fLapplied fdLapplied) (L_law_term : Loc2 K mg "_law_term" sLterm ["_law_deck_here", "_law_names", "_law_words_here", "_law_kind"] fLterm fdLterm) (L_law_kind_of_form : Loc2 K mg "_law_kind_of_form" sLkind_of_form ["_law_form"] fLkind_of_form fdLkind_of_form) (L_law_book : Loc2 K mg "_law_book" sLbook ["_law_deck_here", "_law_basics", "_law_some"] fLbook fdLbook) (L_law_means : Loc2 K mg "_law_means" sLmeans ["_law_book_here", "_law_words_here", "_law_reading"] fLmeans fdLmeans) (L_law_same : Loc2 K mg "_law_same" sLsame ["_law_one", "_law_other_here"] fLsame fdLsame) (Lrows_of : Loc2 K mg "rows_of" srows_of ["book", "word"] frows_of fdrows_of) (Lterm_of : Loc2 K mg "term_of" sterm_of ["book", "word", "form"] fterm_of fdterm_of) (Lwords_of : Loc2 K mg "words_of" swords_of ["reading"] fwords_of fdwords_of) (Lmade : Loc2 K mg "made" smade ["left", "right"] fmade fdmade) (Lkind_of_form : Loc2 K mg "kind_of_form" skind_of_form ["form"] fkind_of_form fdkind_of_form) (Ljoined : Loc2 K mg "joined" sjoined ["wanted", "f", "g"] fjoined fdjoined) (Lmeant : Loc2 K mg "meant" smeant ["sign", "left", "right", "first", "second"] fmeant fdmeant) (Lform_and_term : Loc2 K mg "form_and_term" sform_and_term ["reading", "terms"] fform_and_term fdform_and_term) (Lmeaning_with : Loc2 K mg "meaning_with" smeaning_with ["reading", "terms"] fmeaning_with fdmeaning_with) (Lmeaning : Loc2 K mg "meaning" smeaning ["book", "words", "reading"] fmeaning fdmeaning) (L_law_joined : Loc2 K mg "_law_joined" sLjoined ["_law_sign", "_law_left", "_law_right"] fLjoined fdLjoined) (L_law_meant : Loc2 K mg "_law_meant" sLmeant ["_law_reading", "_law_means_here"] fLmeant fdLmeant) (Llaw : Loc2 K mg "law" slaw ["_law_script"] flaw fdlaw) (z_all : mg "all" = none) (z_bool : mg "bool" = none) (z_int : mg "int" = none) (z_isinstance : mg "isinstance" = none) (z_len : mg "len" = none) (z_list : mg "list" = none) (z_range : mg "range" = none) (z_reversed : mg "reversed" = none) (z_str : mg "str" = none) (z_sum : mg "sum" = none) (z_tuple : mg "tuple" = none) (z_zip : mg "zip" = none) (x_NoForm : ExcC K mg "NoForm") : ∀ k : Nat,
  Cal P w K mg base k "_law_deck" ["_law_script"] (spLift K (tab k).dLdeck) fLdeck fdLdeck ∧
  Cal P w K mg base k "_law_next" ["_law_deck_here"] (spLift K (tab k).dLnext) fLnext fdLnext ∧
  Cal P w K mg base k "_law_spelled" ["_law_number", "_law_size"] (spLift K (tab k).dLspelled) fLspelled fdLspelled ∧
  Cal P w K mg base k "_law_word" ["_law_deck_here", "_law_words_here"] (spLift K (tab k).dLword) fLword fdLword ∧
  Cal P w K mg base k "_law_words" ["_law_deck_here", "_law_many"] (spLift K (tab k).dLwords) fLwords fdLwords ∧
  Cal P w K mg base k "_law_wide" ["_law_form"] (spLift K (tab k).dLwide) fLwide fdLwide ∧
  Cal P w K mg base k "_law_other" ["_law_deck_here", "_law_basics", "_law_form"] (spLift K (tab k).dLother) fLother fdLother ∧
  Cal P w K mg base k "_law_tree" ["_law_deck_here", "_law_basics", "_law_form", "_law_at", "_law_many"] (spLift K (tab k).dLtree) fLtree fdLtree ∧
  Cal P w K mg base k "_law_drawn_form" ["_law_deck_here", "_law_basics"] (spLift K (tab k).dLdrawn_form) fLdrawn_form fdLdrawn_form ∧
  Cal P w K mg base k "_law_within" ["_law_reading"] (spLift K (tab k).dLwithin) fLwithin fdLwithin ∧
  Cal P w K mg base k "_law_words_of" ["_law_reading"] (spLift K (tab k).dLwords_of) fLwords_of fdLwords_of ∧
  Cal P w K mg base k "_law_sentence" ["_law_deck_here", "_law_reading"] (spLift K (tab k).dLsentence) fLsentence fdLsentence ∧
  Cal P w K mg base k "_law_named" ["_law_book_names", "_law_words_here", "_law_kind"] (spLift K (tab k).dLnamed) fLnamed fdLnamed ∧
  Cal P w K mg base k "_law_applied" ["_law_deck_here", "_law_names", "_law_words_here", "_law_kinds", "_law_last"] (spLift K (tab k).dLapplied) fLapplied fdLapplied ∧
  Cal P w K mg base k "_law_term" ["_law_deck_here", "_law_names", "_law_words_here", "_law_kind"] (spLift K (tab k).dLterm) fLterm fdLterm ∧
  Cal P w K mg base k "_law_kind_of_form" ["_law_form"] (spLift K (tab k).dLkind_of_form) fLkind_of_form fdLkind_of_form ∧
  Cal P w K mg base k "_law_book" ["_law_deck_here", "_law_basics", "_law_some"] (spLift K (tab k).dLbook) fLbook fdLbook ∧
  Cal P w K mg base k "_law_means" ["_law_book_here", "_law_words_here", "_law_reading"] (spLift K (tab k).dLmeans) fLmeans fdLmeans ∧
  Cal P w K mg base k "_law_same" ["_law_one", "_law_other_here"] (spLift K (tab k).dLsame) fLsame fdLsame ∧
  Cal P w K mg base k "rows_of" ["book", "word"] (spLift K (tab k).drows_of) frows_of fdrows_of ∧
  Cal P w K mg base k "term_of" ["book", "word", "form"] (spLift K (tab k).dterm_of) fterm_of fdterm_of ∧
  Cal P w K mg base k "words_of" ["reading"] (spLift K (tab k).dwords_of) fwords_of fdwords_of ∧
  Cal P w K mg base k "made" ["left", "right"] (spLift K (tab k).dmade) fmade fdmade ∧
  Cal P w K mg base k "kind_of_form" ["form"] (spLift K (tab k).dkind_of_form) fkind_of_form fdkind_of_form ∧
  Cal P w K mg base k "joined" ["wanted", "f", "g"] (spLift K (tab k).djoined) fjoined fdjoined ∧
  Cal P w K mg base k "meant" ["sign", "left", "right", "first", "second"] (spLift K (tab k).dmeant) fmeant fdmeant ∧
  Cal P w K mg base k "form_and_term" ["reading", "terms"] (spLift K (tab k).dform_and_term) fform_and_term fdform_and_term ∧
  Cal P w K mg base k "meaning_with" ["reading", "terms"] (spLift K (tab k).dmeaning_with) fmeaning_with fdmeaning_with ∧
  Cal P w K mg base k "meaning" ["book", "words", "reading"] (spLift K (tab k).dmeaning) fmeaning fdmeaning ∧
  Cal P w K mg base k "_law_joined" ["_law_sign", "_law_left", "_law_right"] (spLift K (tab k).dLjoined) fLjoined fdLjoined ∧
  Cal P w K mg base k "_law_meant" ["_law_reading", "_law_means_here"] (spLift K (tab k).dLmeant) fLmeant fdLmeant ∧
  Cal P w K mg base k "law" ["_law_script"] (spLift K (tab k).dlaw) flaw fdlaw
 | 0 => ⟨L_law_deck.cal fn_no, L_law_next.cal fn_no, L_law_spelled.cal fn_no, L_law_word.cal fn_no, L_law_words.cal fn_no, L_law_wide.cal fn_no, L_law_other.cal fn_no, L_law_tree.cal fn_no, L_law_drawn_form.cal fn_no, L_law_within.cal fn_no, L_law_words_of.cal fn_no, L_law_sentence.cal fn_no, L_law_named.cal fn_no, L_law_applied.cal fn_no, L_law_term.cal fn_no, L_law_kind_of_form.cal fn_no, L_law_book.cal fn_no, L_law_means.cal fn_no, L_law_same.cal fn_no, Lrows_of.cal fn_no, Lterm_of.cal fn_no, Lwords_of.cal fn_no, Lmade.cal fn_no, Lkind_of_form.cal fn_no, Ljoined.cal fn_no, Lmeant.cal fn_no, Lform_and_term.cal fn_no, Lmeaning_with.cal fn_no, Lmeaning.cal fn_no, L_law_joined.cal fn_no, L_law_meant.cal fn_no, Llaw.cal fn_no⟩
 | k + 1 => by
  have IH := good (P := P) (w := w) (base := base) L_law_deck L_law_next L_law_spelled L_law_word L_law_words L_law_wide L_law_other L_law_tree L_law_drawn_form L_law_within L_law_words_of L_law_sentence L_law_named L_law_applied L_law_term L_law_kind_of_form L_law_book L_law_means L_law_same Lrows_of Lterm_of Lwords_of Lmade Lkind_of_form Ljoined Lmeant Lform_and_term Lmeaning_with Lmeaning L_law_joined L_law_meant Llaw z_all z_bool z_int z_isinstance z_len z_list z_range z_reversed z_str z_sum z_tuple z_zip x_NoForm k
  exact ⟨L_law_deck.cal (fn_sim L_law_deck.F scLdeck fun _ _ _ _ _ _ _ hr hx => simLdeck z_sum hr hx),
   L_law_next.cal (fn_sim L_law_next.F scLnext fun _ _ _ _ _ _ _ hr hx => simLnext z_len hr hx),
   L_law_spelled.cal (fn_sim L_law_spelled.F scLspelled fun _ _ _ _ _ _ _ hr hx => simLspelled z_range hr hx),
   L_law_word.cal (fn_sim L_law_word.F scLword fun _ _ _ _ _ _ _ hr hx => simLword z_len IH.2.1 IH.2.2.1 hr hx),
   L_law_words.cal (fn_sim L_law_words.F scLwords fun _ _ _ _ _ _ _ hr hx => simLwords z_range IH.2.2.2.1 hr hx),
   L_law_wide.cal (fn_sim L_law_wide.F scLwide fun _ _ _ _ _ _ _ hr hx => simLwide IH.2.2.2.2.2.1 hr hx),
   L_law_other.cal (fn_sim L_law_other.F scLother fun _ _ _ _ _ _ _ hr hx => simLother z_len IH.2.1 IH.2.2.2.2.2.1 hr hx),
   L_law_tree.cal (fn_sim L_law_tree.F scLtree fun _ _ _ _ _ _ _ hr hx => simLtree IH.2.1 IH.2.2.2.2.2.2.1 IH.2.2.2.2.2.1 IH.2.2.2.2.2.2.2.1 hr hx),
   L_law_drawn_form.cal (fn_sim L_law_drawn_form.F scLdrawn_form fun _ _ _ _ _ _ _ hr hx => simLdrawn_form z_len IH.2.1 IH.2.2.2.2.2.2.1 hr hx),
   L_law_within.cal (fn_sim L_law_within.F scLwithin fun _ _ _ _ _ _ _ hr hx => simLwithin IH.2.2.2.2.2.2.2.2.2.1 hr hx),
   L_law_words_of.cal (fn_sim L_law_words_of.F scLwords_of fun _ _ _ _ _ _ _ hr hx => simLwords_of IH.2.2.2.2.2.2.2.2.2.1 hr hx),
   L_law_sentence.cal (fn_sim L_law_sentence.F scLsentence fun _ _ _ _ _ _ _ hr hx => simLsentence z_len z_range z_tuple IH.2.2.2.2.2.2.2.2.2.2.1 IH.2.2.2.2.1 IH.2.1 hr hx),
   L_law_named.cal (fn_sim L_law_named.F scLnamed fun _ _ _ _ _ _ _ hr hx => simLnamed hr hx),
   L_law_applied.cal (fn_sim L_law_applied.F scLapplied fun _ _ _ _ _ _ _ hr hx => simLapplied z_len z_list z_range z_reversed IH.2.1 IH.2.2.2.2.2.2.2.2.2.2.2.2.1 hr hx),
   L_law_term.cal (fn_sim L_law_term.F scLterm fun _ _ _ _ _ _ _ hr hx => simLterm z_isinstance z_len z_range z_reversed z_tuple IH.2.1 IH.2.2.2.2.2.2.2.2.2.2.2.2.1 IH.2.2.2.2.2.2.2.2.2.2.2.2.2.1 hr hx),
   L_law_kind_of_form.cal (fn_sim L_law_kind_of_form.F scLkind_of_form fun _ _ _ _ _ _ _ hr hx => simLkind_of_form IH.2.2.2.2.2.2.2.2.2.2.2.2.2.2.2.1 hr hx),
   L_law_book.cal (fn_sim L_law_book.F scLbook fun _ _ _ _ _ _ _ hr hx => simLbook z_tuple IH.2.2.2.2.1 IH.2.2.2.2.2.2.2.2.2.2.2.2.2.2.1 IH.2.2.2.2.2.2.2.2.2.2.2.2.2.2.2.1 hr hx),
   L_law_means.cal (fn_sim L_law_means.F scLmeans fun _ _ _ _ _ _ _ hr hx => simLmeans IH.2.2.2.2.2.2.2.2.2.2.1 hr hx),
   L_law_same.cal (fn_sim L_law_same.F scLsame fun _ _ _ _ _ _ _ hr hx => simLsame z_all z_bool z_int z_isinstance z_len z_str z_tuple z_zip IH.2.2.2.2.2.2.2.2.2.2.2.2.2.2.2.2.2.2.1 hr hx),
   Lrows_of.cal (fn_sim Lrows_of.F scrows_of fun _ _ _ _ _ _ _ hr hx => simrows_of hr hx),
   Lterm_of.cal (fn_sim Lterm_of.F scterm_of fun _ _ _ _ _ _ _ hr hx => simterm_of x_NoForm IH.2.2.2.2.2.2.2.2.2.2.2.2.2.2.2.2.2.2.2.1 hr hx),
   Lwords_of.cal (fn_sim Lwords_of.F scwords_of fun _ _ _ _ _ _ _ hr hx => simwords_of IH.2.2.2.2.2.2.2.2.2.2.2.2.2.2.2.2.2.2.2.2.2.1 hr hx),
   Lmade.cal (fn_sim Lmade.F scmade fun _ _ _ _ _ _ _ hr hx => simmade hr hx),
   Lkind_of_form.cal (fn_sim Lkind_of_form.F sckind_of_form fun _ _ _ _ _ _ _ hr hx => simkind_of_form IH.2.2.2.2.2.2.2.2.2.2.2.2.2.2.2.2.2.2.2.2.2.2.2.1 hr hx),
   Ljoined.cal (fn_sim Ljoined.F scjoined fun _ _ _ _ _ _ _ hr hx => simjoined IH.2.2.2.2.2.2.2.2.2.2.2.2.2.2.2.2.2.2.2.2.2.2.2.1 hr hx),
   Lmeant.cal (fn_sim Lmeant.F scmeant fun _ _ _ _ _ _ _ hr hx => simmeant IH.2.2.2.2.2.2.2.2.2.2.2.2.2.2.2.2.2.2.2.2.2.2.2.2.1 hr hx),
   Lform_and_term.cal (fn_sim Lform_and_term.F scform_and_term fun _ _ _ _ _ _ _ hr hx => simform_and_term IH.2.2.2.2.2.2.2.2.2.2.2.2.2.2.2.2.2.2.2.2.2.2.2.2.2.2.1 IH.2.2.2.2.2.2.2.2.2.2.2.2.2.2.2.2.2.2.2.2.2.2.1 IH.2.2.2.2.2.2.2.2.2.2.2.2.2.2.2.2.2.2.2.2.2.2.2.2.2.1 hr hx),
   Lmeaning_with.cal (fn_sim Lmeaning_with.F scmeaning_with fun _ _ _ _ _ _ _ hr hx => simmeaning_with IH.2.2.2.2.2.2.2.2.2.2.2.2.2.2.2.2.2.2.2.2.2.2.2.2.2.2.1 hr hx),
   Lmeaning.cal (fn_sim Lmeaning.F scmeaning fun _ _ _ _ _ _ _ hr hx => simmeaning IH.2.2.2.2.2.2.2.2.2.2.2.2.2.2.2.2.2.2.2.2.1 IH.2.2.2.2.2.2.2.2.2.2.2.2.2.2.2.2.2.2.2.2.2.1 IH.2.2.2.2.2.2.2.2.2.2.2.2.2.2.2.2.2.2.2.2.2.2.2.2.2.2.2.1 hr hx),
   L_law_joined.cal (fn_sim L_law_joined.F scLjoined fun _ _ _ _ _ _ _ hr hx => simLjoined hr hx),
   L_law_meant.cal (fn_sim L_law_meant.F scLmeant fun _ _ _ _ _ _ _ hr hx => simLmeant IH.2.2.2.2.2.2.2.2.2.2.2.2.2.2.2.2.2.2.2.2.2.2.2.2.2.2.2.2.2.2.1 IH.2.2.2.2.2.2.2.2.2.2.2.2.2.2.2.2.2.2.2.2.2.2.2.2.2.2.2.2.2.1 IH.2.2.2.2.2.2.2.2.2.2.2.2.2.2.2.1 hr hx),
   Llaw.cal (fn_sim Llaw.F sclaw fun _ _ _ _ _ _ _ hr hx => simlaw z_len IH.1 IH.2.2.2.2.1 IH.2.1 IH.2.2.2.2.2.2.2.1 IH.2.2.2.2.2.2.2.2.1 IH.2.2.2.2.2.2.2.2.2.2.2.1 IH.2.2.2.2.2.2.2.2.2.2.1 IH.2.2.2.2.2.2.2.2.2.2.2.2.2.2.2.2.1 IH.2.2.2.2.2.2.2.2.2.2.2.2.2.2.2.2.2.1 IH.2.2.2.2.2.2.2.2.2.1 IH.2.2.2.2.2.2.2.2.2.2.2.2.2.2.2.2.2.2.1 IH.2.2.2.2.2.2.2.2.2.2.2.2.2.2.2.2.2.2.2.2.2.2.2.2.2.2.2.2.1 IH.2.2.2.2.2.2.2.2.2.2.2.2.2.2.2.2.2.2.2.2.2.2.2.2.2.2.2.2.2.2.1 hr hx)⟩
theorem len_1 {P : List Value → Prop} {ps : List Str} (hp : ps.length = 1) (h : ∀ a0, P [a0]) (us : List Value) (hl : us.length = ps.length) : P us := by
 rw [hp] at hl
 cases us with | nil => exact absurd hl (by simp) | cons a r => cases r with | nil => exact h _ | cons b r => exact absurd hl (by simp)
theorem len_2 {P : List Value → Prop} {ps : List Str} (hp : ps.length = 2) (h : ∀ a0 a1, P [a0, a1]) (us : List Value) (hl : us.length = ps.length) : P us := by
 rw [hp] at hl
 cases us with | nil => exact absurd hl (by simp) | cons a r => cases r with | nil => exact absurd hl (by simp) | cons b r => cases r with | nil => exact h _ _ | cons b r => exact absurd hl (by simp)
theorem len_3 {P : List Value → Prop} {ps : List Str} (hp : ps.length = 3) (h : ∀ a0 a1 a2, P [a0, a1, a2]) (us : List Value) (hl : us.length = ps.length) : P us := by
 rw [hp] at hl
 cases us with | nil => exact absurd hl (by simp) | cons a r => cases r with | nil => exact absurd hl (by simp) | cons b r => cases r with | nil => exact absurd hl (by simp) | cons b r => cases r with | nil => exact h _ _ _ | cons b r => exact absurd hl (by simp)
theorem len_4 {P : List Value → Prop} {ps : List Str} (hp : ps.length = 4) (h : ∀ a0 a1 a2 a3, P [a0, a1, a2, a3]) (us : List Value) (hl : us.length = ps.length) : P us := by
 rw [hp] at hl
 cases us with | nil => exact absurd hl (by simp) | cons a r => cases r with | nil => exact absurd hl (by simp) | cons b r => cases r with | nil => exact absurd hl (by simp) | cons b r => cases r with | nil => exact absurd hl (by simp) | cons b r => cases r with | nil => exact h _ _ _ _ | cons b r => exact absurd hl (by simp)
theorem len_5 {P : List Value → Prop} {ps : List Str} (hp : ps.length = 5) (h : ∀ a0 a1 a2 a3 a4, P [a0, a1, a2, a3, a4]) (us : List Value) (hl : us.length = ps.length) : P us := by
 rw [hp] at hl
 cases us with | nil => exact absurd hl (by simp) | cons a r => cases r with | nil => exact absurd hl (by simp) | cons b r => cases r with | nil => exact absurd hl (by simp) | cons b r => cases r with | nil => exact absurd hl (by simp) | cons b r => cases r with | nil => exact absurd hl (by simp) | cons b r => cases r with | nil => exact h _ _ _ _ _ | cons b r => exact absurd hl (by simp)
theorem all_mk {l : PySem.W.OpenLaw} {w : World} {K : PySem.W.Frag} {h : Heap} {mg : Str → Option Value} {fa f0 f1 f2 f3 f4 f5 f6 f7 f8 f9 f10 f11 f12 f13 f14 f15 f16 f17 f18 f19 f20 f21 f22 f23 f24 f25 f26 f27 f28 f29 f30 f31 : Addr} (X : K.In h) (G : h.Ns mainGlobals mg) (hfa : mg "law" = some (.ref fa))
    {od0 an0 od1 an1 od2 an2 od3 an3 od4 an4 od5 an5 od6 an6 od7 an7 od8 an8 od9 an9 od10 an10 od11 an11 od12 an12 od13 an13 od14 an14 od15 an15 od16 an16 od17 an17 od18 an18 od19 an19 od20 an20 od21 an21 od22 an22 od23 an23 od24 an24 od25 an25 od26 an26 od27 an27 od28 an28 od29 an29 od30 an30 od31 an31 : Option Addr} {sl0 sl1 sl2 sl3 sl4 sl5 sl6 sl7 sl8 sl9 sl10 sl11 sl12 sl13 sl14 sl15 sl16 sl17 sl18 sl19 sl20 sl21 sl22 sl23 sl24 sl25 sl26 sl27 sl28 sl29 sl30 sl31 : Array (Option Value)} {oc0 kV0 dc0 pm0 cd0 ct0 oc1 kV1 dc1 pm1 cd1 ct1 oc2 kV2 dc2 pm2 cd2 ct2 oc3 kV3 dc3 pm3 cd3 ct3 oc4 kV4 dc4 pm4 cd4 ct4 oc5 kV5 dc5 pm5 cd5 ct5 oc6 kV6 dc6 pm6 cd6 ct6 oc7 kV7 dc7 pm7 cd7 ct7 oc8 kV8 dc8 pm8 cd8 ct8 oc9 kV9 dc9 pm9 cd9 ct9 oc10 kV10 dc10 pm10 cd10 ct10 oc11 kV11 dc11 pm11 cd11 ct11 oc12 kV12 dc12 pm12 cd12 ct12 oc13 kV13 dc13 pm13 cd13 ct13 oc14 kV14 dc14 pm14 cd14 ct14 oc15 kV15 dc15 pm15 cd15 ct15 oc16 kV16 dc16 pm16 cd16 ct16 oc17 kV17 dc17 pm17 cd17 ct17 oc18 kV18 dc18 pm18 cd18 ct18 oc19 kV19 dc19 pm19 cd19 ct19 oc20 kV20 dc20 pm20 cd20 ct20 oc21 kV21 dc21 pm21 cd21 ct21 oc22 kV22 dc22 pm22 cd22 ct22 oc23 kV23 dc23 pm23 cd23 ct23 oc24 kV24 dc24 pm24 cd24 ct24 oc25 kV25 dc25 pm25 cd25 ct25 oc26 kV26 dc26 pm26 cd26 ct26 oc27 kV27 dc27 pm27 cd27 ct27 oc28 kV28 dc28 pm28 cd28 ct28 oc29 kV29 dc29 pm29 cd29 ct29 oc30 kV30 dc30 pm30 cd30 ct30 oc31 kV31 dc31 pm31 cd31 ct31 : Value}
    (a0 : PySem.W.nsIn K mainGlobals "_law_deck" = some (some (.ref f0))) (l0 : K.lookup f0 = some ⟨oc0, od0, .func (PySem.W.fnOf "_law_deck" "_law_deck" (defArgs sLdeck) (defBody sLdeck) (defScope sLdeck) .none kV0 dc0 pm0 an0 cd0 ct0), sl0⟩) (c0 : PySem.W.codeIn K cd0 "_law_deck" = true) (k0 : PySem.W.keepIn K (.ref f0) = true)
    (a1 : PySem.W.nsIn K mainGlobals "_law_next" = some (some (.ref f1))) (l1 : K.lookup f1 = some ⟨oc1, od1, .func (PySem.W.fnOf "_law_next" "_law_next" (defArgs sLnext) (defBody sLnext) (defScope sLnext) .none kV1 dc1 pm1 an1 cd1 ct1), sl1⟩) (c1 : PySem.W.codeIn K cd1 "_law_next" = true) (k1 : PySem.W.keepIn K (.ref f1) = true)
    (a2 : PySem.W.nsIn K mainGlobals "_law_spelled" = some (some (.ref f2))) (l2 : K.lookup f2 = some ⟨oc2, od2, .func (PySem.W.fnOf "_law_spelled" "_law_spelled" (defArgs sLspelled) (defBody sLspelled) (defScope sLspelled) .none kV2 dc2 pm2 an2 cd2 ct2), sl2⟩) (c2 : PySem.W.codeIn K cd2 "_law_spelled" = true) (k2 : PySem.W.keepIn K (.ref f2) = true)
    (a3 : PySem.W.nsIn K mainGlobals "_law_word" = some (some (.ref f3))) (l3 : K.lookup f3 = some ⟨oc3, od3, .func (PySem.W.fnOf "_law_word" "_law_word" (defArgs sLword) (defBody sLword) (defScope sLword) .none kV3 dc3 pm3 an3 cd3 ct3), sl3⟩) (c3 : PySem.W.codeIn K cd3 "_law_word" = true) (k3 : PySem.W.keepIn K (.ref f3) = true)
    (a4 : PySem.W.nsIn K mainGlobals "_law_words" = some (some (.ref f4))) (l4 : K.lookup f4 = some ⟨oc4, od4, .func (PySem.W.fnOf "_law_words" "_law_words" (defArgs sLwords) (defBody sLwords) (defScope sLwords) .none kV4 dc4 pm4 an4 cd4 ct4), sl4⟩) (c4 : PySem.W.codeIn K cd4 "_law_words" = true) (k4 : PySem.W.keepIn K (.ref f4) = true)
    (a5 : PySem.W.nsIn K mainGlobals "_law_wide" = some (some (.ref f5))) (l5 : K.lookup f5 = some ⟨oc5, od5, .func (PySem.W.fnOf "_law_wide" "_law_wide" (defArgs sLwide) (defBody sLwide) (defScope sLwide) .none kV5 dc5 pm5 an5 cd5 ct5), sl5⟩) (c5 : PySem.W.codeIn K cd5 "_law_wide" = true) (k5 : PySem.W.keepIn K (.ref f5) = true)
    (a6 : PySem.W.nsIn K mainGlobals "_law_other" = some (some (.ref f6))) (l6 : K.lookup f6 = some ⟨oc6, od6, .func (PySem.W.fnOf "_law_other" "_law_other" (defArgs sLother) (defBody sLother) (defScope sLother) .none kV6 dc6 pm6 an6 cd6 ct6), sl6⟩) (c6 : PySem.W.codeIn K cd6 "_law_other" = true) (k6 : PySem.W.keepIn K (.ref f6) = true)
    (a7 : PySem.W.nsIn K mainGlobals "_law_tree" = some (some (.ref f7))) (l7 : K.lookup f7 = some ⟨oc7, od7, .func (PySem.W.fnOf "_law_tree" "_law_tree" (defArgs sLtree) (defBody sLtree) (defScope sLtree) .none kV7 dc7 pm7 an7 cd7 ct7), sl7⟩) (c7 : PySem.W.codeIn K cd7 "_law_tree" = true) (k7 : PySem.W.keepIn K (.ref f7) = true)
    (a8 : PySem.W.nsIn K mainGlobals "_law_drawn_form" = some (some (.ref f8))) (l8 : K.lookup f8 = some ⟨oc8, od8, .func (PySem.W.fnOf "_law_drawn_form" "_law_drawn_form" (defArgs sLdrawn_form) (defBody sLdrawn_form) (defScope sLdrawn_form) .none kV8 dc8 pm8 an8 cd8 ct8), sl8⟩) (c8 : PySem.W.codeIn K cd8 "_law_drawn_form" = true) (k8 : PySem.W.keepIn K (.ref f8) = true)
    (a9 : PySem.W.nsIn K mainGlobals "_law_within" = some (some (.ref f9))) (l9 : K.lookup f9 = some ⟨oc9, od9, .func (PySem.W.fnOf "_law_within" "_law_within" (defArgs sLwithin) (defBody sLwithin) (defScope sLwithin) .none kV9 dc9 pm9 an9 cd9 ct9), sl9⟩) (c9 : PySem.W.codeIn K cd9 "_law_within" = true) (k9 : PySem.W.keepIn K (.ref f9) = true)
    (a10 : PySem.W.nsIn K mainGlobals "_law_words_of" = some (some (.ref f10))) (l10 : K.lookup f10 = some ⟨oc10, od10, .func (PySem.W.fnOf "_law_words_of" "_law_words_of" (defArgs sLwords_of) (defBody sLwords_of) (defScope sLwords_of) .none kV10 dc10 pm10 an10 cd10 ct10), sl10⟩) (c10 : PySem.W.codeIn K cd10 "_law_words_of" = true) (k10 : PySem.W.keepIn K (.ref f10) = true)
    (a11 : PySem.W.nsIn K mainGlobals "_law_sentence" = some (some (.ref f11))) (l11 : K.lookup f11 = some ⟨oc11, od11, .func (PySem.W.fnOf "_law_sentence" "_law_sentence" (defArgs sLsentence) (defBody sLsentence) (defScope sLsentence) .none kV11 dc11 pm11 an11 cd11 ct11), sl11⟩) (c11 : PySem.W.codeIn K cd11 "_law_sentence" = true) (k11 : PySem.W.keepIn K (.ref f11) = true)
    (a12 : PySem.W.nsIn K mainGlobals "_law_named" = some (some (.ref f12))) (l12 : K.lookup f12 = some ⟨oc12, od12, .func (PySem.W.fnOf "_law_named" "_law_named" (defArgs sLnamed) (defBody sLnamed) (defScope sLnamed) .none kV12 dc12 pm12 an12 cd12 ct12), sl12⟩) (c12 : PySem.W.codeIn K cd12 "_law_named" = true) (k12 : PySem.W.keepIn K (.ref f12) = true)
    (a13 : PySem.W.nsIn K mainGlobals "_law_applied" = some (some (.ref f13))) (l13 : K.lookup f13 = some ⟨oc13, od13, .func (PySem.W.fnOf "_law_applied" "_law_applied" (defArgs sLapplied) (defBody sLapplied) (defScope sLapplied) .none kV13 dc13 pm13 an13 cd13 ct13), sl13⟩) (c13 : PySem.W.codeIn K cd13 "_law_applied" = true) (k13 : PySem.W.keepIn K (.ref f13) = true)
    (a14 : PySem.W.nsIn K mainGlobals "_law_term" = some (some (.ref f14))) (l14 : K.lookup f14 = some ⟨oc14, od14, .func (PySem.W.fnOf "_law_term" "_law_term" (defArgs sLterm) (defBody sLterm) (defScope sLterm) .none kV14 dc14 pm14 an14 cd14 ct14), sl14⟩) (c14 : PySem.W.codeIn K cd14 "_law_term" = true) (k14 : PySem.W.keepIn K (.ref f14) = true)
    (a15 : PySem.W.nsIn K mainGlobals "_law_kind_of_form" = some (some (.ref f15))) (l15 : K.lookup f15 = some ⟨oc15, od15, .func (PySem.W.fnOf "_law_kind_of_form" "_law_kind_of_form" (defArgs sLkind_of_form) (defBody sLkind_of_form) (defScope sLkind_of_form) .none kV15 dc15 pm15 an15 cd15 ct15), sl15⟩) (c15 : PySem.W.codeIn K cd15 "_law_kind_of_form" = true) (k15 : PySem.W.keepIn K (.ref f15) = true)
    (a16 : PySem.W.nsIn K mainGlobals "_law_book" = some (some (.ref f16))) (l16 : K.lookup f16 = some ⟨oc16, od16, .func (PySem.W.fnOf "_law_book" "_law_book" (defArgs sLbook) (defBody sLbook) (defScope sLbook) .none kV16 dc16 pm16 an16 cd16 ct16), sl16⟩) (c16 : PySem.W.codeIn K cd16 "_law_book" = true) (k16 : PySem.W.keepIn K (.ref f16) = true)
    (a17 : PySem.W.nsIn K mainGlobals "_law_means" = some (some (.ref f17))) (l17 : K.lookup f17 = some ⟨oc17, od17, .func (PySem.W.fnOf "_law_means" "_law_means" (defArgs sLmeans) (defBody sLmeans) (defScope sLmeans) .none kV17 dc17 pm17 an17 cd17 ct17), sl17⟩) (c17 : PySem.W.codeIn K cd17 "_law_means" = true) (k17 : PySem.W.keepIn K (.ref f17) = true)
    (a18 : PySem.W.nsIn K mainGlobals "_law_same" = some (some (.ref f18))) (l18 : K.lookup f18 = some ⟨oc18, od18, .func (PySem.W.fnOf "_law_same" "_law_same" (defArgs sLsame) (defBody sLsame) (defScope sLsame) .none kV18 dc18 pm18 an18 cd18 ct18), sl18⟩) (c18 : PySem.W.codeIn K cd18 "_law_same" = true) (k18 : PySem.W.keepIn K (.ref f18) = true)
    (a19 : PySem.W.nsIn K mainGlobals "rows_of" = some (some (.ref f19))) (l19 : K.lookup f19 = some ⟨oc19, od19, .func (PySem.W.fnOf "rows_of" "rows_of" (defArgs srows_of) (defBody srows_of) (defScope srows_of) .none kV19 dc19 pm19 an19 cd19 ct19), sl19⟩) (c19 : PySem.W.codeIn K cd19 "rows_of" = true) (k19 : PySem.W.keepIn K (.ref f19) = true)
    (a20 : PySem.W.nsIn K mainGlobals "term_of" = some (some (.ref f20))) (l20 : K.lookup f20 = some ⟨oc20, od20, .func (PySem.W.fnOf "term_of" "term_of" (defArgs sterm_of) (defBody sterm_of) (defScope sterm_of) .none kV20 dc20 pm20 an20 cd20 ct20), sl20⟩) (c20 : PySem.W.codeIn K cd20 "term_of" = true) (k20 : PySem.W.keepIn K (.ref f20) = true)
    (a21 : PySem.W.nsIn K mainGlobals "words_of" = some (some (.ref f21))) (l21 : K.lookup f21 = some ⟨oc21, od21, .func (PySem.W.fnOf "words_of" "words_of" (defArgs swords_of) (defBody swords_of) (defScope swords_of) .none kV21 dc21 pm21 an21 cd21 ct21), sl21⟩) (c21 : PySem.W.codeIn K cd21 "words_of" = true) (k21 : PySem.W.keepIn K (.ref f21) = true)
    (a22 : PySem.W.nsIn K mainGlobals "made" = some (some (.ref f22))) (l22 : K.lookup f22 = some ⟨oc22, od22, .func (PySem.W.fnOf "made" "made" (defArgs smade) (defBody smade) (defScope smade) .none kV22 dc22 pm22 an22 cd22 ct22), sl22⟩) (c22 : PySem.W.codeIn K cd22 "made" = true) (k22 : PySem.W.keepIn K (.ref f22) = true)
    (a23 : PySem.W.nsIn K mainGlobals "kind_of_form" = some (some (.ref f23))) (l23 : K.lookup f23 = some ⟨oc23, od23, .func (PySem.W.fnOf "kind_of_form" "kind_of_form" (defArgs skind_of_form) (defBody skind_of_form) (defScope skind_of_form) .none kV23 dc23 pm23 an23 cd23 ct23), sl23⟩) (c23 : PySem.W.codeIn K cd23 "kind_of_form" = true) (k23 : PySem.W.keepIn K (.ref f23) = true)
    (a24 : PySem.W.nsIn K mainGlobals "joined" = some (some (.ref f24))) (l24 : K.lookup f24 = some ⟨oc24, od24, .func (PySem.W.fnOf "joined" "joined" (defArgs sjoined) (defBody sjoined) (defScope sjoined) .none kV24 dc24 pm24 an24 cd24 ct24), sl24⟩) (c24 : PySem.W.codeIn K cd24 "joined" = true) (k24 : PySem.W.keepIn K (.ref f24) = true)
    (a25 : PySem.W.nsIn K mainGlobals "meant" = some (some (.ref f25))) (l25 : K.lookup f25 = some ⟨oc25, od25, .func (PySem.W.fnOf "meant" "meant" (defArgs smeant) (defBody smeant) (defScope smeant) .none kV25 dc25 pm25 an25 cd25 ct25), sl25⟩) (c25 : PySem.W.codeIn K cd25 "meant" = true) (k25 : PySem.W.keepIn K (.ref f25) = true)
    (a26 : PySem.W.nsIn K mainGlobals "form_and_term" = some (some (.ref f26))) (l26 : K.lookup f26 = some ⟨oc26, od26, .func (PySem.W.fnOf "form_and_term" "form_and_term" (defArgs sform_and_term) (defBody sform_and_term) (defScope sform_and_term) .none kV26 dc26 pm26 an26 cd26 ct26), sl26⟩) (c26 : PySem.W.codeIn K cd26 "form_and_term" = true) (k26 : PySem.W.keepIn K (.ref f26) = true)
    (a27 : PySem.W.nsIn K mainGlobals "meaning_with" = some (some (.ref f27))) (l27 : K.lookup f27 = some ⟨oc27, od27, .func (PySem.W.fnOf "meaning_with" "meaning_with" (defArgs smeaning_with) (defBody smeaning_with) (defScope smeaning_with) .none kV27 dc27 pm27 an27 cd27 ct27), sl27⟩) (c27 : PySem.W.codeIn K cd27 "meaning_with" = true) (k27 : PySem.W.keepIn K (.ref f27) = true)
    (a28 : PySem.W.nsIn K mainGlobals "meaning" = some (some (.ref f28))) (l28 : K.lookup f28 = some ⟨oc28, od28, .func (PySem.W.fnOf "meaning" "meaning" (defArgs smeaning) (defBody smeaning) (defScope smeaning) .none kV28 dc28 pm28 an28 cd28 ct28), sl28⟩) (c28 : PySem.W.codeIn K cd28 "meaning" = true) (k28 : PySem.W.keepIn K (.ref f28) = true)
    (a29 : PySem.W.nsIn K mainGlobals "_law_joined" = some (some (.ref f29))) (l29 : K.lookup f29 = some ⟨oc29, od29, .func (PySem.W.fnOf "_law_joined" "_law_joined" (defArgs sLjoined) (defBody sLjoined) (defScope sLjoined) .none kV29 dc29 pm29 an29 cd29 ct29), sl29⟩) (c29 : PySem.W.codeIn K cd29 "_law_joined" = true) (k29 : PySem.W.keepIn K (.ref f29) = true)
    (a30 : PySem.W.nsIn K mainGlobals "_law_meant" = some (some (.ref f30))) (l30 : K.lookup f30 = some ⟨oc30, od30, .func (PySem.W.fnOf "_law_meant" "_law_meant" (defArgs sLmeant) (defBody sLmeant) (defScope sLmeant) .none kV30 dc30 pm30 an30 cd30 ct30), sl30⟩) (c30 : PySem.W.codeIn K cd30 "_law_meant" = true) (k30 : PySem.W.keepIn K (.ref f30) = true)
    (a31 : PySem.W.nsIn K mainGlobals "law" = some (some (.ref f31))) (l31 : K.lookup f31 = some ⟨oc31, od31, .func (PySem.W.fnOf "law" "law" (defArgs slaw) (defBody slaw) (defScope slaw) .none kV31 dc31 pm31 an31 cd31 ct31), sl31⟩) (c31 : PySem.W.codeIn K cd31 "law" = true) (k31 : PySem.W.keepIn K (.ref f31) = true)
     {C_NoForm : Addr}
    (xa_NoForm : PySem.W.nsIn K mainGlobals "NoForm" = some (some (.ref C_NoForm)))
    (xe_NoForm : PySem.W.excIn K C_NoForm vErr "ValueError.__new__" = true)
    (z_all : PySem.W.nsIn K mainGlobals "all" = some none)
    (z_bool : PySem.W.nsIn K mainGlobals "bool" = some none)
    (z_int : PySem.W.nsIn K mainGlobals "int" = some none)
    (z_isinstance : PySem.W.nsIn K mainGlobals "isinstance" = some none)
    (z_len : PySem.W.nsIn K mainGlobals "len" = some none)
    (z_list : PySem.W.nsIn K mainGlobals "list" = some none)
    (z_range : PySem.W.nsIn K mainGlobals "range" = some none)
    (z_reversed : PySem.W.nsIn K mainGlobals "reversed" = some none)
    (z_str : PySem.W.nsIn K mainGlobals "str" = some none)
    (z_sum : PySem.W.nsIn K mainGlobals "sum" = some none)
    (z_tuple : PySem.W.nsIn K mainGlobals "tuple" = some none)
    (z_zip : PySem.W.nsIn K mainGlobals "zip" = some none)
    : ∃ fd : FuncData, (∀ (s : Shared) (v : Value), BindsTo s fd ⟨[v], []⟩ [("_law_script", v)]) ∧ ∀ base : Heap, K.In base → base.Ns mainGlobals mg → FnOk l.prog w K mg base (CXE l.prog w) 60 fa fd ["_law_script"] (spLift K (tab 60).dlaw) := by
  have e := hfa.symm.trans (PySem.W.mg_of X G a31)
  cases e
  have x_NoForm : ExcC K mg "NoForm" := ⟨⟨C_NoForm, xa_NoForm, PySem.W.mg_of X G xa_NoForm, xe_NoForm⟩⟩
  refine ⟨PySem.W.fnOf "law" "law" (defArgs slaw) (defBody slaw) (defScope slaw) .none kV31 dc31 pm31 an31 cd31 ct31, fun s v => .of_eq rfl, fun base _ _ => ?_⟩
  have T := good (P := l.prog) (w := w) (base := base) (⟨fun_mk (st := sLdeck) l0 c0 k0, PySem.W.mg_of X G a0, (fun_mk (st := sLdeck) l0 c0 k0).binds (ps := ["_law_script"]) fun _ _ _ _ _ _ => len_1 rfl fun _ => rfl⟩ : Loc2 K mg "_law_deck" sLdeck ["_law_script"] _ _) (⟨fun_mk (st := sLnext) l1 c1 k1, PySem.W.mg_of X G a1, (fun_mk (st := sLnext) l1 c1 k1).binds (ps := ["_law_deck_here"]) fun _ _ _ _ _ _ => len_1 rfl fun _ => rfl⟩ : Loc2 K mg "_law_next" sLnext ["_law_deck_here"] _ _) (⟨fun_mk (st := sLspelled) l2 c2 k2, PySem.W.mg_of X G a2, (fun_mk (st := sLspelled) l2 c2 k2).binds (ps := ["_law_number", "_law_size"]) fun _ _ _ _ _ _ => len_2 rfl fun _ _ => rfl⟩ : Loc2 K mg "_law_spelled" sLspelled ["_law_number", "_law_size"] _ _) (⟨fun_mk (st := sLword) l3 c3 k3, PySem.W.mg_of X G a3, (fun_mk (st := sLword) l3 c3 k3).binds (ps := ["_law_deck_here", "_law_words_here"]) fun _ _ _ _ _ _ => len_2 rfl fun _ _ => rfl⟩ : Loc2 K mg "_law_word" sLword ["_law_deck_here", "_law_words_here"] _ _) (⟨fun_mk (st := sLwords) l4 c4 k4, PySem.W.mg_of X G a4, (fun_mk (st := sLwords) l4 c4 k4).binds (ps := ["_law_deck_here", "_law_many"]) fun _ _ _ _ _ _ => len_2 rfl fun _ _ => rfl⟩ : Loc2 K mg "_law_words" sLwords ["_law_deck_here", "_law_many"] _ _) (⟨fun_mk (st := sLwide) l5 c5 k5, PySem.W.mg_of X G a5, (fun_mk (st := sLwide) l5 c5 k5).binds (ps := ["_law_form"]) fun _ _ _ _ _ _ => len_1 rfl fun _ => rfl⟩ : Loc2 K mg "_law_wide" sLwide ["_law_form"] _ _) (⟨fun_mk (st := sLother) l6 c6 k6, PySem.W.mg_of X G a6, (fun_mk (st := sLother) l6 c6 k6).binds (ps := ["_law_deck_here", "_law_basics", "_law_form"]) fun _ _ _ _ _ _ => len_3 rfl fun _ _ _ => rfl⟩ : Loc2 K mg "_law_other" sLother ["_law_deck_here", "_law_basics", "_law_form"] _ _) (⟨fun_mk (st := sLtree) l7 c7 k7, PySem.W.mg_of X G a7, (fun_mk (st := sLtree) l7 c7 k7).binds (ps := ["_law_deck_here", "_law_basics", "_law_form", "_law_at", "_law_many"]) fun _ _ _ _ _ _ => len_5 rfl fun _ _ _ _ _ => rfl⟩ : Loc2 K mg "_law_tree" sLtree ["_law_deck_here", "_law_basics", "_law_form", "_law_at", "_law_many"] _ _) (⟨fun_mk (st := sLdrawn_form) l8 c8 k8, PySem.W.mg_of X G a8, (fun_mk (st := sLdrawn_form) l8 c8 k8).binds (ps := ["_law_deck_here", "_law_basics"]) fun _ _ _ _ _ _ => len_2 rfl fun _ _ => rfl⟩ : Loc2 K mg "_law_drawn_form" sLdrawn_form ["_law_deck_here", "_law_basics"] _ _) (⟨fun_mk (st := sLwithin) l9 c9 k9, PySem.W.mg_of X G a9, (fun_mk (st := sLwithin) l9 c9 k9).binds (ps := ["_law_reading"]) fun _ _ _ _ _ _ => len_1 rfl fun _ => rfl⟩ : Loc2 K mg "_law_within" sLwithin ["_law_reading"] _ _) (⟨fun_mk (st := sLwords_of) l10 c10 k10, PySem.W.mg_of X G a10, (fun_mk (st := sLwords_of) l10 c10 k10).binds (ps := ["_law_reading"]) fun _ _ _ _ _ _ => len_1 rfl fun _ => rfl⟩ : Loc2 K mg "_law_words_of" sLwords_of ["_law_reading"] _ _) (⟨fun_mk (st := sLsentence) l11 c11 k11, PySem.W.mg_of X G a11, (fun_mk (st := sLsentence) l11 c11 k11).binds (ps := ["_law_deck_here", "_law_reading"]) fun _ _ _ _ _ _ => len_2 rfl fun _ _ => rfl⟩ : Loc2 K mg "_law_sentence" sLsentence ["_law_deck_here", "_law_reading"] _ _) (⟨fun_mk (st := sLnamed) l12 c12 k12, PySem.W.mg_of X G a12, (fun_mk (st := sLnamed) l12 c12 k12).binds (ps := ["_law_book_names", "_law_words_here", "_law_kind"]) fun _ _ _ _ _ _ => len_3 rfl fun _ _ _ => rfl⟩ : Loc2 K mg "_law_named" sLnamed ["_law_book_names", "_law_words_here", "_law_kind"] _ _) (⟨fun_mk (st := sLapplied) l13 c13 k13, PySem.W.mg_of X G a13, (fun_mk (st := sLapplied) l13 c13 k13).binds (ps := ["_law_deck_here", "_law_names", "_law_words_here", "_law_kinds", "_law_last"]) fun _ _ _ _ _ _ => len_5 rfl fun _ _ _ _ _ => rfl⟩ : Loc2 K mg "_law_applied" sLapplied ["_law_deck_here", "_law_names", "_law_words_here", "_law_kinds", "_law_last"] _ _) (⟨fun_mk (st := sLterm) l14 c14 k14, PySem.W.mg_of X G a14, (fun_mk (st := sLterm) l14 c14 k14).binds (ps := ["_law_deck_here", "_law_names", "_law_words_here", "_law_kind"]) fun _ _ _ _ _ _ => len_4 rfl fun _ _ _ _ => rfl⟩ : Loc2 K mg "_law_term" sLterm ["_law_deck_here", "_law_names", "_law_words_here", "_law_kind"] _ _) (⟨fun_mk (st := sLkind_of_form) l15 c15 k15, PySem.W.mg_of X G a15, (fun_mk (st := sLkind_of_form) l15 c15 k15).binds (ps := ["_law_form"]) fun _ _ _ _ _ _ => len_1 rfl fun _ => rfl⟩ : Loc2 K mg "_law_kind_of_form" sLkind_of_form ["_law_form"] _ _) (⟨fun_mk (st := sLbook) l16 c16 k16, PySem.W.mg_of X G a16, (fun_mk (st := sLbook) l16 c16 k16).binds (ps := ["_law_deck_here", "_law_basics", "_law_some"]) fun _ _ _ _ _ _ => len_3 rfl fun _ _ _ => rfl⟩ : Loc2 K mg "_law_book" sLbook ["_law_deck_here", "_law_basics", "_law_some"] _ _) (⟨fun_mk (st := sLmeans) l17 c17 k17, PySem.W.mg_of X G a17, (fun_mk (st := sLmeans) l17 c17 k17).binds (ps := ["_law_book_here", "_law_words_here", "_law_reading"]) fun _ _ _ _ _ _ => len_3 rfl fun _ _ _ => rfl⟩ : Loc2 K mg "_law_means" sLmeans ["_law_book_here", "_law_words_here", "_law_reading"] _ _) (⟨fun_mk (st := sLsame) l18 c18 k18, PySem.W.mg_of X G a18, (fun_mk (st := sLsame) l18 c18 k18).binds (ps := ["_law_one", "_law_other_here"]) fun _ _ _ _ _ _ => len_2 rfl fun _ _ => rfl⟩ : Loc2 K mg "_law_same" sLsame ["_law_one", "_law_other_here"] _ _) (⟨fun_mk (st := srows_of) l19 c19 k19, PySem.W.mg_of X G a19, (fun_mk (st := srows_of) l19 c19 k19).binds (ps := ["book", "word"]) fun _ _ _ _ _ _ => len_2 rfl fun _ _ => rfl⟩ : Loc2 K mg "rows_of" srows_of ["book", "word"] _ _) (⟨fun_mk (st := sterm_of) l20 c20 k20, PySem.W.mg_of X G a20, (fun_mk (st := sterm_of) l20 c20 k20).binds (ps := ["book", "word", "form"]) fun _ _ _ _ _ _ => len_3 rfl fun _ _ _ => rfl⟩ : Loc2 K mg "term_of" sterm_of ["book", "word", "form"] _ _) (⟨fun_mk (st := swords_of) l21 c21 k21, PySem.W.mg_of X G a21, (fun_mk (st := swords_of) l21 c21 k21).binds (ps := ["reading"]) fun _ _ _ _ _ _ => len_1 rfl fun _ => rfl⟩ : Loc2 K mg "words_of" swords_of ["reading"] _ _) (⟨fun_mk (st := smade) l22 c22 k22, PySem.W.mg_of X G a22, (fun_mk (st := smade) l22 c22 k22).binds (ps := ["left", "right"]) fun _ _ _ _ _ _ => len_2 rfl fun _ _ => rfl⟩ : Loc2 K mg "made" smade ["left", "right"] _ _) (⟨fun_mk (st := skind_of_form) l23 c23 k23, PySem.W.mg_of X G a23, (fun_mk (st := skind_of_form) l23 c23 k23).binds (ps := ["form"]) fun _ _ _ _ _ _ => len_1 rfl fun _ => rfl⟩ : Loc2 K mg "kind_of_form" skind_of_form ["form"] _ _) (⟨fun_mk (st := sjoined) l24 c24 k24, PySem.W.mg_of X G a24, (fun_mk (st := sjoined) l24 c24 k24).binds (ps := ["wanted", "f", "g"]) fun _ _ _ _ _ _ => len_3 rfl fun _ _ _ => rfl⟩ : Loc2 K mg "joined" sjoined ["wanted", "f", "g"] _ _) (⟨fun_mk (st := smeant) l25 c25 k25, PySem.W.mg_of X G a25, (fun_mk (st := smeant) l25 c25 k25).binds (ps := ["sign", "left", "right", "first", "second"]) fun _ _ _ _ _ _ => len_5 rfl fun _ _ _ _ _ => rfl⟩ : Loc2 K mg "meant" smeant ["sign", "left", "right", "first", "second"] _ _) (⟨fun_mk (st := sform_and_term) l26 c26 k26, PySem.W.mg_of X G a26, (fun_mk (st := sform_and_term) l26 c26 k26).binds (ps := ["reading", "terms"]) fun _ _ _ _ _ _ => len_2 rfl fun _ _ => rfl⟩ : Loc2 K mg "form_and_term" sform_and_term ["reading", "terms"] _ _) (⟨fun_mk (st := smeaning_with) l27 c27 k27, PySem.W.mg_of X G a27, (fun_mk (st := smeaning_with) l27 c27 k27).binds (ps := ["reading", "terms"]) fun _ _ _ _ _ _ => len_2 rfl fun _ _ => rfl⟩ : Loc2 K mg "meaning_with" smeaning_with ["reading", "terms"] _ _) (⟨fun_mk (st := smeaning) l28 c28 k28, PySem.W.mg_of X G a28, (fun_mk (st := smeaning) l28 c28 k28).binds (ps := ["book", "words", "reading"]) fun _ _ _ _ _ _ => len_3 rfl fun _ _ _ => rfl⟩ : Loc2 K mg "meaning" smeaning ["book", "words", "reading"] _ _) (⟨fun_mk (st := sLjoined) l29 c29 k29, PySem.W.mg_of X G a29, (fun_mk (st := sLjoined) l29 c29 k29).binds (ps := ["_law_sign", "_law_left", "_law_right"]) fun _ _ _ _ _ _ => len_3 rfl fun _ _ _ => rfl⟩ : Loc2 K mg "_law_joined" sLjoined ["_law_sign", "_law_left", "_law_right"] _ _) (⟨fun_mk (st := sLmeant) l30 c30 k30, PySem.W.mg_of X G a30, (fun_mk (st := sLmeant) l30 c30 k30).binds (ps := ["_law_reading", "_law_means_here"]) fun _ _ _ _ _ _ => len_2 rfl fun _ _ => rfl⟩ : Loc2 K mg "_law_meant" sLmeant ["_law_reading", "_law_means_here"] _ _) (⟨fun_mk (st := slaw) l31 c31 k31, PySem.W.mg_of X G a31, (fun_mk (st := slaw) l31 c31 k31).binds (ps := ["_law_script"]) fun _ _ _ _ _ _ => len_1 rfl fun _ => rfl⟩ : Loc2 K mg "law" slaw ["_law_script"] _ _) (PySem.W.mg_none_of X G z_all) (PySem.W.mg_none_of X G z_bool) (PySem.W.mg_none_of X G z_int) (PySem.W.mg_none_of X G z_isinstance) (PySem.W.mg_none_of X G z_len) (PySem.W.mg_none_of X G z_list) (PySem.W.mg_none_of X G z_range) (PySem.W.mg_none_of X G z_reversed) (PySem.W.mg_none_of X G z_str) (PySem.W.mg_none_of X G z_sum) (PySem.W.mg_none_of X G z_tuple) (PySem.W.mg_none_of X G z_zip) x_NoForm 60
  exact (T.2.2.2.2.2.2.2.2.2.2.2.2.2.2.2.2.2.2.2.2.2.2.2.2.2.2.2.2.2.2.2).G
theorem walk {l : PySem.W.OpenLaw} {q : Program} {loose : List Str} {XP : (Str → Option Value) → Heap → Prop} {YP : World → Heap → Prop} {d : DefRec} {K : Params → PySem.W.Frag} (hlaw : LawP (tab 60).dlaw) (hn : l.most = some 63) (hdf : d.params.defaults = [])
  (hY : ∀ (w : World) (h : Heap), YP w h → (K w.params).In h)
  (F : ∀ (w : World) (mg : Str → Option Value) (fa : Addr) (h : Heap), (K w.params).In h → h.Ns mainGlobals mg → mg d.name = some (.ref fa) →
   ∃ fd : FuncData, (∀ (s : Shared) (u : Value), BindsTo s fd ⟨[u], []⟩ [("_law_script", u)]) ∧ ∀ base : Heap, (K w.params).In base → base.Ns mainGlobals mg → FnOk l.prog w (K w.params) mg base (CXE l.prog w) 60 fa fd ["_law_script"] (spLift (K w.params) (tab 60).dlaw)) :
  PySem.W.WalkO q loose XP YP l.row.toRowW d [] (fun f vs => PySem.call f vs) :=
 L2.walk_of (n := 63) (k := 60) (x := "_law_script") (CX := fun w => CXE l.prog w) (sp := fun w => spLift (K w.params) (tab 60).dlaw) hn (by decide) hdf ⟨rfl, by decide, by decide⟩ hY F (fun _ H a ns hl hO hS => law_sp hlaw H a ns hl hO hS) fun _ _ _ _ _ hh1 => by obtain ⟨_, _, _, _, _, _, _, _, _, _, _, z⟩ := hh1; exact (z)
end
theorem k_next (n : Nat) : NextD (tab (n + 1)).dLnext := next_ok
theorem k_spelled (n : Nat) : SpelledD (tab (n + 1)).dLspelled := spelled_ok
theorem k_word (n : Nat) : WordD2 (tab (n + 2)).dLword := word_ok2 (k_next n) (k_spelled n)
theorem k_words (n : Nat) : WordsD2 (tab (n + 3)).dLwords := words_ok2 (k_word n)
theorem k_deck (n : Nat) : DeckD (tab (n + 1)).dLdeck := deck_ok
theorem k_wide (n : Nat) : WideD (tab n).dLwide n := wide_ok (T := fun n => (tab n).dLwide) (fun _ => rfl) n
theorem k_oth (n : Nat) : OthD2 (tab (n + 2)).dLother (n + 1) := oth2_ok (k_next n) (k_wide (n + 1))
theorem k_drawn (n : Nat) : DrawnD2 (tab (n + 3)).dLdrawn_form := drawn2_ok (k_next (n + 1)) (k_oth n) (by omega)
theorem up {n k : Nat} (h : k ≤ n) : ∃ m, n = m + k := ⟨n - k, by omega⟩
theorem OthD2.le {sp : Den} {a b : Nat} (h : OthD2 sp a) (hb : b ≤ a) : OthD2 sp b := fun d c b' ws f S E Q h1 h2 h3 h4 h5 h6 => h d c b' ws f S E Q h1 h2 h3 h4 h5 (Nat.le_trans h6 hb)
theorem k_next' (n : Nat) (h : 20 ≤ n) : NextD (tab n).dLnext := by obtain ⟨m, rfl⟩ := up h; exact k_next (m + 19)
theorem k_oth' (n : Nat) (h : 20 ≤ n) : OthD2 (tab n).dLother 18 := by obtain ⟨m, rfl⟩ := up h; exact (k_oth (m + 18)).le (by omega)
theorem k_wide' (n : Nat) (h : 20 ≤ n) : WideD (tab n).dLwide 18 := fun f hf => k_wide n f (by omega)
theorem k_tree : ∀ n m, m + 20 ≤ n → 1 ≤ m → TreeD2 (tab n).dLtree m := tree2_ok (T := fun n => (tab n).dLtree) (N := fun n => (tab n).dLnext) (O := fun n => (tab n).dLother) (W := fun n => (tab n).dLwide) (fun _ => rfl) k_next' k_oth' k_wide'
theorem k_wi (n : Nat) (h : n ≤ 1000) : WiD (tab (n + 1)).dLwithin n := wi_ok (T := fun n => (tab n).dLwithin) (fun _ => rfl) n h
theorem k_kf (n : Nat) : KindD (tab n).dkind_of_form n := kind_ok (T := fun n => (tab n).dkind_of_form) (fun _ => rfl) n
theorem k_lk (n : Nat) : KindD (tab n).dLkind_of_form n := kind_ok (T := fun n => (tab n).dLkind_of_form) (fun _ => rfl) n
theorem k_made (n : Nat) (h : 20 ≤ n) : MadeD (tab n).dmade := by obtain ⟨m, rfl⟩ := up h; exact made_ok
theorem k_meant (n : Nat) (h : 20 ≤ n) : MeantD (tab n).dmeant 10 := by
 obtain ⟨m, rfl⟩ := up h
 exact meant_ok (fun z f g S E Q hd h => joined_ok (k_kf (m + 18)) (by omega) h)
theorem k_ft (L : Int × Fm → PV) : ∀ n m, m + 21 ≤ n → FtD L (tab n).dform_and_term m := ft_ok (T := fun n => (tab n).dform_and_term) (M := fun n => (tab n).dmade) (N := fun n => (tab n).dmeant) (fun _ => rfl) k_made k_meant
theorem k_wo (n : Nat) (h : n ≤ 1000) : WoD (tab (n + 1)).dwords_of n := wo_ok (T := fun n => (tab n).dwords_of) (fun _ => rfl) n h
theorem WoD.le {sp : Den} {a b : Nat} (h : WoD sp a) (hb : b ≤ a) : WoD sp b := fun r hr => h r (by omega)
theorem WiD.le {sp : Den} {a b : Nat} (h : WiD sp a) (hb : b ≤ a) : WiD sp b := fun r hr => h r (by omega)
theorem k_jo (n : Nat) (h : 20 ≤ n) : JoD (tab n).dLjoined := by obtain ⟨m, rfl⟩ := up h; exact jo_ok
theorem k_lm (L : Int × Fm → PV) : ∀ n m, m + 21 ≤ n → LmD L (tab n).dLmeant m := lm_ok (T := fun n => (tab n).dLmeant) (M := fun n => (tab n).dLjoined) (N := fun n => (tab n).dLkind_of_form) (fun _ => rfl) k_jo (fun n h f hf => k_lk n f (by omega))
theorem k_lw (n : Nat) (h : 20 ≤ n) (h2 : n ≤ 100) : WoD (tab (n + 1)).dLwords_of 10 := by
 obtain ⟨m, rfl⟩ := up h
 exact lw_ok ((k_wi (m + 19) (by omega)).le (by omega))
theorem k_sent : SentD (tab 59).dLsentence := sent_ok (k_lw 57 (by decide) (by decide)) (k_words 55) (k_next 57)
theorem k_term : Term61 (tab 58).dLterm := term61_ok (k_next 56) (named_ok) (applied_ok (k_next 55) named_ok)
theorem k_book : BookD (tab 59).dLbook := book_ok (k_words 55) k_term (fun f hf => k_lk 58 f (by omega))
theorem k_means : MeansD (tab 59).dLmeans := means_ok (k_lw 57 (by decide) (by decide))
theorem k_mng : MngD (tab 59).dmeaning := mng_ok (sf := (tab 57).dform_and_term) (term_of_ok rows_ok) ((k_wo 57 (by omega)).le (by omega)) (fun L => k_ft L 57 10 (by omega)) rfl
theorem kys_go {ws : List Str} {S : Store} {Q : VC} {chk : Store → Prop} (hc : chk S) : ∀ (ps : List (Int × Fm)) (vs : List (Str × Fm)) (σ : Ev.Loc), (∀ p ∈ ps, 0 ≤ p.1 ∧ p.1 < (ws.length : Int)) → (∃ j0 j1, σ = [j0, j1, some (.tup (ws.map PV.str))]) → Q (.ref S.length) (S ++ [.lst ((vs ++ ps.map (ky ws)).map pfP)]) →
  compGo chk (wgTup 2 (wgCons (wgName 0) (wgCons (wgName 1) wgNil))) wtTrue (wTup (wCons (wBin bIx (wVar 2) (wVar 0)) (wCons (wVar 1) wNil))) Q (ps.map encW) (vs.map pfP) σ S
 | [], vs, σ, hp, _, h => compEnd hc (by simpa using h)
 | p :: r, vs, σ, hp, ⟨j0, j1, e⟩, h => by
  subst e
  obtain ⟨p0, p1⟩ := hp p (by simp)
  refine compStepT hc fun N hN => ?_
  dsimp! [encW, ky_at p0 p1]
  refine ⟨big (by decide), hN _ _ _ ?_⟩
  rw [show vs.map pfP ++ [PV.tup [PV.str (ky ws p).1, p.2.pv]] = (vs ++ [ky ws p]).map pfP by simp [pfP, ky]]
  refine kys_go hc r _ _ (fun q hq => hp q (by simp [hq])) ⟨_, _, rfl⟩ ?_
  rw [List.append_assoc]
  exact h
theorem law_ok : LawP (tab 60).dlaw := by
 intro ns hns
 have hdeck := k_deck 58
 have hwords := k_words 56
 have hnext := k_next 58
 have hdrawn := k_drawn 56
 have htree := k_tree 59
 have hwi := k_wi 58 (by omega)
 have hlw := k_lw 58 (by decide) (by decide)
 have hsent := k_sent
 have hbook := k_book
 have hmeans := k_means
 have hmng := k_mng
 have hlm := fun L => k_lm L 59 10 (by omega)
 have hsame : ∀ (x : PV), plV x = true → dep x < 59 → ∀ (S : Store) (E : EK) (Q : VC), (∀ S', Ex [] S S' → Q (.bl true) S') → (tab 59).dLsame [x, x] S E Q := sameV_ok (T := fun n => (tab n).dLsame) (fun _ => rfl) 59
 show fnP 1 10 (w_law_7c0c (tab 59).dLdeck (tab 59).dLwords (tab 59).dLnext (tab 59).dLtree (tab 59).dLdrawn_form (tab 59).dLsentence (tab 59).dLwords_of (tab 59).dLbook (tab 59).dLmeans (tab 59).dLwithin (tab 59).dLsame (tab 59).dmeaning (tab 59).dLmeant) _ _ _ _
 generalize (tab 59).dLdeck = s1, (tab 59).dLwords = s2, (tab 59).dLnext = s3, (tab 59).dLdrawn_form = s4, (tab 59).dLtree = s5, (tab 59).dLwithin = s6, (tab 59).dLwords_of = s7, (tab 59).dLsame = s8, (tab 59).dmeaning = s9, (tab 59).dLmeant = s10, (tab 59).dLsentence = s11, (tab 59).dLbook = s12, (tab 59).dLmeans = s13 at *
 refine ⟨rfl, ?_⟩
 unfold w_law_7c0c
 refine seqI fun K hK => ?_
 dsimp! [true_and]
 refine hdeck ns _ _ _ hns fun d c S1 hd hx _ _ => hK _ _ ?_
 clear hK hx
 refine seqI fun K hK => ?_
 dsimp! [true_and]
 refine hnext d c _ _ _ hd fun n1 S2 n10 n11 hd2 hx2 => ?_
 dsimp! [true_and]
 refine ⟨by decide, ?_⟩
 obtain ⟨m, hm, hm1, hm2⟩ : ∃ m : Nat, 2 + n1 % 2 = (m : Int) ∧ 2 ≤ m ∧ m ≤ 3 := ⟨(2 + n1 % 2).toNat, by omega, by omega, by omega⟩
 rw [hm]
 refine hwords d c m _ _ _ hd2 (by omega) fun b ws S3 hws hwl hna hb hd3 hx3 => hK _ _ ?_
 clear hK
 have hne : ws ≠ [] := fun z => by rw [z] at hwl; simp at hwl; omega
 have nb : b ≠ d ∧ b ≠ c := by
  have := hd2.lt
  omega
 refine seqI fun K hK => ?_
 dsimp! [true_and]
 refine hdrawn d c b ws _ _ _ hd3 hws hne nb.1 nb.2 fun f S4 hf hov hd4 hx4 => ?_
 have hws4 := hx4.get hws (by simp; exact nb)
 refine hnext d c _ _ _ hd4 fun n2 S5 n20 n21 hd5 hx5 => ?_
 have hws5 := hx5.get hws4 (by simp; exact nb)
 dsimp! [true_and]
 refine ⟨by decide, ?_⟩
 obtain ⟨k, hk, hk1, hk8⟩ : ∃ k : Nat, 1 + n2 % 6 = (k : Int) ∧ 1 ≤ k ∧ k ≤ 6 := ⟨(1 + n2 % 6).toNat, by omega, by omega, by omega⟩
 rw [hk]
 refine htree k (by omega) hk1 d c b ws f 0 _ _ _ hd5 hws5 hne nb.1 nb.2 (by omega) (by omega) hov fun r S6 hrl hsm his hd6 hx6 => hK _ _ ?_
 clear hK hd hd2 hd3 hd4
 have hws6 := hx6.get hws5 (by simp; exact nb)
 clear hws hws4 hws5 hx2 hx3 hx4 hx5 hna hb hd5 hx6
 have hrl' := ws_len r
 have hwi' := wi_len r
 refine seqI fun K hK => ?_
 dsimp! [true_and]
 refine hsent d c r _ _ _ hd6 (by omega) fun vs S7 hvl hd7 hx7 => hK _ _ ?_
 clear hK
 have hws7 := hx7.get hws6 (by simp; exact nb)
 obtain ⟨_, win, wnd⟩ := ws_in his
 have hvi : ∀ p ∈ r.ws, 0 ≤ p.1 ∧ p.1 < (vs.length : Int) := fun p hp => by have := win p hp; omega
 refine seqI fun K hK => ?_
 dsimp! [true_and]
 refine hlw r (by omega) _ _ _ fun q S8 hq0 hq hx8 => ?_
 have hd8 := hd7.ex hx8 (by simp) (by simp)
 have hws8 := hx8.get hws7 (by simp)
 dsimp! [seq_at hq]
 refine ⟨by rw [List.length_map]; exact big (by omega), ?_⟩
 refine kys_go (seq_at hq) r.ws [] _ hvi ⟨_, _, rfl⟩ ?_
 refine hK _ _ ?_
 clear hK
 rw [List.nil_append]
 have kl : (r.ws.map (ky vs)).length = k := by rw [List.length_map]; omega
 have hks := at_new S8 (.lst ((r.ws.map (ky vs)).map pfP))
 have hd9 := hd8.ex (Ex.new [] S8 [SO.lst ((r.ws.map (ky vs)).map pfP)]) (by simp) (by simp)
 have hws9 := at_old hws8 [SO.lst ((r.ws.map (ky vs)).map pfP)]
 have hdl8 := hd8.lt
 have nq : S8.length ≠ d ∧ S8.length ≠ c := by omega
 have hall : ∀ p ∈ r.ws, ky vs p ∈ r.ws.map (ky vs) := fun p hp => List.mem_map.mpr ⟨p, hp, rfl⟩
 have hlv : ∀ u ∈ r.ws.map (ky vs), u.2.lv ≤ 5 := fun u hu => by
  obtain ⟨p, hp, rfl⟩ := List.mem_map.mp hu
  exact ws_sm hsm hp
 generalize S8 ++ [SO.lst ((r.ws.map (ky vs)).map pfP)] = S9 at hks hd9 hws9 ⊢
 generalize S8.length = q9 at hks nq ⊢
 generalize r.ws.map (ky vs) = ks at hks kl hall hlv ⊢
 clear hd8 hws8 hdl8 hd7 hws7 hx8 hq hq0 hx7 hws6 hd6
 refine seqI fun K hK => ?_
 dsimp! [true_and]
 refine hnext d c _ _ _ hd9 fun n3 S10 n30 n31 hd10 hx10 => ?_
 have hks10 := hx10.get hks (by simp; exact nq)
 have hws10 := hx10.get hws9 (by simp; exact nb)
 dsimp! [seq_at hks10, List.length_map, kl]
 refine ⟨by omega, hK _ _ ?_⟩
 clear hK
 obtain ⟨t, ht, ht1⟩ : ∃ t : Nat, n3 % (k : Int) = (t : Int) ∧ t < k := ⟨(n3 % (k : Int)).toNat, by have := Int.emod_nonneg n3 (show (k : Int) ≠ 0 by omega); omega, by have := Int.emod_lt_of_pos n3 (show (0 : Int) < k by omega); have := Int.emod_nonneg n3 (show (k : Int) ≠ 0 by omega); omega⟩
 rw [ht]
 refine seqI fun K hK => ?_
 have lk' : (ks.map pfP).length = k := by rw [List.length_map]; exact kl
 have a1 := at_old hks10 [SO.lst ((ks.map pfP).drop t)]
 have a2 : (S10 ++ [SO.lst ((ks.map pfP).drop t)] ++ [SO.lst ((ks.map pfP).take t)])[S10.length]? = some (.lst ((ks.map pfP).drop t)) := at_old (at_new _ _) _
 dsimp! [seq_at hks10, cut_suf (ks.map pfP) t (by omega), seq_at a1, cut_pre (ks.map pfP) t (by omega), lst_at a2]
 refine ⟨by rw [List.length_drop, List.length_take]; exact big (by omega), ?_⟩
 have eL : (ks.map pfP).drop t ++ (ks.map pfP).take t = (ks.drop t ++ ks.take t).map pfP := by rw [List.map_append, List.map_drop, List.map_take]
 have x11 : Ex [] S10 (S10 ++ [SO.lst ((ks.map pfP).drop t)] ++ [SO.lst ((ks.map pfP).take t)] ++ [SO.lst ((ks.map pfP).drop t ++ (ks.map pfP).take t)]) := ((Ex.new [] _ _).app _).app _
 have g11 := at_new (S10 ++ [SO.lst ((ks.map pfP).drop t)] ++ [SO.lst ((ks.map pfP).take t)]) (.lst ((ks.map pfP).drop t ++ (ks.map pfP).take t))
 have l11 : S10.length ≤ (S10 ++ [SO.lst ((ks.map pfP).drop t)] ++ [SO.lst ((ks.map pfP).take t)]).length := by simp
 generalize (S10 ++ [SO.lst ((ks.map pfP).drop t)] ++ [SO.lst ((ks.map pfP).take t)]).length = q11 at g11 l11 ⊢
 generalize S10 ++ [SO.lst ((ks.map pfP).drop t)] ++ [SO.lst ((ks.map pfP).take t)] ++ [SO.lst ((ks.map pfP).drop t ++ (ks.map pfP).take t)] = S11 at x11 g11 ⊢
 rw [eL] at g11
 have hdl10 := hd10.lt
 have hd11 := hd10.ex x11 (by simp) (by simp)
 have hmem : ∀ u, u ∈ ks.drop t ++ ks.take t ↔ u ∈ ks := fun u => by
  rw [List.mem_append, or_comm, ← List.mem_append, List.take_append_drop]
 refine hbook d c b q11 _ (ks.drop t ++ ks.take t) _ _ _ hd11 (x11.get hws10 (by simp)) (by rw [List.length_map]; omega) g11 (by simp only [List.length_append, List.length_drop, List.length_take]; omega) (fun u hu => hlv u ((hmem u).mp hu)) (by simp; exact nb) (by simp; omega) fun tr S12 x y htr hd12 hx12 => hK _ _ ?_
 clear hK
 have hgb : ∀ u ∈ r.wi, GB tr vs u := fun u hu => ⟨htr.nd, Nat.le_trans htr.len (by simp only [List.length_append, List.length_drop, List.length_take]; omega), htr.ok, fun p hp => by
  have hp' := wi_ws hu p hp
  obtain ⟨h0, h1⟩ := hvi p hp'
  exact ⟨h0, h1, htr.all _ ((hmem _).mpr (hall p hp')), ws_sm hsm hp'⟩⟩
 have hrw : r ∈ r.wi := by cases r <;> simp [Rd.wi]
 refine seqI fun K hK => ?_
 dsimp! [true_and]
 refine hmeans x y tr vs r _ _ _ (hgb r hrw) (by omega) fun dm kvs S13 hdn hval hx13 => hK _ _ ?_
 clear hK
 refine seqI fun K hK => ?_
 dsimp! [true_and]
 refine hwi r (by omega) _ _ _ fun q2 S10 _ hq2 hx10 => ?_
 dsimp! [lst_at hq2, lst_new]
 have h10 := at_old (hx10.get hdn (by simp)) [SO.lst [r.pv]]
 have hq3 := at_old hq2 [SO.lst [r.pv]]
 dsimp! [lst_at hq3]
 refine ⟨big (by decide), by rw [List.length_map]; exact big (by omega), ?_⟩
 have hq4 := at_new (S10 ++ [SO.lst [r.pv]]) (.lst (r.wi.map Rd.pv ++ [r.pv]))
 have h11 := at_old h10 [SO.lst (r.wi.map Rd.pv ++ [r.pv])]
 have eL : r.wi.map Rd.pv ++ [r.pv] = (r.wi ++ [r]).map Rd.pv := by simp
 rw [eL] at hq4 h11 ⊢
 generalize (S10 ++ [SO.lst [r.pv]]).length = q5 at hq4 ⊢
 generalize S10 ++ [SO.lst [r.pv]] ++ [SO.lst ((r.wi ++ [r]).map Rd.pv)] = S11 at hq4 h11 ⊢
 have hall2 : ∀ t ∈ r.wi ++ [r], t ∈ r.wi := fun t ht => by
  rcases List.mem_append.mp ht with z | z
  ·exact z
  ·rw [List.mem_singleton] at z
   subst z
   exact hrw
 generalize hLL : (r.wi ++ [r]).map Rd.pv = LL at hq4 ⊢
 refine forI (fun rest σ S12 => ∃ (ts : List Rd) (j9 : Option PV), rest = ts.map Rd.pv ∧ σ = [some (PV.frl (List.map PV.int ns)), some (PV.ref d), some (PV.ref b), some r.pv, some (PV.tup (List.map PV.str vs)), some (PV.ref q9), some (PV.int t), some (bkP x y tr), some (.ref dm), j9] ∧ (∀ t ∈ ts, t ∈ r.wi) ∧ S12[dm]? = some (.dN kvs) ∧ S12[q5]? = some (.lst LL)) ?_ ?_ _ _ _ ⟨r.wi ++ [r], _, hLL.symm, rfl, hall2, h11, hq4⟩
 ·rintro σ S12 ⟨ts, j9, hr', rfl, _, _, m2⟩
  refine ⟨seq_at m2, hK _ _ ?_⟩
  dsimp! [true_and]
 ·rintro z rest σ S12 ⟨ts, j9, hr', rfl, hin, m1, m2⟩ N hN
  obtain ⟨t, ts, rfl⟩ : ∃ p r, ts = p :: r := by
   cases ts with
   | nil => simp at hr'
   | cons a b => exact ⟨a, b, rfl⟩
  simp only [List.map_cons, List.cons.injEq] at hr'
  obtain ⟨rfl, rfl⟩ := hr'
  refine ⟨seq_at m2, ?_⟩
  have htw := hin t (by simp)
  obtain ⟨a', b', g', hti⟩ := wi_is his htw
  have hts := wi_sm hsm htw
  have htl := (wi_le htw).1
  have gbt := hgb t htw
  have okL : ∀ p ∈ t.ws, okP 20 (LK tr vs p) := fun p hp => by
   obtain ⟨u, hu, e⟩ := List.mem_map.mp (gbt.all p hp).2.2.1
   unfold LK
   rw [← e, lkT_of gbt.nd hu]
   exact (gbt.ok u hu).1
  obtain ⟨t1, t2⟩ := tm_ok (L := LK tr vs) (D := 20) (by decide) hti hts okL
  dsimp! [true_and]
  refine hlm (LK tr vs) t a' b' g' hti hts (by omega) _ kvs S12 _ _ m1 (fun p hp => hval p (wi_ws htw p hp)) ?_
  dsimp! [pairs1]
  refine hmng x y tr vs t a' b' g' hti hts (by omega) gbt _ _ _ fun S13 hx13 => ?_
  refine hsame _ t1 (by omega) _ _ _ fun S14 hx14 => ?_
  dsimp! [true_and]
  have hx := hx13.trans hx14
  exact hN _ _ ⟨ts, _, rfl, rfl, fun u hu => hin u (List.mem_cons_of_mem _ hu), hx.get m1 (by simp), hx.get m2 (by simp)⟩
end My
open PySem PySem.W PyProof.Rows
def PySem.W.Fast.tw4453289626040764344 : Unit := ()
def PySem.W.Fast.tw15602586964865052552 : Unit := ()
def PySem.W.Fast.tw11252572601730944205 : Unit := ()
def PySem.W.Fast.tw3567997440935774452 : Unit := ()
def PySem.W.Fast.tw15709409829493781476 : Unit := ()
def PySem.W.Fast.tw4610452932656905698 : Unit := ()
def PySem.W.Fast.tw12951494085491486700 : Unit := ()
def PySem.W.Fast.tw268438326714365322 : Unit := ()
def PySem.W.Fast.tw5440817794250372919 : Unit := ()
def PySem.W.Fast.tw16608339579408486328 : Unit := ()
def PySem.W.Fast.tw13031280705726871153 : Unit := ()
def PySem.W.Fast.tw14494410537998832586 : Unit := ()
def PySem.W.Fast.tw3605133230797636404 : Unit := ()
def PySem.W.Fast.tw4244334234509450035 : Unit := ()
def PySem.W.Fast.tw12453466358191184104 : Unit := ()
def PySem.W.Fast.tw379376920349080851 : Unit := ()
def PySem.W.Fast.tw10652263494926823229 : Unit := ()
def PySem.W.Fast.tw11850105758761310731 : Unit := ()
def PySem.W.Fast.tw13928176546750201649 : Unit := ()
def PySem.W.Fast.tw9862762337767253628 : Unit := ()
def PySem.W.Fast.tw1552700766465123893 : Unit := ()
def PySem.W.Fast.tw16986637509536481460 : Unit := ()
def PySem.W.Fast.tw15444079584031200744 : Unit := ()
def PySem.W.Fast.tw17648698813106954087 : Unit := ()
def PySem.W.Fast.tw6451285404951106903 : Unit := ()
def PySem.W.Fast.tw7930096840267322944 : Unit := ()
def PySem.W.Fast.tw8283912244341684675 : Unit := ()
def PySem.W.Fast.tw13732339667865485110 : Unit := ()
def PySem.W.Fast.tw9753549620297653678 : Unit := ()
def PySem.W.Fast.tw16937836208790996509 : Unit := ()
def PySem.W.Fast.tw3832278355802786810 : Unit := ()
def PySem.W.Fast.tw12349371245549211642 : Unit := ()
def PySem.W.Fast.tw15621309139665808410 : Unit := ()
def PySem.W.Fast.tw2677195478789847723 : Unit := ()
def PySem.W.Fast.tw6086638104468755995 : Unit := ()
def PySem.W.Fast.tw7352169029105483020 : Unit := ()
def PySem.W.Fast.tw4327687353954437627 : Unit := ()
def PySem.W.Fast.tw14233513020749504537 : Unit := ()
set_option maxRecDepth 100000 in
set_option maxHeartbeats 0 in
theorem PySem.Challenge.cw_slashwise_k61_meaning_by_a_book_holds : PySem.Challenge.rw_slashwise_k61_meaning_by_a_book.Holds := by
 w_on; o_law; k_head; (case hw => w_witness2)
 k_fill
 refine My.walk (l := PySem.Challenge.rw_slashwise_k61_meaning_by_a_book) My.law_ok rfl rfl (fun w h Y => PySem.W.kIn_of Y) ?F
 case F =>
  intro w mg fa h KX G hmg
  refine' My.all_mk KX G hmg ?a0 ?l0 ?c0 ?k0 ?a1 ?l1 ?c1 ?k1 ?a2 ?l2 ?c2 ?k2 ?a3 ?l3 ?c3 ?k3 ?a4 ?l4 ?c4 ?k4 ?a5 ?l5 ?c5 ?k5 ?a6 ?l6 ?c6 ?k6 ?a7 ?l7 ?c7 ?k7 ?a8 ?l8 ?c8 ?k8 ?a9 ?l9 ?c9 ?k9 ?a10 ?l10 ?c10 ?k10 ?a11 ?l11 ?c11 ?k11 ?a12 ?l12 ?c12 ?k12 ?a13 ?l13 ?c13 ?k13 ?a14 ?l14 ?c14 ?k14 ?a15 ?l15 ?c15 ?k15 ?a16 ?l16 ?c16 ?k16 ?a17 ?l17 ?c17 ?k17 ?a18 ?l18 ?c18 ?k18 ?a19 ?l19 ?c19 ?k19 ?a20 ?l20 ?c20 ?k20 ?a21 ?l21 ?c21 ?k21 ?a22 ?l22 ?c22 ?k22 ?a23 ?l23 ?c23 ?k23 ?a24 ?l24 ?c24 ?k24 ?a25 ?l25 ?c25 ?k25 ?a26 ?l26 ?c26 ?k26 ?a27 ?l27 ?c27 ?k27 ?a28 ?l28 ?c28 ?k28 ?a29 ?l29 ?c29 ?k29 ?a30 ?l30 ?c30 ?k30 ?a31 ?l31 ?c31 ?k31 ?xa_NoForm ?xe_NoForm ?z_all ?z_bool ?z_int ?z_isinstance ?z_len ?z_list ?z_range ?z_reversed ?z_str ?z_sum ?z_tuple ?z_zip
  (case a0 => k_is)
  (case l0 => k_is)
  (case c0 => k_is)
  (case k0 => k_is)
  (case a1 => k_is)
  (case l1 => k_is)
  (case c1 => k_is)
  (case k1 => k_is)
  (case a2 => k_is)
  (case l2 => k_is)
  (case c2 => k_is)
  (case k2 => k_is)
  (case a3 => k_is)
  (case l3 => k_is)
  (case c3 => k_is)
  (case k3 => k_is)
  (case a4 => k_is)
  (case l4 => k_is)
  (case c4 => k_is)
  (case k4 => k_is)
  (case a5 => k_is)
  (case l5 => k_is)
  (case c5 => k_is)
  (case k5 => k_is)
  (case a6 => k_is)
  (case l6 => k_is)
  (case c6 => k_is)
  (case k6 => k_is)
  (case a7 => k_is)
  (case l7 => k_is)
  (case c7 => k_is)
  (case k7 => k_is)
  (case a8 => k_is)
  (case l8 => k_is)
  (case c8 => k_is)
  (case k8 => k_is)
  (case a9 => k_is)
  (case l9 => k_is)
  (case c9 => k_is)
  (case k9 => k_is)
  (case a10 => k_is)
  (case l10 => k_is)
  (case c10 => k_is)
  (case k10 => k_is)
  (case a11 => k_is)
  (case l11 => k_is)
  (case c11 => k_is)
  (case k11 => k_is)
  (case a12 => k_is)
  (case l12 => k_is)
  (case c12 => k_is)
  (case k12 => k_is)
  (case a13 => k_is)
  (case l13 => k_is)
  (case c13 => k_is)
  (case k13 => k_is)
  (case a14 => k_is)
  (case l14 => k_is)
  (case c14 => k_is)
  (case k14 => k_is)
  (case a15 => k_is)
  (case l15 => k_is)
  (case c15 => k_is)
  (case k15 => k_is)
  (case a16 => k_is)
  (case l16 => k_is)
  (case c16 => k_is)
  (case k16 => k_is)
  (case a17 => k_is)
  (case l17 => k_is)
  (case c17 => k_is)
  (case k17 => k_is)
  (case a18 => k_is)
  (case l18 => k_is)
  (case c18 => k_is)
  (case k18 => k_is)
  (case a19 => k_is)
  (case l19 => k_is)
  (case c19 => k_is)
  (case k19 => k_is)
  (case a20 => k_is)
  (case l20 => k_is)
  (case c20 => k_is)
  (case k20 => k_is)
  (case a21 => k_is)
  (case l21 => k_is)
  (case c21 => k_is)
  (case k21 => k_is)
  (case a22 => k_is)
  (case l22 => k_is)
  (case c22 => k_is)
  (case k22 => k_is)
  (case a23 => k_is)
  (case l23 => k_is)
  (case c23 => k_is)
  (case k23 => k_is)
  (case a24 => k_is)
  (case l24 => k_is)
  (case c24 => k_is)
  (case k24 => k_is)
  (case a25 => k_is)
  (case l25 => k_is)
  (case c25 => k_is)
  (case k25 => k_is)
  (case a26 => k_is)
  (case l26 => k_is)
  (case c26 => k_is)
  (case k26 => k_is)
  (case a27 => k_is)
  (case l27 => k_is)
  (case c27 => k_is)
  (case k27 => k_is)
  (case a28 => k_is)
  (case l28 => k_is)
  (case c28 => k_is)
  (case k28 => k_is)
  (case a29 => k_is)
  (case l29 => k_is)
  (case c29 => k_is)
  (case k29 => k_is)
  (case a30 => k_is)
  (case l30 => k_is)
  (case c30 => k_is)
  (case k30 => k_is)
  (case a31 => k_is)
  (case l31 => k_is)
  (case c31 => k_is)
  (case k31 => k_is)
  (case xa_NoForm => k_is)
  (case xe_NoForm => k_exc)
  (case z_all => k_is)
  (case z_bool => k_is)
  (case z_int => k_is)
  (case z_isinstance => k_is)
  (case z_len => k_is)
  (case z_list => k_is)
  (case z_range => k_is)
  (case z_reversed => k_is)
  (case z_str => k_is)
  (case z_sum => k_is)
  (case z_tuple => k_is)
  (case z_zip => k_is)
#print axioms PySem.Challenge.cw_slashwise_k61_meaning_by_a_book_holds
