import PyProof.Rows.All
import Wide.All
import OpenK.AllK
import Wide.FinOn
import Lean
import PyProof.EqAt
import PyProof.EqKinds
import PyProof.NeKinds
import PyProof.TupleCall
import PyProof.ZipIter
import PyProof.Rows.TupAdd
import KE.KUnpack
import KE.KRevSl
import PyProof.FitsBits
import PySem.Challenge.RW_slashwise_k73_whole_any_turns
set_option Elab.async false
set_option linter.all false
set_option maxRecDepth 100000
set_option maxHeartbeats 4000000
/-! THE HAND LAYER, for ints, bools, texts, own classes, LISTS and tuples (index, slices, in, append, pop ..), calls, loops. Paste it whole ahead of your own text; what your proof does not reach may be deleted. -/
namespace L2
open PySem PySem.Spec PyProof.Rows

/-- a key: an int or a str -/
abbrev Key := Sum Int Str
def keyIs : Key → Value → Bool
  | .inl k, v => Value.isInt k v
  | .inr x, v => Value.isStrOf x v
def keyH (w : World) : Key → Int
  | .inl k => hashInt k
  | .inr x => hashStr w x
theorem keyIs_shape : ∀ {k : Key} {v : Value}, keyIs k v = true → (∃ i t, k = Sum.inl i ∧ v = Value.int i t) ∨ (∃ x t, k = Sum.inr x ∧ v = Value.str x t)
  | .inl i, v, h => by
    obtain ⟨t, e⟩ := Value.isInt_shape (k := i) (v := v) h
    exact .inl ⟨i, t, rfl, e⟩
  | .inr x, v, h => by
    obtain ⟨t, e⟩ := Value.isStrOf_shape (x := x) (v := v) h
    exact .inr ⟨x, t, rfl, e⟩
theorem keyIs_int (i : Int) (t : Tok) : keyIs (.inl i) (.int i t) = true := by simp [keyIs, Value.isInt]
theorem keyIs_str (x : Str) (t : Tok) : keyIs (.inr x) (.str x t) = true := by simp [keyIs, Value.isStrOf]
theorem key_ll (a b : Int) : decide ((Sum.inl a : Key) = Sum.inl b) = (a == b) := by
  by_cases e : a = b
  · subst e; simp
  · have h : ¬ (Sum.inl a : Key) = Sum.inl b := fun q => e (Sum.inl.inj q)
    rw [decide_eq_false h]
    exact (beq_eq_false_iff_ne.mpr e).symm
theorem key_rr (a b : Str) : decide ((Sum.inr a : Key) = Sum.inr b) = decide (a = b) := by
  by_cases e : a = b
  · subst e; simp
  · have h : ¬ (Sum.inr a : Key) = Sum.inr b := fun q => e (Sum.inr.inj q)
    rw [decide_eq_false h, decide_eq_false e]
theorem key_lr (a : Int) (b : Str) : decide ((Sum.inl a : Key) = Sum.inr b) = false := decide_eq_false (fun q => nomatch q)
theorem key_rl (a : Str) (b : Int) : decide ((Sum.inr a : Key) = Sum.inl b) = false := decide_eq_false (fun q => nomatch q)

def mixKind (prog : Program) (w : World) : PySem.KeyKind prog w Key where
  is := keyIs
  hash := keyH w
  inj := fun v a b ha hb => by
    rcases keyIs_shape ha with ⟨i, t, rfl, rfl⟩ | ⟨x, t, rfl, rfl⟩
    · rcases keyIs_shape hb with ⟨j, u, rfl, e⟩ | ⟨y, u, rfl, e⟩
      · injection e with e1 _; rw [e1]
      · exact nomatch e
    · rcases keyIs_shape hb with ⟨j, u, rfl, e⟩ | ⟨y, u, rfl, e⟩
      · exact nomatch e
      · injection e with e1 _; rw [e1]
  byValue := fun k v h => by
    rcases keyIs_shape h with ⟨i, t, rfl, rfl⟩ | ⟨x, t, rfl, rfl⟩ <;> rfl
  pyHash := fun hv h => by
    rcases keyIs_shape hv with ⟨i, t, rfl, rfl⟩ | ⟨x, t, rfl, rfl⟩
    · exact wpAny_pyHash_int h
    · exact wpAny_pyHash_str h
  eqBool := fun hu hv h => by
    rcases keyIs_shape hu with ⟨i, t, rfl, rfl⟩ | ⟨x, t, rfl, rfl⟩
    · rcases keyIs_shape hv with ⟨j, u, rfl, rfl⟩ | ⟨y, u, rfl, rfl⟩
      · rw [key_ll] at h; exact wpAny_eqBool_int h
      · rw [key_lr] at h; exact SeqAt.EqAt.int_str i t y u _ _ _ _ h
    · rcases keyIs_shape hv with ⟨j, u, rfl, rfl⟩ | ⟨y, u, rfl, rfl⟩
      · rw [key_rl] at h; exact SeqAt.EqAt.str_int x t j u _ _ _ _ h
      · rw [key_rr] at h; exact wpAny_eqBool_str h
  «strs» := fun k x t v h => by
    rcases keyIs_shape h with ⟨i, u, rfl, e⟩ | ⟨y, u, rfl, e⟩
    · exact nomatch e
    · injection e with e1 _
      subst e1
      cases v <;> rfl

theorem mixKind_int (prog : Program) (w : World) (i : Int) (t : Tok) : (mixKind prog w).is (.inl i) (.int i t) = true := keyIs_int i t
theorem mixKind_str (prog : Program) (w : World) (x : Str) (t : Tok) : (mixKind prog w).is (.inr x) (.str x t) = true := keyIs_str x t
end L2

namespace L2
open PySem PySem.Spec PyProof.Rows

/-- a value, without the heap -/
inductive V where
  | non | bl (b : Bool) | int (i : Int) | str (x : Str) | byt (b : Array UInt8) | flt (b : UInt64) | ref (a : Addr) | ty (n : String)
  deriving DecidableEq

def RelV : V → Value → Prop
  | .non, u => u = Value.none
  | .bl b, u => u = Value.bool b
  | .int i, u => ∃ t, u = Value.int i t
  | .str x, u => ∃ t, u = Value.str x t
  | .byt b, u => ∃ t, u = Value.bytes b t
  | .flt b, u => ∃ t, u = Value.float b t
  | .ref a, u => u = Value.ref a
  | .ty n, u => u = Value.type n

abbrev Vals : List V → List Value → Prop := Paired RelV
theorem Vals.length {xs : List V} {us : List Value} (r : Vals xs us) : xs.length = us.length := Paired.length r
theorem Vals.get : ∀ {xs : List V} {us : List Value} {i : Nat} {x : V}, Vals xs us → xs[i]? = some x → ∃ u, us[i]? = some u ∧ RelV x u
  | _, _, _, _, .nil, e => by simp at e
  | _, _, 0, _, .cons r _, e => by simp at e; subst e; exact ⟨_, rfl, r⟩
  | _, _, i + 1, x, .cons _ t, e => by
    obtain ⟨u, h1, h2⟩ := Vals.get (i := i) (x := x) t (by simpa using e)
    exact ⟨u, by simpa using h1, h2⟩
theorem Vals.set {x : V} {u : Value} (r : RelV x u) : ∀ {xs : List V} {us : List Value} (i : Nat), Vals xs us → Vals (xs.set i x) (us.set i u)
  | _, _, _, .nil => .nil
  | _, _, 0, .cons _ t => .cons r t
  | _, _, i + 1, .cons q t => .cons q (Vals.set r i t)
theorem Vals.append : ∀ {xs ys : List V} {us ws : List Value}, Vals xs us → Vals ys ws → Vals (xs ++ ys) (us ++ ws)
  | _, _, _, _, .nil, s => s
  | _, _, _, _, .cons r t, s => .cons r (Vals.append t s)
theorem Vals.take : ∀ {xs : List V} {us : List Value} (n : Nat), Vals xs us → Vals (xs.take n) (us.take n)
  | _, _, 0, _ => .nil
  | _, _, _ + 1, .nil => .nil
  | _, _, n + 1, .cons r t => .cons r (Vals.take n t)
theorem Vals.drop : ∀ {xs : List V} {us : List Value} (n : Nat), Vals xs us → Vals (xs.drop n) (us.drop n)
  | _, _, 0, r => r
  | _, _, _ + 1, .nil => .nil
  | _, _, n + 1, .cons _ t => Vals.drop n t
def RelO : Option V → Option Value → Prop
  | some v, some u => RelV v u
  | none, none => True
  | _, _ => False
def KV {κ : Type} : List (κ × V) → List (κ × Value) → Prop := Paired fun (p : κ × V) (q : κ × Value) => p.1 = q.1 ∧ RelV p.2 q.2

/-- a key of a dict (00_mix): an int or a text -/
def kV : Key → V
  | .inl i => .int i
  | .inr x => .str x

/-- what stands at a tracked address -/
inductive HO where
  /-- a list -/
  | lst (xs : List V)
  /-- a tuple (never changes) -/
  | tup (xs : List V)
  /-- a dict whose keys are ints and texts; one whose keys are tuples of ints and texts (the empty one is both) -/
  | dK (kvs : List (Key × V)) | dT (kvs : List (List Key × V))
  /-- a set of ints: its members, its size -/
  | set (S : Int → Bool) (n : Nat)
  /-- an instance of the class at C, its dict at dx, its attributes -/
  | ins (C dx : Addr) (fs : List (Str × V))
  /-- the dict of the instance at x -/
  | own (x : Addr)
  /-- the dict of an exception -/
  | xd (fs : List (Str × V))
  /-- a bound method, f of x -/
  | met (f x : Addr)
  /-- a range object lo, lo + 1, .. below hi -/
  | rng (lo hi : Int)
  /-- a thing that is known to the object (the script; a dict while a loop walks it): read, never written while it is so -/
  | frz (o : Obj) (u : HO)
  /-- a code object's table -/
  | tbl (ps : Array Value)
  /-- any other thing, by what is true of its one object (a def of one's own: SetO a S n := HO.ext fun h => ..) -/
  | ext (φ : Heap → Prop)

abbrev Hp := Addr → Option HO
def upd (H : Hp) (a : Addr) (o : HO) : Hp := fun b => if b = a then some o else H b
theorem upd_same {H : Hp} {a : Addr} {o : HO} : upd H a o a = some o := by unfold upd; rw [if_pos rfl]
theorem upd_ne {H : Hp} {a b : Addr} {o : HO} (h : b ≠ a) : upd H a o b = H b := by unfold upd; rw [if_neg h]
/-- two objects of different content stand apart -/
theorem ne_of {H : Hp} {a b : Addr} {o u : HO} (h : H a = some o) (h' : H b = some u) (d : o ≠ u) : a ≠ b := by
  intro e; subst e; rw [h] at h'; exact d (Option.some.inj h')
theorem ne_of_none {H : Hp} {a b : Addr} {o : HO} (h : H a = some o) (h' : H b = none) : a ≠ b := by
  intro e; subst e; rw [h] at h'; cases h'

section
variable (P : Program) (w : World)
def ObjOk (H : Hp) (h : Heap) (a : Addr) : HO → Prop
  | .lst xs => xs.length ≤ sizeLine ∧ ∃ (its : List Value) (n : Nat), Vals xs its ∧ h.get? a = some { cls := .type "list", data := .seq its.toArray n }
  | .tup xs => xs.length ≤ sizeLine ∧ ∃ its : List Value, Vals xs its ∧ IsTup h a its.toArray
  | .dK kvs => kvs.length ≤ sizeLine ∧ (a == sysModules) = false ∧ ∃ vs, KV kvs vs ∧ h.DictOf (mixKind P w) a vs
  | .dT kvs => kvs.length ≤ sizeLine ∧ (a == sysModules) = false ∧ ∃ xs : List (List Key × Addr × Value),
      Paired (fun (p : List Key × V) (q : List Key × Addr × Value) => p.1 = q.1 ∧ H q.2.1 = some (.tup (p.1.map kV)) ∧ RelV p.2 q.2.2) kvs xs ∧
      ∃ o es ep, h.get? a = some o ∧ o.ExactDict ∧ o.data = .dict es ep ∧ es.toList = xs.map (entryOfKey (tupleKind (mixKind P w))) ∧ (xs.map (·.1)).Nodup
  | .set S n => h.SetOf (intKind P w) a S n
  | .ins C dx fs => H dx = some (.own a) ∧ fs.length ≤ 1000 ∧ dx ≠ a ∧ h.get? a = some (PySem.W.instObj C dx) ∧
      ∃ mA, h.Ns1 dx mA ∧ (∀ f, RelO (fs.lookup f) (mA f)) ∧ PySem.Within mA (fs.map (·.1))
  | .own _ => ∃ o, h.get? a = some o
  | .xd fs => ∃ mA, h.Ns1 a mA ∧ ∀ f, RelO (fs.lookup f) (mA f)
  | .rng lo hi => ∃ t u v, h.get? a = some { cls := .type "range", data := .fields #[.int lo t, .int hi u, .int 1 v] }
  | .frz o u => h.get? a = some o ∧ ObjOk H h a u
  | .tbl ps => h.get? a = some { cls := .none, data := .fields ps }
  | .met f x => h.get? a = some (PySem.W.methodObj (.ref f) (.ref x))
  | .ext φ => φ h ∧ (∃ o, h.get? a = some o) ∧ ∀ h1 h2 : Heap, φ h1 → (∀ o, h1.get? a = some o → h2.get? a = some o) → φ h2
/-- the abstract heap is held -/
def HOk (H : Hp) (h : Heap) : Prop := ∀ a o, H a = some o → ObjOk P w H h a o
end

section
variable {P : Program} {w : World} {H H' : Hp} {h h' : Heap} {a : Addr} {o : HO}
theorem ObjOk.lt (x : ObjOk P w H h a o) : a < h.objs.size := by
  cases o with
  | lst xs => obtain ⟨_, _, _, _, e⟩ := x; exact Heap.lt_size e
  | tup xs => obtain ⟨_, _, _, p⟩ := x; exact p.lt
  | dK kvs => obtain ⟨_, _, _, _, o, _, _, e, _⟩ := x; exact Heap.lt_size e
  | dT kvs => obtain ⟨_, _, _, _, o, _, _, e, _⟩ := x; exact Heap.lt_size e
  | set S n => obtain ⟨o, _, _, _, e, _⟩ := x; exact Heap.lt_size e
  | ins C dx fs => obtain ⟨_, _, _, e, _⟩ := x; exact Heap.lt_size e
  | own y => obtain ⟨_, e⟩ := x; exact Heap.lt_size e
  | xd fs => obtain ⟨_, ⟨_, _, _, e, _⟩, _⟩ := x; exact Heap.lt_size e
  | rng lo hi => obtain ⟨_, _, _, e⟩ := x; exact Heap.lt_size e
  | frz ob u => obtain ⟨e, _⟩ := x; exact Heap.lt_size e
  | tbl ps => exact Heap.lt_size (show h.get? a = some _ from x)
  | met f y => exact Heap.lt_size (show h.get? a = some _ from x)
  | ext φ => obtain ⟨_, ⟨_, e⟩, _⟩ := x; exact Heap.lt_size e
theorem Paired.mapP {α β : Type} {F G : α → β → Prop} : ∀ {l₁ : List α} {l₂ : List β}, Paired F l₁ l₂ → (∀ a b, F a b → G a b) → Paired G l₁ l₂
  | _, _, .nil, _ => .nil
  | _, _, .cons r t, f => .cons (f _ _ r) (Paired.mapP t f)
/-- what an object's description leans on: its own object, its own dict, the tuples -/
theorem ObjOk.stay (x : ObjOk P w H h a o) (k : ∀ b u, (b = a ∨ H b = some (.own a)) → h.get? b = some u → h'.get? b = some u)
    (ho : ∀ b, H b = some (.own a) → H' b = some (.own a)) (ht : ∀ b xs, H b = some (.tup xs) → H' b = some (.tup xs)) : ObjOk P w H' h' a o := by
  induction o with
  | lst xs => obtain ⟨z, its, n, r, e⟩ := x; exact ⟨z, its, n, r, k _ _ (.inl rfl) e⟩
  | tup xs => obtain ⟨z, its, r, ob, e, c⟩ := x; exact ⟨z, its, r, ob, k _ _ (.inl rfl) e, c⟩
  | dK kvs => obtain ⟨z, y, vs, r, ob, es, ep, e, c⟩ := x; exact ⟨z, y, vs, r, ob, es, ep, k _ _ (.inl rfl) e, c⟩
  | dT kvs =>
    obtain ⟨z, y, xs, r, ob, es, ep, e, c⟩ := x
    exact ⟨z, y, xs, Paired.mapP r fun p q z => ⟨z.1, ht _ _ z.2.1, z.2.2⟩, ob, es, ep, k _ _ (.inl rfl) e, c⟩
  | set S n => obtain ⟨ob, es, ep, t, e, c⟩ := x; exact ⟨ob, es, ep, t, k _ _ (.inl rfl) e, c⟩
  | ins C dx fs =>
    obtain ⟨d, z, ne, e, mA, ⟨od, es, ep, e2, c⟩, r⟩ := x
    exact ⟨ho _ d, z, ne, k _ _ (.inl rfl) e, mA, ⟨od, es, ep, k _ _ (.inr d) e2, c⟩, r⟩
  | own y => obtain ⟨ob, e⟩ := x; exact ⟨ob, k _ _ (.inl rfl) e⟩
  | xd fs => obtain ⟨mA, ⟨od, es, ep, e, c⟩, r⟩ := x; exact ⟨mA, ⟨od, es, ep, k _ _ (.inl rfl) e, c⟩, r⟩
  | rng lo hi => obtain ⟨t, u, v, e⟩ := x; exact ⟨t, u, v, k _ _ (.inl rfl) e⟩
  | frz ob u ih => obtain ⟨e, q⟩ := x; exact ⟨k _ _ (.inl rfl) e, ih q⟩
  | tbl ps =>
    have e : h.get? a = some { cls := .none, data := .fields ps } := x
    show h'.get? a = some { cls := .none, data := .fields ps }
    exact k a _ (.inl rfl) e
  | met f y =>
    have e : h.get? a = some (PySem.W.methodObj (.ref f) (.ref y)) := x
    show h'.get? a = some (PySem.W.methodObj (.ref f) (.ref y))
    exact k a _ (.inl rfl) e
  | ext φ => obtain ⟨p, ⟨o, e⟩, st⟩ := x; exact ⟨st _ _ p fun o q => k _ _ (.inl rfl) q, ⟨o, k _ _ (.inl rfl) e⟩, st⟩
theorem HOk.lt (x : HOk P w H h) (e : H a = some o) : a < h.objs.size := (x a o e).lt
theorem HOk.fresh (x : HOk P w H h) (e : h.objs.size ≤ a) : H a = none := by
  cases q : H a with
  | none => rfl
  | some u => exact absurd (Nat.lt_of_lt_of_le (x.lt q) e) (Nat.lt_irrefl _)
/-- every object of the heap is kept -/
theorem HOk.kept (x : HOk P w H h) (k : ∀ b u, h.get? b = some u → h'.get? b = some u) : HOk P w H h' := fun a o e =>
  (x a o e).stay (fun b u _ q => k b u q) (fun _ q => q) fun _ _ q => q
/-- a new object is laid and tracked -/
theorem HOk.laid (x : HOk P w H h) (k : ∀ b u, h.get? b = some u → h'.get? b = some u) (hp : h.objs.size ≤ a) (new : ObjOk P w (upd H a o) h' a o) : HOk P w (upd H a o) h' := fun b u e => by
  have hn := x.fresh hp
  by_cases hb : b = a
  · subst hb; rw [upd_same] at e; cases e; exact new
  · rw [upd_ne hb] at e
    exact (x b u e).stay (fun c v _ q => k c v q) (fun c q => by rw [upd_ne (ne_of_none q hn)]; exact q) fun c xs q => by rw [upd_ne (ne_of_none q hn)]; exact q
end

/-- what may be read as u: it is u, or a known u -/
def Rd (H : Hp) (a : Addr) (u : HO) : Prop := H a = some u ∨ ∃ o, H a = some (.frz o u)
theorem Rd.ok {P : Program} {w : World} {H : Hp} {h : Heap} {a : Addr} {u : HO} (r : Rd H a u) (x : HOk P w H h) : ObjOk P w H h a u := by
  rcases r with r | ⟨o, r⟩
  · exact x a u r
  · obtain ⟨_, q⟩ := x a _ r
    exact q
/-- what may be written -/
def Mut : Option HO → Prop
  | some (.lst _) => True
  | some (.dK _) => True
  | some (.dT _) => True
  | some (.set _ _) => True
  | some (.ins _ _ _) => True
  | some (.ext _) => True
  | _ => False
section
variable {P : Program} {w : World} {H : Hp} {h h' : Heap} {x e : Addr} {o' : HO}
/-- the object at e is changed: x itself, or the dict of the instance x -/
theorem HOk.write (ok : HOk P w H h) (mu : Mut (H x)) (he : e = x ∨ H e = some (.own x)) (k : ∀ b u, b ≠ e → h.get? b = some u → h'.get? b = some u) (heo : ∃ u, h'.get? e = some u)
    (new : ObjOk P w (upd H x o') h' x o') : HOk P w (upd H x o') h' := fun b u q => by
  have nown : ∀ c y, H c = some (.own y) → c ≠ x := fun c y r z => by subst z; rw [r] at mu; exact mu
  have ntup : ∀ c xs, H c = some (.tup xs) → c ≠ x := fun c xs r z => by subst z; rw [r] at mu; exact mu
  by_cases hb : b = x
  · subst hb; rw [upd_same] at q; cases q; exact new
  · rw [upd_ne hb] at q
    by_cases hbe : b = e
    · have q' : H b = some (.own x) := by
        rcases he with z | z
        · exact absurd (hbe.trans z) hb
        · rw [hbe]; exact z
      rw [q] at q'; cases q'
      obtain ⟨v, hv⟩ := heo
      exact ⟨v, by rw [hbe]; exact hv⟩
    · refine (ok b u q).stay (fun c v hc r => k c v ?_ r) (fun c r => by rw [upd_ne (nown c b r)]; exact r) fun c xs r => by rw [upd_ne (ntup c xs r)]; exact r
      rcases hc with rfl | hc
      · exact hbe
      · rintro rfl
        rcases he with z | z
        · exact nown c b hc z
        · rw [hc] at z; cases z; exact hb rfl
end

/-! ### kept unless tracked; of the frames at fs (the callers') the slots may change (an exception that passes writes there); of the records at ex (iterators) nothing is said -/
structure Un (fs ex : List Addr) (H H' : Hp) (h h' : Heap) : Prop where
  keep : ∀ b o, h.get? b = some o → H b = none → b ∉ fs → b ∉ ex → h'.get? b = some o
  slot : ∀ b o, h.get? b = some o → H b = none → b ∈ fs → b ∉ ex → ∃ sl, h'.get? b = some { o with slots := sl }
  free : ∀ b o, h.get? b = some o → H b = none → b ∉ ex → H' b = none
  there : ∀ b o, h.get? b = some o → b ∉ ex → ∃ o', h'.get? b = some o'
  tups : ∀ b xs, H b = some (.tup xs) → H' b = some (.tup xs)
  frzs : ∀ b o u, H b = some (.frz o u) → H' b = some (.frz o u)
  tbls : ∀ b ps, H b = some (.tbl ps) → ∃ more, H' b = some (.tbl (ps ++ more))
section
variable {fs fs' ex ex' : List Addr} {H H1 H2 : Hp} {h h1 h2 h' : Heap} {a x e : Addr} {o : HO}
theorem Un.any (u : Un fs ex H H1 h h1) {b : Addr} {ob : Obj} (q : h.get? b = some ob) (n : H b = none) (hx : b ∉ ex) : ∃ sl, h1.get? b = some { ob with slots := sl } := by
  by_cases hb : b ∈ fs
  · exact u.slot b ob q n hb hx
  · exact ⟨ob.slots, u.keep b ob q n hb hx⟩
theorem Un.kept (k : ∀ b u, h.get? b = some u → h'.get? b = some u) : Un fs ex H H h h' :=
  ⟨fun b ob q _ _ _ => k b ob q, fun b ob q _ _ _ => ⟨ob.slots, k b ob q⟩, fun _ _ _ n _ => n, fun b ob q _ => ⟨ob, k b ob q⟩, fun _ _ q => q, fun _ _ _ q => q, fun _ ps q => ⟨#[], by rw [q]; simp⟩⟩
theorem Un.refl : Un fs ex H H h h := Un.kept fun _ _ q => q
theorem Un.laid (k : ∀ b u, h.get? b = some u → h'.get? b = some u) (hp : h.objs.size ≤ a) (hn : H a = none) : Un fs ex H (upd H a o) h h' where
  keep := fun b u q _ _ _ => k b u q
  slot := fun b u q _ _ _ => ⟨u.slots, k b u q⟩
  free := fun b u q n _ => by rw [upd_ne (Nat.ne_of_lt (Nat.lt_of_lt_of_le (Heap.lt_size q) hp))]; exact n
  there := fun b u q _ => ⟨u, k b u q⟩
  tups := fun b xs q => by rw [upd_ne (ne_of_none q hn)]; exact q
  frzs := fun b u xs q => by rw [upd_ne (ne_of_none q hn)]; exact q
  tbls := fun b ps q => ⟨#[], by rw [upd_ne (ne_of_none q hn), q]; simp⟩
theorem Un.write (mu : Mut (H x)) (he : e = x ∨ H e = some (.own x)) (k : ∀ b u, b ≠ e → h.get? b = some u → h'.get? b = some u) (heo : ∃ u, h'.get? e = some u) : Un fs ex H (upd H x o) h h' := by
  have hx : ∀ b, H b = none → b ≠ x := fun b n z => by subst z; rw [n] at mu; exact mu
  have hb : ∀ b, H b = none → b ≠ e := fun b n z => by
    subst z
    rcases he with r | r
    · exact hx b n r
    · rw [n] at r; cases r
  have hm : ∀ b u, H b = some u → ¬ Mut (some u) → b ≠ x := fun b u q nm z => by subst z; rw [q] at mu; exact nm mu
  refine ⟨fun b u q n _ _ => k b u (hb b n) q, fun b u q n _ _ => ⟨u.slots, k b u (hb b n) q⟩, fun b u q n _ => by rw [upd_ne (hx b n)]; exact n, fun b u q _ => ?_,
    fun b xs q => by rw [upd_ne (hm b _ q fun z => z)]; exact q, fun b u xs q => by rw [upd_ne (hm b _ q fun z => z)]; exact q, fun b ps q => ⟨#[], by rw [upd_ne (hm b _ q fun z => z), q]; simp⟩⟩
  by_cases hbe : b = e
  · subst hbe; exact heo
  · exact ⟨u, k b u hbe q⟩
end

/-! ### the heap without what is tracked -/
def trk (h : Heap) (H : Hp) : List Addr := (List.range h.objs.size).filter fun a => (H a).isSome
def hidT (h : Heap) (H : Hp) : Heap := PySem.W.hideAll h (trk h H)
theorem hidT_size (h : Heap) (H : Hp) : (hidT h H).objs.size = h.objs.size := PySem.W.hideAll_size _ _
theorem hidT_get {h : Heap} {H : Hp} {b : Addr} {o : Obj} (e : h.get? b = some o) (n : H b = none) : (hidT h H).get? b = some o :=
  PySem.W.hideAll_get _ e fun hm => by
    have q : (H b).isSome = true := (List.mem_filter.mp hm).2
    rw [n] at q; simp at q
theorem of_hidT {h : Heap} {H : Hp} {b : Addr} {o : Obj} (e : (hidT h H).get? b = some o) : h.get? b = some o ∧ H b = none := by
  have e' : h.get? b = some o := PySem.W.of_hideAll (trk h H) e
  refine ⟨e', ?_⟩
  cases q : H b with
  | none => rfl
  | some x =>
    have hm : b ∈ trk h H := List.mem_filter.mpr ⟨List.mem_range.mpr (Heap.lt_size e'), by simp [q]⟩
    have z : (hidT h H).get? b = none := PySem.W.hideAll_none (trk h H) hm
    rw [z] at e; cases e

/-! ### OpenK's ledger, filled with every new object but one -/
end L2

namespace L2
open PySem PySem.Spec PyProof.Rows

/-- the module's facts, over the base: the heap at the law's entry without what is tracked there -/
structure Mod (K : PySem.W.Frag) (mg : Str → Option Value) (base : Heap) : Prop where
  kin : K.In base
  glob : base.Ns mainGlobals mg
  blt : ∃ mb, base.Ns builtinsNs mb ∧ ∀ x : Str, x ≠ "__name__" → mb x = bootBuiltins x
  nolimit : base.NoLimit

/-- the context: a def's body (or a comprehension's block) running. base: fixed through the whole law; s₀, H₀: the entry; outer: the frames whose slots others may change (a def's callers); stack: all frames that run;
   ex: iterators that were made ahead of the entry and are walked here (a comprehension's); fn: the names whose cells were made at the entry (a def: all; a comprehension's block: its own); calm: not within an except suite; pn: pins that every state bears; xe: what is wanted of an exception that leaves the code -/
structure Cx where
  prog : Program
  w : World
  K : PySem.W.Frag
  mg : Str → Option Value
  base : Heap
  A : Around
  N : List Str
  s₀ : Shared
  H₀ : Hp
  env : Env
  outer : List Env
  stack : List Env
  ex : List Addr
  fn : Str → Bool
  calm : Bool
  pn : List (Addr × Obj)
  xe : Value → Shared → Prop
/-- the callers' frames -/
def frs (l : List Env) : List Addr := l.filterMap (·.frame)
abbrev Cx.fs (X : Cx) : List Addr := frs X.outer

def Vis (sc : Scope) (x : Str) : Prop := sc.names.lookup x = some .local ∨ sc.names.lookup x = some .cell ∨ sc.names.lookup x = some .free
def Loc (sc : Scope) (x : Str) : Prop := sc.names.lookup x = some .local ∨ sc.names.lookup x = some .cell
def Look (env : Env) (h : Heap) (m : Str → Option Value) (x : Str) (u : Value) : Prop :=
  (env.kindOf x = some .local ∧ m x = some u) ∨ ((env.kindOf x = some .cell ∨ env.kindOf x = some .free) ∧ ∃ c, env.cells.lookup x = some c ∧ h.IsCell c (some u))

structure Cx.Ok (X : Cx) : Prop where
  mod : Mod X.K X.mg X.base
  kind : X.env.scope.kind = .function
  glob : X.env.globals = mainGlobals
  blt : X.env.builtins = builtinsNs
  above : X.s₀.heap.objs.size ≤ X.env.locals
  inj : ∀ x y c, X.env.cells.lookup x = some c → X.env.cells.lookup y = some c → x = y
  has : ∀ x, (X.env.kindOf x = some .cell ∨ X.env.kindOf x = some .free) → ∃ c, X.env.cells.lookup x = some c
  cab : ∀ x c, X.fn x = true → X.env.cells.lookup x = some c → X.s₀.heap.objs.size ≤ c
  hd : X.calm = true → X.A.handled = none
  frames : X.A.frames = some X.stack
  stk : X.stack = X.outer ∨ (X.stack = X.env :: X.outer ∧ X.env.frame = some X.env.locals)
  exf : ∀ b ∈ X.ex, b ≠ X.env.locals ∧ ∀ x c, X.env.cells.lookup x = some c → c ≠ b
  bs : ∀ b o, X.base.get? b = some o → X.s₀.heap.get? b = some o ∧ X.H₀ b = none
  bsz : X.base.objs.size ≤ X.s₀.heap.objs.size
  noex : ∀ b o, X.base.get? b = some o → b ∉ X.ex
  exfs : ∀ b ∈ X.ex, b ∉ X.fs
  funs : X.s₀.heap.FunFrames X.base X.outer
  frf : ∀ b ∈ X.fs, X.H₀ b = none

structure Inv (X : Cx) (pins : List (Addr × Obj)) (σ : List (Option V)) (H : Hp) (s : Shared) : Prop where
  ok : X.Ok
  os : s.os = X.s₀.os
  bare : AllBare s.gens
  base : Un X.fs X.ex X.H₀ H X.s₀.heap s.heap
  loc : ∃ m, s.heap.Ns X.env.locals m ∧ ∀ (i : Nat) (x : Str) (v : V), X.N[i]? = some x → σ[i]? = some (some v) → Vis X.env.scope x → ∃ u, RelV v u ∧ Look X.env s.heap m x u
  cell : ∀ x c, X.env.cells.lookup x = some c → ∃ v, s.heap.IsCell c v
  free : H X.env.locals = none
  freeC : ∀ x c, X.env.cells.lookup x = some c → H c = none
  pin : ∀ p ∈ X.pn ++ pins, s.heap.get? p.1 = some p.2 ∧ H p.1 = none ∧ p.1 ≠ X.env.locals ∧ p.1 ∉ X.fs ∧ ∀ v, p.2.data ≠ .cell v
  hok : HOk X.prog X.w H s.heap
  len : σ.length = X.N.length

section
variable {X : Cx} {pins : List (Addr × Obj)} {σ : List (Option V)} {H H' : Hp} {s : Shared} {h' : Heap}

theorem Cx.Ok.nofr (ok : X.Ok) {b : Addr} {o : Obj} (e : X.base.get? b = some o) : b ∉ X.fs := fun hb => by
  have := (ok.funs.mem hb).1
  rw [e] at this; cases this
theorem Inv.bs (I : Inv X pins σ H s) : ∀ b o, X.base.get? b = some o → s.heap.get? b = some o ∧ H b = none := fun b o e =>
  ⟨I.base.keep b o (I.ok.bs b o e).1 (I.ok.bs b o e).2 (I.ok.nofr e) (I.ok.noex b o e), I.base.free b o (I.ok.bs b o e).1 (I.ok.bs b o e).2 (I.ok.noex b o e)⟩
theorem Inv.bk (I : Inv X pins σ H s) : ∀ b o, X.base.get? b = some o → s.heap.get? b = some o := fun b o e => (I.bs b o e).1
theorem Inv.mod (I : Inv X pins σ H s) : Mod X.K X.mg X.base := I.ok.mod
theorem Inv.kIn (I : Inv X pins σ H s) : X.K.In s.heap := I.ok.mod.kin.keeps I.bk
theorem Inv.lt (I : Inv X pins σ H s) : X.env.locals < s.heap.objs.size := let ⟨_, hn, _⟩ := I.loc; hn.lt
theorem Inv.sz (I : Inv X pins σ H s) : X.s₀.heap.objs.size ≤ s.heap.objs.size := Nat.le_trans I.ok.above (Nat.le_of_lt I.lt)
theorem Inv.nofs (I : Inv X pins σ H s) {a : Addr} (h : s.heap.objs.size ≤ a) : a ∉ X.fs := fun hb => by
  obtain ⟨_, o, ho, _⟩ := I.ok.funs.mem hb
  exact absurd (Nat.lt_of_lt_of_le (Heap.lt_size ho) (Nat.le_trans I.sz h)) (Nat.lt_irrefl _)
theorem Inv.cne (I : Inv X pins σ H s) : ∀ x c, X.env.cells.lookup x = some c → c ≠ X.env.locals := fun x c e z => by
  obtain ⟨v, o, ho, hd⟩ := I.cell x c e
  obtain ⟨m, ⟨o', es, ep, ho', hd', _⟩, _⟩ := I.loc
  rw [z, ho'] at ho; cases ho; rw [hd'] at hd; cases hd
theorem Inv.funs (I : Inv X pins σ H s) : s.heap.FunFrames X.base X.outer := by
  have all : ∀ (l : List Env), (∀ b ∈ frs l, b ∈ X.fs) → X.s₀.heap.FunFrames X.base l → s.heap.FunFrames X.base l := by
    intro l
    induction l with
    | nil => intro _ _; trivial
    | cons env r ih =>
      intro hs hl
      obtain ⟨hk, ⟨L, o, hf, hn, ho, hd⟩, hr⟩ := hl
      have hL : L ∈ X.fs := hs L (by unfold frs; rw [List.filterMap_cons, hf]; exact List.mem_cons_self)
      obtain ⟨sl, e⟩ := I.base.slot L o ho (I.ok.frf L hL) hL fun z => I.ok.exfs L z hL
      exact ⟨hk, ⟨L, _, hf, hn, e, hd⟩, ih (fun b hb => hs b (by unfold frs; rw [List.filterMap_cons, hf]; exact List.mem_cons_of_mem _ hb)) hr⟩
  exact all X.outer (fun _ hb => hb) I.ok.funs

/-- the frames that run, for a call -/
theorem Inv.stack (I : Inv X pins σ H s) : s.heap.FunFrames X.base X.stack := by
  rcases I.ok.stk with e | ⟨e, hf⟩
  · rw [e]; exact I.funs
  · rw [e]
    obtain ⟨m, hn, _⟩ := I.loc
    refine .cons (by rw [I.ok.kind]; decide) hf hn ?_ I.funs
    exact Heap.get?_none_of_le (Nat.le_trans I.ok.bsz I.ok.above)
theorem Inv.stkSub (I : Inv X pins σ H s) : ∀ b ∈ frs X.stack, b ∈ X.env.locals :: X.fs := fun b hb => by
  rcases I.ok.stk with e | ⟨e, hf⟩
  · rw [e] at hb; exact List.mem_cons_of_mem _ hb
  · rw [e] at hb
    unfold frs at hb
    rw [List.filterMap_cons, hf] at hb
    exact hb
theorem Inv.stkFree (I : Inv X pins σ H s) : ∀ b ∈ frs X.stack, H b = none := fun b hb => by
  rcases List.mem_cons.mp (I.stkSub b hb) with e | hb
  · rw [e]; exact I.free
  · obtain ⟨_, o, ho, _⟩ := I.ok.funs.mem hb
    exact I.base.free b o ho (I.ok.frf b hb) fun z => I.ok.exfs b z hb

/-- THE STEP: the untracked objects but the frame and the records at ch are kept (the callers' frames up to slots), the frame's map is kept, the new abstract heap is held -/
theorem Inv.step {g' : Array GenState} {t' : Nat} {d' : Drawn} {ch : List Addr} (I : Inv X pins σ H s)
    (hch : ∀ b ∈ ch, (b ∈ X.ex ∨ X.s₀.heap.objs.size ≤ b) ∧ b ≠ X.env.locals ∧ (∀ x c, X.env.cells.lookup x = some c → c ≠ b) ∧ ∀ p ∈ X.pn ++ pins, p.1 ≠ b)
    (keep : ∀ b o, b ≠ X.env.locals → b ∉ X.fs → b ∉ ch → s.heap.get? b = some o → H b = none → h'.get? b = some o)
    (slot : ∀ b o, b ≠ X.env.locals → b ∈ X.fs → b ∉ ch → s.heap.get? b = some o → H b = none → ∃ sl, h'.get? b = some { o with slots := sl }) (free : ∀ b o, b ∉ ch → s.heap.get? b = some o → H b = none → H' b = none)
    (there : ∀ b o, b ∉ ch → s.heap.get? b = some o → ∃ o', h'.get? b = some o')
    (tups : ∀ b xs, H b = some (.tup xs) → H' b = some (.tup xs)) (frzs : ∀ b o u, H b = some (.frz o u) → H' b = some (.frz o u)) (tbls : ∀ b ps, H b = some (.tbl ps) → ∃ more, H' b = some (.tbl (ps ++ more)))
    (ns : ∀ m, s.heap.Ns X.env.locals m → h'.Ns X.env.locals m) (hok : HOk X.prog X.w H' h') (hg : AllBare g') :
    Inv X pins σ H' { s with heap := h', gens := g', drawn := d', toks := t' } := by
  have neL : ∀ b o, X.s₀.heap.get? b = some o → b ≠ X.env.locals := fun b o e => Nat.ne_of_lt (Nat.lt_of_lt_of_le (Heap.lt_size e) I.ok.above)
  have neC : ∀ b o, X.s₀.heap.get? b = some o → b ∉ X.ex → b ∉ ch := fun b o e hx hb => by
    rcases (hch b hb).1 with z | z
    · exact hx z
    · exact absurd (Nat.lt_of_lt_of_le (Heap.lt_size e) z) (Nat.lt_irrefl _)
  have cellK : ∀ x c, X.env.cells.lookup x = some c → ∀ v, s.heap.IsCell c v → h'.IsCell c v := fun x c e v ⟨o, ho, hd⟩ => by
    have nch : c ∉ ch := fun z => (hch c z).2.2.1 x c e rfl
    by_cases hc : c ∈ X.fs
    · obtain ⟨sl, q⟩ := slot c o (I.cne x c e) hc nch ho (I.freeC x c e)
      exact ⟨_, q, hd⟩
    · exact ⟨o, keep c o (I.cne x c e) hc nch ho (I.freeC x c e), hd⟩
  refine ⟨I.ok, I.os, hg, ⟨fun b o e n hb hx => ?_, fun b o e n hb hx => ?_, fun b o e n hx => ?_, fun b o e hx => ?_, fun b xs e => tups b xs (I.base.tups b xs e), fun b o xs e => frzs b o xs (I.base.frzs b o xs e), fun b ps e => ?_⟩, ?_, fun x c e => ?_, ?_, fun x c e => ?_, fun p hp => ?_, hok, I.len⟩
  · exact keep b o (neL b o e) hb (neC b o e hx) (I.base.keep b o e n hb hx) (I.base.free b o e n hx)
  · obtain ⟨sl, e1⟩ := I.base.slot b o e n hb hx
    obtain ⟨sl', e2⟩ := slot b _ (neL b o e) hb (neC b o e hx) e1 (I.base.free b o e n hx)
    exact ⟨sl', e2⟩
  · obtain ⟨o', e1⟩ := I.base.there b o e hx
    exact free b o' (neC b o e hx) e1 (I.base.free b o e n hx)
  · obtain ⟨o', e1⟩ := I.base.there b o e hx
    exact there b o' (neC b o e hx) e1
  · obtain ⟨m1, e1⟩ := I.base.tbls b ps e
    obtain ⟨m2, e2⟩ := tbls b _ e1
    exact ⟨m1 ++ m2, by rw [e2, Array.append_assoc]⟩
  · obtain ⟨m, hn, hl⟩ := I.loc
    refine ⟨m, ns m hn, fun i x v e1 e2 e3 => ?_⟩
    obtain ⟨u, r, l⟩ := hl i x v e1 e2 e3
    refine ⟨u, r, ?_⟩
    rcases l with l | ⟨k, c, e, z⟩
    · exact .inl l
    · exact .inr ⟨k, c, e, cellK x c e _ z⟩
  · obtain ⟨v, z⟩ := I.cell x c e
    exact ⟨v, cellK x c e v z⟩
  · obtain ⟨m, ⟨o, _, _, ho, _⟩, _⟩ := I.loc
    exact free _ o (fun z => (hch _ z).2.1 rfl) ho I.free
  · obtain ⟨v, o, ho, hd⟩ := I.cell x c e
    exact free c o (fun z => (hch c z).2.2.1 x c e rfl) ho (I.freeC x c e)
  · obtain ⟨e, n, ne, nf, d⟩ := I.pin p hp
    have nch : p.1 ∉ ch := fun z => (hch p.1 z).2.2.2 p hp rfl
    exact ⟨keep p.1 p.2 ne nf nch e n, free p.1 p.2 nch e n, ne, nf, d⟩
/-- .. where the frame's own object is kept too -/
theorem Inv.un {t' : Nat} (I : Inv X pins σ H s) (u : Un X.fs [] H H' s.heap h') (hok : HOk X.prog X.w H' h') : Inv X pins σ H' { s with heap := h', toks := t' } := by
  obtain ⟨m, ⟨o, es, ep, ho, r⟩, _⟩ := id I.loc
  obtain ⟨sl, hL⟩ := u.any ho I.free (by simp)
  exact I.step (g' := s.gens) (d' := s.drawn) (ch := []) (fun _ z => nomatch z) (fun b o _ hb _ e n => u.keep b o e n hb (by simp)) (fun b o _ hb _ e n => u.slot b o e n hb (by simp)) (fun b o _ e n => u.free b o e n (by simp)) (fun b o _ e => u.there b o e (by simp)) u.tups u.frzs u.tbls (fun m' hm => by
    obtain ⟨o', es', ep', ho', r'⟩ := hm
    rw [ho] at ho'; cases ho'
    exact ⟨_, es', ep', hL, r'⟩) hok I.bare
/-- behind a call (or a comprehension's block): the slots of this frame may have changed too, the records at ch may have turned -/
theorem Inv.call {g' : Array GenState} {t' : Nat} {d' : Drawn} {ch : List Addr} (I : Inv X pins σ H s) (u : Un (frs X.stack) ch H H' s.heap h') (hok : HOk X.prog X.w H' h') (hg : AllBare g')
    (hch : ∀ b ∈ ch, (b ∈ X.ex ∨ X.s₀.heap.objs.size ≤ b) ∧ b ≠ X.env.locals ∧ (∀ x c, X.env.cells.lookup x = some c → c ≠ b) ∧ ∀ p ∈ X.pn ++ pins, p.1 ≠ b) :
    Inv X pins σ H' { s with heap := h', gens := g', drawn := d', toks := t' } := by
  obtain ⟨m, ⟨o, es, ep, ho, r⟩, _⟩ := id I.loc
  obtain ⟨sl, hL⟩ := u.any ho I.free fun z => (hch _ z).2.1 rfl
  exact I.step (ch := ch) hch (fun b o hL hb hc e n => u.keep b o e n (fun z => (List.mem_cons.mp (I.stkSub b z)).elim hL hb) hc) (fun b o _ _ hc e n => u.any e n hc) (fun b o hc e n => u.free b o e n hc) (fun b o hc e => u.there b o e hc) u.tups u.frzs u.tbls (fun m' hm => by
    obtain ⟨o', es', ep', ho', r'⟩ := hm
    rw [ho] at ho'; cases ho'
    exact ⟨_, es', ep', hL, r'⟩) hok hg
/-- an untracked record of ours (an iterator) has turned -/
theorem Inv.turned {t' : Nat} {it : Addr} (I : Inv X pins σ H s) (k : ∀ b o, b ≠ it → s.heap.get? b = some o → h'.get? b = some o) (hn : H it = none) (hL : it ≠ X.env.locals)
    (h1 : it ∈ X.ex ∨ X.s₀.heap.objs.size ≤ it) (h2 : ∀ x c, X.env.cells.lookup x = some c → c ≠ it) (h3 : ∀ p ∈ X.pn ++ pins, p.1 ≠ it) : Inv X pins σ H { s with heap := h', toks := t' } := by
  have nit : ∀ b u, H b = some u → b ≠ it := fun b u e z => by rw [z, hn] at e; cases e
  refine I.step (g' := s.gens) (d' := s.drawn) (ch := [it]) (fun b hb => ?_) (fun b o _ _ hc e _ => k b o (fun z => hc (by simp [z])) e) (fun b o _ _ hc e _ => ⟨o.slots, k b o (fun z => hc (by simp [z])) e⟩) (fun _ _ _ _ n => n)
    (fun b o hc e => ⟨o, k b o (fun z => hc (by simp [z])) e⟩) (fun _ _ e => e) (fun _ _ _ e => e) (fun b ps e => ⟨#[], by rw [e]; simp⟩) (fun m hm => ?_) (fun b u e => ?_) I.bare
  · have e : b = it := by simpa using hb
    subst e
    exact ⟨h1, hL, h2, h3⟩
  · obtain ⟨o, es, ep, ho, r⟩ := hm
    exact ⟨o, es, ep, k _ o (Ne.symm hL) ho, r⟩
  · refine (I.hok b u e).stay (fun c v hc q => k c v ?_ q) (fun _ q => q) fun _ _ q => q
    rcases hc with z | z
    · rw [z]; exact nit b u e
    · exact nit c _ z
theorem Inv.tok (I : Inv X pins σ H s) (t : Nat) : Inv X pins σ H { s with toks := t } := I.un (h' := s.heap) (t' := t) Un.refl I.hok
/-- all objects kept -/
theorem Inv.kept {t' : Nat} (I : Inv X pins σ H s) (k : ∀ b u, s.heap.get? b = some u → h'.get? b = some u) : Inv X pins σ H { s with heap := h', toks := t' } := I.un (Un.kept k) (I.hok.kept k)
/-- a new object laid and tracked -/
theorem Inv.laid {a : Addr} {o : HO} {t' : Nat} (I : Inv X pins σ H s) (k : ∀ b u, s.heap.get? b = some u → h'.get? b = some u) (hp : s.heap.objs.size ≤ a) (new : ObjOk X.prog X.w (upd H a o) h' a o) :
    Inv X pins σ (upd H a o) { s with heap := h', toks := t' } := I.un (Un.laid k hp (I.hok.fresh hp)) (I.hok.laid k hp new)
/-- an object written -/
theorem Inv.write {x e : Addr} {o : HO} {t' : Nat} (I : Inv X pins σ H s) (mu : Mut (H x)) (he : e = x ∨ H e = some (.own x)) (k : ∀ b u, b ≠ e → s.heap.get? b = some u → h'.get? b = some u) (heo : ∃ u, h'.get? e = some u)
    (new : ObjOk X.prog X.w (upd H x o) h' x o) : Inv X pins σ (upd H x o) { s with heap := h', toks := t' } := I.un (Un.write mu he k heo) (I.hok.write mu he k heo new)
theorem Inv.pins_of {pins' : List (Addr × Obj)} (I : Inv X pins σ H s) (h : ∀ p ∈ pins', s.heap.get? p.1 = some p.2 ∧ H p.1 = none ∧ p.1 ≠ X.env.locals ∧ p.1 ∉ X.fs ∧ ∀ v, p.2.data ≠ .cell v) : Inv X pins' σ H s :=
  ⟨I.ok, I.os, I.bare, I.base, I.loc, I.cell, I.free, I.freeC, fun p hp => (List.mem_append.mp hp).elim (fun z => I.pin p (List.mem_append_left _ z)) (h p), I.hok, I.len⟩

theorem nodup_ix {N : List Str} (hN : N.Nodup) {i j : Nat} {x : Str} (a : N[i]? = some x) (b : N[j]? = some x) : i = j := by
  obtain ⟨h1, e1⟩ := List.getElem?_eq_some_iff.mp a
  obtain ⟨h2, e2⟩ := List.getElem?_eq_some_iff.mp b
  exact (List.getElem_inj hN).mp (e1.trans e2.symm)

/-- a name is stored; what changed -/
theorem store_ok2 {M : Model} {A : Around} {E : Value → Shared → Prop} {i : Nat} {x : Str} {v : V} {u : Value} {Q : Unit → Shared → Prop} (I : Inv X pins σ H s) (hN : X.N.Nodup) (hi : X.N[i]? = some x) (hx : Loc X.env.scope x) (r : RelV v u)
    (h : ∀ s', Inv X pins (σ.set i (some v)) H s' → (∃ a, Heap.SameBut a s.heap s'.heap ∧ (a = X.env.locals ∨ X.env.cells.lookup x = some a)) → Q () s') (hf : X.fn x = true ∨ X.env.scope.names.lookup x = some .local := by first | exact .inl rfl | exact .inr rfl | assumption) : wpAny M A (storeName X.env x u) Q E s := by
  obtain ⟨m, hn, hl⟩ := id I.loc
  have hcls : (X.env.scope.kind == .class || (X.env.scope.kind == .module && X.env.locals != X.env.globals)) = false := by rw [I.ok.kind]; rfl
  have hiσ : i < σ.length := by rw [I.len]; exact (List.getElem?_eq_some_iff.mp hi).1
  have cne := I.cne
  have tracked : ∀ {a : Addr} {h' : Heap}, (∃ o, s.heap.get? a = some o ∧ H a = none) → Heap.SameBut a s.heap h' → HOk X.prog X.w H h' := fun {a h'} ha hs b ob e => by
    obtain ⟨_, _, hfree⟩ := ha
    refine (I.hok b ob e).stay (fun c w' hc q => (hs.2 c ?_).trans q) (fun _ q => q) fun _ _ q => q
    rintro rfl
    rcases hc with rfl | hc
    · rw [hfree] at e; cases e
    · rw [hfree] at hc; cases hc
  rcases hx with hk | hk
  · refine wpAny_storeName_local hk hn (fun h' hn' hs => ?_) hcls
    obtain ⟨oL, _, _, hoL, _⟩ := id hn
    refine h _ ⟨I.ok, I.os, I.bare, ⟨fun b o e n hb hx => ?_, fun b o e n hb hx => ?_, I.base.free, fun b o e hx => ?_, I.base.tups, I.base.frzs, I.base.tbls⟩, ⟨_, hn', fun j y v' e1 e2 e3 => ?_⟩, fun y c e => ?_, I.free, I.freeC, fun p hp => ?_, tracked ⟨oL, hoL, I.free⟩ hs, by simpa using I.len⟩ ⟨_, hs, .inl rfl⟩
    · exact (hs.2 b (Nat.ne_of_lt (Nat.lt_of_lt_of_le (Heap.lt_size e) I.ok.above))).trans (I.base.keep b o e n hb hx)
    · obtain ⟨sl, e1⟩ := I.base.slot b o e n hb hx
      exact ⟨sl, (hs.2 b (Nat.ne_of_lt (Nat.lt_of_lt_of_le (Heap.lt_size e) I.ok.above))).trans e1⟩
    · obtain ⟨o', e1⟩ := I.base.there b o e hx
      exact ⟨o', (hs.2 b (Nat.ne_of_lt (Nat.lt_of_lt_of_le (Heap.lt_size e) I.ok.above))).trans e1⟩
    · by_cases hj : j = i
      · subst hj
        rw [hi] at e1; cases e1
        rw [List.getElem?_set_self hiσ] at e2
        cases e2
        exact ⟨u, r, .inl ⟨hk, by simp⟩⟩
      · rw [List.getElem?_set_ne (Ne.symm hj)] at e2
        obtain ⟨u', r', q⟩ := hl j y v' e1 e2 e3
        refine ⟨u', r', ?_⟩
        rcases q with ⟨k, e⟩ | ⟨k, c, e, z⟩
        · refine .inl ⟨k, ?_⟩
          have : y ≠ x := fun e => hj (nodup_ix hN e1 (e ▸ hi))
          simp [this, e]
        · exact .inr ⟨k, c, e, z.sameBut hs (cne y c e)⟩
    · obtain ⟨w', z⟩ := I.cell y c e
      exact ⟨w', z.sameBut hs (cne y c e)⟩
    · obtain ⟨e, n, ne, nf, d⟩ := I.pin p hp
      exact ⟨(hs.2 p.1 ne).trans e, n, ne, nf, d⟩
  · have hfn : X.fn x = true := by
      rcases hf with z | z
      · exact z
      · rw [z] at hk; cases hk
    obtain ⟨c, hc⟩ := I.ok.has x (.inl hk)
    obtain ⟨w', z⟩ := I.cell x c hc
    refine wpAny_storeName_cell I.ok.kind hk hc z (fun h' hc' hs => ?_)
    obtain ⟨oc, hoc, hocd⟩ := id z
    refine h { s with heap := h' } ⟨I.ok, I.os, I.bare, ⟨fun b o e n hb hx => ?_, fun b o e n hb hx => ?_, I.base.free, fun b o e hx => ?_, I.base.tups, I.base.frzs, I.base.tbls⟩, ⟨m, hn.sameBut hs (Ne.symm (cne x c hc)), fun j y v' e1 e2 e3 => ?_⟩, fun y c' e => ?_, I.free, I.freeC, fun p hp => ?_, tracked ⟨oc, hoc, I.freeC x c hc⟩ hs, by simpa using I.len⟩ ⟨c, hs, .inr hc⟩
    · exact (hs.2 b (Nat.ne_of_lt (Nat.lt_of_lt_of_le (Heap.lt_size e) (I.ok.cab x c hfn hc)))).trans (I.base.keep b o e n hb hx)
    · obtain ⟨sl, e1⟩ := I.base.slot b o e n hb hx
      exact ⟨sl, (hs.2 b (Nat.ne_of_lt (Nat.lt_of_lt_of_le (Heap.lt_size e) (I.ok.cab x c hfn hc)))).trans e1⟩
    · obtain ⟨o', e1⟩ := I.base.there b o e hx
      exact ⟨o', (hs.2 b (Nat.ne_of_lt (Nat.lt_of_lt_of_le (Heap.lt_size e) (I.ok.cab x c hfn hc)))).trans e1⟩
    · by_cases hj : j = i
      · subst hj
        rw [hi] at e1; cases e1
        rw [List.getElem?_set_self hiσ] at e2
        cases e2
        exact ⟨u, r, .inr ⟨.inl hk, c, hc, hc'⟩⟩
      · rw [List.getElem?_set_ne (Ne.symm hj)] at e2
        obtain ⟨u', r', q⟩ := hl j y v' e1 e2 e3
        refine ⟨u', r', ?_⟩
        rcases q with q | ⟨k, c', e, z'⟩
        · exact .inl q
        · refine .inr ⟨k, c', e, z'.sameBut hs ?_⟩
          rintro rfl
          exact hj (nodup_ix hN e1 (I.ok.inj _ _ _ e hc ▸ hi))
    · by_cases hcc : c' = c
      · subst hcc; exact ⟨_, hc'⟩
      · obtain ⟨w2, z2⟩ := I.cell y c' e
        exact ⟨w2, z2.sameBut hs hcc⟩
    · obtain ⟨e, n, ne, nf, d⟩ := I.pin p hp
      refine ⟨(hs.2 p.1 ?_).trans e, n, ne, nf, d⟩
      intro q
      rw [q, hoc] at e
      have q' : oc = p.2 := Option.some.inj e
      exact d w' (by rw [← q']; exact hocd)
theorem store_ok {M : Model} {A : Around} {E : Value → Shared → Prop} {i : Nat} {x : Str} {v : V} {u : Value} {Q : Unit → Shared → Prop} (I : Inv X pins σ H s) (hN : X.N.Nodup) (hi : X.N[i]? = some x) (hx : Loc X.env.scope x) (r : RelV v u)
    (h : ∀ s', Inv X pins (σ.set i (some v)) H s' → Q () s') (hf : X.fn x = true ∨ X.env.scope.names.lookup x = some .local := by first | exact .inl rfl | exact .inr rfl | assumption) : wpAny M A (storeName X.env x u) Q E s :=
  store_ok2 I hN hi hx r (fun s' I' _ => h s' I') hf
/-- behind a call or a block, the state as it is -/
theorem Inv.call' {s' : Shared} {ch : List Addr} (I : Inv X pins σ H s) (ho : s'.os = s.os) (u : Un (frs X.stack) ch H H' s.heap s'.heap) (hok : HOk X.prog X.w H' s'.heap) (hg : AllBare s'.gens)
    (hch : ∀ b ∈ ch, (b ∈ X.ex ∨ X.s₀.heap.objs.size ≤ b) ∧ b ≠ X.env.locals ∧ (∀ x c, X.env.cells.lookup x = some c → c ≠ b) ∧ ∀ p ∈ X.pn ++ pins, p.1 ≠ b) : Inv X pins σ H' s' := by
  obtain ⟨h', g', d', t', o'⟩ := s'
  have e : o' = s.os := ho
  subst e
  exact I.call (g' := g') (t' := t') (d' := d') u hok hg hch
end

/-! ### the judgements -/
/-- an exception: its class, its own dict's address (where it has one), the abstract heap behind it -/
abbrev XK := Value → Option Addr → Hp → Prop
abbrev St := List (Option V)
abbrev VK := V → Hp → Prop
/-- an expression's reading; a test's; an argument list's -/
abbrev TE := St → Hp → VK → Prop
abbrev TT := St → Hp → (Bool → Hp → Prop) → Prop
abbrev TA := St → Hp → (List V → Hp → Prop) → Prop
/-- what is wanted behind a statement -/
structure Ends where
  nx : St → Hp → Prop
  rt : VK
  bk : St → Hp → Prop := fun _ _ => False
  ct : St → Hp → Prop := fun _ _ => False
abbrev TS := Ends → St → Hp → Prop

def EP (X : Cx) (pins : List (Addr × Obj)) (σ : St) (Q : VK) (u : Value) (s' : Shared) : Prop := ∃ v H', Inv X pins σ H' s' ∧ RelV v u ∧ Q v H'
def TP (X : Cx) (pins : List (Addr × Obj)) (σ : St) (Q : Bool → Hp → Prop) (b : Bool) (s' : Shared) : Prop := ∃ H', Inv X pins σ H' s' ∧ Q b H'
def AP (X : Cx) (pins : List (Addr × Obj)) (σ : St) (Q : List V → Hp → Prop) (us : List Value) (s' : Shared) : Prop := ∃ vs H', Inv X pins σ H' s' ∧ Vals vs us ∧ Q vs H'
def SP (X : Cx) (pins : List (Addr × Obj)) (D : Ends) (f : Flow) (s' : Shared) : Prop :=
  match f with
  | .next => ∃ σ' H', Inv X pins σ' H' s' ∧ D.nx σ' H'
  | .brk => ∃ σ' H', Inv X pins σ' H' s' ∧ D.bk σ' H'
  | .cont => ∃ σ' H', Inv X pins σ' H' s' ∧ D.ct σ' H'
  | .ret u => ∃ v σ' H', Inv X pins σ' H' s' ∧ RelV v u ∧ D.rt v H'

def PE (X : Cx) (e : Expr) (t : TE) : Prop :=
  ∀ (pins : List (Addr × Obj)) (s : Shared) (σ : St) (H : Hp) (Q : VK), Inv X pins σ H s → t σ H Q → wpAny (model X.prog X.w) X.A (eval e X.env) (EP X pins σ Q) X.xe s
def PT (X : Cx) (e : Expr) (t : TT) : Prop :=
  ∀ (pins : List (Addr × Obj)) (s : Shared) (σ : St) (H : Hp) (Q : Bool → Hp → Prop), Inv X pins σ H s → t σ H Q → wpAny (model X.prog X.w) X.A (isTrue e X.env (eval e X.env)) (TP X pins σ Q) X.xe s
/-- a test whatever its 'whole' is (and, or) -/
def PW (X : Cx) (e : Expr) (t : TT) : Prop :=
  ∀ (whole : Sem Value) (pins : List (Addr × Obj)) (s : Shared) (σ : St) (H : Hp) (Q : Bool → Hp → Prop), Inv X pins σ H s → t σ H Q → wpAny (model X.prog X.w) X.A (isTrue e X.env whole) (TP X pins σ Q) X.xe s
/-- an argument list (no star), from the left -/
def PA (X : Cx) (es : List Expr) (t : TA) : Prop :=
  ∀ (pos : Pos) (pins : List (Addr × Obj)) (s : Shared) (σ : St) (H : Hp) (Q : List V → Hp → Prop), Inv X pins σ H s → t σ H Q → wpAny (model X.prog X.w) X.A (spliced (backTo pos (starEach es X.env))) (AP X pins σ Q) X.xe s
def PS (X : Cx) (st : Stmt) (t : TS) : Prop :=
  ∀ (pins : List (Addr × Obj)) (s : Shared) (σ : St) (H : Hp) (D : Ends), Inv X pins σ H s → t D σ H → wpAny (model X.prog X.w) X.A (exec st X.env) (SP X pins D) X.xe s
def PSs (X : Cx) (st : List Stmt) (t : TS) : Prop :=
  ∀ (pins : List (Addr × Obj)) (s : Shared) (σ : St) (H : Hp) (D : Ends), Inv X pins σ H s → t D σ H → wpAny (model X.prog X.w) X.A (execs st X.env) (SP X pins D) X.xe s
/-- weaken the end -/
theorem thn {α : Type} {t : Sem α} {Q Q' : α → Shared → Prop} {M : Model} {A : Around} {E : Value → Shared → Prop} {s : Shared} (h : wpAny M A t Q E s) (hQ : ∀ a s, Q a s → Q' a s) : wpAny M A t Q' E s := wpAny_mono h hQ fun _ _ x => x
end L2

namespace L2
open PySem PySem.Spec PyProof.Rows
section
variable {X : Cx}

/-! ### names and constants -/
def tVar (i : Nat) : TE := fun σ H Q => ∃ v, σ[i]? = some (some v) ∧ Q v H
def tC (v : V) : TE := fun _ H Q => Q v H
theorem pe_var {i : Nat} {x : Str} {pos : Pos} (hN : X.N[i]? = some x) (hv : Vis X.env.scope x) (hd : (x == ("__debug__" : Str)) = false := by decide) (hcd : (x == ("__classdict__" : Str)) = false := by decide) : PE X (.Name x pos) (tVar i) := by
  intro pins s σ H Q I h
  obtain ⟨v, e, h⟩ := h
  obtain ⟨m, hn, hl⟩ := I.loc
  obtain ⟨u, r, l⟩ := hl i x v hN e hv
  have fin : EP X pins σ Q u s := ⟨v, H, I, r, h⟩
  rcases l with ⟨hk, hm⟩ | ⟨hk, c, hc, hcell⟩
  · exact wpAny_Name (wpAny_loadName_local I.ok.kind hk hn hm fin) hd
  · rcases hk with hk | hk
    · exact wpAny_Name (wpAny_loadName_cell I.ok.kind hk hc hcell fin) hd
    · exact wpAny_Name (wpAny_loadName_free I.ok.kind hk hc hcell fin hcd) hd
theorem pe_int {i j pos} : PE X (.Constant (.int i) j pos) (tC (.int i)) := fun _ _ _ H _ I h => wpAny_Constant_int ⟨.int i, H, I.tok _, ⟨_, rfl⟩, h⟩
theorem pe_bl {b j pos} : PE X (.Constant (.bool b) j pos) (tC (.bl b)) := fun _ _ _ H _ I h => Constant_bool ⟨.bl b, H, I, rfl, h⟩
theorem pe_non {j pos} : PE X (.Constant .none j pos) (tC .non) := fun _ _ _ H _ I h => Constant_none ⟨.non, H, I, rfl, h⟩
theorem pe_str {x j pos} : PE X (.Constant (.str x) j pos) (tC (.str x)) := fun _ _ _ H _ I h => Calls.Constant_str ⟨.str x, H, I.tok _, ⟨_, rfl⟩, h⟩

/-- a global name of the def -/
def Gl (X : Cx) (x : Str) : Prop := X.env.kindOf x = some .globalImplicit
theorem ld_glob {E : Value → Shared → Prop} {pins : List (Addr × Obj)} {s : Shared} {σ : St} {H : Hp} {x : Str} {u : Value} {pos : Pos} {Q : Value → Shared → Prop} (I : Inv X pins σ H s) (hg : Gl X x) (hm : X.mg x = some u) (h : Q u s)
    (hd : (x == ("__debug__" : Str)) = false := by decide) : wpAny (model X.prog X.w) X.A (eval (.Name x pos) X.env) Q E s :=
  Calls.Name_function_global I.ok.kind hg (Calls.loadGlobal_global (by rw [I.ok.glob]; exact I.mod.glob.keeps I.bk) hm h) hd
theorem ld_blt {E : Value → Shared → Prop} {pins : List (Addr × Obj)} {s : Shared} {σ : St} {H : Hp} {x : Str} {u : Value} {pos : Pos} {Q : Value → Shared → Prop} (I : Inv X pins σ H s) (hg : Gl X x) (hm : X.mg x = none) (hv : bootBuiltins x = some u) (h : Q u s)
    (hn : x ≠ "__name__" := by decide) (hd : (x == ("__debug__" : Str)) = false := by decide) : wpAny (model X.prog X.w) X.A (eval (.Name x pos) X.env) Q E s := by
  obtain ⟨mb, h1, h2⟩ := I.mod.blt
  exact Calls.Name_function_global I.ok.kind hg (Calls.loadGlobal_builtin (by rw [I.ok.glob]; exact I.mod.glob.keeps I.bk) hm (by rw [I.ok.blt]; exact h1.keeps I.bk) ((h2 x hn).trans hv) h) hd
/-! ### arithmetic -/
variable {a b : Expr} {ta tb : TE} {pos : Pos}
/-! ### comparisons -/
/-! ### and, or, not -/
variable {tA tB' : TT} {rest : List Expr}
def tAnd (t u : TT) : TT := fun σ H Q => t σ H fun c H1 => if c = true then u σ H1 Q else Q false H1
def tOr (t u : TT) : TT := fun σ H Q => t σ H fun c H1 => if c = true then Q true H1 else u σ H1 Q
theorem pw_and1 (ha : PT X a tA) : PW X (.BoolOp .And [a] pos) tA := by
  intro wh pins s σ H Q I h
  refine isTrue_and (thn (ha pins s σ H Q I h) fun c s1 e => ?_)
  cases c with
  | true => exact isTrue_and_nil e
  | false => exact e
theorem pw_or1 (ha : PT X a tA) : PW X (.BoolOp .Or [a] pos) tA := by
  intro wh pins s σ H Q I h
  refine isTrue_or (thn (ha pins s σ H Q I h) fun c s1 e => ?_)
  cases c with
  | false => exact isTrue_or_nil e
  | true => exact e
theorem pw_and (ha : PT X a tA) (hb : PW X (.BoolOp .And (b :: rest) pos) tB') : PW X (.BoolOp .And (a :: b :: rest) pos) (tAnd tA tB') := by
  intro wh pins s σ H Q I h
  refine isTrue_and (thn (ha pins s σ H _ I h) fun c s1 ⟨H1, I1, q1⟩ => ?_)
  cases c with
  | true => exact hb wh pins s1 σ H1 Q I1 q1
  | false => exact ⟨H1, I1, q1⟩
theorem pw_or (ha : PT X a tA) (hb : PW X (.BoolOp .Or (b :: rest) pos) tB') : PW X (.BoolOp .Or (a :: b :: rest) pos) (tOr tA tB') := by
  intro wh pins s σ H Q I h
  refine isTrue_or (thn (ha pins s σ H _ I h) fun c s1 ⟨H1, I1, q1⟩ => ?_)
  cases c with
  | true => exact ⟨H1, I1, q1⟩
  | false => exact hb wh pins s1 σ H1 Q I1 q1
end
end L2

namespace L2
open PySem PySem.Spec PyProof.Rows

/-! ### a list, a tuple that is read: tracked, frozen, or an object of the module -/
def SqL (K : PySem.W.Frag) (H : Hp) (a : Addr) (xs : List V) : Prop :=
  Rd H a (.lst xs) ∨
    ∃ (o : Obj) (its : Array Value) (n : Nat), K.lookup a = some o ∧ o.cls = .type "list" ∧ o.dict = none ∧ o.data = .seq its n ∧ its.size ≤ sizeLine ∧ Vals xs its.toList
def SqT (K : PySem.W.Frag) (H : Hp) (a : Addr) (xs : List V) : Prop :=
  Rd H a (.tup xs) ∨
    ∃ (o : Obj) (its : Array Value) (n : Nat), K.lookup a = some o ∧ o.cls = .type "tuple" ∧ o.data = .seq its n ∧ its.size ≤ sizeLine ∧ Vals xs its.toList
def absV : Value → Option V
  | .none => some .non
  | .bool b => some (.bl b)
  | .int i _ => some (.int i)
  | .str x _ => some (.str x)
  | .bytes b _ => some (.byt b)
  | .float b _ => some (.flt b)
  | .ref a => some (.ref a)
  | .type n => some (.ty n)
  | _ => none
theorem RelV.abs {x : V} {u : Value} (r : RelV x u) : absV u = some x := by
  cases x with
  | non => cases r; rfl
  | bl _ => cases r; rfl
  | int _ => obtain ⟨t, rfl⟩ := r; rfl
  | str _ => obtain ⟨t, rfl⟩ := r; rfl
  | byt _ => obtain ⟨t, rfl⟩ := r; rfl
  | flt _ => obtain ⟨t, rfl⟩ := r; rfl
  | ref _ => cases r; rfl
  | ty _ => cases r; rfl
theorem RelV.inj {x y : V} {u : Value} (r : RelV x u) (q : RelV y u) : x = y := Option.some.inj (r.abs.symm.trans q.abs)
theorem Vals.inj : ∀ {xs ys : List V} {us : List Value}, Vals xs us → Vals ys us → xs = ys
  | _, _, _, .nil, .nil => rfl
  | _, _, _, .cons r t, .cons r' t' => by rw [r.inj r', Vals.inj t t']
section
variable {X : Cx} {pins : List (Addr × Obj)} {σ : St} {H : Hp} {s : Shared} {a : Addr} {xs ys : List V}
theorem SqL.of {K : PySem.W.Frag} (h : H a = some (.lst xs)) : SqL K H a xs := .inl (.inl h)
theorem SqT.of {K : PySem.W.Frag} (h : H a = some (.tup xs)) : SqT K H a xs := .inl (.inl h)
theorem Inv.list (I : Inv X pins σ H s) (h : SqL X.K H a xs) : ∃ its : List Value, Vals xs its ∧ PlainL s.heap a its.toArray ∧ xs.length ≤ sizeLine := by
  rcases h with h | ⟨o, its, n, hk, hc, hd, hs, hz, r⟩
  · obtain ⟨z, its, n, r, e⟩ := h.ok I.hok
    exact ⟨its, r, ⟨_, n, e, rfl, rfl, rfl⟩, z⟩
  · refine ⟨its.toList, r, ⟨o, n, I.kIn a o hk, hc, hd, by simpa using hs⟩, ?_⟩
    have e := r.length
    simp only [Array.length_toList] at e
    omega
theorem Inv.tuple (I : Inv X pins σ H s) (h : SqT X.K H a xs) : ∃ its : List Value, Vals xs its ∧ IsTup s.heap a its.toArray ∧ xs.length ≤ sizeLine := by
  rcases h with h | ⟨o, its, n, hk, hc, hs, hz, r⟩
  · obtain ⟨z, its, r, p⟩ := h.ok I.hok
    exact ⟨its, r, p, z⟩
  · refine ⟨its.toList, r, ⟨o, I.kIn a o hk, hc, n, by simpa using hs⟩, ?_⟩
    have e := r.length
    simp only [Array.length_toList] at e
    omega
theorem Inv.list_inj (I : Inv X pins σ H s) (h : SqL X.K H a xs) (h' : SqL X.K H a ys) : xs = ys := by
  obtain ⟨its, r, ⟨o, n, e, _, _, d⟩, _⟩ := I.list h
  obtain ⟨its', r', ⟨o', n', e', _, _, d'⟩, _⟩ := I.list h'
  rw [e] at e'; cases e'
  rw [d] at d'
  injection d' with d1 _
  have : its = its' := by simpa using congrArg Array.toList d1
  subst this
  exact r.inj r'
theorem Inv.tuple_inj (I : Inv X pins σ H s) (h : SqT X.K H a xs) (h' : SqT X.K H a ys) : xs = ys := by
  obtain ⟨its, r, ⟨o, e, _, n, d⟩, _⟩ := I.tuple h
  obtain ⟨its', r', ⟨o', e', _, n', d'⟩, _⟩ := I.tuple h'
  rw [e] at e'; cases e'
  rw [d] at d'
  injection d' with d1 _
  have : its = its' := by simpa using congrArg Array.toList d1
  subst this
  exact r.inj r'
end

/-! ### another wish about exceptions -/
abbrev Cx.wish (X : Cx) (E : Value → Shared → Prop) : Cx := { X with xe := E }
/-- no exception leaves -/
abbrev Cx.nox (X : Cx) : Cx := X.wish fun _ _ => False
theorem Cx.Ok.wish {X : Cx} (ok : X.Ok) (E : Value → Shared → Prop) : (X.wish E).Ok :=
  ⟨ok.mod, ok.kind, ok.glob, ok.blt, ok.above, ok.inj, ok.has, ok.cab, ok.hd, ok.frames, ok.stk, ok.exf, ok.bs, ok.bsz, ok.noex, ok.exfs, ok.funs, ok.frf⟩
theorem Cx.Ok.unwish {X : Cx} {E : Value → Shared → Prop} (ok : (X.wish E).Ok) : X.Ok :=
  ⟨ok.mod, ok.kind, ok.glob, ok.blt, ok.above, ok.inj, ok.has, ok.cab, ok.hd, ok.frames, ok.stk, ok.exf, ok.bs, ok.bsz, ok.noex, ok.exfs, ok.funs, ok.frf⟩
section
variable {X : Cx} {pins : List (Addr × Obj)} {σ : St} {H : Hp} {s : Shared} {E : Value → Shared → Prop}
theorem Inv.wish (I : Inv X pins σ H s) (E : Value → Shared → Prop) : Inv (X.wish E) pins σ H s := ⟨I.ok.wish E, I.os, I.bare, I.base, I.loc, I.cell, I.free, I.freeC, I.pin, I.hok, I.len⟩
theorem Inv.unwish (I : Inv (X.wish E) pins σ H s) : Inv X pins σ H s := ⟨I.ok.unwish, I.os, I.bare, I.base, I.loc, I.cell, I.free, I.freeC, I.pin, I.hok, I.len⟩
theorem SP.unwish {D : Ends} {f : Flow} {s' : Shared} (h : SP (X.wish E) pins D f s') : SP X pins D f s' := by
  cases f with
  | next => obtain ⟨σ', H', I, q⟩ := h; exact ⟨σ', H', I.unwish, q⟩
  | brk => obtain ⟨σ', H', I, q⟩ := h; exact ⟨σ', H', I.unwish, q⟩
  | cont => obtain ⟨σ', H', I, q⟩ := h; exact ⟨σ', H', I.unwish, q⟩
  | ret u => obtain ⟨v, σ', H', I, r, q⟩ := h; exact ⟨v, σ', H', I.unwish, r, q⟩
theorem PSs.nox {st : List Stmt} {t : TS} (h : PSs X.nox st t) : PSs X st t := fun pins s σ H D I hw =>
  wpAny_mono (h pins s σ H D (I.wish _) hw) (fun _ _ q => q.unwish) fun _ _ z => False.elim z
end

/-! ### blocks and small statements -/
section
variable {X : Cx} {st : Stmt} {rest : List Stmt} {t u : TS} {e : Expr} {te : TE} {pos : Pos}
def tNext : TS := fun D σ H => D.nx σ H
def tSeq (t u : TS) : TS := fun D σ H => t { D with nx := u D } σ H
theorem pss_nil : PSs X [] tNext := fun _ _ σ H _ I h => wpAny_execs_nil ⟨σ, H, I, h⟩
theorem pss_cons (h1 : PS X st t) (h2 : PSs X rest u) : PSs X (st :: rest) (tSeq t u) := by
  intro pins s σ H D I h
  refine wpAny_execs_cons (thn (h1 pins s σ H { D with nx := u D } I h) fun f s1 q => ?_)
  cases f with
  | next =>
    obtain ⟨σ', H', I', q⟩ := q
    exact h2 pins s1 σ' H' D I' q
  | ret v => exact q
  | brk => exact q
  | cont => exact q
theorem pss_one (h1 : PS X st t) : PSs X [st] t := by
  intro pins s σ H D I h
  refine wpAny_execs_cons (thn (h1 pins s σ H D I h) fun f s1 q => ?_)
  cases f with
  | next => exact wpAny_execs_nil q
  | ret v => exact q
  | brk => exact q
  | cont => exact q
/-- in a def's body nothing is shown -/
theorem Inv.quiet {pins : List (Addr × Obj)} {σ : St} {H : Hp} {s : Shared} (I : Inv X pins σ H s) : interactive X.env = false := by simp [interactive, I.ok.kind]
/-- an expression whose value is dropped -/
def tDrop (te : TE) : TS := fun D σ H => te σ H fun _ H1 => D.nx σ H1
theorem ps_expr (he : PE X e te) (hs : swapsWith e none pos.line X.env = pure false := by rfl) : PS X (.Expr e pos) (tDrop te) := by
  intro pins s σ H D I h
  exact wpAny_Expr_any (thn (he pins s σ H _ I h) fun v s1 ⟨x, H1, I1, r1, q1⟩ => ⟨σ, H1, I1, q1⟩) I.quiet hs
def tRet (te : TE) : TS := fun D σ H => te σ H D.rt
theorem ps_ret (he : PE X e te) : PS X (.Return (some e) pos) (tRet te) := by
  intro pins s σ H D I h
  exact wpAny_Return_some (thn (he pins s σ H _ I h) fun v s1 ⟨x, H1, I1, r1, q1⟩ => ⟨x, σ, H1, I1, r1, q1⟩)
def tIfS (c : TT) (t u : TS) : TS := fun D σ H => c σ H fun b H1 => if b = true then t D σ H1 else u D σ H1
theorem ps_if {c : Expr} {a b : List Stmt} {tc : TT} (hc : PT X c tc) (ha : PSs X a t) (hb : PSs X b u) : PS X (.If c a b pos) (tIfS tc t u) := by
  intro pins s σ H D I h
  refine wpAny_If (thn (hc pins s σ H _ I h) fun d s1 ⟨H1, I1, q1⟩ => ?_)
  cases d with
  | true => exact ha pins s1 σ H1 D I1 q1
  | false => exact hb pins s1 σ H1 D I1 q1
end

/-! ### targets -/
abbrev TG := V → St → Hp → (St → Hp → Prop) → Prop
abbrev TGs := List V → St → Hp → (St → Hp → Prop) → Prop
def PG (X : Cx) (target : Expr) (t : TG) : Prop :=
  ∀ (pins : List (Addr × Obj)) (s : Shared) (σ : St) (H : Hp) (v : V) (u : Value) (Q : St → Hp → Prop), Inv X pins σ H s → RelV v u → t v σ H Q →
    wpAny (model X.prog X.w) X.A (assign target X.env u) (fun _ s' => ∃ σ' H', Inv X pins σ' H' s' ∧ Q σ' H') X.xe s
/-- several targets, one after another -/
def PGs (X : Cx) (ts : List Expr) (t : TGs) : Prop :=
  ∀ (pins : List (Addr × Obj)) (s : Shared) (σ : St) (H : Hp) (vs : List V) (us : List Value) (Q : St → Hp → Prop), Inv X pins σ H s → Vals vs us → t vs σ H Q →
    wpAny (model X.prog X.w) X.A (assignInOrder ((assignEach ts X.env).map (·.2)) us) (fun _ s' => ∃ σ' H', Inv X pins σ' H' s' ∧ Q σ' H') X.xe s
/-- o[i] = v, by values -/
abbrev TSet := V → V → V → Hp → (Hp → Prop) → Prop
def PSet (X : Cx) (t : TSet) : Prop :=
  ∀ (pins : List (Addr × Obj)) (s : Shared) (σ : St) (H : Hp) (o i v : V) (ov iv u : Value) (Q : Hp → Prop), Inv X pins σ H s → RelV o ov → RelV i iv → RelV v u → t o i v H Q →
    wpAny (model X.prog X.w) X.A (setItem ov iv u) (fun _ s' => ∃ H', Inv X pins σ H' s' ∧ Q H') X.xe s
section
variable {X : Cx} {pos : Pos}
def gName (i : Nat) : TG := fun v σ H Q => Q (σ.set i (some v)) H
theorem pg_name {i : Nat} {x : Str} (hN : X.N.Nodup) (hi : X.N[i]? = some x) (hx : Loc X.env.scope x) (hf : X.fn x = true ∨ X.env.scope.names.lookup x = some .local := by first | exact .inl rfl | exact .inr rfl | assumption) : PG X (.Name x pos) (gName i) := by
  intro pins s σ H v u Q I r h
  exact wpAny_assign_Name (store_ok I hN hi hx r (fun s' I' => ⟨_, H, I', h⟩) hf)
def gNil : TGs := fun vs σ H Q => vs = [] ∧ Q σ H
def gCons (t : TG) (u : TGs) : TGs := fun vs σ H Q => ∃ v r, vs = v :: r ∧ t v σ H fun σ' H' => u r σ' H' Q
theorem pgs_nil : PGs X [] gNil := by
  intro pins s σ H vs us Q I r h
  obtain ⟨e, h⟩ := h
  subst e
  cases r
  exact assignInOrder_nil ⟨σ, H, I, h⟩
theorem pgs_cons {e : Expr} {es : List Expr} {t : TG} {u : TGs} (h1 : PG X e t) (h2 : PGs X es u)
    (hs : (assignEach (e :: es) X.env).map (·.2) = assign e X.env :: (assignEach es X.env).map (·.2) := by rfl) : PGs X (e :: es) (gCons t u) := by
  intro pins s σ H vs us Q I r h
  obtain ⟨v, vr, e1, h⟩ := h
  subst e1
  cases r with
  | cons r rr =>
    rw [hs]
    refine assignInOrder_cons (thn (h1 pins s σ H _ _ _ I r h) fun _ s1 ⟨σ1, H1, I1, q1⟩ => ?_)
    exact h2 pins s1 σ1 H1 _ _ Q I1 rr q1
/-- (a, b, ..) = a tuple of that length -/
def gTup (K : PySem.W.Frag) (n : Nat) (t : TGs) : TG := fun v σ H Q => ∃ a xs, v = .ref a ∧ SqT K H a xs ∧ xs.length = n ∧ t xs σ H Q
theorem pg_tup {es : List Expr} {k : Nat} {t : TGs} {n : Nat} (hc : X.calm = true) (h : PGs X es t)
    (hn : (assignEach es X.env).length = n := by rfl) (hst : (assignEach es X.env).findIdx? (·.1) = none := by rfl) : PG X (.Tuple es k pos) (gTup X.K n t) := by
  intro pins s σ H v u Q I r hw
  obtain ⟨a, xs, e1, hq, hl, hw⟩ := hw
  subst e1
  cases r
  obtain ⟨its, rv, ht, hz⟩ := I.tuple hq
  refine assign_Tuple_tuple (I.ok.hd hc) ht (by simp [hn, ← hl, rv.length]) hst fun h' hx => ?_
  have I1 : Inv X pins σ H { s with heap := h' } := I.kept (t' := s.toks) fun b o e => hx b o (Nat.ne_of_lt (Heap.lt_size e)) e
  exact h pins _ σ H xs _ Q I1 (by simpa using rv) hw
/-- o[i] = .. -/
def gSub (to ti : TE) (t : TSet) : TG := fun v σ H Q => to σ H fun o H1 => ti σ H1 fun i H2 => t o i v H2 fun H3 => Q σ H3
theorem pg_sub {o i : Expr} {to ti : TE} {t : TSet} (ho : PE X o to) (hi : PE X i ti) (hs : PSet X t)
    (ha : ∀ v, assign (.Subscript o i pos) X.env v = (do
      let ov ← holding [v] (eval o X.env)
      let iv ← holding [v, ov] (eval i X.env)
      standAt pos
      holding [v, ov, iv] (setItem ov iv v)
      release [v, ov, iv] []) := by intro _; rfl) : PG X (.Subscript o i pos) (gSub to ti t) := by
  intro pins s σ H v u Q I r h
  rw [ha]
  refine wpAny_bind (wpAny_holding (thn (ho pins s σ H _ I h) fun ov s1 ⟨x, H1, I1, r1, q1⟩ => ?_))
  refine wpAny_bind (wpAny_holding (thn (hi pins s1 σ H1 _ I1 q1) fun iv s2 ⟨y, H2, I2, r2, q2⟩ => ?_))
  refine wpAny_bind (wpAny_standAt (wpAny_bind (wpAny_holding (thn (hs pins s2 σ H2 x y v ov iv u _ I2 r1 r2 r q2) fun _ s3 ⟨H3, I3, q3⟩ => ?_))))
  exact wpAny_release ⟨σ, H3, I3, q3⟩
/-- target = value -/
def tAsg (te : TE) (g : TG) : TS := fun D σ H => te σ H fun x H1 => g x σ H1 D.nx
theorem ps_asg {tg e : Expr} {te : TE} {g : TG} (he : PE X e te) (hg : PG X tg g) (hs : swapsWithSole [tg] e pos.line X.env = pure false := by rfl) (hw : swappedStores [tg] e X.env = pure none := by rfl)
    (h1 : (assignEach [tg] X.env).map (·.2) = [assign tg X.env] := by rfl) : PS X (.Assign [tg] e pos) (tAsg te g) := by
  intro pins s σ H D I h
  refine wpAny_Assign_stores (thn (he pins s σ H _ I h) fun v s1 ⟨x, H1, I1, r1, q1⟩ => ?_) hs hw
  rw [h1]
  exact thn (hg pins s1 σ H1 x v _ I1 r1 q1) fun _ s2 q => q
/-- name = value -/
theorem ps_set {i : Nat} {x : Str} {e : Expr} {te : TE} {pos' : Pos} (hN : X.N.Nodup) (hi : X.N[i]? = some x) (hx : Loc X.env.scope x) (he : PE X e te) (hs : swapsWith e (some (.Name x pos')) pos.line X.env = pure false := by rfl) (hf : X.fn x = true ∨ X.env.scope.names.lookup x = some .local := by first | exact .inl rfl | exact .inr rfl | assumption) :
    PS X (.Assign [.Name x pos'] e pos) (tAsg te (gName i)) := by
  intro pins s σ H D I h
  refine wpAny_Assign_Name (thn (he pins s σ H _ I h) fun v s1 ⟨y, H1, I1, r1, q1⟩ => ?_) hs
  exact store_ok I1 hN hi hx r1 (fun s2 I2 => ⟨_, H1, I2, q1⟩) hf
end

/-! ### while -/
section
variable {X : Cx} {pos : Pos}
/-- the invariant W with its measure -/
def tWhile (c : TT) (tb : TS) : TS := fun D σ H => ∃ W : Nat → St → Hp → Prop, (∃ m, W m σ H) ∧ ∀ m σ H, W m σ H →
  c σ H fun b H1 => if b = true then ∃ N : St → Hp → Prop, (∀ σ' H', N σ' H' → ∃ m', m' < m ∧ W m' σ' H') ∧ tb { D with nx := N, ct := N, bk := D.nx } σ H1 else D.nx σ H1
theorem ps_while {c : Expr} {body : List Stmt} {tc : TT} {tb : TS} (hp : PassesOwn (model X.prog X.w) X.A X.env X.xe) (hc : PT X c tc) (hb : PSs X body tb) : PS X (.While c body [] pos) (tWhile tc tb) := by
  intro pins s σ H D I h
  obtain ⟨W, ⟨m0, w0⟩, turn⟩ := h
  refine wpAny_While (codeAny_whileLoop (fun n s' => ∃ σ' H', Inv X pins σ' H' s' ∧ W n σ' H') ?_ m0 ⟨σ, H, I, w0⟩)
  rintro n s1 ⟨σ1, H1, I1, w1⟩
  refine wpAny_passesOwn hp (thn (hc pins s1 σ1 H1 _ I1 (turn n σ1 H1 w1)) fun b s2 ⟨H2, I2, q2⟩ => ?_)
  cases b with
  | true =>
    obtain ⟨N, hN, q2⟩ := q2
    rw [if_pos rfl]
    refine wpAny_passesOwn hp (thn (hb pins s2 σ1 H2 _ I2 q2) fun f s3 q3 => ?_)
    cases f with
    | next =>
      obtain ⟨σ3, H3, I3, n3⟩ := q3
      obtain ⟨m', hm, w3⟩ := hN σ3 H3 n3
      exact ⟨m', hm, σ3, H3, I3, w3⟩
    | cont =>
      obtain ⟨σ3, H3, I3, n3⟩ := q3
      obtain ⟨m', hm, w3⟩ := hN σ3 H3 n3
      exact ⟨m', hm, σ3, H3, I3, w3⟩
    | brk => exact q3
    | ret v => exact q3
  | false =>
    rw [if_neg Bool.false_ne_true]
    exact wpAny_execs_nil ⟨σ1, H2, I2, q2⟩
end

/-! ### what a loop or a comprehension walks -/
/-- at turn i: it yields x (the heap may grow), or it stops -/
structure It where
  go : Nat → Hp → Prop
  yld : Nat → Hp → V → Hp → Prop
  stop : Nat → Hp → Prop
/-- the iterator's own objects may turn: they are not the frame's, not pinned, younger than the entry (or a comprehension's own) -/
def FpOk (X : Cx) (pins : List (Addr × Obj)) (H : Hp) (b : Addr) : Prop :=
  H b = none ∧ b ≠ X.env.locals ∧ b ∉ X.fs ∧ (b ∈ X.ex ∨ X.s₀.heap.objs.size ≤ b) ∧ (∀ x c, X.env.cells.lookup x = some c → c ≠ b) ∧ ∀ p ∈ X.pn ++ pins, p.1 ≠ b
theorem Inv.fpOk {X : Cx} {pins : List (Addr × Obj)} {σ : St} {H H' : Hp} {s : Shared} {b : Addr} (I : Inv X pins σ H s) (hb : s.heap.objs.size ≤ b) (hn : H' b = none) : FpOk X pins H' b := by
  refine ⟨hn, Nat.ne_of_gt (Nat.lt_of_lt_of_le I.lt hb), I.nofs hb, .inr (Nat.le_trans I.sz hb), fun x c e z => ?_, fun p hp z => ?_⟩
  · obtain ⟨v, q⟩ := I.cell x c e
    exact absurd (Nat.lt_of_lt_of_le q.lt (by rw [z]; exact hb)) (Nat.lt_irrefl _)
  · exact absurd (Nat.lt_of_lt_of_le (Heap.lt_size (I.pin p hp).1) (by rw [z]; exact hb)) (Nat.lt_irrefl _)
structure Turn (P : Program) (w : World) (K : PySem.W.Frag) (tg : Expr) (J : It) (fp : List Addr) (it : Addr) (tn : Nat → Heap → Prop) : Prop where
  mem : it ∈ fp
  obj : ∀ i h, tn i h → ∀ b ∈ fp, ∃ o, h.get? b = some o ∧ ∀ v, o.data ≠ .cell v
  keep : ∀ i h h', tn i h → (∀ b ∈ fp, ∀ o, h.get? b = some o → h'.get? b = some o) → tn i h'
  item : ∀ (X : Cx), X.prog = P → X.w = w → X.K = K → X.calm = true → ∀ (i : Nat) (pins : List (Addr × Obj)) (s : Shared) (σ : St) (H : Hp) (E : Value → Shared → Prop), Inv X pins σ H s → (∀ b ∈ fp, FpOk X pins H b) → tn i s.heap → J.go i H →
    wpAny (model P w) X.A (pyNext (.ref it)) (fun r s1 => ∃ u, r = some u ∧
      wpAny (model P w) X.A (letOwnedTupleGo tg (.ref it) u) (fun _ s2 => ∃ x H', Inv X pins σ H' s2 ∧ RelV x u ∧ J.yld i H x H' ∧ tn (i + 1) s2.heap ∧ ∀ b ∈ fp, H' b = none) E s1) E s
  done : ∀ (X : Cx), X.prog = P → X.w = w → X.K = K → X.calm = true → ∀ (i : Nat) (pins : List (Addr × Obj)) (s : Shared) (σ : St) (H : Hp) (E : Value → Shared → Prop), Inv X pins σ H s → (∀ b ∈ fp, FpOk X pins H b) → tn i s.heap → J.stop i H →
    wpAny (model P w) X.A (pyNext (.ref it)) (fun r s1 => r = none ∧ Inv X pins σ H s1) E s
  self : ∀ (A : Around) (i : Nat) (s : Shared) (Q : Value → Shared → Prop) (E : Value → Shared → Prop), tn i s.heap → Q (.ref it) s → wpAny (model P w) A (pyIter (.ref it)) Q E s
abbrev TI := St → Hp → (It → Hp → Prop) → Prop
/-- an iterator has come -/
def PIE (X : Cx) (pins : List (Addr × Obj)) (σ : St) (tg : Expr) (R : It → Hp → Prop) (itv : Value) (s2 : Shared) : Prop :=
  ∃ (it : Addr) (fp : List Addr) (tn : Nat → Heap → Prop) (J : It) (H' : Hp), itv = .ref it ∧ Inv X pins σ H' s2 ∧ Turn X.prog X.w X.K tg J fp it tn ∧ tn 0 s2.heap ∧ (∀ b ∈ fp, FpOk X pins H' b) ∧ R J H'
def PI (X : Cx) (tg iter : Expr) (wi : TI) : Prop :=
  ∀ (pins : List (Addr × Obj)) (s : Shared) (σ : St) (H : Hp) (R : It → Hp → Prop), Inv X pins σ H s → wi σ H R →
    wpAny (model X.prog X.w) X.A (eval iter X.env) (fun v s1 => wpAny (model X.prog X.w) X.A (pyIter v) (PIE X pins σ tg R) X.xe s1) X.xe s

/-- the step ahead of the store is nothing for an iterator that keeps no tuple -/
theorem go_of {M : Model} {A : Around} {E : Value → Shared → Prop} {s : Shared} {tg : Expr} {it : Addr} {u : Value} {o : Obj} {n : String} {vs : Array Value} {Q : Unit → Shared → Prop} (ho : s.heap.get? it = some o) (hc : o.cls = .type n) (hd : o.data = .fields vs)
    (hn : ["enumerate", "zip", "dict_itemiterator", "dict_reverseitemiterator", "odict_iterator", "itertools.zip_longest", "itertools.pairwise"].contains n = false) (hQ : Q () s) : wpAny M A (letOwnedTupleGo tg (.ref it) u) Q E s := by
  unfold letOwnedTupleGo
  cases tg <;> first
    | exact wpAny_pure hQ
    | (cases u <;> first
        | exact wpAny_pure hQ
        | (refine wpAny_bind (wpAny_load ho ?_)
           rw [hc, hd]
           show wpAny M A (if (["enumerate", "zip", "dict_itemiterator", "dict_reverseitemiterator", "odict_iterator", "itertools.zip_longest", "itertools.pairwise"].contains n && vs[0]? == some (rawInt _)) = true then _ else _) Q E s
           rw [if_neg (by intro h; rw [hn, Bool.false_and] at h; cases h)]
           exact wpAny_pure hQ))

/-- the list at a, as it stands at each turn (a loop may append to it) -/
def Itl (K : PySem.W.Frag) (a : Addr) : It :=
  ⟨fun i H => ∃ xs x, SqL K H a xs ∧ xs[i]? = some x, fun i H x H' => H' = H ∧ ∀ xs, SqL K H a xs → xs[i]? = some x, fun i H => ∃ xs, SqL K H a xs ∧ xs.length ≤ i⟩
def Itt (K : PySem.W.Frag) (a : Addr) : It :=
  ⟨fun i H => ∃ xs x, SqT K H a xs ∧ xs[i]? = some x, fun i H x H' => H' = H ∧ ∀ xs, SqT K H a xs → xs[i]? = some x, fun i H => ∃ xs, SqT K H a xs ∧ xs.length ≤ i⟩
/-- lo, lo + 1, .. (n of them) -/
def Itr (lo : Int) (n : Nat) : It := ⟨fun i _ => i < n, fun i H x H' => H' = H ∧ x = .int (lo + i), fun i _ => n ≤ i⟩
theorem turn_list {P : Program} {w : World} {K : PySem.W.Frag} {tg : Expr} (a it : Addr) : Turn P w K tg (Itl K a) [it] it (fun i h => h.IsListIter it a i) where
  mem := by simp
  obj := fun i h st b hb => by
    have e : b = it := by simpa using hb
    subst e
    obtain ⟨o, e, c, d⟩ := st
    exact ⟨o, e, fun v z => by rw [d] at z; cases z⟩
  keep := fun i h h' st k => st.at fun o e => k it (by simp) o e
  item := by
    intro X hP hw hK hc i pins s σ H E I hf st hg
    subst hP hw hK
    obtain ⟨xs, x, hq, hx⟩ := hg
    obtain ⟨its, rv, p, hz⟩ := I.list hq
    obtain ⟨u, hu, ru⟩ := rv.get hx
    obtain ⟨f0, f1, f2, f3, f4, f5⟩ := hf it (by simp)
    refine wpAny_pyNext_list_item st p.isList (x := u) (by simpa using hu) fun h' st' sb => ?_
    have I1 : Inv X pins σ H { s with heap := h' } := I.turned (t' := s.toks) (fun b o hb e => (sb.2 b hb).trans e) f0 f1 f3 f4 f5
    obtain ⟨o, e, c, d⟩ := id st'
    exact ⟨u, rfl, go_of (s := { s with heap := h' }) e c d (by decide) ⟨x, H, I1, ru, ⟨rfl, fun ys hy => by rw [I.list_inj hy hq]; exact hx⟩, st', fun b hb => (hf b hb).1⟩⟩
  done := by
    intro X hP hw hK hc i pins s σ H E I hf st hg
    subst hP hw hK
    obtain ⟨xs, hq, hx⟩ := hg
    obtain ⟨its, rv, p, hz⟩ := I.list hq
    obtain ⟨f0, f1, f2, f3, f4, f5⟩ := hf it (by simp)
    have hl := rv.length
    exact wpAny_pyNext_list_end (I.ok.hd hc) st p.isList (by simp; omega) fun h' eb => ⟨rfl, I.turned (t' := s.toks) (fun b o hb e => eb b o hb e) f0 f1 f3 f4 f5⟩
  self := fun _ _ _ _ _ st h => wpAny_pyIter_listiter st h
theorem turn_tuple {P : Program} {w : World} {K : PySem.W.Frag} {tg : Expr} (a it : Addr) : Turn P w K tg (Itt K a) [it] it (fun i h => h.IsTupleIter it a i) where
  mem := by simp
  obj := fun i h st b hb => by
    have e : b = it := by simpa using hb
    subst e
    obtain ⟨o, e, c, d⟩ := st
    exact ⟨o, e, fun v z => by rw [d] at z; cases z⟩
  keep := fun i h h' st k => st.at fun o e => k it (by simp) o e
  item := by
    intro X hP hw hK hc i pins s σ H E I hf st hg
    subst hP hw hK
    obtain ⟨xs, x, hq, hx⟩ := hg
    obtain ⟨its, rv, p, hz⟩ := I.tuple hq
    obtain ⟨u, hu, ru⟩ := rv.get hx
    obtain ⟨f0, f1, f2, f3, f4, f5⟩ := hf it (by simp)
    refine wpAny_pyNext_tuple_item st (show s.heap.IsTuple a its.toArray from p) (x := u) (by simpa using hu) fun h' st' sb => ?_
    have I1 : Inv X pins σ H { s with heap := h' } := I.turned (t' := s.toks) (fun b o hb e => (sb.2 b hb).trans e) f0 f1 f3 f4 f5
    obtain ⟨o, e, c, d⟩ := id st'
    exact ⟨u, rfl, go_of (s := { s with heap := h' }) e c d (by decide) ⟨x, H, I1, ru, ⟨rfl, fun ys hy => by rw [I.tuple_inj hy hq]; exact hx⟩, st', fun b hb => (hf b hb).1⟩⟩
  done := by
    intro X hP hw hK hc i pins s σ H E I hf st hg
    subst hP hw hK
    obtain ⟨xs, hq, hx⟩ := hg
    obtain ⟨its, rv, p, hz⟩ := I.tuple hq
    obtain ⟨f0, f1, f2, f3, f4, f5⟩ := hf it (by simp)
    have hl := rv.length
    exact wpAny_pyNext_tuple_end (I.ok.hd hc) st (show s.heap.IsTuple a its.toArray from p) (by simp; omega) fun h' eb => ⟨rfl, I.turned (t' := s.toks) (fun b o hb e => eb b o hb e) f0 f1 f3 f4 f5⟩
  self := fun _ _ _ _ _ st h => wpAny_pyIter_tupleiter st h
theorem turn_range {P : Program} {w : World} {K : PySem.W.Frag} {tg : Expr} (it : Addr) (lo : Int) (n : Nat) : Turn P w K tg (Itr lo n) [it] it (fun i h => IsRangeIter h it (lo + (i : Nat) * 1) ((n : Int) - (i : Nat)) 1) where
  mem := by simp
  obj := fun i h st b hb => by
    have e : b = it := by simpa using hb
    subst e
    exact ⟨_, st, fun v z => by
      have z' : Data.fields _ = Data.cell v := z
      cases z'⟩
  keep := fun i h h' st k => k it (by simp) _ st
  item := by
    intro X hP hw hK hc i pins s σ H E I hf st hg
    subst hP hw hK
    obtain ⟨f0, f1, f2, f3, f4, f5⟩ := hf it (by simp)
    have W := Walks.range (prog := X.prog) (w := X.w) (I.ok.hd hc) it lo 1 n
    refine W.item i s _ _ hg st fun v h' tk hv st' kk => ?_
    obtain ⟨t, rfl⟩ := hv
    have I1 : Inv X pins σ H { s with heap := h', toks := tk } := I.turned (fun b o hb e => kk b o (by simpa using hb) e) f0 f1 f3 f4 f5
    refine ⟨_, rfl, go_of (s := { s with heap := h', toks := tk }) (n := "range_iterator") st' rfl rfl (by decide) ⟨.int (lo + i), H, I1, ⟨t, ?_⟩, ⟨rfl, rfl⟩, st', fun b hb => (hf b hb).1⟩⟩
    rw [Int.mul_one]
  done := by
    intro X hP hw hK hc i pins s σ H E I hf st hg
    subst hP hw hK
    obtain ⟨f0, f1, f2, f3, f4, f5⟩ := hf it (by simp)
    exact wpAny_pyNext_range_end (I.ok.hd hc) st (by have : n ≤ i := hg; omega) fun h' eb => ⟨rfl, I.turned (t' := s.toks) (fun b o hb e => eb b o hb e) f0 f1 f3 f4 f5⟩
  self := fun _ _ _ _ _ st h => wpAny_pyIter_rangeiter st h
end L2

namespace L2
open PySem PySem.Spec PyProof.Rows
section
variable {X : Cx} {tg : Expr}
/-- a range object just made, walked -/
theorem range_it {pins : List (Addr × Obj)} {σ : St} {H : Hp} {s : Shared} {R : It → Hp → Prop} {E : Value → Shared → Prop} {lo hi : Int} {t u v : Tok} {tk : Nat} (I : Inv X pins σ H s) (h1 : -(2 ^ 62) ≤ lo) (h2 : lo < 2 ^ 62) (h3 : -(2 ^ 62) ≤ hi) (h4 : hi < 2 ^ 62)
    (q : R (Itr lo (hi - lo).toNat) H) : wpAny (model X.prog X.w) X.A (pyIter (.ref s.heap.objs.size)) (PIE X pins σ tg R) E { s with heap := s.heap.push { cls := .type "range", data := .fields #[.int lo t, .int hi u, .int 1 v] }, toks := tk } := by
  refine wpAny_pyIter_range (IsRange.new ..) (small_one h1 h2 h3 h4) ?_
  have I1 : Inv X pins σ H { s with heap := s.heap.push { cls := .type "range", data := .fields #[.int lo t, .int hi u, .int 1 v] }, toks := tk } := I.kept fun b o e => Heap.get?_push_of_some _ e
  refine ⟨(s.heap.push { cls := .type "range", data := .fields #[.int lo t, .int hi u, .int 1 v] }).objs.size, [(s.heap.push { cls := .type "range", data := .fields #[.int lo t, .int hi u, .int 1 v] }).objs.size], _, _, H, rfl,
    I1.kept (t' := tk) fun b o e => Heap.get?_push_of_some _ e, turn_range _ lo (hi - lo).toNat, ?_, fun b hb => ?_, q⟩
  · have e1 : lo + ((0 : Nat) : Int) * 1 = lo := by simp
    have e2 : (((hi - lo).toNat : Nat) : Int) - ((0 : Nat) : Int) = Builtin.Range.rangeSize lo hi 1 := by rw [rangeSize_one]; split <;> omega
    show IsRangeIter _ _ (lo + ((0 : Nat) : Int) * 1) ((((hi - lo).toNat : Nat) : Int) - ((0 : Nat) : Int)) 1
    rw [e1, e2]
    exact Heap.get?_push_size _ rfl
  · have e : b = (s.heap.push { cls := .type "range", data := .fields #[.int lo t, .int hi u, .int 1 v] }).objs.size := by simpa using hb
    subst e
    exact I1.fpOk (Nat.le_refl _) (I1.hok.fresh (Nat.le_refl _))
def iRng1 (ta : TA) : TI := fun σ H R => ta σ H fun vs H1 => ∃ j : Int, vs = [.int j] ∧ -(2 ^ 62) ≤ j ∧ j < 2 ^ 62 ∧ R (Itr 0 j.toNat) H1
theorem pi_range1 {a : Expr} {ta : TA} {p pos : Pos} (hg : Gl X "range") (hm : X.mg "range" = none) (ha : PA X [a] ta) (hs : starEach [a] X.env = [(false, eval a X.env)] := by rfl) : PI X tg (.Call (.Name "range" p) [a] [] pos) (iRng1 ta) := by
  intro pins s σ H R I h
  refine Call_ (ld_blt I hg hm boot_range (PyProof.Rows.callWith_type1 (thn (ha pos pins s σ H _ I h) fun us s1 ⟨vs, H1, I1, r1, q1⟩ => ?_) hs rfl))
  obtain ⟨j, e, q1, q2, q⟩ := q1
  subst e
  cases r1 with
  | cons r rr =>
    cases rr
    obtain ⟨t, rfl⟩ := r
    exact call_range_1 (range_it I1 (by omega) (by omega) q1 q2 (by simpa using q))
/-! ### for -/
/-- W: the invariant by the turn and a measure; N: what the body is to reach -/
def tFor (wi : TI) (g : TG) (tb : TS) : TS := fun D σ H => wi σ H fun J H1 => ∃ W : Nat → Nat → St → Hp → Prop, (∃ m, W 0 m σ H1) ∧ ∀ i m σ H, W i m σ H →
  (J.stop i H ∧ D.nx σ H) ∨ (J.go i H ∧ ∃ N : St → Hp → Prop, (∀ σ' H', N σ' H' → ∃ m', m' < m ∧ W (i + 1) m' σ' H') ∧ ∀ x H', J.yld i H x H' → g x σ H' fun σ2 H2 => tb { D with nx := N, ct := N, bk := D.nx } σ2 H2)
/-- the records at fp as they stand -/
def pinsAt (fp : List Addr) (h : Heap) : List (Addr × Obj) := fp.filterMap fun b => (h.get? b).map fun o => (b, o)
theorem mem_pinsAt {fp : List Addr} {h : Heap} {b : Addr} {o : Obj} (hb : b ∈ fp) (e : h.get? b = some o) : (b, o) ∈ pinsAt fp h := List.mem_filterMap.mpr ⟨b, hb, by rw [e]; rfl⟩
theorem of_pinsAt {fp : List Addr} {h : Heap} {p : Addr × Obj} (hp : p ∈ pinsAt fp h) : p.1 ∈ fp ∧ h.get? p.1 = some p.2 := by
  obtain ⟨b, hb, e⟩ := List.mem_filterMap.mp hp
  cases q : h.get? b with
  | none => rw [q] at e; cases e
  | some o =>
    rw [q] at e
    have e' : (b, o) = p := Option.some.inj e
    subst e'
    exact ⟨hb, q⟩
theorem Inv.pinned {pins : List (Addr × Obj)} {σ : St} {H : Hp} {s : Shared} {fp : List Addr} (I : Inv X pins σ H s) (hf : ∀ b ∈ fp, FpOk X pins H b) (ho : ∀ b ∈ fp, ∃ o, s.heap.get? b = some o ∧ ∀ v, o.data ≠ .cell v) : Inv X (pins ++ pinsAt fp s.heap) σ H s :=
  I.pins_of fun p hp => (List.mem_append.mp hp).elim (fun z => I.pin p (List.mem_append_right _ z)) fun z => by
    obtain ⟨hb, e⟩ := of_pinsAt z
    obtain ⟨f0, f1, f2, _⟩ := hf p.1 hb
    obtain ⟨o, e', d⟩ := ho p.1 hb
    rw [e] at e'; cases e'
    exact ⟨e, f0, f1, f2, d⟩
theorem Inv.unpinned {pins pl : List (Addr × Obj)} {σ : St} {H : Hp} {s : Shared} (I : Inv X (pins ++ pl) σ H s) : Inv X pins σ H s := I.pins_of fun p hp => I.pin p (List.mem_append_right _ (List.mem_append_left _ hp))
theorem ps_for {iter : Expr} {body : List Stmt} {wi : TI} {g : TG} {tb : TS} {pos : Pos} (hp : PassesOwn (model X.prog X.w) X.A X.env X.xe) (hc : X.calm = true) (hi : PI X tg iter wi) (hg : PG X tg g) (hb : PSs X body tb)
    (hs : ∀ x, foldedSetIterable iter X.env x = pure x := by intro _; rfl) : PS X (.For tg iter body [] pos) (tFor wi g tb) := by
  intro pins s σ H D I h
  refine wpAny_For (thn (hi pins s σ H _ I h) fun v s1 h1 => thn h1 fun itv s2 h2 => ?_) hs
  obtain ⟨it, fp, tn, J, H2, e, I2, T, st2, f2, W, ⟨m0, w0⟩, turn⟩ := h2
  subst e
  -- what stays true of the iterator's objects through the loop
  have stat : ∀ {H' : Hp}, (∀ b ∈ fp, H' b = none) → ∀ b ∈ fp, FpOk X pins H' b := fun hn b hb => ⟨hn b hb, (f2 b hb).2⟩
  refine codeAny_forLoop_any (fun n s' => ∃ i σ' H', Inv X pins σ' H' s' ∧ tn i s'.heap ∧ (∀ b ∈ fp, H' b = none) ∧ W i n σ' H') ?_ m0 ⟨0, σ, H2, I2, st2, fun b hb => (f2 b hb).1, w0⟩
  rintro n s3 ⟨i, σ3, H3, I3, st3, fr3, w3⟩
  rcases turn i n σ3 H3 w3 with ⟨stop, qn⟩ | ⟨go, N, hN, step⟩
  · refine wpAny_passesOwn hp (thn (T.done X rfl rfl rfl hc i pins s3 σ3 H3 X.xe I3 (stat fr3) st3 stop) fun r s4 ⟨hr, I4⟩ => ?_)
    subst hr
    exact wpAny_execs_nil ⟨σ3, H3, I4, qn⟩
  · refine wpAny_passesOwn hp (thn (T.item X rfl rfl rfl hc i pins s3 σ3 H3 X.xe I3 (stat fr3) st3 go) fun r s4 ⟨u, hr, h4⟩ => ?_)
    subst hr
    refine wpAny_passesOwn hp (thn h4 fun _ s5 ⟨x, H5, I5, r5, y5, st5, fr5⟩ => ?_)
    have I5' := I5.pinned (stat fr5) (T.obj _ _ st5)
    refine wpAny_passesOwn hp (thn (hg _ s5 σ3 H5 x u _ I5' r5 (step x H5 y5)) fun _ s6 ⟨σ6, H6, I6, q6⟩ => ?_)
    refine wpAny_passesOwn hp (thn (hb _ s6 σ6 H6 _ I6 q6) fun f s7 q7 => ?_)
    have again : ∀ {σ7 : St} {H7 : Hp}, Inv X (pins ++ pinsAt fp s5.heap) σ7 H7 s7 → N σ7 H7 → ∃ m, m < n ∧ ∃ i σ' H', Inv X pins σ' H' s7 ∧ tn i s7.heap ∧ (∀ b ∈ fp, H' b = none) ∧ W i m σ' H' := fun {σ7 H7} I7 n7 => by
      obtain ⟨m', hm, w7⟩ := hN σ7 H7 n7
      refine ⟨m', hm, i + 1, σ7, H7, I7.unpinned, T.keep _ _ _ st5 fun b hb o e => (I7.pin (b, o) (List.mem_append_right _ (List.mem_append_right _ (mem_pinsAt hb e)))).1, fun b hb => ?_, w7⟩
      obtain ⟨o, e, d⟩ := T.obj _ _ st5 b hb
      exact (I7.pin (b, o) (List.mem_append_right _ (List.mem_append_right _ (mem_pinsAt hb e)))).2.1
    cases f with
    | next => obtain ⟨σ7, H7, I7, n7⟩ := q7; exact again I7 n7
    | cont => obtain ⟨σ7, H7, I7, n7⟩ := q7; exact again I7 n7
    | brk => obtain ⟨σ7, H7, I7, q7⟩ := q7; exact ⟨σ7, H7, I7.unpinned, q7⟩
    | ret v => obtain ⟨x7, σ7, H7, I7, r7, q7⟩ := q7; exact ⟨x7, σ7, H7, I7.unpinned, r7, q7⟩
end

/-! ### the forms one uses -/
end L2

namespace L2
open PySem PySem.Spec PyProof.Rows

abbrev R2 := V → V → Hp → VK → Prop
/-- a two-place operation on values: f is binaryOp op, inplaceOp op or compareOp op -/
def OpR (X : Cx) (f : Value → Value → Sem Value) (r : R2) : Prop :=
  ∀ (pins : List (Addr × Obj)) (s : Shared) (σ : St) (H : Hp) (x y : V) (v u : Value) (Q : VK), Inv X pins σ H s → RelV x v → RelV y u → r x y H Q →
    wpAny (model X.prog X.w) X.A (f v u) (EP X pins σ Q) X.xe s
/-- a one-place operation -/
def UnR (X : Cx) (f : Value → Sem Value) (r : V → Hp → VK → Prop) : Prop :=
  ∀ (pins : List (Addr × Obj)) (s : Shared) (σ : St) (H : Hp) (x : V) (v : Value) (Q : VK), Inv X pins σ H s → RelV x v → r x H Q →
    wpAny (model X.prog X.w) X.A (f v) (EP X pins σ Q) X.xe s
/-- a call of a value that is known (a builtin, a type) with values -/
def CallR (X : Cx) (f : Value) (r : List V → Hp → VK → Prop) : Prop :=
  ∀ (pins : List (Addr × Obj)) (s : Shared) (σ : St) (H : Hp) (xs : List V) (us : List Value) (Q : VK), Inv X pins σ H s → Vals xs us → r xs H Q →
    wpAny (model X.prog X.w) X.A (call f us) (EP X pins σ Q) X.xe s
/-- a value's truth -/
def TruR (X : Cx) (r : V → Hp → (Bool → Hp → Prop) → Prop) : Prop :=
  ∀ (pins : List (Addr × Obj)) (s : Shared) (σ : St) (H : Hp) (x : V) (v : Value) (Q : Bool → Hp → Prop), Inv X pins σ H s → RelV x v → r x H Q →
    wpAny (model X.prog X.w) X.A (truthy v) (TP X pins σ Q) X.xe s

def tOp (r : R2) (ta tb : TE) : TE := fun σ H Q => ta σ H fun x H1 => tb σ H1 fun y H2 => r x y H2 Q
def tUn (r : V → Hp → VK → Prop) (ta : TE) : TE := fun σ H Q => ta σ H fun x H1 => r x H1 Q
/-- ints in, under C, and a value out -/
def rI (C : Int → Int → Prop) (g : Int → Int → V) : R2 := fun x y H Q => ∃ i j, x = .int i ∧ y = .int j ∧ C i j ∧ Q (g i j) H
def rI0 (g : Int → Int → V) : R2 := fun x y H Q => ∃ i j, x = .int i ∧ y = .int j ∧ Q (g i j) H
def rU (g : Int → V) : V → Hp → VK → Prop := fun x H Q => ∃ i, x = .int i ∧ Q (g i) H

section
variable {X : Cx} {a b c : Expr} {ta tb tc : TE} {pos : Pos}

theorem binT (ha : PE X a ta) (hb : PE X b tb) {pins : List (Addr × Obj)} {s : Shared} {σ : St} {H : Hp} {R : V → V → Hp → Prop} (I : Inv X pins σ H s)
    (h : ta σ H fun x H1 => tb σ H1 fun y H2 => R x y H2) {Q : Value → Shared → Prop} {f : Value → Value → Sem Value}
    (hf : ∀ v u s2 x y H2, Inv X pins σ H2 s2 → RelV x v → RelV y u → R x y H2 → wpAny (model X.prog X.w) X.A (f v u) Q X.xe s2) :
    wpAny (model X.prog X.w) X.A (eval a X.env) (fun v s₁ => wpAny (model X.prog X.w) X.A (eval b X.env) (fun u s₂ => wpAny (model X.prog X.w) X.A (f v u) Q X.xe s₂) X.xe s₁) X.xe s := by
  refine thn (ha pins s σ H _ I h) fun v s1 ⟨x, H1, I1, r1, q1⟩ => ?_
  refine thn (hb pins s1 σ H1 _ I1 q1) fun u s2 ⟨y, H2, I2, r2, q2⟩ => ?_
  exact hf v u s2 x y H2 I2 r1 r2 q2

theorem pe_op {op : Operator} {r : R2} (ho : OpR X (binaryOp op) r) (ha : PE X a ta) (hb : PE X b tb) : PE X (.BinOp a op b pos) (tOp r ta tb) := by
  intro pins s σ H Q I h
  exact wpAny_BinOp (binT ha hb I h fun v u s2 x y H2 I2 rx ry q => ho pins s2 σ H2 x y v u Q I2 rx ry q)
theorem pe_un {op : UnaryOp} {r : V → Hp → VK → Prop} (ho : UnR X (unaryOp op) r) (ha : PE X a ta) : PE X (.UnaryOp op a pos) (tUn r ta) := by
  intro pins s σ H Q I h
  exact UnaryOp_ (thn (ha pins s σ H _ I h) fun v s1 ⟨x, H1, I1, r1, q1⟩ => ho pins s1 σ H1 x v Q I1 r1 q1)
/-! ### ints -/
theorem opI {f : Value → Value → Sem Value} {C : Int → Int → Prop} {g : Int → Int → Int}
    (rule : ∀ (i j : Int) (t u : Tok) (s : Shared) (Q : Value → Shared → Prop) (E : Value → Shared → Prop), C i j → Q (.int (g i j) s.toks) { s with toks := s.toks + 1 } → wpAny (model X.prog X.w) X.A (f (.int i t) (.int j u)) Q E s) :
    OpR X f (rI C fun i j => .int (g i j)) := by
  intro pins s σ H x y v u Q I rx ry h
  obtain ⟨i, j, rfl, rfl, hc, q⟩ := h
  obtain ⟨t, rfl⟩ := rx
  obtain ⟨t', rfl⟩ := ry
  exact rule i j t t' s _ _ hc ⟨.int (g i j), H, I.tok _, ⟨_, rfl⟩, q⟩
theorem opI0 {f : Value → Value → Sem Value} {g : Int → Int → Int}
    (rule : ∀ (i j : Int) (t u : Tok) (s : Shared) (Q : Value → Shared → Prop) (E : Value → Shared → Prop), Q (.int (g i j) s.toks) { s with toks := s.toks + 1 } → wpAny (model X.prog X.w) X.A (f (.int i t) (.int j u)) Q E s) :
    OpR X f (rI0 fun i j => .int (g i j)) := by
  intro pins s σ H x y v u Q I rx ry h
  obtain ⟨i, j, rfl, rfl, q⟩ := h
  obtain ⟨t, rfl⟩ := rx
  obtain ⟨t', rfl⟩ := ry
  exact rule i j t t' s _ _ ⟨.int (g i j), H, I.tok _, ⟨_, rfl⟩, q⟩
theorem opB0 {f : Value → Value → Sem Value} {g : Int → Int → Bool}
    (rule : ∀ (i j : Int) (t u : Tok) (s : Shared) (Q : Value → Shared → Prop) (E : Value → Shared → Prop), Q (.bool (g i j)) s → wpAny (model X.prog X.w) X.A (f (.int i t) (.int j u)) Q E s) :
    OpR X f (rI0 fun i j => .bl (g i j)) := by
  intro pins s σ H x y v u Q I rx ry h
  obtain ⟨i, j, rfl, rfl, q⟩ := h
  obtain ⟨t, rfl⟩ := rx
  obtain ⟨t', rfl⟩ := ry
  exact rule i j t t' s _ _ ⟨.bl (g i j), H, I, rfl, q⟩

def CPow (i j : Int) : Prop := 0 ≤ j ∧ j ≤ 1000000 ∧ i.natAbs < 2 ^ 64
def CMul (i j : Int) : Prop := (-(2 ^ 64) < i ∧ i < 2 ^ 64) ∨ (-(2 ^ 64) < j ∧ j < 2 ^ 64)
theorem CMul.ok {i j : Int} (h : CMul i j) : IntMulOk i j := by
  rcases h with ⟨h1, h2⟩ | ⟨h1, h2⟩
  · exact .of_left (intBits_le_64 h1 h2)
  · exact .of_right (intBits_le_64 h1 h2)
theorem op_add : OpR X (binaryOp .Add) (rI0 fun i j => .int (i + j)) := opI0 fun _ _ _ _ _ _ _ q => add_int q
theorem op_sub : OpR X (binaryOp .Sub) (rI0 fun i j => .int (i - j)) := opI0 fun _ _ _ _ _ _ _ q => sub_int q
theorem op_mul : OpR X (binaryOp .Mult) (rI CMul fun i j => .int (i * j)) := opI fun _ _ _ _ _ _ _ hc q => mul_int q hc.ok
/-- % by a positive divisor of any size -/
theorem op_mod : OpR X (binaryOp .Mod) (rI (fun _ j => 0 < j) fun i j => .int (i % j)) := opI fun i j _ _ _ _ _ hc q => by
  have h1 : (0 : Int) < j := hc
  exact mod_int' (by omega) (by rw [Int.fmod_eq_emod_of_nonneg i (by omega)]; exact q)
theorem op_pow : OpR X (binaryOp .Pow) (rI CPow fun i j => .int (i ^ j.toNat)) := opI fun _ _ _ _ _ _ _ hc q => pow_int_small hc.1 hc.2.1 hc.2.2 q
theorem unI {f : Value → Sem Value} {g : Int → Int}
    (rule : ∀ (i : Int) (t : Tok) (s : Shared) (Q : Value → Shared → Prop) (E : Value → Shared → Prop), Q (.int (g i) s.toks) { s with toks := s.toks + 1 } → wpAny (model X.prog X.w) X.A (f (.int i t)) Q E s) :
    UnR X f (rU fun i => .int (g i)) := by
  intro pins s σ H x v Q I rx h
  obtain ⟨i, rfl, q⟩ := h
  obtain ⟨t, rfl⟩ := rx
  exact rule i t s _ _ ⟨.int (g i), H, I.tok _, ⟨_, rfl⟩, q⟩
theorem un_neg : UnR X (unaryOp .USub) (rU fun i => .int (-i)) := unI fun _ _ _ _ _ q => neg_int q
/-! ### bools among ints: n += (a < b) -/
end

/-! ### comparisons -/
section
variable {X : Cx} {a b c : Expr} {ta tb tc : TE} {pos : Pos}
theorem fin_bl {pins : List (Addr × Obj)} {σ : St} {H : Hp} {s : Shared} {Q : VK} {k k' : Bool} (I : Inv X pins σ H s) (q : Q (.bl k) H) (e : k = k') : EP X pins σ Q (.bool k') s := by
  subst e
  exact ⟨.bl k, H, I, rfl, q⟩
theorem op_lt : OpR X (compareOp .Lt) (rI0 fun i j => .bl (decide (i < j))) := opB0 fun _ _ _ _ _ _ _ q => lt_int q
theorem op_gt : OpR X (compareOp .Gt) (rI0 fun i j => .bl (decide (j < i))) := opB0 fun _ _ _ _ _ _ _ q => gt_int q
/-- the one string within the other -/
theorem op_in_str : OpR X (compareOp .In) (fun x y H Q => ∃ i j, x = .str i ∧ y = .str j ∧ Q (.bl (!(Builtin.Str.occurrences j i 0 j.length 1).isEmpty)) H) := by
  intro pins s σ H x y v u Q I rx ry h
  obtain ⟨i, j, rfl, rfl, q⟩ := h
  obtain ⟨t, rfl⟩ := rx
  obtain ⟨t', rfl⟩ := ry
  exact in_str (fin_bl I q rfl)

/-- is None, is not None: the right side a value none -/
theorem op_isN : OpR X (compareOp .Is) (fun x y H Q => y = .non ∧ Q (.bl (decide (x = .non))) H) := by
  intro pins s σ H x y v u Q I rx ry h
  obtain ⟨rfl, q⟩ := h
  cases ry
  refine is_none_gen (fin_bl I q ?_)
  cases x <;> first
    | (cases rx; rfl)
    | (obtain ⟨t, rfl⟩ := rx; rfl)
theorem op_notN : OpR X (compareOp .IsNot) (fun x y H Q => y = .non ∧ Q (.bl (!decide (x = .non))) H) := by
  intro pins s σ H x y v u Q I rx ry h
  obtain ⟨rfl, q⟩ := h
  cases ry
  refine isnot_none_gen (fin_bl I q ?_)
  cases x <;> first
    | (cases rx; rfl)
    | (obtain ⟨t, rfl⟩ := rx; rfl)

theorem nomark (b : Expr) {op : CmpOp} (h : op ≠ .In := by decide) (h2 : op ≠ .NotIn := by decide) : behindInMarks op b = false := by
  have e1 : (op == CmpOp.In) = false := by cases op <;> first | rfl | exact absurd rfl h
  have e2 : (op == CmpOp.NotIn) = false := by cases op <;> first | rfl | exact absurd rfl h2
  cases b <;> simp [behindInMarks, e1, e2]
/-- a comparison as a value; hm: nomark b, or (for in, not in) by with_unfolding_all rfl -/
theorem pe_cmpR {op : CmpOp} {r : R2} (ho : OpR X (compareOp op) r) (ha : PE X a ta) (hb : PE X b tb) (hm : behindInMarks op b = false) : PE X (.Compare a [op] [b] pos) (tOp r ta tb) := by
  intro pins s σ H Q I h
  exact wpAny_Compare1 (binT ha hb I h fun v u s2 x y H2 I2 rx ry q => ho pins s2 σ H2 x y v u Q I2 rx ry q) hm
/-- a reading of a value as a test -/
def tTest (t : TE) : TT := fun σ H Q => t σ H fun x H' => ∃ k, x = .bl k ∧ Q k H'
theorem pt_cmpR {op : CmpOp} {r : R2} (ho : OpR X (compareOp op) r) (ha : PE X a ta) (hb : PE X b tb) (hm : behindInMarks op b = false) : PT X (.Compare a [op] [b] pos) (tTest (tOp r ta tb)) := by
  intro pins s σ H Q I h
  refine wpAny_isTrue_Compare1 (thn (ha pins s σ H _ I h) fun v s1 ⟨x, H1, I1, r1, q1⟩ => thn (hb pins s1 σ H1 _ I1 q1) fun u s2 ⟨y, H2, I2, r2, q2⟩ =>
    thn (ho pins s2 σ H2 x y v u _ I2 r1 r2 q2) fun c s3 ⟨z, H3, I3, r3, k, e, q3⟩ => ?_) hm
  subst e
  cases r3
  exact wpAny_truthy_bool ⟨H3, I3, q3⟩
/-! ### truth -/
/-- a value's truth by the abstract heap -/
def TruV (K : PySem.W.Frag) (x : V) (H : Hp) (k : Bool) : Prop :=
  match x with
  | .non => k = false
  | .bl b => k = b
  | .int i => k = (i != 0)
  | .str y => y.length ≤ sizeLine ∧ k = ((y.length : Int) != 0)
  | .byt y => y.size ≤ sizeLine ∧ k = ((y.size : Int) != 0)
  | .ref p => (∃ xs, SqL K H p xs ∧ k = !xs.isEmpty) ∨ (∃ xs, SqT K H p xs ∧ k = !xs.isEmpty) ∨ ∃ kvs, H p = some (.dK kvs) ∧ k = !kvs.isEmpty
  | _ => False
theorem isEmpty_kv {κ : Type} {kvs : List (κ × V)} {vs : List (κ × Value)} (r : KV kvs vs) : (!vs.isEmpty) = !kvs.isEmpty := by
  cases r <;> rfl
theorem isEmpty_of {xs : List V} {its : List Value} (r : Vals xs its) : (!its.toArray.isEmpty) = !xs.isEmpty := by
  cases r <;> simp
theorem line63 : (sizeLine : Nat) < 2 ^ 63 := by rw [sizeLine_eq]; decide
theorem tru_ok : TruR X (fun x H Q => ∃ k, TruV X.K x H k ∧ Q k H) := by
  intro pins s σ H x v Q I rx h
  obtain ⟨k, e, q⟩ := h
  have hl := line63
  have hs : sizeLine = 16777216 := sizeLine_eq
  cases x with
  | non =>
    cases rx
    have e' : k = false := e
    subst e'
    exact truthy_none ⟨H, I, q⟩
  | bl b =>
    cases rx
    have e' : k = b := e
    subst e'
    exact wpAny_truthy_bool ⟨H, I, q⟩
  | int i =>
    obtain ⟨t, rfl⟩ := rx
    have e' : k = (i != 0) := e
    subst e'
    exact PySem.P.truthy_int ⟨H, I, q⟩
  | str y =>
    obtain ⟨t, rfl⟩ := rx
    obtain ⟨hy, e'⟩ : y.length ≤ sizeLine ∧ k = ((y.length : Int) != 0) := e
    subst e'
    exact PySem.P.truthy_str (by omega) ⟨H, I.tok _, q⟩
  | byt y =>
    obtain ⟨t, rfl⟩ := rx
    obtain ⟨hy, e'⟩ : y.size ≤ sizeLine ∧ k = ((y.size : Int) != 0) := e
    subst e'
    exact PySem.W.truthy_bytes (by omega) ⟨H, I.tok _, q⟩
  | ref p =>
    cases rx
    have e' : (∃ xs, SqL X.K H p xs ∧ k = !xs.isEmpty) ∨ (∃ xs, SqT X.K H p xs ∧ k = !xs.isEmpty) ∨ ∃ kvs, H p = some (.dK kvs) ∧ k = !kvs.isEmpty := e
    rcases e' with ⟨xs, hx, e'⟩ | ⟨xs, hx, e'⟩ | ⟨kvs, hx, e'⟩
    · subst e'
      obtain ⟨its, r, pl, hz⟩ := I.list hx
      have hlen := r.length
      exact wpAny_truthy_list pl.isList (by simp only [List.size_toArray]; omega) ⟨H, I.tok _, by rw [isEmpty_of r]; exact q⟩
    · subst e'
      obtain ⟨its, r, pl, hz⟩ := I.tuple hx
      have hlen := r.length
      exact truthy_tuple pl (by simp only [List.size_toArray]; omega) ⟨H, I.tok _, by rw [isEmpty_of r]; exact q⟩
    · subst e'
      obtain ⟨hz, hS, vs, r, m⟩ : kvs.length ≤ sizeLine ∧ (p == sysModules) = false ∧ ∃ vs, KV kvs vs ∧ s.heap.DictOf (mixKind X.prog X.w) p vs := I.hok p _ hx
      have hlen : kvs.length = vs.length := Paired.length r
      exact wpAny_truthy_dict hS m (by omega) ⟨H, I.tok _, by rw [isEmpty_kv r]; exact q⟩
  | _ => exact (show False from e).elim
/-- any expression whose test is its value's truth (a name, a call, a subscript, a field ..: he by fun _ => rfl) -/
theorem pt_truth (ha : PE X a ta) (he : ∀ whole, isTrue a X.env whole = (do let v ← whole; standAt a.pos; holding [v] (truthy v))) :
    PT X a (fun σ H Q => ta σ H fun x H' => ∃ k, TruV X.K x H' k ∧ Q k H') := by
  intro pins s σ H Q I h
  exact isTrue_plain (thn (ha pins s σ H _ I h) fun v s1 ⟨x, H1, I1, r1, q1⟩ => tru_ok pins s1 σ H1 x v Q I1 r1 q1) (he _)

/-! ### strs and bytes -/
theorem op_add_str : OpR X (binaryOp .Add) (fun x y H Q => ∃ i j, x = .str i ∧ y = .str j ∧ i.length + j.length ≤ sizeLine ∧ Q (.str (i ++ j)) H) := by
  intro pins s σ H x y v u Q I rx ry h
  obtain ⟨i, j, rfl, rfl, hz, q⟩ := h
  obtain ⟨t, rfl⟩ := rx
  obtain ⟨t', rfl⟩ := ry
  exact add_str (fun t' tk => ⟨.str (i ++ j), H, I.tok _, ⟨_, rfl⟩, q⟩) hz
/-! ### scalar builtins, by CallR -/
theorem vals1 {x : V} {us : List Value} (r : Vals [x] us) : ∃ u, us = [u] ∧ RelV x u := by
  cases r with
  | cons r1 r2 => cases r2; exact ⟨_, rfl, r1⟩
end
end L2

namespace L2
open PySem PySem.Spec PyProof.Rows

/-! ### an instance, its attributes a map -/
structure ObjM (h : Heap) (x dx C : Addr) (mA : Str → Option Value) : Prop where
  obj : h.get? x = some (PySem.W.instObj C dx)
  ns : h.Ns1 dx mA
  ne : dx ≠ x

section
variable {prog : Program} {w : World} {A : Around} {E : Value → Shared → Prop} {s : Shared} {K : PySem.W.Frag} {x dx C f : Addr} {mA : Str → Option Value} {name : Str} {v : Value}

end

/-! ### the attributes as a list of pairs -/
theorem RelO.some_of {v : V} {o : Option Value} (r : RelO (some v) o) : ∃ u, o = some u ∧ RelV v u := by
  cases o with
  | none => exact (show False from r).elim
  | some u => exact ⟨u, rfl, r⟩
section
variable {P : Program} {w : World} {H H' : Hp} {h h' : Heap} {a C dx : Addr} {fs fs' : List (Str × V)}
end

/-! ### what of the text a class must have -/
structure Cls (K : PySem.W.Frag) (C : Addr) : Prop where
  pg : PySem.W.plainGet K C Str.empty = true
  hd : PySem.W.hasDictIn K C = true
  po : PySem.W.plainOver K C = true
  sa : PySem.W.findIn K (.ref C) "__setattr__" = some (some (.builtin "object.__setattr__"))
theorem Cls.get {K : PySem.W.Frag} {C : Addr} (c : Cls K C) (f : Str) : PySem.W.plainGet K C f = true := c.pg
/-- a constant of the class -/
structure Con (K : PySem.W.Frag) (C : Addr) (f : Str) (v : V) (u : Value) : Prop where
  at_ : PySem.W.findIn K (.ref C) f = some (some u)
  rel : RelV v u
  get : PySem.W.specialIn K u "__get__" = some none
  cp : PySem.W.copiedNames.contains f = false
/-- a method: a plain def of the class or of one above it -/
structure Meth (K : PySem.W.Frag) (C : Addr) (m : Str) (f : Addr) : Prop where
  at_ : PySem.W.findIn K (.ref C) m = some (some (.ref f))
  fn : PySem.W.isFn K (.ref f) = true
  kp : PySem.W.keepIn K (.ref f) = true

section
variable {X : Cx} {pins : List (Addr × Obj)} {σ : St} {H : Hp} {s : Shared} {a C dx : Addr} {fs : List (Str × V)} {f : Str} {v : V} {A : Around} {E : Value → Shared → Prop}

end

/-! ### readings and rules -/
section
variable {X : Cx} {o e value : Expr} {f : Str} {pos pos' tpos : Pos} {ta tv : TE}
end

/-! ### isinstance -/
section
variable {X : Cx} {pins : List (Addr × Obj)} {σ : St} {H : Hp} {s : Shared} {A : Around} {E : Value → Shared → Prop} {Q : Value → Shared → Prop} {c : Value} {b : Bool}
/-- the type of a value, as the fragment's deciders take it; for an instance its class -/
inductive TyOf (K : PySem.W.Frag) (H : Hp) : V → Value → Prop where
  | non : TyOf K H .non (.type "NoneType")
  | bl (x : Bool) : TyOf K H (.bl x) (.type "bool")
  | int (i : Int) : TyOf K H (.int i) (.type "int")
  | str (x : Str) : TyOf K H (.str x) (.type "str")
  | flt (x : UInt64) : TyOf K H (.flt x) (.type "float")
  | lst {a : Addr} {xs : List V} (e : H a = some (.lst xs)) : TyOf K H (.ref a) (.type "list")
  | frz {a : Addr} {o : Obj} {xs : List V} (e : H a = some (.frz o (.lst xs))) : TyOf K H (.ref a) (.type "list")
  | tup {a : Addr} {xs : List V} (e : H a = some (.tup xs)) : TyOf K H (.ref a) (.type "tuple")
  | dK {a : Addr} {kvs : List (Key × V)} (e : H a = some (.dK kvs)) : TyOf K H (.ref a) (.type "dict")
  | dT {a : Addr} {kvs : List (List Key × V)} (e : H a = some (.dT kvs)) : TyOf K H (.ref a) (.type "dict")
  | ins {a C dx : Addr} {fs : List (Str × V)} (e : H a = some (.ins C dx fs)) (cl : Cls K C) (ha : PySem.W.findIn K (.ref C) "__class__" = some (some (.builtin "object.__class__")))
      (hn : PySem.W.specialIn K (.builtin "object.__class__") "__get__" = some (some (.builtin "getset_descriptor.__get__"))) (htk : PySem.W.takesIn K (.builtin "object.__class__") = some true)
      (hm : PySem.W.mroIn K C (.type "object") = some true) : TyOf K H (.ref a) (.ref C)
end
end L2

namespace L2
open PySem PySem.Spec PyProof.Rows

/-! ### room -/
structure Room (k : Nat) (A : Around) : Prop where
  hd : A.handled = none
  dp : A.depth + 3 * k + 5 < recursionLimit
  un : A.units + 16 * k + 200 < cLine
theorem Room.mono {j k : Nat} {A : Around} (r : Room k A) (h : j ≤ k) : Room j A := ⟨r.hd, by have := r.dp; omega, by have := r.un; omega⟩
theorem Room.deeper {k : Nat} {A : Around} (r : Room (k + 1) A) (env : Env) : Room k (A.deeper env) :=
  ⟨r.hd, by have := r.dp; show A.depth + 1 + 3 * k + 5 < _; omega, by have := r.un; show A.units + 3 + 16 * k + 200 < _; omega⟩
theorem Room.depth {k : Nat} {A : Around} (r : Room k A) : A.depth < recursionLimit := by have := r.dp; omega
/-! ### argument lists and displays -/
def tNil : TA := fun _ H Q => Q [] H
def tCons (ta : TE) (tr : TA) : TA := fun σ H Q => ta σ H fun x H1 => tr σ H1 fun xs H2 => Q (x :: xs) H2
section
variable {X : Cx} {e : Expr} {es : List Expr} {te : TE} {t : TA} {pos : Pos}
theorem pa_nil : PA X [] tNil := fun _ _ _ _ H Q I h => Calls.spliced_nil ⟨[], H, I, .nil, h⟩
theorem pa_cons (ha : PE X e te) (hr : PA X es t) (hs : starEach (e :: es) X.env = (false, eval e X.env) :: starEach es X.env := by rfl) : PA X (e :: es) (tCons te t) := by
  intro pos pins s σ H Q I h
  rw [hs]
  show wpAny _ _ (spliced ((false, eval e X.env) :: backTo pos (starEach es X.env))) _ _ s
  refine Calls.spliced_cons (thn (ha pins s σ H _ I h) fun u s1 ⟨x, H1, I1, r1, q1⟩ => ?_)
  exact thn (hr pos pins s1 σ H1 _ I1 q1) fun us s2 ⟨xs, H2, I2, r2, q2⟩ => ⟨x :: xs, H2, I2, .cons r1 r2, q2⟩

/-- a tuple, a list of written items -/
def tTup (t : TA) : TE := fun σ H Q => t σ H fun xs H1 => xs.length ≤ sizeLine ∧ ∀ p, H1 p = none → Q (.ref p) (upd H1 p (.tup xs))
def tLst (t : TA) : TE := fun σ H Q => t σ H fun xs H1 => xs.length ≤ sizeLine ∧ ∀ p, H1 p = none → Q (.ref p) (upd H1 p (.lst xs))
theorem pe_tup {x1} (h : PA X es t) : PE X (.Tuple es x1 pos) (tTup t) := by
  intro pins s σ H Q I hq
  refine wpAny_Tuple_spliced (thn (h pos pins s σ H _ I hq) fun us s1 ⟨xs, H1, I1, r, z, q⟩ => ⟨by rw [← r.length]; exact z, ?_⟩)
  have hf : H1 s1.heap.objs.size = none := I1.hok.fresh (Nat.le_refl _)
  refine ⟨.ref s1.heap.objs.size, upd H1 s1.heap.objs.size (.tup xs), I1.laid (t' := s1.toks) (fun b u e => Heap.get?_push_of_some _ e) (Nat.le_refl _) ?_, rfl, q _ hf⟩
  exact ⟨z, us, r, ⟨_, Heap.get?_push_size _ rfl, rfl, _, rfl⟩⟩
theorem pe_lst (h : PA X es t) : PE X (.List es pos) (tLst t) := by
  intro pins s σ H Q I hq
  refine wpAny_List_spliced (thn (h pos pins s σ H _ I hq) fun us s1 ⟨xs, H1, I1, r, z, q⟩ => ⟨by rw [← r.length]; exact z, ?_⟩)
  have hf : H1 s1.heap.objs.size = none := I1.hok.fresh (Nat.le_refl _)
  refine ⟨.ref s1.heap.objs.size, upd H1 s1.heap.objs.size (.lst xs), I1.laid (t' := s1.toks) (fun b u e => Heap.get?_push_of_some _ e) (Nat.le_refl _) ?_, rfl, q _ hf⟩
  exact ⟨z, us, 0, r, Heap.get?_push_size _ rfl⟩
end

/-! ### what a def promises -/
/-- a def's promise: the bound arguments in the parameters' order, the heap, the wanted end, the wanted exception -/
abbrev Sp := List V → Hp → VK → XK → Prop
/-- how an exception lies behind a call (file 08 gives it): the callers' frames, abstract heap and state ahead of the call, the wish, the exception, the state -/
abbrev CXT := List Env → Hp → Shared → XK → Value → Shared → Prop

/-- the state at a call -/
structure Env0 (P : Program) (w : World) (K : PySem.W.Frag) (mg : Str → Option Value) (base : Heap) (A : Around) (outer : List Env) (s : Shared) (H : Hp) : Prop where
  frames : A.frames = some outer
  mod : Mod K mg base
  bs : ∀ b o, base.get? b = some o → s.heap.get? b = some o ∧ H b = none
  bsz : base.objs.size ≤ s.heap.objs.size
  funs : s.heap.FunFrames base outer
  frf : ∀ b ∈ frs outer, H b = none
  hok : HOk P w H s.heap
  bare : AllBare s.gens
/-- a call's end -/
def CE (outer : List Env) (P : Program) (w : World) (H : Hp) (s : Shared) (Q : VK) (u : Value) (s' : Shared) : Prop :=
  ∃ v H', s'.os = s.os ∧ AllBare s'.gens ∧ Un (frs outer) [] H H' s.heap s'.heap ∧ HOk P w H' s'.heap ∧ RelV v u ∧ Q v H'
def CR (CX : CXT) (outer : List Env) (P : Program) (w : World) (H : Hp) (s : Shared) (Q : VK) (E : XK) (r : Result) (s' : Shared) : Prop :=
  match r with
  | .ok (.ret u) => CE outer P w H s Q u s'
  | .ok _ => False
  | .error e => CX outer H s E e s'
structure FnOk (P : Program) (w : World) (K : PySem.W.Frag) (mg : Str → Option Value) (base : Heap) (CX : CXT) (k : Nat) (f : Addr) (fd : FuncData) (ps : List Str) (sp : Sp) : Prop where
  len : ∀ vs H Q E, sp vs H Q E → vs.length = ps.length
  run : ∀ (A : Around) (outer : List Env) (s : Shared) (H : Hp) (args : Args) (us : List Value) (vs : List V) (Q : VK) (E : XK), Room k A → Env0 P w K mg base A outer s H → BindsTo s fd args (ps.zip us) → Vals vs us → sp vs H Q E →
    codeAny (model P w) A (.call (.ref f) args) (CR CX outer P w H s Q E) s
theorem FnOk.mono {P : Program} {w : World} {K : PySem.W.Frag} {mg : Str → Option Value} {base : Heap} {CX : CXT} {j k : Nat} {f : Addr} {fd : FuncData} {ps : List Str} {sp : Sp} (F : FnOk P w K mg base CX j f fd ps sp) (h : j ≤ k) :
    FnOk P w K mg base CX k f fd ps sp := ⟨F.len, fun A outer s H args us vs Q E hr => F.run A outer s H args us vs Q E (hr.mono h)⟩
section
variable {X : Cx} {pins : List (Addr × Obj)} {σ : St} {H : Hp} {s s' : Shared}
/-- from a body: what a callee wants -/
theorem Inv.env0 (I : Inv X pins σ H s) : Env0 X.prog X.w X.K X.mg X.base X.A X.stack s H :=
  ⟨I.ok.frames, I.ok.mod, I.bs, Nat.le_trans I.ok.bsz I.sz, I.stack, I.stkFree, I.hok, I.bare⟩
/-- behind a call -/
theorem Inv.after {Q : VK} {u : Value} (I : Inv X pins σ H s) (h : CE X.stack X.prog X.w H s Q u s') : EP X pins σ Q u s' := by
  obtain ⟨v, H', os, bare, un, hok, r, q⟩ := h
  obtain ⟨hh, g, d, t, os'⟩ := s'
  obtain rfl : os' = s.os := os
  exact ⟨v, H', I.call (h' := hh) (g' := g) (d' := d) (t' := t) (ch := []) un hok bare (fun b z => absurd z (by simp)), r, q⟩
end

/-! ### calls -/
/-- f(..): the written arguments, then the defaults dvs; E: what is wanted of an exception -/
def tCall (sp : Sp) (dvs : List V) (E : XK) (t : TA) : TE := fun σ H Q => t σ H fun vs H1 => sp (vs ++ dvs) H1 Q E
/-- how the parameters are bound: us the positional arguments, kw the keywords' values by name, ds the defaults that fill up -/
def Binds (K : PySem.W.Frag) (fd : FuncData) (ps : List Str) (ds : List Value) : Prop :=
  ∀ (s : Shared) (us : List Value), K.In s.heap → (us ++ ds).length = ps.length → BindsTo s fd ⟨us, []⟩ (ps.zip (us ++ ds))
/-- every parameter is given -/
theorem Binds.all {K : PySem.W.Frag} {fd : FuncData} {ps : List Str} (h : ∀ us : List Value, us.length = ps.length → bindArgs fd ⟨us, []⟩ = pure (ps.zip us)) : Binds K fd ps [] := fun s us _ hl => by
  rw [List.append_nil] at hl ⊢
  exact .of_eq (h us hl)

/-- an exception of a callee reaches what this body wants of exceptions -/
def Passes (CX : CXT) (X : Cx) (E : XK) : Prop := ∀ (pins : List (Addr × Obj)) (σ : St) (H : Hp) (s : Shared) (e : Value) (s' : Shared), Inv X pins σ H s → CX X.stack H s E e s' → X.xe e s'

section
variable {X : Cx} {CX : CXT} {k : Nat} {f C : Addr} {fd : FuncData} {ps : List Str} {sp : Sp} {dvs : List V} {ds : List Value} {E : XK} {x m : Str} {p pos apos : Pos} {e o : Expr} {es : List Expr} {ta : TE} {t : TA}

/-- the callee runs -/
theorem run_fn {pins : List (Addr × Obj)} {σ : St} {H : Hp} {s : Shared} {Q : VK} {us : List Value} {vs : List V} (F : FnOk X.prog X.w X.K X.mg X.base CX k f fd ps sp) (hr : Room k X.A) (hb : Binds X.K fd ps ds) (hd : Vals dvs ds) (hx : Passes CX X E)
    (I : Inv X pins σ H s) (r : Vals vs us) (h : sp (vs ++ dvs) H Q E) : wpAny (model X.prog X.w) X.A (call (.ref f) us) (EP X pins σ Q) X.xe s := by
  have r2 : Vals (vs ++ dvs) (us ++ ds) := r.append hd
  have hl : (us ++ ds).length = ps.length := by rw [← r2.length]; exact F.len _ _ _ _ h
  refine wpAny_call (codeAny_mono (F.run X.A X.stack s H ⟨us, []⟩ (us ++ ds) (vs ++ dvs) Q E hr I.env0 (hb s us I.kIn hl) r2 h) fun r s' hq => ?_)
  cases r with
  | error e => exact hx pins σ H s e s' I hq
  | ok fl =>
    cases fl with
    | ret u => exact I.after hq
    | next => exact False.elim hq
    | brk => exact False.elim hq
    | cont => exact False.elim hq

theorem pe_call (F : FnOk X.prog X.w X.K X.mg X.base CX k f fd ps sp) (hr : Room k X.A) (hg : Gl X x) (hm : X.mg x = some (.ref f)) (hk : PySem.W.keepIn X.K (.ref f) = true) (hb : Binds X.K fd ps ds) (hd : Vals dvs ds) (hx : Passes CX X E)
    (ha : PA X (e :: es) t) (hdb : (x == ("__debug__" : Str)) = false := by decide) (he : starEach (e :: es) X.env = (false, eval e X.env) :: starEach es X.env := by rfl) (hpl : (backTo pos (starEach es X.env)).any (·.1) = false := by rfl) :
    PE X (.Call (.Name x p) (e :: es) [] pos) (tCall sp dvs E t) := by
  intro pins s σ H Q I h
  refine wpAny_Call_Name_kw (ld_glob I hg hm ?_ hdb)
  refine PySem.W.callWith_K (h₀ := X.base) I.ok.mod.kin hk (thn (ha pos pins s σ H _ I h) fun us s1 ⟨vs, H1, I1, r, q⟩ => ⟨I1.kIn, ?_⟩) he hpl
  exact run_fn F hr hb hd hx I1 r q
/-- what a class must have to be made -/
structure Mk (K : PySem.W.Frag) (C f : Addr) : Prop where
  makes : PySem.W.makesIn K C = true
  init : PySem.W.findIn K (.ref C) "__init__" = some (some (.ref f))
  fn : PySem.W.isFn K (.ref f) = true
  kp : PySem.W.keepIn K (.ref C) = true

end

/-! ### keywords -/
section
variable {X : Cx} {CX : CXT} {k : Nat} {f C : Addr} {fd : FuncData} {ps ks : List Str} {sp : Sp} {E : XK} {x m : Str} {p pos apos kpos : Pos} {e o : Expr} {es : List Expr} {kws : List Keyword} {te ta : TE} {t tk : TA} {nm : Option Str}
/-- how a call with keywords binds: g puts the positional values us and the keywords' values ws (names ks) in the parameters' order, defaults among them -/
structure KBinds (K : PySem.W.Frag) (fd : FuncData) (ps ks : List Str) (g : List Value → List Value → List Value) (gV : List V → List V → List V) : Prop where
  to : ∀ (s : Shared) (us ws : List Value), K.In s.heap → (g us ws).length = ps.length → BindsTo s fd ⟨us, ks.zip ws⟩ (ps.zip (g us ws))
  rel : ∀ {vs : List V} {us : List Value} {zs : List V} {ws : List Value}, Vals vs us → Vals zs ws → Vals (gV vs zs) (g us ws)
variable {g : List Value → List Value → List Value} {gV : List V → List V → List V}
end

/-! ### a def's body keeps its promise -/
/-- names: the parameters first -/
structure FnScope (N P : List Str) (sc : Scope) : Prop where
  kind : sc.kind = .function
  co : sc.isCoroutine = false
  gen : sc.isGenerator = false
  nd : N.Nodup
  pre : N.take P.length = P
  par : ∀ x ∈ P, sc.names.lookup x = some .local ∨ sc.names.lookup x = some .cell
  nofree : ∀ y ∈ sc.names, y.2 ≠ .free

theorem bindL_out {kindOf : Str → Option NameKind} {x : Str} : ∀ {binds : List (Str × Value)} {m : Str → Option Value}, (∀ v, (x, v) ∉ binds) → bindL kindOf binds m x = m x
  | [], _, _ => rfl
  | (n, v) :: r, m, h => by
    unfold bindL
    rw [bindL_out fun w hw => h w (List.mem_cons_of_mem _ hw)]
    split
    · have : x ≠ n := by rintro rfl; exact h v List.mem_cons_self
      simp [this]
    · rfl
theorem bindC_out {kindOf : Str → Option NameKind} {x : Str} : ∀ {binds : List (Str × Value)} {m : Str → Option Value}, (∀ v, (x, v) ∉ binds) → bindC kindOf binds m x = m x
  | [], _, _ => rfl
  | (n, v) :: r, m, h => by
    unfold bindC
    rw [bindC_out fun w hw => h w (List.mem_cons_of_mem _ hw)]
    split
    · rfl
    · have : x ≠ n := by rintro rfl; exact h v List.mem_cons_self
      simp [this]
theorem bindL_get {kindOf : Str → Option NameKind} {x : Str} {v : Value} : ∀ {P : List Str} {vs : List Value} {i : Nat} {m : Str → Option Value}, P.Nodup → P[i]? = some x → vs[i]? = some v → kindOf x = some .local →
    bindL kindOf (P.zip vs) m x = some v
  | [], _, _, _, _, h, _, _ => by simp at h
  | _ :: _, [], _, _, _, _, h, _ => by simp at h
  | p :: P, w :: vs, 0, m, nd, h1, h2, hk => by
    simp at h1 h2; subst h1; subst h2
    show bindL kindOf ((p, w) :: P.zip vs) m p = _
    unfold bindL
    rw [bindL_out fun v hv => (List.nodup_cons.mp nd).1 (List.of_mem_zip hv).1, if_pos hk]
    simp
  | p :: P, w :: vs, i + 1, m, nd, h1, h2, hk => by
    show bindL kindOf ((p, w) :: P.zip vs) m x = _
    unfold bindL
    exact bindL_get (i := i) (List.nodup_cons.mp nd).2 (by simpa using h1) (by simpa using h2) hk
theorem bindC_get {kindOf : Str → Option NameKind} {x : Str} {v : Value} : ∀ {P : List Str} {vs : List Value} {i : Nat} {m : Str → Option Value}, P.Nodup → P[i]? = some x → vs[i]? = some v → kindOf x ≠ some .local →
    bindC kindOf (P.zip vs) m x = some v
  | [], _, _, _, _, h, _, _ => by simp at h
  | _ :: _, [], _, _, _, _, h, _ => by simp at h
  | p :: P, w :: vs, 0, m, nd, h1, h2, hk => by
    simp at h1 h2; subst h1; subst h2
    show bindC kindOf ((p, w) :: P.zip vs) m p = _
    unfold bindC
    rw [bindC_out fun v hv => (List.nodup_cons.mp nd).1 (List.of_mem_zip hv).1, if_neg hk]
    simp
  | p :: P, w :: vs, i + 1, m, nd, h1, h2, hk => by
    show bindC kindOf ((p, w) :: P.zip vs) m x = _
    unfold bindC
    exact bindC_get (i := i) (List.nodup_cons.mp nd).2 (by simpa using h1) (by simpa using h2) hk

/-- the names' values at the entry -/
def start (N : List Str) (vs : List V) : St := vs.map some ++ List.replicate (N.length - vs.length) none

/-- the context of a def's body, at its entry; an exception leaves the frame, then lies as CX says -/
def cxOf (CX : CXT) (P : Program) (w : World) (K : PySem.W.Frag) (mg : Str → Option Value) (base : Heap) (N : List Str) (qual : Str) (scope : Scope) (f : Addr) (cd : Value) (A : Around) (outer : List Env) (s : Shared) (H : Hp) (E : XK) : Cx where
  prog := P
  w := w
  K := K
  mg := mg
  base := base
  A := A.deeper (envOfC qual scope s.heap.objs.size f cd)
  N := N
  s₀ := s
  H₀ := H
  env := envOfC qual scope s.heap.objs.size f cd
  outer := outer
  stack := envOfC qual scope s.heap.objs.size f cd :: outer
  ex := []
  calm := true
  fn := fun _ => true
  pn := []
  xe := fun e s' => wpAny (model P w) (A.deeper (envOfC qual scope s.heap.objs.size f cd)) (leaving (envOfC qual scope s.heap.objs.size f cd) e) (fun _ s'' => CX outer H s E e s'') (fun e' s'' => CX outer H s E e' s'') s'

theorem cell_has {sc : Scope} {n : Nat} {x : Str} (h : sc.names.lookup x = some .cell) : ∃ c, (cellsFrom n sc.names []).lookup x = some c := by
  have q := PySem.W.cellsFrom_some sc.names n [] (.inl h)
  exact Option.isSome_iff_exists.mp q

theorem inv_start {CX : CXT} {P : Program} {w : World} {K : PySem.W.Frag} {mg : Str → Option Value} {base : Heap} {N ps : List Str} {qual : Str} {scope : Scope} {f : Addr} {cd : Value} {A : Around} {outer : List Env} {s s1 : Shared} {H : Hp} {E : XK} {us : List Value} {vs : List V}
    (S : FnScope N ps scope) (hd : A.handled = none) (e0 : Env0 P w K mg base A outer s H) (hl : vs.length = ps.length) (r : Vals vs us)
    (x : InCallC s s.heap.objs.size (bindL (envOfC qual scope s.heap.objs.size f cd).kindOf (ps.zip us) fun _ => none) (cellsFrom (s.heap.objs.size + 1) scope.names []) (bindC (envOfC qual scope s.heap.objs.size f cd).kindOf (ps.zip us) fun _ => none) s1) :
    Inv (cxOf CX P w K mg base N qual scope f cd A outer s H E) [] (start N vs) H s1 := by
  have hpl : ps.length ≤ N.length := by have := congrArg List.length S.pre; rw [List.length_take] at this; omega
  obtain ⟨h1, tk, rfl, hk⟩ := x.done
  have noA : ∀ b : Addr, b ∉ (cxOf CX P w K mg base N qual scope f cd A outer s H E).ex := fun b z => absurd (show b ∈ ([] : List Addr) from z) (by simp)
  refine ⟨⟨e0.mod, S.kind, rfl, rfl, Nat.le_refl _, fun y z c h1 h2 => ?_, fun y hy => ?_, fun y c _ h => ?_, fun _ => hd, Around.frames_deeper e0.frames, .inr ⟨rfl, rfl⟩, fun b z => absurd z (noA b), e0.bs, e0.bsz, fun b _ _ => noA b, fun b z => absurd z (noA b), e0.funs, e0.frf⟩,
    rfl, e0.bare, Un.kept hk, ⟨_, x.toInCall.ns, fun i y v h1 h2 h3 => ?_⟩, fun y c h => ⟨_, x.cell y c h⟩, e0.hok.fresh (Nat.le_refl _), fun y c h => ?_, fun p hp => absurd (show p ∈ ([] : List (Addr × Obj)) from hp) (by simp), e0.hok.kept hk, ?_⟩
  · exact name_of_addr x.apart (PySem.mem_of_lookup h1) (PySem.mem_of_lookup h2)
  · have hy : scope.names.lookup y = some .cell ∨ scope.names.lookup y = some .free := hy
    rcases hy with hy | hy
    · exact cell_has hy
    · exact absurd rfl (S.nofree _ (PySem.mem_of_lookup hy))
  · exact Nat.le_of_lt (x.above y c (PySem.mem_of_lookup h))
  · have hi : i < vs.length := by
      unfold start at h2
      by_cases hi : i < vs.length
      · exact hi
      · rw [List.getElem?_append_right (by simpa using hi)] at h2
        rw [List.getElem?_replicate] at h2
        split at h2 <;> cases h2
    have ha : vs[i]? = some v := by
      unfold start at h2
      rw [List.getElem?_append_left (by simpa using hi), List.getElem?_map] at h2
      cases e : vs[i]? with
      | none => rw [e] at h2; cases h2
      | some a => rw [e] at h2; cases h2; rfl
    obtain ⟨u, hu, rv⟩ := r.get ha
    have hp : ps[i]? = some y := by
      rw [← S.pre, List.getElem?_take_of_lt (by omega)]; exact h1
    have ndP : ps.Nodup := by rw [← S.pre]; exact S.nd.sublist (List.take_sublist _ _)
    refine ⟨u, rv, ?_⟩
    rcases S.par y (List.mem_of_getElem? hp) with k | k
    · exact .inl ⟨k, bindL_get ndP hp hu k⟩
    · obtain ⟨c, e⟩ := cell_has (n := s.heap.objs.size + 1) k
      refine .inr ⟨.inl k, c, e, ?_⟩
      have q := x.cell y c e
      rw [bindC_get ndP hp hu (by show scope.names.lookup y ≠ _; rw [k]; decide)] at q
      exact q
  · exact e0.hok.fresh (Nat.le_of_lt (x.above y c (PySem.mem_of_lookup h)))
  · unfold start
    show _ = N.length
    rw [List.length_append, List.length_map, List.length_replicate]
    omega

/-- THE RULE: a def (or a method) of the text, by its body. The body's reading t is chosen for each entry; it is run at the parameters' values -/
theorem fn_of {CX : CXT} {P : Program} {w : World} {K : PySem.W.Frag} {mg : Str → Option Value} {base : Heap} {k : Nat} {f : Addr} {name qual : Str} {params : Arguments} {body : List Stmt} {scope : Scope} {dV kV doc pm cdv ct oc : Value} {an od : Option Addr}
    {osl : Array (Option Value)} {N ps : List Str} {sp : Sp} (lk : K.lookup f = some ⟨oc, od, .func (PySem.W.fnOf name qual params body scope dV kV doc pm an cdv ct), osl⟩) (hcd : PySem.W.codeIn K cdv qual = true) (S : FnScope N ps scope)
    (len : ∀ vs H Q E, sp vs H Q E → vs.length = ps.length)
    (hbody : ∀ (A : Around) (outer : List Env) (s : Shared) (H : Hp) (vs : List V) (Q : VK) (E : XK), Room k (A.deeper (envOfC qual scope s.heap.objs.size f cdv)) → sp vs H Q E →
      ∃ t, PSs (cxOf CX P w K mg base N qual scope f cdv A outer s H E) body t ∧ t { nx := fun _ H' => Q .non H', rt := Q } (start N vs) H) :
    FnOk P w K mg base CX (k + 1) f (PySem.W.fnOf name qual params body scope dV kV doc pm an cdv ct) ps sp := by
  refine ⟨len, fun A outer s H args us vs Q E hr e0 hb r hsp => ?_⟩
  have hl := len _ _ _ _ hsp
  have KX : K.In s.heap := e0.mod.kin.keeps fun b o e => (e0.bs b o e).1
  have lim : s.heap.NoLimit := e0.mod.nolimit.keeps fun b o e => (e0.bs b o e).1
  have hkind : ∀ y ∈ ps.zip us, scope.names.lookup y.1 = some .local ∨ (scope.names.lookup y.1 = some .cell ∧ ((cellsFrom (s.heap.objs.size + 1) scope.names []).lookup y.1).isSome = true) := fun ⟨n, v⟩ hy => by
    rcases S.par n (List.of_mem_zip hy).1 with q | q
    · exact .inl q
    · exact .inr ⟨q, PySem.W.cellsFrom_some _ _ _ (.inl q)⟩
  refine codeAny_call_function hr.depth (KX _ _ lk) rfl S.co S.gen rfl (PySem.W.codeRec_of KX hcd) (hb _ _ _ _ ?_)
  refine wpAny_newFunctionEnv_cells S.kind hkind fun env he s1 x => ?_
  subst he
  refine ⟨lim.keeps x.toInCall.keep, codeAny_func ?_⟩
  obtain ⟨t, ht, hq⟩ := hbody A outer s H vs Q E (hr.deeper _) hsp
  have I : Inv (cxOf CX P w K mg base N qual scope f cdv A outer s H E) [] (start N vs) H s1 := inv_start S hr.hd e0 hl r x
  refine wpAny_mono (ht [] s1 (start N vs) H _ I hq) (fun fl s' hs => ?_) fun e s' hs => hs
  have fin : ∀ {σ' : St} {H' : Hp} {v : V} {u : Value}, Inv (cxOf CX P w K mg base N qual scope f cdv A outer s H E) [] σ' H' s' → RelV v u → Q v H' → CE outer P w H s Q u s' :=
    fun {σ' H' v u} J rv q => ⟨v, H', J.os, J.bare, J.base, J.hok, rv, q⟩
  cases fl with
  | ret u =>
    obtain ⟨v, σ', H', J, rv, q⟩ := hs
    exact fin J rv q
  | next =>
    obtain ⟨σ', H', J, q⟩ := hs
    exact fin (v := V.non) (u := Value.none) J rfl q
  | brk =>
    obtain ⟨_, _, _, q⟩ := hs
    exact False.elim q
  | cont =>
    obtain ⟨_, _, _, q⟩ := hs
    exact False.elim q
end L2

namespace L2
open PySem PySem.Spec PyProof.Rows
section
variable {X : Cx} {x : Str} {p pos : Pos} {e : Expr} {es : List Expr} {t : TA} {id T : String} {r : List V → Hp → VK → Prop}

def tCB (r : List V → Hp → VK → Prop) (t : TA) : TE := fun σ H Q => t σ H fun vs H1 => r vs H1 Q
/-- f(e, ..), f a built-in function -/
theorem pe_callB (hc : CallR X (.builtin id) r) (hg : Gl X x) (hm : X.mg x = none) (hv : bootBuiltins x = some (.builtin id)) (ha : PA X (e :: es) t) (hn : x ≠ "__name__" := by decide) (hdb : (x == ("__debug__" : Str)) = false := by decide)
    (he : starEach (e :: es) X.env = (false, eval e X.env) :: starEach es X.env := by rfl) (hpl : (backTo pos (starEach es X.env)).any (·.1) = false := by rfl) : PE X (.Call (.Name x p) (e :: es) [] pos) (tCB r t) := by
  intro pins s σ H Q I h
  refine wpAny_Call_Name_kw (ld_blt I hg hm hv ?_ hn hdb)
  exact PyProof.Rows.callWith_builtin1 (thn (ha pos pins s σ H _ I h) fun us s1 ⟨vs, H1, I1, r1, q1⟩ => hc pins s1 σ H1 vs us Q I1 r1 q1) he hpl
end
end L2

namespace HT
open PySem PyProof.Rows

section
open PySem.SeqAt
open PySem.AutoSeq1 (wpAny_loadPart')
open PySem.MeetsSeq PySem.MeetsSeq2 PySem.MeetsSeq3

end

section
variable {prog : Program} {w : World} {A : Around} {E : Value → Shared → Prop} {s : Shared}

/-- t + u, t not empty -/
theorem cat_tup {t b : Addr} {vs ws : List Value} {Q : Value → Shared → Prop} (ht : IsTup s.heap t vs.toArray) (hb : IsTup s.heap b ws.toArray) (hv : vs ≠ [])
    (h1 : ws = [] → Q (.ref t) s) (h2 : ws ≠ [] → Q (.ref s.heap.objs.size) { s with heap := s.heap.push { cls := .type "tuple", data := .seq (vs ++ ws).toArray } })
    (hsz : vs.length + ws.length ≤ sizeLine) : wpAny (model prog w) A (binaryOp .Add (.ref t) (.ref b)) Q E s := by
  obtain ⟨⟨cls, dd, data, sl⟩, ho, hc, n, hd⟩ := id ht
  obtain ⟨⟨cls2, dd2, data2, sl2⟩, ho2, hc2, n2, hd2⟩ := id hb
  simp only at hc hd hc2 hd2
  subst hc hd hc2 hd2
  have e : vs.toArray ++ ws.toArray = (vs ++ ws).toArray := by simp
  by_cases hw : ws = []
  · exact concat_meets ⟨_, ho, rfl⟩ ⟨_, ho2, rfl⟩ noFill_tuple_add seq_tuple_add PySem.F.slot_tuple_add PySem.F.entry_tuple_add (PySem.F.args_tuple_add_2 _ _)
      (tuple_addW1 t b vs.toArray ws.toArray n n2 dd dd2 sl sl2 (by simpa using hv) (by simp [hw])) ⟨ho, ho2, h1 hw⟩
  · refine concat_meets ⟨_, ho, rfl⟩ ⟨_, ho2, rfl⟩ noFill_tuple_add seq_tuple_add PySem.F.slot_tuple_add PySem.F.entry_tuple_add (PySem.F.args_tuple_add_2 _ _)
      (tuple_addW2 t b vs.toArray ws.toArray n n2 dd dd2 sl sl2 (by simpa using hv) (by simpa using hw) (by rw [List.size_toArray, List.size_toArray]; exact hsz)) ⟨ho, ho2, ?_⟩
    rw [e]
    exact h2 hw

/-! ### t[a:b], not the whole -/
/-- a slice's bound as a place among n (d where it is left out) -/
def sIx (n d : Nat) : Option Int → Nat
  | none => d
  | some v => if v < 0 then (v + (n : Int)).toNat else min v.toNat n
theorem sIx_none (n d : Nat) : sIx n d none = d := rfl
theorem sIx_nat (n d k : Nat) : sIx n d (some (k : Int)) = min k n := by
  show (if (k : Int) < 0 then ((k : Int) + (n : Int)).toNat else min (k : Int).toNat n) = min k n
  rw [if_neg (by omega), Int.toNat_natCast]
theorem sIx_le (n d : Nat) (hd : d ≤ n) (o : Option Int) : sIx n d o ≤ n := by
  cases o with
  | none => exact hd
  | some v =>
    show (if v < 0 then (v + (n : Int)).toNat else min v.toNat n) ≤ n
    by_cases hv : v < 0
    · rw [if_pos hv]; omega
    · rw [if_neg hv]; exact Nat.min_le_right _ _
theorem clip_eq (v : Int) (n d : Nat) : (if v < 0 then max (v + (n : Int)) 0 else min v (n : Int)) = ((sIx n d (some v) : Nat) : Int) := by
  show (if v < 0 then max (v + (n : Int)) 0 else min v (n : Int)) = (((if v < 0 then (v + (n : Int)).toNat else min v.toNat n) : Nat) : Int)
  by_cases hv : v < 0
  · simp only [if_pos hv]; omega
  · simp only [if_neg hv]; omega
theorem adjust_gen (lo hi : Option Int) (n : Nat) : Builtin.Slice.sliceAdjust lo hi 1 (n : Int) = (((sIx n 0 lo : Nat) : Int), ((sIx n n hi : Nat) : Int)) := by
  have h1 : ¬ ((1 : Int) < 0) := by omega
  unfold Builtin.Slice.sliceAdjust
  simp only [h1, if_false]
  refine Prod.ext ?_ ?_
  · cases lo with
    | none => rfl
    | some v => exact clip_eq v n 0
  · cases hi with
    | none => rfl
    | some v => exact clip_eq v n n
theorem places_gen (i j : Nat) : Builtin.Slice.slicePlaces (i : Int) (j : Int) 1 = j - i := by
  unfold Builtin.Slice.slicePlaces
  have h1 : (1 : Int) > 0 := by omega
  simp only [h1, if_true, Int.ediv_one]
  split <;> omega
theorem slicePart_ {v : Value} {o : Option Int} {Q : Option Int → Shared → Prop} (p : IsPart v o) (h : Q o s) : wpAny (model prog w) A (Builtin.Slice.slicePartIndex v) Q E s := by
  cases p with
  | none => exact slicePart_none h
  | int i t => exact slicePart_int h
theorem sliceApplied_gen {sl : Addr} {vl vu : Value} {lo hi : Option Int} {n : Nat} {Q : Int × Int × Nat → Shared → Prop} (hs : s.heap.IsSliceOf sl vl vu .none) (pl : IsPart vl lo) (pu : IsPart vu hi)
    (h : Q (((sIx n 0 lo : Nat) : Int), 1, sIx n n hi - sIx n 0 lo) s) : wpAny (model prog w) A (Builtin.Slice.sliceApplied (.ref sl) (pure (n : Int))) Q E s := by
  obtain ⟨os, hos, hcs, hds⟩ := id hs
  unfold Builtin.Slice.sliceApplied Builtin.Slice.sliceFields
  refine wpAny_bind (wpAny_bind (wpAny_field hos hds (x := vl) rfl (wpAny_bind (wpAny_field hos hds (x := vu) rfl (wpAny_bind (wpAny_field hos hds (x := .none) rfl (wpAny_pure ?_)))))))
  refine wpAny_bind (slicePart_none ?_)
  show wpAny _ _ (if ((1 : Int) == 0) = true then _ else _) _ _ s
  rw [if_neg (by decide)]
  refine wpAny_bind (slicePart_ pl (wpAny_bind (slicePart_ pu (wpAny_bind (wpAny_pure ?_)))))
  show wpAny _ _ (match Builtin.Slice.sliceAdjust lo hi 1 (n : Int) with | (lo, hi) => pure (lo, (1 : Int), Builtin.Slice.slicePlaces lo hi 1)) _ _ s
  rw [adjust_gen lo hi n]
  show wpAny _ _ (pure (((sIx n 0 lo : Nat) : Int), (1 : Int), Builtin.Slice.slicePlaces ((sIx n 0 lo : Nat) : Int) ((sIx n n hi : Nat) : Int) 1)) _ _ s
  rw [places_gen]
  exact wpAny_pure h
theorem pick_gen (xs : Array Value) (i k : Nat) : ((List.range k).filterMap fun (m : Nat) => xs[((i : Int) + (m : Int) * 1).toNat]?).toArray = ((xs.toList.drop i).take k).toArray := by
  have e : (fun (m : Nat) => xs[((i : Int) + (m : Int) * 1).toNat]?) = fun m => xs[i + m]? := by
    funext m
    have : ((i : Int) + (m : Int) * 1).toNat = i + m := by omega
    rw [this]
  rw [e]
  have := pick_run xs i k
  rw [List.filterMap_map] at this
  have e2 : ((fun x => xs[x]?) ∘ fun x => i + x) = fun m => xs[i + m]? := rfl
  rw [e2] at this
  rw [this]

theorem getItem_tuple_cut {t sl : Addr} {items : Array Value} {vl vu : Value} {lo hi : Option Int} {Q : Value → Shared → Prop} (ht : IsTup s.heap t items) (hs : s.heap.IsSliceOf sl vl vu .none) (pl : IsPart vl lo) (pu : IsPart vu hi)
    (hw : ¬ (sIx items.size 0 lo = 0 ∧ sIx items.size items.size hi = items.size))
    (h : Q (.ref s.heap.objs.size) { s with heap := s.heap.push { cls := .type "tuple", data := .seq ((items.toList.drop (sIx items.size 0 lo)).take (sIx items.size items.size hi - sIx items.size 0 lo)).toArray } })
    (hsz : items.size ≤ sizeLine) : wpAny (model prog w) A (getItem (.ref t) (.ref sl)) Q E s := by
  have htake : sizeOk (.seq ((items.toList.drop (sIx items.size 0 lo)).take (sIx items.size items.size hi - sIx items.size 0 lo)).toArray) := by
    show ((items.toList.drop (sIx items.size 0 lo)).take (sIx items.size items.size hi - sIx items.size 0 lo)).toArray.size ≤ sizeLine
    rw [List.size_toArray, List.length_take, List.length_drop, Array.length_toList]
    omega
  have hj : sIx items.size items.size hi ≤ items.size := sIx_le _ _ (Nat.le_refl _) hi
  obtain ⟨os, hos, hcs, hds⟩ := id hs
  have hTs : s.TypeIs (.ref sl) "slice" := ⟨os, hos, hcs⟩
  unfold getItem
  try with_reducible refine wpAny_holding ?_
  first | refine wpAny_bind (wpAny_pure ?_) | skip
  refine wpAny_bind (wpAny_sequenceKey ht.typeIs (by decide) ?_)
  refine wpAny_bind (wpAny_callSpecial?_slot (name := Str.ofString "__getitem__") ht.typeIs PyProof.Rows.slot_tuple_getitem
    (wpAny_call_entry PyProof.Rows.slot_tuple_getitem ht.typeIs entry_tuple_getitem ?_ (args_tuple_getitem _ _)))
  show wpAny _ _ (Builtin.Tuple.tupleItemsOf (.ref t) >>= _) _ _ s
  refine wpAny_bind (tupleItemsOf_ ht ?_)
  refine wpAny_bind (wpAny_typeOf hTs ?_)
  rw [if_pos (by decide)]
  refine wpAny_bind (sliceApplied_gen hs pl pu ?_)
  have hno : ¬ ((((sIx items.size 0 lo : Nat) : Int) == 0 && (1 : Int) == 1 && (sIx items.size items.size hi - sIx items.size 0 lo) == items.size) = true) := by
    intro q
    rw [Bool.and_eq_true, Bool.and_eq_true] at q
    have q1 : ((sIx items.size 0 lo : Nat) : Int) = 0 := eq_of_beq q.1.1
    have q2 : sIx items.size items.size hi - sIx items.size 0 lo = items.size := eq_of_beq q.2
    exact hw ⟨by omega, by omega⟩
  show wpAny _ _ (if (((sIx items.size 0 lo : Nat) : Int) == 0 && (1 : Int) == 1 && (sIx items.size items.size hi - sIx items.size 0 lo) == items.size) = true then _ else _) _ _ s
  rw [if_neg hno, pick_gen]
  first
    | exact wpAny_bind (m := Builtin.Tuple.tupleExact _) (wpAny_newObj_type (wpAny_pure ⟨_, rfl, wpAny_pure h⟩) htake)
    | exact wpAny_bind (m := Builtin.Tuple.tupleExact _) (wpAny_newObj_type (wpAny_bind (wpAny_pure (wpAny_pure ⟨_, rfl, wpAny_pure h⟩))) htake)
    | exact wpAny_bind (wpAny_bind (m := Builtin.Tuple.tupleExact _) (wpAny_newObj_type (wpAny_pure (wpAny_pure ⟨_, rfl, wpAny_pure h⟩)) htake))
    | exact wpAny_bind (wpAny_bind (m := Builtin.Tuple.tupleExact _) (wpAny_newObj_type (wpAny_pure ⟨_, rfl, wpAny_pure h⟩) htake))
end
end HT

namespace L2
open PySem PySem.Spec PyProof.Rows

/-! ### the parts of a slice -/
abbrev TO := St → Hp → (Option Int → Hp → Prop) → Prop
/-- a slice's part (left out, or an int) -/
def PO (X : Cx) (e : Option Expr) (t : TO) : Prop :=
  ∀ (pins : List (Addr × Obj)) (s : Shared) (σ : St) (H : Hp) (Q : Option Int → Hp → Prop), Inv X pins σ H s → t σ H Q →
    wpAny (model X.prog X.w) X.A (evalPart e X.env) (fun u s' => ∃ o H', Inv X pins σ H' s' ∧ IsPart u o ∧ Q o H') X.xe s
def tNoPart : TO := fun _ H Q => Q none H
def tPart (t : TE) : TO := fun σ H Q => t σ H fun x H1 => ∃ i, x = .int i ∧ Q (some i) H1

theorem intsAre_of {ns : List Int} : ∀ {us : List Value}, Vals (ns.map V.int) us → IntsAre us ns := by
  induction ns with
  | nil => intro us r; rw [List.map_nil] at r; cases r; exact .nil
  | cons n ns ih =>
    intro us r
    rw [List.map_cons] at r
    cases r with
    | cons r1 r2 =>
      obtain ⟨t, e⟩ := r1
      subst e
      exact .cons n t (ih r2)

section
variable {X : Cx} {e : Expr} {te : TE} {lo hi : Option Expr} {tl th : TO} {pos p2 : Pos}

theorem po_none : PO X none tNoPart := by
  intro pins s σ H Q I h
  rw [evalPart_none]
  exact wpAny_pure ⟨none, H, I, .none, h⟩
theorem po_some (h : PE X e te) : PO X (some e) (tPart te) := by
  intro pins s σ H Q I hw
  rw [evalPart_some]
  refine thn (h pins s σ H _ I hw) fun u s1 ⟨x, H1, I1, r1, q1⟩ => ?_
  obtain ⟨i, rfl, q⟩ := q1
  obtain ⟨t, rfl⟩ := r1
  exact ⟨some i, H1, I1, .int i t, q⟩

/-- what a slice of a value is, by values: the slice object stands at sl -/
def SlR (X : Cx) (r : V → Option Int → Option Int → Hp → VK → Prop) : Prop :=
  ∀ (pins : List (Addr × Obj)) (s : Shared) (σ : St) (H : Hp) (x : V) (v vl vu : Value) (lo hi : Option Int) (sl : Addr) (Q : VK), Inv X pins σ H s → RelV x v → s.heap.IsSliceOf sl vl vu .none → IsPart vl lo → IsPart vu hi → r x lo hi H Q →
    ∃ T id, typeLookup (.type T) "__getitem__" = pure (some (.builtin id)) ∧ s.TypeIs v T ∧ wpAny (model X.prog X.w) X.A (getItem v (.ref sl)) (EP X pins σ Q) X.xe s
def tSl (r : V → Option Int → Option Int → Hp → VK → Prop) (te : TE) (tl th : TO) : TE := fun σ H Q => te σ H fun x H1 => tl σ H1 fun l H2 => th σ H2 fun u H3 => r x l u H3 Q
/-- a[lo:hi], any a -/
theorem pe_slice {r : V → Option Int → Option Int → Hp → VK → Prop} (hr : SlR X r) (he : PE X e te) (hl : PO X lo tl) (hu : PO X hi th) : PE X (.Subscript e (.Slice lo hi none p2) pos) (tSl r te tl th) := by
  intro pins s σ H Q I h
  refine Subscript_ (thn (he pins s σ H _ I h) fun v s1 ⟨x, H1, I1, r1, q1⟩ => ?_)
  refine wpAny_Slice (thn (hl pins s1 σ H1 _ I1 q1) fun vl s2 ⟨l, H2, I2, pl, q2⟩ => thn (hu pins s2 σ H2 _ I2 q2) fun vu s3 ⟨u, H3, I3, pu, q3⟩ => ?_)
  rw [evalPart_none]
  refine wpAny_pure ?_
  have I4 : Inv X pins σ H3 { s3 with heap := s3.heap.push { cls := .type "slice", data := .fields #[vl, vu, .none] } } := I3.kept (t' := s3.toks) fun b ob q => Heap.get?_push_of_some _ q
  obtain ⟨T, id, hT, ht, hg⟩ := hr pins { s3 with heap := s3.heap.push { cls := .type "slice", data := .fields #[vl, vu, .none] } } σ H3 x v vl vu l u s3.heap.objs.size Q I4 r1 (Heap.IsSliceOf.new ..) pl pu q3
  show wpAny (model X.prog X.w) X.A (subscriptTail e (.Slice lo hi none p2) v (.ref s3.heap.objs.size)) (EP X pins σ Q) X.xe { s3 with heap := s3.heap.push { cls := .type "slice", data := .fields #[vl, vu, .none] } }
  exact tail_any (ops := [.ref s3.heap.objs.size, v]) ht hT hg (by with_unfolding_all rfl)

/-- the items of xs[lo:hi] -/
def cutV (xs : List V) (lo hi : Option Int) : List V := (xs.drop (HT.sIx xs.length 0 lo)).take (HT.sIx xs.length xs.length hi - HT.sIx xs.length 0 lo)
theorem cutV_length (xs : List V) (lo hi : Option Int) : (cutV xs lo hi).length ≤ xs.length := by
  unfold cutV
  rw [List.length_take, List.length_drop]
  omega
/-- t[lo:hi], not the whole of it (the whole would be t itself) -/
def rSlT (K : PySem.W.Frag) : V → Option Int → Option Int → Hp → VK → Prop := fun x lo hi H Q => ∃ a xs, x = .ref a ∧ SqT K H a xs ∧
  ¬ (HT.sIx xs.length 0 lo = 0 ∧ HT.sIx xs.length xs.length hi = xs.length) ∧ ∀ p, H p = none → Q (.ref p) (upd H p (.tup (cutV xs lo hi)))
theorem sl_tup : SlR X (rSlT X.K) := by
  intro pins s σ H x v vl vu lo hi sl Q I rx hs pl pu h
  obtain ⟨a, xs, rfl, hx, hw, q⟩ := h
  cases rx
  obtain ⟨its, r, ht, hz⟩ := I.tuple hx
  have hlen : its.toArray.size = xs.length := by rw [List.size_toArray]; exact r.length.symm
  refine ⟨"tuple", _, PyProof.Rows.slot_tuple_getitem.lookup, ht.typeIs, ?_⟩
  refine HT.getItem_tuple_cut ht hs pl pu (by rw [hlen]; exact hw) ?_ (by rw [hlen]; exact hz)
  rw [hlen]
  refine ⟨.ref s.heap.objs.size, _, I.laid (t' := s.toks) (o := .tup (cutV xs lo hi)) (fun b ob q => Heap.get?_push_of_some _ q) (Nat.le_refl _) ?_, rfl, q _ (I.hok.fresh (Nat.le_refl _))⟩
  exact ⟨Nat.le_trans (cutV_length xs lo hi) hz, _, (r.drop (HT.sIx xs.length 0 lo)).take (HT.sIx xs.length xs.length hi - HT.sIx xs.length 0 lo), IsTup.new _ _⟩

/-! ### t < u, t + u -/
/-- t + u, t not empty: u empty gives t itself -/
def rCatT (K : PySem.W.Frag) : R2 := fun x y H Q => ∃ a b xs ys, x = .ref a ∧ y = .ref b ∧ SqT K H a xs ∧ SqT K H b ys ∧ xs ≠ [] ∧ xs.length + ys.length ≤ sizeLine ∧
  (ys = [] → Q (.ref a) H) ∧ (ys ≠ [] → ∀ p, H p = none → Q (.ref p) (upd H p (.tup (xs ++ ys))))
theorem Vals.nil_iff {xs : List V} {us : List Value} (r : Vals xs us) : us = [] ↔ xs = [] := by
  cases r with
  | nil => simp
  | cons _ _ => simp
theorem op_catT : OpR X (binaryOp .Add) (rCatT X.K) := by
  intro pins s σ H x y v u Q I rx ry h
  obtain ⟨a, b, xs, ys, rfl, rfl, ha, hb, hx, hz, q1, q2⟩ := h
  cases rx
  cases ry
  obtain ⟨its, r1, p1, _⟩ := I.tuple ha
  obtain ⟨its2, r2, p2, _⟩ := I.tuple hb
  refine HT.cat_tup p1 p2 (fun z => hx (r1.nil_iff.mp z)) (fun z => ⟨.ref a, H, I, rfl, q1 (r2.nil_iff.mp z)⟩) (fun z => ?_) (by rw [← r1.length, ← r2.length]; exact hz)
  refine ⟨.ref s.heap.objs.size, _, I.laid (t' := s.toks) (o := .tup (xs ++ ys)) (fun b ob q => Heap.get?_push_of_some _ q) (Nat.le_refl _) ?_, rfl, q2 (fun w => z (r2.nil_iff.mpr w)) _ (I.hok.fresh (Nat.le_refl _))⟩
  exact ⟨by rw [List.length_append]; exact hz, _, r1.append r2, IsTup.new _ _⟩
end
end L2

namespace L2
open PySem PySem.Spec PyProof.Rows

/-! ### places -/
/-- the place that an index of any sign means -/
def ixN (n : Nat) (i : Int) : Option Nat := if 0 ≤ i then (if i < n then some i.toNat else none) else if -(n : Int) ≤ i then some (i + n).toNat else none
def atI {α : Type} (xs : List α) (i : Int) : Option α := (ixN xs.length i).bind fun j => xs[j]?
theorem ixN_seq {n : Nat} {i : Int} {j : Nat} (h : ixN n i = some j) : seqIndex? i n = some j ∧ j < n ∧ -(n : Int) ≤ i ∧ i < n := by
  unfold ixN at h
  by_cases h0 : 0 ≤ i
  · rw [if_pos h0] at h
    by_cases h1 : i < n
    · rw [if_pos h1] at h
      have e : i.toNat = j := Option.some.inj h
      exact ⟨by rw [seqIndex_of h0 h1, e], by omega, by omega, h1⟩
    · rw [if_neg h1] at h; cases h
  · rw [if_neg h0] at h
    by_cases h1 : -(n : Int) ≤ i
    · rw [if_pos h1] at h
      have e : (i + n).toNat = j := Option.some.inj h
      exact ⟨by rw [seqIndex_neg (by omega) h1, e], by omega, h1, by omega⟩
    · rw [if_neg h1] at h; cases h
theorem atI_get {α : Type} {xs : List α} {i : Int} {v : α} (h : atI xs i = some v) : ∃ j, seqIndex? i xs.length = some j ∧ xs[j]? = some v ∧ j < xs.length ∧ -(xs.length : Int) ≤ i ∧ i < xs.length := by
  unfold atI at h
  cases e : ixN xs.length i with
  | none => rw [e] at h; cases h
  | some j =>
    rw [e] at h
    obtain ⟨h1, h2, h3, h4⟩ := ixN_seq e
    exact ⟨j, h1, h, h2, h3, h4⟩
theorem atI_nat {α : Type} {xs : List α} {j : Nat} {v : α} (h : xs[j]? = some v) : atI xs (j : Int) = some v := by
  have hj : j < xs.length := (List.getElem?_eq_some_iff.mp h).1
  have e : ixN xs.length (j : Int) = some j := by
    unfold ixN
    rw [if_pos (by omega), if_pos (by omega)]; simp
  unfold atI; rw [e]; exact h
theorem atI_last {α : Type} (xs : List α) (v : α) : atI (xs ++ [v]) (-1) = some v := by
  have hl : (xs ++ [v]).length = xs.length + 1 := by simp
  have e : ixN (xs ++ [v]).length (-1) = some xs.length := by
    unfold ixN
    rw [hl, if_neg (by decide), if_pos (by omega)]
    congr 1
    omega
  unfold atI
  rw [e]
  show (xs ++ [v])[xs.length]? = some v
  simp

/-! ### what may be subscripted -/
/-- what stands as an index of a plain subscript -/
def PlainIx (b : Expr) : Prop := ∀ o i, subscripted b false o i = operate [o, i] (getItem o i)
/-- a subscript by values -/
def IxR (X : Cx) (r : R2) : Prop :=
  ∀ (value slice : Expr) (pins : List (Addr × Obj)) (s : Shared) (σ : St) (H : Hp) (x y : V) (v u : Value) (Q : VK), Inv X pins σ H s → RelV x v → RelV y u → r x y H Q →
    subscripted slice false v u = operate [v, u] (getItem v u) → wpAny (model X.prog X.w) X.A (subscriptTail value slice v u) (EP X pins σ Q) X.xe s
/-- a call of a builtin's method by values: the receiver, the arguments -/
def MtR (X : Cx) (id : String) (r : V → List V → Hp → VK → Prop) : Prop :=
  ∀ (pins : List (Addr × Obj)) (s : Shared) (σ : St) (H : Hp) (x : V) (xs : List V) (v : Value) (us : List Value) (Q : VK), Inv X pins σ H s → RelV x v → Vals xs us → r x xs H Q →
    wpAny (model X.prog X.w) X.A (call (.builtin id) (v :: us)) (EP X pins σ Q) X.xe s
section
variable {X : Cx} {a b : Expr} {ta tb : TE} {pos : Pos}
/-- a[b] -/
theorem pe_ix {r : R2} (hr : IxR X r) (ha : PE X a ta) (hb : PE X b tb) (hs : PlainIx b) : PE X (.Subscript a b pos) (tOp r ta tb) := by
  intro pins s σ H Q I h
  exact Subscript_ (binT ha hb I h fun v u s2 x y H2 I2 rx ry q => hr a b pins s2 σ H2 x y v u Q I2 rx ry q (hs _ _))

def rIxL (K : PySem.W.Frag) : R2 := fun x y H Q => ∃ p xs i v, x = .ref p ∧ y = .int i ∧ SqL K H p xs ∧ atI xs i = some v ∧ Q v H
def rIxT (K : PySem.W.Frag) : R2 := fun x y H Q => ∃ p xs i v, x = .ref p ∧ y = .int i ∧ SqT K H p xs ∧ atI xs i = some v ∧ Q v H
def rIxS : R2 := fun x y H Q => ∃ z i c, x = .str z ∧ y = .int i ∧ z.length ≤ sizeLine ∧ atI z.cps.toList i = some c ∧ Q (.str ⟨#[c]⟩) H
theorem ix_list : IxR X (rIxL X.K) := by
  intro value slice pins s σ H x y v u Q I rx ry h hs
  obtain ⟨p, xs, i, z, rfl, rfl, hq, he, q⟩ := h
  cases rx
  obtain ⟨t, rfl⟩ := ry
  obtain ⟨its, r, pl, hz⟩ := I.list hq
  obtain ⟨j, h1, h2, h3, h4, h5⟩ := atI_get he
  obtain ⟨w, ew, rw'⟩ := r.get h2
  have hl := r.length
  have hn := line63
  have fin : EP X pins σ Q w s := ⟨z, H, I, rw', q⟩
  by_cases h0 : 0 ≤ i
  · have hj : i.toNat = j := by
      rw [seqIndex_of h0 h5] at h1
      exact Option.some.inj h1
    exact item_listR pl.isList h0 (by omega) (by rw [hj]; simpa using ew) fin hs
  · have hj : (i + (its.toArray.size : Int)).toNat = j := by
      rw [seqIndex_neg (by omega) h4] at h1
      rw [List.size_toArray, ← hl]
      exact Option.some.inj h1
    exact subscriptTail_builtinR (x := w) pl.isList.typeIs slot_list_getitem.lookup
      (wpAny_getItem_list_neg (Q := fun r s' => r = w ∧ EP X pins σ Q r s') pl.isList (by omega) (by rw [List.size_toArray] <;> omega) (by omega) (by rw [hj]; simpa using ew) ⟨rfl, fin⟩) hs
theorem ix_tup : IxR X (rIxT X.K) := by
  intro value slice pins s σ H x y v u Q I rx ry h hs
  obtain ⟨p, xs, i, z, rfl, rfl, hq, he, q⟩ := h
  cases rx
  obtain ⟨t, rfl⟩ := ry
  obtain ⟨its, r, pl, hz⟩ := I.tuple hq
  obtain ⟨j, h1, h2, h3, h4, h5⟩ := atI_get he
  obtain ⟨w, ew, rw'⟩ := r.get h2
  have hl := r.length
  have hn := line63
  have fin : EP X pins σ Q w s := ⟨z, H, I, rw', q⟩
  exact subscriptTail_builtinR (x := w) pl.typeIs slot_tuple_getitem.lookup
    (getItem_tuple (j := j) (Q := fun r s' => r = w ∧ EP X pins σ Q r s') pl (by omega) (by omega) (by rw [List.size_toArray, ← hl]; exact h1) (by simpa using ew) ⟨rfl, fin⟩) hs
theorem ix_str : IxR X rIxS := by
  intro value slice pins s σ H x y v u Q I rx ry h hs
  obtain ⟨z, i, c, rfl, rfl, hz, he, q⟩ := h
  obtain ⟨t, rfl⟩ := rx
  obtain ⟨t', rfl⟩ := ry
  obtain ⟨j, h1, h2, h3, h4, h5⟩ := atI_get he
  have hl : z.cps.toList.length = z.length := by simp [Str.length]
  rw [hl] at h1 h4 h5
  have hn := line63
  exact tail_any (typeIs_str s z t) slot_str_getitem.lookup (getItem_str (c := c) (by
    have e1 : decide (i < -(2 ^ 63 : Int)) = false := decide_eq_false (by omega)
    have e2 : decide (i ≥ 2 ^ 63) = false := decide_eq_false (by omega)
    rw [e1, e2, Bool.or_false]) (by rw [h1]; simpa using h2) ⟨.str ⟨#[c]⟩, H, I.tok _, ⟨_, rfl⟩, q⟩) hs
/-! ### xs[i] = v, any sign -/
/-- the list's object behind a store -/
theorem mapSeq_set (its : List Value) (n j : Nat) (u : Value) : Obj.mapSeq (·.setIfInBounds j u) { cls := .type "list", data := .seq its.toArray n } = { cls := .type "list", data := .seq (its.set j u).toArray n } := by
  simp [Obj.mapSeq]
theorem Inv.lst {pins : List (Addr × Obj)} {σ : St} {H : Hp} {s : Shared} {p : Addr} {xs : List V} (I : Inv X pins σ H s) (h : H p = some (.lst xs)) :
    ∃ (its : List Value) (n : Nat), Vals xs its ∧ s.heap.get? p = some { cls := .type "list", data := .seq its.toArray n } ∧ xs.length ≤ sizeLine := by
  obtain ⟨z, its, n, r, e⟩ := I.hok p _ h
  exact ⟨its, n, r, e, z⟩
/-- the list at p is written by an update of its object -/
theorem Inv.lstUpd {pins : List (Addr × Obj)} {σ : St} {H : Hp} {s : Shared} {p : Addr} {xs ys : List V} {its its' : List Value} {n n' : Nat} {f : Obj → Obj} (I : Inv X pins σ H s) (h : H p = some (.lst xs))
    (ho : s.heap.get? p = some { cls := .type "list", data := .seq its.toArray n }) (hf : f { cls := .type "list", data := .seq its.toArray n } = { cls := .type "list", data := .seq its'.toArray n' }) (r : Vals ys its') (hz : ys.length ≤ sizeLine) (t : Nat) :
    Inv X pins σ (upd H p (.lst ys)) { s with heap := s.heap.update p f, toks := t } := by
  have e : (s.heap.update p f).get? p = some { cls := .type "list", data := .seq its'.toArray n' } := by
    rw [Heap.get?_update_self f ho (by rw [hf] <;> rfl), hf]
  refine I.write (x := p) (e := p) (by rw [h]; trivial) (.inl rfl) (fun b u hb q => (Heap.get?_update_other _ _ (Ne.symm hb)).trans q) ⟨_, e⟩ ?_
  exact ⟨hz, its', n', r, e⟩
def rSetL : V → V → V → Hp → (Hp → Prop) → Prop := fun o i v H Q => ∃ p xs k j, o = .ref p ∧ i = .int k ∧ H p = some (.lst xs) ∧ ixN xs.length k = some j ∧ Q (upd H p (.lst (xs.set j v)))
theorem set_list : PSet X rSetL := by
  intro pins s σ H o i v ov iv u Q I ro ri rv h
  obtain ⟨p, xs, k, j, rfl, rfl, hp, hj, q⟩ := h
  cases ro
  obtain ⟨t, rfl⟩ := ri
  obtain ⟨its, n, r, ho, hz⟩ := I.lst hp
  obtain ⟨h1, h2, h3, h4⟩ := ixN_seq hj
  have hl := r.length
  have hn := line63
  have I' : Inv X pins σ (upd H p (.lst (xs.set j v))) { s with heap := s.heap.update p (Obj.mapSeq (·.setIfInBounds j u)) } :=
    I.lstUpd hp ho (mapSeq_set its n j u) (r.set rv j) (by rw [List.length_set]; exact hz) s.toks
  by_cases h0 : 0 ≤ k
  · have hk : k.toNat = j := by
      rw [seqIndex_of h0 h4] at h1
      exact Option.some.inj h1
    exact PySem.W.ki_setAt ho h0 (by omega) (by rw [List.size_toArray, ← hl]; exact h4) (by rw [hk]; exact ⟨_, I', q⟩)
  · have hk : (k + (its.toArray.size : Int)).toNat = j := by
      rw [seqIndex_neg (by omega) h3] at h1
      rw [List.size_toArray, ← hl]
      exact Option.some.inj h1
    exact PySem.W.ki_setBack ho (by omega) (by rw [List.size_toArray, ← hl]; exact h3) (by omega) (by rw [hk]; exact ⟨_, I', q⟩)

/-! ### slices -/
theorem slice_bounds (lo hi : Option Int) (n : Nat) : (sliceBounds lo hi none n).1 = ((HT.sIx n 0 lo : Nat) : Int) ∧ (sliceBounds lo hi none n).2.1 = ((HT.sIx n n hi : Nat) : Int) ∧ (sliceBounds lo hi none n).2.2 = 1 := by
  refine ⟨?_, ?_, rfl⟩
  · cases lo with
    | none => simp [sliceBounds, HT.sIx]
    | some i =>
      simp only [sliceBounds, HT.sIx, Option.getD_none, show (1 : Int) > 0 by decide, if_true]
      by_cases h : i < 0
      · simp only [h, if_true] <;> omega
      · simp only [h, if_false] <;> omega
  · cases hi with
    | none => simp [sliceBounds, HT.sIx]
    | some i =>
      simp only [sliceBounds, HT.sIx, Option.getD_none, show (1 : Int) > 0 by decide, if_true]
      by_cases h : i < 0
      · simp only [h, if_true] <;> omega
      · simp only [h, if_false] <;> omega
theorem slicePick_cut (its : List Value) (lo hi : Option Int) : slicePick its.toArray lo hi none = ((its.drop (HT.sIx its.length 0 lo)).take (HT.sIx its.length its.length hi - HT.sIx its.length 0 lo)).toArray := by
  obtain ⟨h1, h2, h3⟩ := slice_bounds lo hi its.toArray.size
  unfold slicePick
  rw [h1, h2, h3]
  simp only [sliceRange_one, pick_run, List.size_toArray] <;> rfl
/-- xs[lo:hi] of a list: a new list -/
def rSlL (K : PySem.W.Frag) : V → Option Int → Option Int → Hp → VK → Prop := fun x lo hi H Q => ∃ a xs, x = .ref a ∧ SqL K H a xs ∧ ∀ p, H p = none → Q (.ref p) (upd H p (.lst (cutV xs lo hi)))
theorem sl_list : SlR X (rSlL X.K) := by
  intro pins s σ H x v vl vu lo hi sl Q I rx hs pl pu h
  obtain ⟨a, xs, rfl, hx, q⟩ := h
  cases rx
  obtain ⟨its, r, ht, hz⟩ := I.list hx
  have hlen := r.length
  refine ⟨"list", _, slot_list_getitem.lookup, ht.isList.typeIs, ?_⟩
  refine wpAny_getItem_list_slice ht.isList hs pl pu .none (by simp) ?_ (by rw [List.size_toArray] <;> omega)
  rw [slicePick_cut, ← hlen]
  refine ⟨.ref s.heap.objs.size, _, I.laid (t' := s.toks) (o := .lst (cutV xs lo hi)) (fun b ob q => Heap.get?_push_of_some _ q) (Nat.le_refl _) ?_, rfl, q _ (I.hok.fresh (Nat.le_refl _))⟩
  exact ⟨Nat.le_trans (cutV_length xs lo hi) hz, _, 0, (r.drop (HT.sIx xs.length 0 lo)).take (HT.sIx xs.length xs.length hi - HT.sIx xs.length 0 lo), Heap.get?_push_size _ rfl⟩

/-! ### in, not in: flat items -/
/-! ### len, list(x), tuple(x) of any list or tuple that is read -/
theorem call_len_seq : CallR X (.builtin "len") (fun xs H Q => ∃ p ys, xs = [.ref p] ∧ (SqL X.K H p ys ∨ SqT X.K H p ys) ∧ Q (.int ys.length) H) := by
  intro pins s σ H xs us Q I r h
  obtain ⟨p, ys, rfl, hq, q⟩ := h
  obtain ⟨u, rfl, rx⟩ := vals1 r
  cases rx
  have hn := line63
  rcases hq with hq | hq
  · obtain ⟨its, r', pl, hz⟩ := I.list hq
    have hlen := r'.length
    exact Calls.call_len_list pl.isList (by simp only [List.size_toArray] <;> omega) ⟨.int ys.length, H, I.tok _, ⟨s.toks + 1, by rw [List.size_toArray, hlen]⟩, q⟩
  · obtain ⟨its, r', pl, hz⟩ := I.tuple hq
    have hlen := r'.length
    exact len_tuple pl (by simp only [List.size_toArray] <;> omega) ⟨.int ys.length, H, I.tok _, ⟨s.toks + 1, by rw [List.size_toArray, hlen]⟩, q⟩
theorem call_len_str : CallR X (.builtin "len") (fun xs H Q => ∃ z, xs = [.str z] ∧ z.length ≤ sizeLine ∧ Q (.int z.length) H) := by
  intro pins s σ H xs us Q I r h
  obtain ⟨z, rfl, hz, q⟩ := h
  obtain ⟨u, rfl, t, rfl⟩ := vals1 r
  have hn := line63
  exact len_str (by omega) ⟨.int z.length, H, I.tok _, ⟨_, rfl⟩, q⟩
/-! ### the call of a builtin's method: o.m(..) -/
/-- the value is of that builtin type -/
def tyV (K : PySem.W.Frag) (T : String) (x : V) (H : Hp) : Prop := match x with
  | .str _ => T = "str"
  | .int _ => T = "int"
  | .ref p => (T = "list" ∧ ∃ xs, SqL K H p xs) ∨ (T = "tuple" ∧ ∃ o, K.lookup p = some o ∧ o.cls = .type "tuple" ∧ o.dict = none) ∨
      (T = "dict" ∧ ((∃ kvs, H p = some (.dK kvs)) ∨ ∃ kvs, H p = some (.dT kvs))) ∨ (T = "set" ∧ ∃ S n, H p = some (.set S n))
  | _ => False
theorem tyV_is {pins : List (Addr × Obj)} {σ : St} {H : Hp} {s : Shared} {T : String} {x : V} {v : Value} (I : Inv X pins σ H s) (r : RelV x v) (ty : tyV X.K T x H) :
    s.TypeIs v T ∧ ∀ a, v = .ref a → ∃ ob, s.heap.get? a = some ob ∧ ob.dict = none := by
  cases x with
  | str z =>
    obtain ⟨t, rfl⟩ := r
    cases (show T = "str" from ty)
    exact ⟨typeIs_str s z t, fun _ e => nomatch e⟩
  | int i =>
    obtain ⟨t, rfl⟩ := r
    cases (show T = "int" from ty)
    exact ⟨typeIs_int s i t, fun _ e => nomatch e⟩
  | ref p =>
    cases r
    rcases ty with ⟨rfl, xs, hq⟩ | ⟨rfl, o, hk, hc, hd⟩ | ⟨rfl, hk⟩ | ⟨rfl, S, n, hk⟩
    · obtain ⟨its, _, pl, _⟩ := I.list hq
      refine ⟨pl.isList.typeIs, fun a e => ?_⟩
      cases e
      obtain ⟨o, n, e, c, hd, _⟩ := pl
      exact ⟨o, e, hd⟩
    · refine ⟨⟨o, I.kIn p o hk, hc⟩, fun a e => ?_⟩
      cases e
      exact ⟨o, I.kIn _ o hk, hd⟩
    · have z : ∃ o, s.heap.get? p = some o ∧ o.ExactDict := by
        rcases hk with ⟨kvs, hk⟩ | ⟨kvs, hk⟩
        · obtain ⟨_, _, _, _, o, _, _, e, ex, _⟩ := I.hok p _ hk
          exact ⟨o, e, ex⟩
        · obtain ⟨_, _, _, _, o, _, _, e, ex, _⟩ := I.hok p _ hk
          exact ⟨o, e, ex⟩
      obtain ⟨o, e, ex⟩ := z
      refine ⟨⟨o, e, ex.1⟩, fun a e2 => ?_⟩
      cases e2
      exact ⟨o, e, ex.2.1⟩
    · obtain ⟨o, _, _, _, e, ex, _⟩ := I.hok p _ hk
      refine ⟨⟨o, e, ex.1⟩, fun a e2 => ?_⟩
      cases e2
      exact ⟨o, e, ex.2.1⟩
  | _ => exact False.elim ty
def tBM (K : PySem.W.Frag) (T : String) (r : V → List V → Hp → VK → Prop) (to : TE) (t : TA) : TE := fun σ H Q => to σ H fun x H1 => tyV K T x H1 ∧ t σ H1 fun xs H2 => r x xs H2 Q
variable {o e : Expr} {es : List Expr} {to : TE} {t : TA} {name : Str} {apos cpos : Pos} {T id : String} {r : V → List V → Hp → VK → Prop}
theorem pe_bm (pa : PlainAttrs T) (slot : Slot T name id) (hty : typeOf (.builtin id) = pure (.type "method_descriptor")) (hm : MtR X id r) (ho : PE X o to) (ha : PA X (e :: es) t)
    (hbase : attributeBase o name X.env (eval o X.env) = eval o X.env := by rfl)
    (hfew : ((backTo cpos (starEach (e :: es) X.env)).all (fun x => !x.1) && (backToKw cpos (keywordEach [] X.env)).all (fun x => x.1.isSome)
      && decide ((e :: es).length + ([] : List Keyword).length + (if ([] : List Keyword).isEmpty then 0 else 1) < 30)) = true := by rfl)
    (hline : (apos.endLine == cpos.line) = true := by rfl) (hs : starEach (e :: es) X.env = (false, eval e X.env) :: starEach es X.env := by rfl) (hplain : (backTo cpos (starEach es X.env)).any (·.1) = false := by rfl) :
    PE X (.Call (.Attribute o name apos) (e :: es) [] cpos) (tBM X.K T r to t) := by
  intro pins s σ H Q I h
  refine wpAny_Call_method_late hbase hfew hline rfl (thn (ho pins s σ H _ I h) fun v s1 ⟨x, H1, I1, r1, ty, q1⟩ => ?_)
  obtain ⟨h1, h2⟩ := tyV_is I1 r1 ty
  refine ⟨T, id, pa, slot, hty, h1, h2, ?_⟩
  have hA := ha cpos pins s1 σ H1 _ I1 q1
  rw [hs] at hA ⊢
  refine Calls.callWith_builtin (by show (false || (backTo cpos (starEach es X.env)).any (·.1)) = false; rw [hplain] <;> rfl) (Calls.evalArgs_plain ?_)
  exact thn hA fun us s2 ⟨vs, H2, I2, r2, q2⟩ => hm pins s2 σ H2 x vs v us Q I2 r1 r2 q2
/- xs.append(e), list.index on a module's tuple .. are MtR facts of 06m -/
end
end L2

namespace L2
open PySem PySem.Spec PyProof.Rows

def MtM (X : Cx) (id : String) (r : V → List V → Hp → VK → Prop) : Prop :=
  ∀ (pins : List (Addr × Obj)) (s : Shared) (σ : St) (H : Hp) (x : V) (xs : List V) (v : Value) (us : List Value) (Q : VK), Inv X pins σ H s → RelV x v → Vals xs us → r x xs H Q →
    wpAny (model X.prog X.w) X.A (call (.builtin id) (v :: us)) (EP X pins σ Q) X.xe s

/-! ### lists of values -/
theorem Vals.one : ∀ {x : V} {us : List Value}, Vals [x] us → ∃ u, us = [u] ∧ RelV x u
  | _, _, .cons r .nil => ⟨_, rfl, r⟩
theorem Vals.zero : ∀ {us : List Value}, Vals [] us → us = []
  | _, .nil => rfl
theorem Vals.dropLast {xs : List V} {us : List Value} (h : Vals xs us) : Vals xs.dropLast us.dropLast := by
  induction h with
  | nil => exact .nil
  | cons r t ih =>
    cases t with
    | nil => exact .nil
    | cons q t' => exact .cons r ih
theorem Vals.eraseIdx : ∀ {xs : List V} {us : List Value} (i : Nat), Vals xs us → Vals (xs.eraseIdx i) (us.eraseIdx i)
  | _, _, _, .nil => .nil
  | _, _, 0, .cons _ t => t
  | _, _, i + 1, .cons r t => .cons r (Vals.eraseIdx i t)
theorem Vals.reverse {xs : List V} {us : List Value} (h : Vals xs us) : Vals xs.reverse us.reverse := by
  induction h with
  | nil => exact .nil
  | cons r t ih => rw [List.reverse_cons, List.reverse_cons]; exact Vals.append ih (.cons r .nil)
theorem Vals.rep {xs : List V} {us : List Value} (h : Vals xs us) : ∀ k : Nat, Vals (List.replicate k xs).flatten (List.replicate k us).flatten
  | 0 => .nil
  | k + 1 => by
    rw [List.replicate_succ, List.replicate_succ, List.flatten_cons, List.flatten_cons]
    exact Vals.append h (Vals.rep h k)
theorem len_erase {α : Type} : ∀ (l : List α) (i : Nat), (l.eraseIdx i).length ≤ l.length
  | [], _ => Nat.le_refl _
  | _ :: _, 0 => Nat.le_succ _
  | _ :: r, i + 1 => Nat.succ_le_succ (len_erase r i)
theorem foldl_rep (its : List Value) : ∀ (k : Nat) (acc : List Value),
    List.foldl (fun x1 x2 => x1 ++ x2) acc.toArray (List.replicate k its.toArray) = (acc ++ (List.replicate k its).flatten).toArray
  | 0, acc => by simp
  | k + 1, acc => by
    have e : acc.toArray ++ its.toArray = (acc ++ its).toArray := by simp
    have e2 : (acc ++ its) ++ (List.replicate k its).flatten = acc ++ (List.replicate (k + 1) its).flatten := by
      rw [List.replicate_succ, List.flatten_cons, List.append_assoc]
    rw [← e2, ← foldl_rep its k (acc ++ its), ← e, List.replicate_succ, List.foldl_cons]

section
variable {X : Cx} {pins : List (Addr × Obj)} {σ : St} {H : Hp} {s : Shared} {l b : Addr} {xs ys zs : List V}

/-! ### the two steps: a tracked list is rewritten, a new list is laid -/
theorem Inv.lset {its its' : List Value} {n : Nat} {f : Array Value → Array Value} {t' : Nat} (I : Inv X pins σ H s) (hH : H l = some (.lst xs))
    (e : s.heap.get? l = some { cls := .type "list", data := .seq its.toArray n }) (hf : f its.toArray = its'.toArray) (hv : Vals ys its') (hz : ys.length ≤ sizeLine) :
    Inv X pins σ (upd H l (.lst ys)) { s with heap := s.heap.update l (Obj.mapSeq f), toks := t' } := by
  have q := PySem.IsL.update e f
  rw [hf] at q
  refine I.write (x := l) (e := l) (by rw [hH]; exact trivial) (.inl rfl) (fun b' u hb hu => (Heap.get?_update_other s.heap (Obj.mapSeq f) (Ne.symm hb)).trans hu) ⟨_, q⟩ ?_
  exact ⟨hz, its', _, hv, q⟩
theorem Inv.lnew {its : List Value} {t' : Nat} (I : Inv X pins σ H s) (hv : Vals ys its) (hz : ys.length ≤ sizeLine) :
    Inv X pins σ (upd H s.heap.objs.size (.lst ys)) { s with heap := s.heap.push { cls := .type "list", data := .seq its.toArray }, toks := t' } :=
  I.laid (fun _ _ q => Heap.get?_push_of_some _ q) (Nat.le_refl _) ⟨hz, its, 0, hv, Heap.get?_push_size _ rfl⟩
theorem Inv.fresh (I : Inv X pins σ H s) : H s.heap.objs.size = none := I.hok.fresh (Nat.le_refl _)
theorem Inv.lstM (I : Inv X pins σ H s) (hH : H l = some (.lst xs)) : xs.length ≤ sizeLine ∧ ∃ (its : List Value) (n : Nat), Vals xs its ∧ xs.length = its.length ∧ s.heap.get? l = some { cls := .type "list", data := .seq its.toArray n } := by
  obtain ⟨z, its, n, r, e⟩ := I.hok l _ hH
  exact ⟨z, its, n, r, r.length, e⟩

theorem notLongL {n : Nat} (h : n ≤ sizeLine) : Builtin.List.listTooLong n = false := by
  unfold Builtin.List.listTooLong
  exact decide_eq_false (by omega)
end

section
variable {X : Cx}

/-! ### methods -/
def rAppend : V → List V → Hp → VK → Prop := fun x vs H Q => ∃ l xs y, x = .ref l ∧ vs = [y] ∧ H l = some (.lst xs) ∧ xs.length < sizeLine ∧ Q .non (upd H l (.lst (xs ++ [y])))
theorem mt_append : MtM X "list.append" rAppend := by
  intro pins s σ H x vs v us Q I rx rv h
  obtain ⟨l, xs, y, rfl, rfl, hH, hz, q⟩ := h
  cases rx
  obtain ⟨u, rfl, ru⟩ := rv.one
  obtain ⟨z, its, n, r, hl, e⟩ := I.lstM hH
  refine call_meets F.slot_list_append ⟨_, e, rfl⟩ F.entry_list_append (F.args_list_append_2 _ _) (PySem.list_append l its.toArray n u (by rw [List.size_toArray]; omega)) ⟨e, ?_⟩
  refine ⟨.non, _, I.lset (its' := its ++ [u]) hH e (by simp) (r.append (.cons ru .nil)) ?_, rfl, q⟩
  rw [List.length_append, List.length_singleton]
  omega

def rPopAt : V → List V → Hp → VK → Prop := fun x vs H Q => ∃ l xs i k y, x = .ref l ∧ vs = [.int i] ∧ H l = some (.lst xs) ∧ -(2 ^ 63) ≤ i ∧ i < 2 ^ 63 ∧ seqIndex? i xs.length = some k ∧ xs[k]? = some y ∧ Q y (upd H l (.lst (xs.eraseIdx k)))
theorem mt_popAt : MtM X "list.pop" rPopAt := by
  intro pins s σ H x vs v us Q I rx rv h
  obtain ⟨l, xs, i, k, y, rfl, rfl, hH, h1, h2, hk, hy, q⟩ := h
  cases rx
  obtain ⟨u, rfl, ru⟩ := rv.one
  obtain ⟨t, rfl⟩ := ru
  obtain ⟨z, its, n, r, hl, e⟩ := I.lstM hH
  obtain ⟨w, hw, rw'⟩ := r.get hy
  refine call_meets F.slot_list_pop ⟨_, e, rfl⟩ F.entry_list_pop (F.args_list_pop_2 _ _)
    (MeetsSeq.list_pop_at l its.toArray n i t k w (fitsIndex_both h1 h2) (by rw [List.size_toArray, ← hl]; exact hk) (by rw [← Array.getElem?_toList]; exact hw) (by rw [List.size_toArray]; omega)) ⟨e, ?_⟩
  refine ⟨y, _, I.lset (its' := its.eraseIdx k) hH e ?_ (r.eraseIdx k) ?_, rw', q⟩
  · show its.toArray.eraseIdxIfInBounds k = (its.eraseIdx k).toArray
    rw [List.eraseIdxIfInBounds_toArray]
  · have := len_erase xs k
    omega

/-! ### list + list, list += list, list * int -/
def rCat : R2 := fun x y H Q => ∃ l b xs zs, x = .ref l ∧ y = .ref b ∧ H l = some (.lst xs) ∧ H b = some (.lst zs) ∧ xs.length + zs.length ≤ sizeLine ∧ ∀ p, H p = none → Q (.ref p) (upd H p (.lst (xs ++ zs)))
theorem op_cat : OpR X (binaryOp .Add) rCat := by
  intro pins s σ H x y v u Q I rx ry h
  obtain ⟨l, b, xs, zs, rfl, rfl, hH, hB, hz, q⟩ := h
  cases rx
  cases ry
  obtain ⟨z, its, n, r, hl, e⟩ := I.lstM hH
  obtain ⟨z2, its2, n2, r2, hl2, e2⟩ := I.lstM hB
  refine PySem.P.add_list e e2 ?_ (by rw [List.size_toArray, List.size_toArray]; omega)
  have ea : its.toArray ++ its2.toArray = (its ++ its2).toArray := by simp
  rw [ea]
  exact ⟨.ref _, _, I.lnew (t' := s.toks) (r.append r2) (by rw [List.length_append]; omega), rfl, q _ I.fresh⟩
/-- a list times an int (a negative one is nothing) -/
def rRep : R2 := fun x y H Q => ∃ l k xs, x = .ref l ∧ y = .int k ∧ H l = some (.lst xs) ∧ -(2 ^ 63) ≤ k ∧ k < 2 ^ 63 ∧ xs.length * k.toNat ≤ sizeLine ∧
  ∀ p, H p = none → Q (.ref p) (upd H p (.lst (List.replicate k.toNat xs).flatten))
theorem len_rep {α : Type} (xs : List α) (k : Nat) : (List.replicate k xs).flatten.length = k * xs.length := by
  induction k with
  | zero => simp
  | succ k ih => rw [List.replicate_succ, List.flatten_cons, List.length_append, ih, Nat.succ_mul, Nat.add_comm]
theorem op_rep : OpR X (binaryOp .Mult) rRep := by
  intro pins s σ H x y v u Q I rx ry h
  obtain ⟨l, k, xs, rfl, rfl, hH, h1, h2, hz, q⟩ := h
  cases rx
  obtain ⟨t, rfl⟩ := ry
  obtain ⟨z, its, n, r, hl, e⟩ := I.lstM hH
  have hlen : its.toArray.size * k.toNat ≤ sizeLine := by rw [List.size_toArray, ← hl]; exact hz
  have hcap : ¬ its.toArray.size * k.toNat > (2 ^ 63 - 1) / 8 := by
    have : (sizeLine : Nat) ≤ (2 ^ 63 - 1) / 8 := by decide
    omega
  have hfit : ¬ (!Builtin.List.listFitsIndex k) = true := by
    rw [fitsIndex_both h1 h2]
    exact Bool.false_ne_true
  have hlong : ¬ Builtin.List.listTooLong (its.toArray.size * k.toNat) = true := by
    rw [notLongL hlen]
    exact Bool.false_ne_true
  have hnew : List.foldl (fun x1 x2 => x1 ++ x2) #[] (List.replicate (if its.toArray.isEmpty = true then 0 else k.toNat) its.toArray) = (List.replicate k.toNat its).flatten.toArray := by
    have f0 : ∀ m : Nat, List.foldl (fun x1 x2 => x1 ++ x2) #[] (List.replicate m its.toArray) = (List.replicate m its).flatten.toArray := fun m => by
      have := foldl_rep its m []
      rw [List.nil_append] at this
      exact this
    rw [f0]
    cases its with
    | nil => simp
    | cons a r' => rw [if_neg (by simp)]
  refine wpAny_binaryOp_repeat_ref (T := "list") (U := "int") (by decide) ⟨_, e, rfl⟩ (fun s' => typeIs_int s' k t) noFill_list_mul F.fills_int_mul F.slot_int_rmul repeat_list F.slot_int_index.lookup
    (call_meets F.slot_int_rmul (typeIs_int s k t) F.entry_int_rmul (F.args_int_rmul_2 _ _) (int___rmul___int_list k t l its.toArray n)
      ⟨e, rfl, ⟨_, e, rfl⟩, call_meets F.slot_list_mul ⟨_, e, rfl⟩ F.entry_list_mul (F.args_list_mul_2 _ _) (AutoListH.list___mul___list_int_3 l its.toArray n k t hfit hcap hlong) ⟨e, ?_⟩⟩)
  rw [hnew]
  exact ⟨.ref _, _, I.lnew (t' := s.toks) (r.rep k.toNat) (by rw [len_rep, Nat.mul_comm]; exact hz), rfl, q _ I.fresh⟩

/-! ### del xs[i] -/
end

/-! ### xs[a:b] = ys -/
section
variable {prog : Program} {w : World} {A : Around} {E : Value → Shared → Prop} {s : Shared}
end

section
variable {X : Cx}
end
end L2

namespace Att
open PySem PySem.W PySem.Calls PyProof.Rows

/-! ### the script -/
theorem ints_of_wellAll {P : Params} {h : Heap} : ∀ (ns : List Int) (vs : List Value), WellAll P h vs (ns.map WData.int) → IntsAre vs ns := by
  intro ns
  induction ns with
  | nil =>
    intro vs w
    rw [List.map_nil] at w
    cases w
    exact .nil
  | cons n ns ih =>
    intro vs w
    rw [List.map_cons] at w
    cases w with
    | cons a b =>
      cases a
      exact .cons _ _ (ih _ b)

theorem script_of {l : OpenLaw} {n : Nat} (hn : l.most = some n) {P : Params} {h : Heap} {args : List WData} {vals : List Value}
    (hpre : l.row.toRowW.claim.pre args = true) (hwl : WellAll P h vals args) :
    ∃ a vs ns, vals = [Value.ref a] ∧ args = [WData.list (ns.map WData.int)] ∧ h.get? a = some { cls := .type "list", data := .seq vs.toArray } ∧ IntsAre vs ns ∧ ns.length ≤ n := by
  have hsh : WShape.hasAll [] args [.list .int] = true := (pre_splitW hpre).1
  have hc : l.pre.holds [] { args := args } = true := (pre_splitW hpre).2
  obtain ⟨d, r, rfl, h1, h2⟩ := hasAllW_cons hsh
  obtain rfl := hasAllW_nil h2
  obtain ⟨xs, rfl, h3⟩ := hasW_list h1
  obtain ⟨ns, rfl⟩ := items_int h3
  have hlen : ns.length ≤ n := by
    unfold OpenLaw.pre at hc
    have h4 : (WTm.not (.lt (.lit (.int (n : Int))) (.len (.arg 0)))).holds [] { args := [.list (ns.map .int)] } = true := by
      have h4 := (holds_andW hc).1
      rw [hn] at h4
      exact h4
    have h5 := condW_of h4 (w_not (w_lt w_lit (w_len_list (w_arg rfl))))
    rw [List.length_map] at h5
    refine Nat.le_of_not_lt fun q => ?_
    have q' : (n : Int) < ((ns.length : Nat) : Int) := by omega
    first
      | (rw [decide_eq_true q'] at h5; exact absurd h5 (by decide))
      | (simp at h5; omega)
  cases hwl with
  | cons w1 w2 =>
    cases w2
    cases w1 with
    | list ho hall => exact ⟨_, _, ns, rfl, rfl, ho, ints_of_wellAll ns _ hall, hlen⟩

theorem post_true (l : OpenLaw) (args : List WData) : l.row.toRowW.claim.post args (.bool true) args = true :=
  postW_of (r := l.row.toRowW) (X := (true == true))
    (show WShape.has [] (.bool true) .bool = true by first | rfl | decide | simp [WShape.has, WShape.arms, WShape.armsAll])
    (show (WTm.eq .res (.lit (.bool true))).value [] { args := args, res := some (.bool true), after := args } = some (.bool (true == true)) from w_eq_bool (w_res rfl) w_lit) rfl

/-! ### the attachment: holds_open's last premise (the goal 'hc' behind k_head) from a wpAny of the law's body -/
/-- the same from a codeAny of the CALL (for a layer whose function contracts speak of calls) -/
theorem attach_call {l : OpenLaw} {n : Nat} {q : Program} {loose : List Str} {XP : (Str → Option Value) → Heap → Prop} {YP : World → Heap → Prop} {d : DefRec}
    (hn : l.most = some n) (hdf : d.params.defaults = [])
    (call : ∀ (w : World) (s₀ s₁ : Shared) (mg mb : Str → Option Value) (fa : Addr) (o : Obj) (pm cd doc : Value) (a : Addr) (vs : List Value) (ns : List Int),
      Ground q loose [] XP w s₀ mg mb s₁.heap → YP w s₁.heap →
      s₁.heap.get? fa = some o → o.data = .func (docDef d.name d.params d.body d.scope pm cd doc) → s₁.heap.CodeRec cd d.name → mg d.name = some (.ref fa) →
      s₁.heap.get? a = some { cls := .type "list", data := .seq vs.toArray } → IntsAre vs ns → ns.length ≤ n → s₁.gens = #[] →
      codeAny (model l.prog w) callerA (.call (.ref fa) ⟨[.ref a], []⟩) (fun r s' => r = .ok (.ret (.bool true)) ∧ OldK s₁.heap s'.heap ∧ s'.os = s₁.os ∧ AllBare s'.gens) s₁) :
    WalkO q loose XP YP l.row.toRowW d [] (fun f vs => PySem.call f vs) := by
  intro w s₀ s₁ mg mb G Y fa o pm cd doc dV kV ho hd hcd hD hmg hg args vals as hpre hlay hrd hwl hlo
  obtain rfl : dV = .none := Dflts.none hD hdf
  obtain rfl : kV = .none := Dflts.noKw hD
  obtain ⟨a, vs, ns, rfl, rfl, hobj, hints, hlen⟩ := script_of hn hpre hwl
  refine enter_call (codeAny_mono (call w s₀ s₁ mg mb fa o pm cd doc a vs ns G Y ho (fd_plain hd) hcd hmg hobj hints hlen hg) fun r s' hq => ?_)
  obtain ⟨rfl, h2, h3, h4⟩ := hq
  exact ⟨.inl ⟨.bool true, .bool true, [], rfl, fun _ => rfl, .bool true, post_true l _, fun _ => ⟨List.Pairwise.nil, fun _ hm => (nomatch hm)⟩⟩, h2, h3, h4⟩

/-! ### rules over ANY heap (no ledger) from facts about the written part K: the library's own take a ledger (News) for what they write -/
section
variable {prog : Program} {w : World} {A : Around} {E : Value → Shared → Prop} {s : Shared} {K : Frag}

/-! the whole heap as the ledger: makes every rule that writes through a ledger a rule over any heap -/
end
end Att

namespace L2
open PySem PySem.Spec PyProof.Rows

theorem vals_ints : ∀ {vs : List Value} {ns : List Int}, IntsAre vs ns → Vals (ns.map V.int) vs
  | _, _, .nil => .nil
  | _, _, .cons n t h => .cons ⟨t, rfl⟩ (vals_ints h)

/-- nothing is tracked but the script, known to the object (or it is an object of the module) -/
def Only (H : Hp) : Prop := ∀ b, H b = none ∨ ∃ o xs, H b = some (.frz o (.lst xs))

/-- THE HEAD: the law's promise, at the heap behind the top. F, the promise of the law's def, may use that base is part of the heap (so K.In base, base.Ns mainGlobals mg stand in Mod) -/
theorem law_call {P : Program} {w : World} {K : PySem.W.Frag} {mg mb : Str → Option Value} {CX : CXT} {k : Nat} {fa a : Addr} {fd : FuncData} {x : Str} {sp : Sp} {s₁ : Shared} {vs : List Value} {ns : List Int}
    (KX : K.In s₁.heap) (hns : s₁.heap.Ns mainGlobals mg) (hb : s₁.heap.Ns builtinsNs mb) (hbb : ∀ x : Str, x ≠ "__name__" → mb x = bootBuiltins x) (hlim : s₁.heap.NoLimit) (hg : s₁.gens = #[])
    (ha : s₁.heap.get? a = some { cls := .type "list", data := .seq vs.toArray }) (hi : IntsAre vs ns) (hl : ns.length ≤ sizeLine) (hr : Room k callerA)
    (F : ∀ base : Heap, K.In base → base.Ns mainGlobals mg → FnOk P w K mg base CX k fa fd [x] sp) (hbind : ∀ (s : Shared) (u : Value), BindsTo s fd ⟨[u], []⟩ [(x, u)])
    (hsp : ∀ H : Hp, Only H → SqL K H a (ns.map V.int) → sp [.ref a] H (fun v _ => v = .bl true) fun _ _ _ => False)
    (hCX : ∀ H e s', CX [] H s₁ (fun _ _ _ => False) e s' → False) :
    codeAny (model P w) callerA (.call (.ref fa) ⟨[.ref a], []⟩) (fun r s' => r = .ok (.ret (.bool true)) ∧ OldK s₁.heap s'.heap ∧ s'.os = s₁.os ∧ AllBare s'.gens) s₁ := by
  have rv := vals_ints hi
  have lenV := hi.length
  -- from an abstract heap in which nothing but the script may be tracked
  have core : ∀ H : Hp, Only H → SqL K H a (ns.map V.int) → HOk P w H s₁.heap → (∀ b, H b ≠ none → b = a) → (H a ≠ none → K.lookup a = none) →
      codeAny (model P w) callerA (.call (.ref fa) ⟨[.ref a], []⟩) (fun r s' => r = .ok (.ret (.bool true)) ∧ OldK s₁.heap s'.heap ∧ s'.os = s₁.os ∧ AllBare s'.gens) s₁ := by
    intro H hO hS hok hA hK
    have base_of : ∀ {b : Addr} {o : Obj}, s₁.heap.get? b = some o → H b = none → (hidT s₁.heap H).get? b = some o := fun e n => hidT_get e n
    have noA : ∀ {b : Addr} {o : Obj} {es : Array DictEntry} {ep : Nat}, s₁.heap.get? b = some o → o.data = .dict es ep → H b = none := fun {b o es ep} e d => by
      cases q : H b with
      | none => rfl
      | some u =>
        have e' : b = a := hA b (by rw [q]; simp)
        subst e'
        rw [ha] at e; cases e
        have d' : Data.seq vs.toArray _ = Data.dict es ep := d
        cases d'
    have nsK : ∀ {b : Addr} {m : Str → Option Value}, s₁.heap.Ns b m → (hidT s₁.heap H).Ns b m := fun {b m} ⟨o, es, ep, e, d, r⟩ => ⟨o, es, ep, base_of e (noA e d), d, r⟩
    have hKb : K.In (hidT s₁.heap H) := fun b o e => base_of (KX b o e) (by
      cases q : H b with
      | none => rfl
      | some u =>
        have e' : b = a := hA b (by rw [q]; simp)
        subst e'
        rw [hK (by rw [q]; simp)] at e; cases e)
    have hM : Mod K mg (hidT s₁.heap H) := ⟨hKb, nsK hns, ⟨mb, nsK hb, hbb⟩, let ⟨mc, h1, h2⟩ := hlim; ⟨mc, nsK h1, h2⟩⟩
    have e0 : Env0 P w K mg (hidT s₁.heap H) callerA [] s₁ H := ⟨rfl, hM, fun b o e => of_hidT e, Nat.le_of_eq (hidT_size _ _), trivial, fun b hb => absurd (show b ∈ ([] : List Addr) from hb) (by simp), hok, .of_eq hg⟩
    refine codeAny_mono ((F _ hKb (nsK hns)).run callerA [] s₁ H ⟨[.ref a], []⟩ [.ref a] [.ref a] _ _ hr e0 (hbind s₁ (.ref a)) (.cons rfl .nil) (hsp H hO hS)) fun r s' h => ?_
    cases r with
    | error e => exact (hCX H e s' h).elim
    | ok fl =>
      cases fl with
      | next => exact False.elim h
      | brk => exact False.elim h
      | cont => exact False.elim h
      | ret u =>
        obtain ⟨v, H', os, bare, un, hok', r', q⟩ := h
        have q' : v = .bl true := q
        subst q'
        obtain rfl : u = Value.bool true := r'
        refine ⟨rfl, OldK.of_keep fun b o e => ?_, os, bare⟩
        cases q : H b with
        | none => exact un.keep b o e q (by intro z; exact absurd (show b ∈ ([] : List Addr) from z) (by simp)) (by simp)
        | some u =>
          rcases hO b with z | ⟨ob, xs, z⟩
          · rw [q] at z; cases z
          · have z2 := un.frzs b ob _ z
            obtain ⟨e1, _⟩ := hok b _ z
            obtain ⟨e2, _⟩ := hok' b _ z2
            rw [e] at e1; cases e1
            exact e2
  cases hk : K.lookup a with
  | some o =>
    -- the script is one of the module's own objects
    have e := KX a o hk
    rw [ha] at e
    cases e
    refine core (fun _ => none) (fun _ => .inl rfl) (.inr ⟨_, vs.toArray, _, hk, rfl, rfl, rfl, by rw [List.size_toArray, lenV]; exact hl, by simpa using rv⟩) (fun b u z => by have z' : (none : Option HO) = some u := z; cases z') (fun b z => absurd rfl z) fun z => absurd rfl z
  | none =>
    refine core (fun b => if b = a then some (.frz { cls := .type "list", data := .seq vs.toArray } (.lst (ns.map V.int))) else none) (fun b => ?_) (.inl (.inr ⟨{ cls := .type "list", data := .seq vs.toArray }, if_pos rfl⟩)) (fun b u z => ?_) (fun b z => ?_) fun _ => hk
    · by_cases hb : b = a
      · exact .inr ⟨_, _, if_pos hb⟩
      · exact .inl (if_neg hb)
    · by_cases hb : b = a
      · have z' := (if_pos hb).symm.trans z
        cases z'
        subst hb
        exact ⟨ha, by rw [List.length_map]; exact hl, vs, _, rv, ha⟩
      · have z' := (if_neg hb).symm.trans z
        cases z'
    · by_cases hb : b = a
      · exact hb
      · exact absurd (if_neg hb) z
end L2

namespace L2
open PySem PySem.Spec PyProof.Rows

/-- the goal that k_head leaves (case hc), from the law's promise. F gives the function object fd (K's own) once, then the promise over every base -/
theorem walk_of {l : PySem.W.OpenLaw} {n k : Nat} {q : Program} {loose : List Str} {XP : (Str → Option Value) → Heap → Prop} {YP : World → Heap → Prop} {d : DefRec} {K : Params → PySem.W.Frag} {CX : World → CXT} {sp : World → Sp} {x : Str}
    (hn : l.most = some n) (hn2 : n ≤ sizeLine) (hdf : d.params.defaults = []) (hr : Room k callerA)
    (hY : ∀ (w : World) (h : Heap), YP w h → (K w.params).In h)
    (F : ∀ (w : World) (mg : Str → Option Value) (fa : Addr) (h : Heap), (K w.params).In h → h.Ns mainGlobals mg → mg d.name = some (.ref fa) →
      ∃ fd : FuncData, (∀ (s : Shared) (u : Value), BindsTo s fd ⟨[u], []⟩ [(x, u)]) ∧
        ∀ base : Heap, (K w.params).In base → base.Ns mainGlobals mg → FnOk l.prog w (K w.params) mg base (CX w) k fa fd [x] (sp w))
    (hsp : ∀ (w : World) (H : Hp) (a : Addr) (ns : List Int), ns.length ≤ n → Only H → SqL (K w.params) H a (ns.map V.int) → sp w [.ref a] H (fun v _ => v = .bl true) fun _ _ _ => False)
    (hCX : ∀ (w : World) (H : Hp) (s : Shared) (e : Value) (s' : Shared), CX w [] H s (fun _ _ _ => False) e s' → False) :
    PySem.W.WalkO q loose XP YP l.row.toRowW d [] (fun f vs => PySem.call f vs) := by
  refine Att.attach_call hn hdf fun w s₀ s₁ mg mb fa o pm cd doc a vs ns G Y ho hd hcd hmg hobj hints hlen hg => ?_
  have KX := hY w _ Y
  obtain ⟨fd, hb, hF⟩ := F w mg fa _ KX G.T.g hmg
  exact law_call KX G.T.g G.T.b G.T.builtins G.T.nolimit hg hobj hints (Nat.le_trans hlen hn2) hr hF hb (fun H hO hS => hsp w H a ns hlen hO hS) fun H e s' => hCX w H s₁ e s'
end L2

/- THE LAST THEOREM (shape; LID, My.* are yours):
   My.Adr: a structure of the addresses that your layer names (classes, functions); My.Txt K t: a structure (Prop) of the equations over K;
   My.txt_mk : {K} {implicit addresses ..} (e1 : nsIn K mainGlobals "law" = some (some (.ref f))) (e2 : K.lookup f = some ⟨oc, od, .func (fnOf "law" "law" params body scope dV kV doc pm an cdv ct), sl⟩) (e3 : codeIn K cdv "law" = true) .. : ∃ t, My.Txt K t

set_option maxRecDepth 100000 in
set_option maxHeartbeats 0 in
theorem PySem.Challenge.cw_LID_holds : PySem.Challenge.rw_LID.Holds := by
  w_on; o_law; k_head; (case hw => w_witness2)
  k_fill
  refine L2.walk_of (l := PySem.Challenge.rw_LID) (n := 63) (k := 40) (x := "script") (CX := fun w => ..) (sp := fun _ => My.sp_law) rfl (by decide) rfl ⟨rfl, by decide, by decide⟩ (fun w h Y => PySem.W.kIn_of Y) ?F ?S ?C
  case F =>
    intro w mg fa h KX G hmg
    have T : ∃ t, My.Txt (L2.KOf KX) t := by
      dsimp only [L2.KOf]                          -- K must stand as «<heap const> w.params» for k_is
      refine' My.txt_mk ?e1 ?e2 ?e3 ..
      (case e1 => PySem.W.k_is)                    -- in the order: a name -> its address -> its object -> its parts
      (case e2 => PySem.W.k_is)
      ..
    obtain ⟨t, T⟩ := T
    have e0 := hmg.symm.trans (PySem.W.mg_of KX G T.law)
    cases e0                                       -- fa is the law's own address
    exact ⟨_, fun s u => .of_eq rfl, fun base kb nb => My.law_fn T kb nb⟩     -- if «.of_eq rfl» comes too early: refine' ⟨_, ?b, fun base kb nb => My.law_fn T kb nb⟩; exact fun s u => .of_eq rfl
  case S => exact fun w H a ns hl hO hS => ..
  case C => exact ..
(the tactic k_is has no namespace: write k_is) -/

/-! SHORT WORDS over the layer: a def of the text, its body, what a loop and a test want. -/
namespace L2
open PySem PySem.Spec PyProof.Rows

/-! ### the text by places -/
def defArgs (s : Stmt) : Arguments := match s with
  | .FunctionDef _ a _ _ _ _ _ _ _ _ => a
  | _ => { posonlyargs := [], args := [], vararg := none, kwonlyargs := [], kw_defaults := [], kwarg := none, defaults := [] }
def defBody (s : Stmt) : List Stmt := match s with
  | .FunctionDef _ _ b _ _ _ _ _ _ _ => b
  | _ => []
def defScope (s : Stmt) : Scope := match s with
  | .FunctionDef _ _ _ _ _ _ sc _ _ _ => sc
  | _ => { kind := .function, names := [], isGenerator := false, isCoroutine := false }

/-! ### no exception leaves a def -/
abbrev CX0 : CXT := fun _ _ _ _ _ _ => False
abbrev E0 : XK := fun _ _ _ => False
theorem pass0 {X : Cx} : Passes CX0 X E0 := fun _ _ _ _ _ _ _ h => h.elim

/-! ### a def (or method) of the text as it stands behind the top -/
structure Fun (K : PySem.W.Frag) (x qual : Str) (st : Stmt) (f : Addr) (fd : FuncData) : Prop where
  ex : ∃ (oc : Value) (od : Option Addr) (kV doc pm : Value) (an : Option Addr) (cdv ct : Value) (osl : Array (Option Value)),
    fd = PySem.W.fnOf x qual (defArgs st) (defBody st) (defScope st) .none kV doc pm an cdv ct ∧ K.lookup f = some ⟨oc, od, .func fd, osl⟩ ∧ PySem.W.codeIn K cdv qual = true
  kp : PySem.W.keepIn K (.ref f) = true
section
variable {P : Program} {w : World} {K : PySem.W.Frag} {mg : Str → Option Value} {base : Heap}
/-- THE RULE for a def: its body as a term of rules, and the reading of that term -/
theorem Fun.ok {x qual : Str} {st : Stmt} {f : Addr} {fd : FuncData} {N ps : List Str} {k : Nat} {sp : Sp} (F : Fun K x qual st f fd) (S : FnScope N ps (defScope st)) (len : ∀ vs H Q E, sp vs H Q E → vs.length = ps.length)
    (hbody : ∀ (cdv : Value) (A : Around) (outer : List Env) (s : Shared) (H : Hp) (vs : List V) (Q : VK) (E : XK), Room k (A.deeper (envOfC qual (defScope st) s.heap.objs.size f cdv)) → sp vs H Q E →
      ∃ t, PSs (cxOf CX0 P w K mg base N qual (defScope st) f cdv A outer s H E).nox (defBody st) t ∧ t { nx := fun _ H' => Q .non H', rt := Q } (start N vs) H) : FnOk P w K mg base CX0 (k + 1) f fd ps sp := by
  obtain ⟨oc, od, kV, doc, pm, an, cdv, ct, osl, rfl, lk, hcd⟩ := F.ex
  refine fn_of lk hcd S len fun A outer s H vs Q E hr hsp => ?_
  obtain ⟨t, h, q⟩ := hbody cdv A outer s H vs Q E hr hsp
  exact ⟨t, h.nox, q⟩
/-- how its arguments bind (no defaults): h is «fun _ _ _ _ _ _ us hl => match us, hl with | [_, _], _ => rfl», one _ a parameter -/
theorem Fun.binds {x qual : Str} {st : Stmt} {f : Addr} {fd : FuncData} {ps : List Str} (F : Fun K x qual st f fd)
    (h : ∀ (kV doc pm : Value) (an : Option Addr) (cdv ct : Value) (us : List Value), us.length = ps.length → bindArgs (PySem.W.fnOf x qual (defArgs st) (defBody st) (defScope st) .none kV doc pm an cdv ct) ⟨us, []⟩ = pure (ps.zip us)) : Binds K fd ps [] := by
  obtain ⟨oc, od, kV, doc, pm, an, cdv, ct, osl, rfl, lk, hcd⟩ := F.ex
  exact .all (h kV doc pm an cdv ct)
theorem fun_mk {x qual : Str} {st : Stmt} {f : Addr} {oc : Value} {od an : Option Addr} {osl : Array (Option Value)} {kV doc pm cdv ct : Value} (l : K.lookup f = some ⟨oc, od, .func (PySem.W.fnOf x qual (defArgs st) (defBody st) (defScope st) .none kV doc pm an cdv ct), osl⟩)
    (c : PySem.W.codeIn K cdv qual = true) (k : PySem.W.keepIn K (.ref f) = true) : Fun K x qual st f (PySem.W.fnOf x qual (defArgs st) (defBody st) (defScope st) .none kV doc pm an cdv ct) := ⟨⟨oc, od, kV, doc, pm, an, cdv, ct, osl, rfl, l, c⟩, k⟩
end
theorem small1000 {n : Nat} (h : n ≤ 1000) : n < sizeLine := Nat.lt_of_le_of_lt h (by decide)

/-! ### expressions in short: the name that stands in the i-th slot -/
section
variable {X : Cx}
end

/-! ### tests -/
theorem ite2 {c A B : Prop} [Decidable c] (h1 : c → A) (h2 : ¬ c → B) : if c then A else B := by
  by_cases h : c
  · rw [if_pos h]
    exact h1 h
  · rw [if_neg h]
    exact h2 h
/-! ### heaps -/
/-- all that was tracked is as it was -/
def Same (H H' : Hp) : Prop := ∀ b o, H b = some o → H' b = some o
end L2

namespace L2
open PySem PySem.Spec PyProof.Rows

end L2

namespace L2
open PySem PySem.Spec PyProof.Rows

section
variable (P : Program) (w : World)
end

section
variable {P : Program} {w : World} {H H' : Hp} {h h' : Heap} {a : Addr} {o : HO}
end

section
variable {P : Program} {w : World} {H : Hp} {h h' : Heap} {x e : Addr} {o' : HO}
end

section
variable {fs fs' ex ex' : List Addr} {H H1 H2 : Hp} {h h1 h2 h' : Heap} {a x e : Addr} {o : HO}
end

end L2

namespace L2
open PySem PySem.Spec PyProof.Rows

section
variable {X : Cx} {pins : List (Addr × Obj)} {σ : List (Option V)} {H H' : Hp} {s : Shared} {h' : Heap}

end

end L2

namespace L2
open PySem PySem.Spec PyProof.Rows
section
variable {X : Cx}

variable {a b : Expr} {ta tb : TE} {pos : Pos}
variable {tA tB' : TT} {rest : List Expr}
end
end L2

namespace L2
open PySem PySem.Spec PyProof.Rows

section
variable {X : Cx} {pins : List (Addr × Obj)} {σ : St} {H : Hp} {s : Shared} {a : Addr} {xs ys : List V}
end

section
variable {X : Cx} {pins : List (Addr × Obj)} {σ : St} {H : Hp} {s : Shared} {E : Value → Shared → Prop}
end

section
variable {X : Cx} {st : Stmt} {rest : List Stmt} {t u : TS} {e : Expr} {te : TE} {pos : Pos}
end

section
variable {X : Cx} {pos : Pos}
end

section
variable {X : Cx} {pos : Pos}
end

end L2

namespace L2
open PySem PySem.Spec PyProof.Rows
section
variable {X : Cx} {tg : Expr}
end

end L2

namespace L2
open PySem PySem.Spec PyProof.Rows

section
variable {X : Cx} {a b c : Expr} {ta tb tc : TE} {pos : Pos}

end

section
variable {X : Cx} {a b c : Expr} {ta tb tc : TE} {pos : Pos}
end
end L2

namespace L2
open PySem PySem.Spec PyProof.Rows

section
variable {prog : Program} {w : World} {A : Around} {E : Value → Shared → Prop} {s : Shared} {K : PySem.W.Frag} {x dx C f : Addr} {mA : Str → Option Value} {name : Str} {v : Value}

end

section
variable {P : Program} {w : World} {H H' : Hp} {h h' : Heap} {a C dx : Addr} {fs fs' : List (Str × V)}
end

section
variable {X : Cx} {pins : List (Addr × Obj)} {σ : St} {H : Hp} {s : Shared} {a C dx : Addr} {fs : List (Str × V)} {f : Str} {v : V} {A : Around} {E : Value → Shared → Prop}

end

section
variable {X : Cx} {o e value : Expr} {f : Str} {pos pos' tpos : Pos} {ta tv : TE}
end

section
variable {X : Cx} {pins : List (Addr × Obj)} {σ : St} {H : Hp} {s : Shared} {A : Around} {E : Value → Shared → Prop} {Q : Value → Shared → Prop} {c : Value} {b : Bool}
end
end L2

namespace L2
open PySem PySem.Spec PyProof.Rows

section
variable {X : Cx} {e : Expr} {es : List Expr} {te : TE} {t : TA} {pos : Pos}
end

section
variable {X : Cx} {pins : List (Addr × Obj)} {σ : St} {H : Hp} {s s' : Shared}
end

section
variable {X : Cx} {CX : CXT} {k : Nat} {f C : Addr} {fd : FuncData} {ps : List Str} {sp : Sp} {dvs : List V} {ds : List Value} {E : XK} {x m : Str} {p pos apos : Pos} {e o : Expr} {es : List Expr} {ta : TE} {t : TA}

end

section
variable {X : Cx} {CX : CXT} {k : Nat} {f C : Addr} {fd : FuncData} {ps ks : List Str} {sp : Sp} {E : XK} {x m : Str} {p pos apos kpos : Pos} {e o : Expr} {es : List Expr} {kws : List Keyword} {te ta : TE} {t tk : TA} {nm : Option Str}
variable {g : List Value → List Value → List Value} {gV : List V → List V → List V}
end

end L2

namespace L2
open PySem PySem.Spec PyProof.Rows
section
variable {X : Cx} {x : Str} {p pos : Pos} {e : Expr} {es : List Expr} {t : TA} {id T : String} {r : List V → Hp → VK → Prop}

end
end L2

namespace L2
open PySem PySem.Spec PyProof.Rows

section
variable {κ : Type} [DecidableEq κ]
def valV (kvs : List (κ × V)) (k : κ) : Option V := (kvs.find? fun kv => decide (kv.1 = k)).map (·.2)
def putK (kvs : List (κ × V)) (k : κ) (v : V) : List (κ × V) :=
  if (kvs.any fun kv => decide (kv.1 = k)) = true then kvs.map (fun kv => if kv.1 = k then (kv.1, v) else kv) else kvs ++ [(k, v)]
theorem valV_pos {p : κ × V} {r : List (κ × V)} {k : κ} (e : p.1 = k) : valV (p :: r) k = some p.2 := by simp [valV, List.find?_cons, e]
theorem valV_neg {p : κ × V} {r : List (κ × V)} {k : κ} (e : ¬ p.1 = k) : valV (p :: r) k = valV r k := by simp [valV, List.find?_cons, e]
theorem valV_any (k : κ) : ∀ kvs : List (κ × V), (kvs.any fun kv => decide (kv.1 = k)) = (valV kvs k).isSome
  | [] => rfl
  | p :: r => by
    rw [List.any_cons]
    by_cases e : p.1 = k
    · simp only [valV_pos e, decide_eq_true e, Bool.true_or, Option.isSome_some]
    · rw [valV_neg e, decide_eq_false e, Bool.false_or]; exact valV_any k r
theorem length_putK (kvs : List (κ × V)) (k : κ) (v : V) : (putK kvs k v).length ≤ kvs.length + 1 := by
  unfold putK
  split
  · rw [List.length_map]; omega
  · rw [List.length_append, List.length_cons, List.length_nil]; omega
theorem RelO.isSome_eq {o : Option V} {u : Option Value} (r : RelO o u) : o.isSome = u.isSome := by
  cases o with
  | none => cases u with
    | none => rfl
    | some _ => exact (show False from r).elim
  | some _ => cases u with
    | none => exact (show False from r).elim
    | some _ => rfl
theorem KV.val {kvs : List (κ × V)} {vs : List (κ × Value)} (r : KV kvs vs) (k : κ) : RelO (valV kvs k) (valueAt vs k) := by
  unfold KV at r
  induction r with
  | nil => exact True.intro
  | @cons p q ps qs h t ih =>
    obtain ⟨h1, h2⟩ := h
    by_cases e : p.1 = k
    · have e' : q.1 = k := h1.symm.trans e
      have b : valueAt (q :: qs) k = some q.2 := by simp [valueAt, List.find?_cons, e']
      rw [valV_pos e, b]; exact h2
    · have e' : ¬ q.1 = k := fun z => e (h1.trans z)
      have b : valueAt (q :: qs) k = valueAt qs k := by simp [valueAt, List.find?_cons, e']
      rw [valV_neg e, b]; exact ih
theorem KV.any {kvs : List (κ × V)} {vs : List (κ × Value)} (r : KV kvs vs) (k : κ) : (kvs.any fun kv => decide (kv.1 = k)) = vs.any fun kv => decide (kv.1 = k) := by
  unfold KV at r
  induction r with
  | nil => rfl
  | cons h t ih => rw [List.any_cons, List.any_cons, ih, h.1]
theorem KV.repl {kvs : List (κ × V)} {vs : List (κ × Value)} (r : KV kvs vs) (k : κ) {y : V} {u : Value} (ry : RelV y u) :
    KV (kvs.map fun kv => if kv.1 = k then (kv.1, y) else kv) (vs.map fun kv => if kv.1 = k then (kv.1, u) else kv) := by
  unfold KV at r ⊢
  induction r with
  | nil => exact .nil
  | @cons p q ps qs h t ih =>
    rw [List.map_cons, List.map_cons]
    refine .cons ?_ ih
    obtain ⟨h1, h2⟩ := h
    by_cases e : p.1 = k
    · rw [if_pos e, if_pos (h1.symm.trans e)]; exact ⟨h1, ry⟩
    · rw [if_neg e, if_neg (fun z => e (h1.trans z))]; exact ⟨h1, h2⟩
theorem KV.put {kvs : List (κ × V)} {vs : List (κ × Value)} (r : KV kvs vs) (k : κ) {y : V} {u : Value} (ry : RelV y u) : KV (putK kvs k y) (stored vs k u) := by
  unfold putK stored
  rw [r.any k]
  by_cases e : (vs.any fun kv => decide (kv.1 = k)) = true
  · rw [if_pos e, if_pos e]; exact r.repl k ry
  · rw [if_neg e, if_neg e]; exact Paired.snoc r ⟨rfl, ry⟩
theorem KV.length {kvs : List (κ × V)} {vs : List (κ × Value)} (r : KV kvs vs) : kvs.length = vs.length := Paired.length r
end


theorem kV_is {P : Program} {w : World} {k : Key} {u : Value} (r : RelV (kV k) u) : (mixKind P w).is k u = true := by
  cases k with
  | inl i => obtain ⟨t, e⟩ := (show ∃ t, u = Value.int i t from r); subst e; exact mixKind_int P w i t
  | inr x => obtain ⟨t, e⟩ := (show ∃ t, u = Value.str x t from r); subst e; exact mixKind_str P w x t
theorem items_are {P : Program} {w : World} : ∀ {ks : List Key} {us : List Value}, Vals (ks.map kV) us → ItemsAre (mixKind P w) ks us
  | [], _, r => by rw [List.map_nil] at r; cases r; exact .nil
  | k :: ks, _, r => by
    rw [List.map_cons] at r
    cases r with
    | cons h t => exact .cons (kV_is h) (items_are t)

abbrev KT (H : Hp) : List (List Key × V) → List (List Key × Addr × Value) → Prop := Paired fun p q => p.1 = q.1 ∧ H q.2.1 = some (.tup (p.1.map kV)) ∧ RelV p.2 q.2.2
theorem KT.val {H : Hp} {kvs : List (List Key × V)} {xs : List (List Key × Addr × Value)} (r : KT H kvs xs) (k : List Key) : RelO (valV kvs k) ((atKey xs k).map (·.2)) := by
  induction r with
  | nil => exact True.intro
  | @cons p q ps qs h t ih =>
    obtain ⟨h1, _, h2⟩ := h
    by_cases e : p.1 = k
    · have e' : q.1 = k := h1.symm.trans e
      have b : atKey (q :: qs) k = some q.2 := by simp [atKey, List.find?_cons, e']
      rw [valV_pos e, b]; exact h2
    · have e' : ¬ q.1 = k := fun z => e (h1.trans z)
      have b : atKey (q :: qs) k = atKey qs k := by simp [atKey, List.find?_cons, e']
      rw [valV_neg e, b]; exact ih
theorem KT.repl {H : Hp} {kvs : List (List Key × V)} {xs : List (List Key × Addr × Value)} (r : KT H kvs xs) (k : List Key) {y : V} {u : Value} (ry : RelV y u) :
    KT H (kvs.map fun kv => if kv.1 = k then (kv.1, y) else kv) (xs.map (putAt k u)) := by
  induction r with
  | nil => exact .nil
  | @cons p q ps qs h t ih =>
    rw [List.map_cons, List.map_cons]
    refine .cons ?_ ih
    obtain ⟨h1, h2, h3⟩ := h
    unfold putAt
    by_cases e : p.1 = k
    · rw [if_pos e, if_pos (h1.symm.trans e)]; exact ⟨h1, h2, ry⟩
    · rw [if_neg e, if_neg (fun z => e (h1.trans z))]; exact ⟨h1, h2, h3⟩
theorem KT.put {H : Hp} {kvs : List (List Key × V)} {xs : List (List Key × Addr × Value)} (r : KT H kvs xs) (k : List Key) {b : Addr} {y : V} {u : Value} (hb : H b = some (.tup (k.map kV))) (ry : RelV y u) :
    KT H (putK kvs k y) (storedH xs k b u) := by
  have e : (kvs.any fun kv => decide (kv.1 = k)) = (atKey xs k).isSome := by
    rw [valV_any, (r.val k).isSome_eq, Option.isSome_map]
  unfold putK storedH
  rw [e]
  by_cases q : (atKey xs k).isSome = true
  · rw [if_pos q, if_pos q]; exact r.repl k ry
  · rw [if_neg q, if_neg q]; exact Paired.snoc r ⟨rfl, hb, ry⟩
theorem KT.keeps {H H' : Hp} {kvs : List (List Key × V)} {xs : List (List Key × Addr × Value)} (r : KT H kvs xs) (ht : ∀ b ys, H b = some (.tup ys) → H' b = some (.tup ys)) : KT H' kvs xs :=
  Paired.mapP r fun _ _ z => ⟨z.1, ht _ _ z.2.1, z.2.2⟩

section
variable {P : Program} {w : World} {H : Hp} {h : Heap} {a : Addr}
theorem rd_of {u : HO} (ok : HOk P w H h) (e : Rd H a u) : ObjOk P w H h a u := e.ok ok
theorem dk_rd {kvs : List (Key × V)} (ok : HOk P w H h) (e : Rd H a (.dK kvs)) : kvs.length ≤ sizeLine ∧ (a == sysModules) = false ∧ ∃ vs, KV kvs vs ∧ h.DictOf (mixKind P w) a vs :=
  show ObjOk P w H h a (.dK kvs) from rd_of ok e
theorem dk_of {kvs : List (Key × V)} (ok : HOk P w H h) (e : H a = some (.dK kvs)) : kvs.length ≤ sizeLine ∧ (a == sysModules) = false ∧ ∃ vs, KV kvs vs ∧ h.DictOf (mixKind P w) a vs := dk_rd ok (.inl e)
theorem key_of {ks : List Key} (ok : HOk P w H h) (e : H a = some (.tup (ks.map kV))) : (tupleKind (mixKind P w)).is h ks a := by
  obtain ⟨_, its, r, o, h1, h2, n, h3⟩ := (show ObjOk P w H h a (.tup (ks.map kV)) from ok a _ e)
  exact ⟨o, its.toArray, n, h1, h2, h3, by simpa using items_are r⟩
theorem dt_rd {kvs : List (List Key × V)} (ok : HOk P w H h) (e : Rd H a (.dT kvs)) : kvs.length ≤ sizeLine ∧ (a == sysModules) = false ∧
    ∃ xs, KT H kvs xs ∧ h.DictOfH (tupleKind (mixKind P w)) a xs := by
  obtain ⟨z, y, xs, r, o, es, ep, h1, h2, h3, h4, h5⟩ := (show ObjOk P w H h a (.dT kvs) from rd_of ok e)
  refine ⟨z, y, xs, r, o, es, ep, h1, h2, h3, h4, fun x hx => ?_, h5⟩
  have all : ∀ {l : List (List Key × V)} {m : List (List Key × Addr × Value)}, KT H l m → ∀ x ∈ m, (tupleKind (mixKind P w)).is h x.1 x.2.1 := by
    intro l m q
    induction q with
    | nil => intro x hx; exact nomatch hx
    | @cons p q ps qs hq t ih =>
      intro x hx
      rcases List.mem_cons.mp hx with e | hx
      · subst e
        exact key_of ok (by rw [← hq.1]; exact hq.2.1)
      · exact ih x hx
  exact all r x hx
theorem dt_of {kvs : List (List Key × V)} (ok : HOk P w H h) (e : H a = some (.dT kvs)) : kvs.length ≤ sizeLine ∧ (a == sysModules) = false ∧
    ∃ xs, KT H kvs xs ∧ h.DictOfH (tupleKind (mixKind P w)) a xs := dt_rd ok (.inl e)
end

def DGet (H : Hp) (a : Addr) (y : V) (r : Option V) : Prop :=
  (∃ kvs k, Rd H a (.dK kvs) ∧ y = kV k ∧ r = valV kvs k) ∨ ∃ kvs k b, Rd H a (.dT kvs) ∧ y = .ref b ∧ H b = some (.tup (k.map kV)) ∧ r = valV kvs k
def DPut (H : Hp) (a : Addr) (y v : V) (H' : Hp) : Prop :=
  (∃ kvs k, H a = some (.dK kvs) ∧ y = kV k ∧ kvs.length < sizeLine ∧ H' = upd H a (.dK (putK kvs k v))) ∨
  ∃ kvs k b, H a = some (.dT kvs) ∧ y = .ref b ∧ H b = some (.tup (k.map kV)) ∧ kvs.length < sizeLine ∧ H' = upd H a (.dT (putK kvs k v))
theorem DGet.k {H : Hp} {a : Addr} {kvs : List (Key × V)} {k : Key} (e : H a = some (.dK kvs)) : DGet H a (kV k) (valV kvs k) := .inl ⟨kvs, k, .inl e, rfl, rfl⟩
theorem DPut.k {H : Hp} {a : Addr} {kvs : List (Key × V)} {k : Key} {v : V} (e : H a = some (.dK kvs)) (hl : kvs.length < sizeLine) : DPut H a (kV k) v (upd H a (.dK (putK kvs k v))) := .inl ⟨kvs, k, e, rfl, hl, rfl⟩
section
variable {X : Cx} {pins : List (Addr × Obj)} {σ : St} {H : Hp} {s : Shared} {a : Addr} {y v : V} {u r : Value} {o : Option V} {A : Around} {E : Value → Shared → Prop}

theorem Inv.big (I : Inv X pins σ H s) : sysModules < s.heap.objs.size := by
  have h : mainGlobals < s.heap.objs.size := (I.mod.glob.keeps I.bk).lt
  exact Nat.lt_trans (by decide) h

theorem d_getItem {Q : Value → Shared → Prop} (hu : A.units + 1 < cLine) (I : Inv X pins σ H s) (g : DGet H a y (some v)) (ry : RelV y u) (h : ∀ w' s', Inv X pins σ H s' → RelV v w' → Q w' s') :
    wpAny (model X.prog X.w) A (getItem (.ref a) u) Q E s := by
  rcases g with ⟨kvs, k, e, ey, l⟩ | ⟨kvs, k, b, e, ey, eb, l⟩
  · subst ey
    obtain ⟨z, hd, vs, rel, dd⟩ := dk_rd I.hok e
    obtain ⟨w', hw, rw'⟩ := RelO.some_of (v := v) (o := valueAt vs k) (by rw [l]; exact rel.val k)
    exact wpAny_getItem_of (kV_is ry) dd.mapOf hw (h w' _ (I.tok _) rw')
  · subst ey
    cases (show u = Value.ref b from ry)
    obtain ⟨z, hd, xs, rel, dd⟩ := dt_rd I.hok e
    obtain ⟨w', hw, rw'⟩ := RelO.some_of (v := v) (o := (atKey xs k).map (·.2)) (by rw [l]; exact rel.val k)
    obtain ⟨p, hp, hp2⟩ := Option.map_eq_some_iff.mp hw
    refine wpAny_getItem_heap (tupleKind_room_in1 hu) (key_of I.hok eb) dd hp ?_
    rw [hp2]
    exact h w' _ (I.tok _) rw'
theorem d_write {h' : Heap} {t' : Nat} {ob : HO} (I : Inv X pins σ H s) (mu : Mut (H a)) (hs : Heap.SameBut a s.heap h') (he : ∃ q, h'.get? a = some q) (new : ObjOk X.prog X.w (upd H a ob) h' a ob) :
    Inv X pins σ (upd H a ob) { s with heap := h', toks := t' } :=
  I.write (x := a) (e := a) mu (.inl rfl) (fun b q hb z => (hs.2 b hb).trans z) he new
theorem dk_new {P : Program} {w : World} {H' : Hp} {h' : Heap} {kvs : List (Key × V)} {vs : List (Key × Value)} (z : kvs.length ≤ sizeLine) (hd : (a == sysModules) = false) (rel : KV kvs vs) (dd : h'.DictOf (mixKind P w) a vs) :
    ObjOk P w H' h' a (.dK kvs) := ⟨z, hd, vs, rel, dd⟩
theorem d_setItem {H' : Hp} {Q : Unit → Shared → Prop} (hu : A.units + 1 < cLine) (I : Inv X pins σ H s) (g : DPut H a y v H') (ry : RelV y u) (rv : RelV v r) (h : ∀ s', Inv X pins σ H' s' → Q () s') :
    wpAny (model X.prog X.w) A (setItem (.ref a) u r) Q E s := by
  rcases g with ⟨kvs, k, e, ey, l, eH⟩ | ⟨kvs, k, b, e, ey, eb, l, eH⟩
  · subst ey eH
    obtain ⟨z, hd, vs, rel, dd⟩ := dk_of I.hok e
    have hz : vs.length ≤ sizeLine := by rw [← rel.length]; exact z
    have hl : (putK kvs k v).length ≤ sizeLine := by have := length_putK kvs k v; omega
    refine wpAny_setItem_pairs (hsz := hz) (kV_is ry) dd fun h' dd' hs => h _ ?_
    have he : ∃ q, h'.get? a = some q := let ⟨q, _, _, hq, _⟩ := dd'; ⟨q, hq⟩
    exact d_write I (by rw [e]; exact True.intro) hs he (dk_new hl hd (rel.put k rv) dd')
  · subst ey eH
    cases (show u = Value.ref b from ry)
    obtain ⟨z, hd, xs, rel, dd⟩ := dt_of I.hok e
    have hz : xs.length ≤ sizeLine := by rw [← Paired.length rel]; exact z
    have hl : (putK kvs k v).length ≤ sizeLine := by have := length_putK kvs k v; omega
    refine wpAny_setItem_heap (hsz := hz) (tupleKind_room_in1 hu) (key_of I.hok eb) dd fun h' dd' hs => h _ ?_
    obtain ⟨q, es, ep, hq, h2, h3, h4, _, h5⟩ := dd'
    refine d_write I (by rw [e]; exact True.intro) hs ⟨q, hq⟩ ⟨hl, hd, _, (rel.put k eb rv).keeps fun c ys ec => ?_, q, es, ep, hq, h2, h3, h4, h5⟩
    rw [upd_ne (ne_of ec e (fun z => nomatch z))]
    exact ec
end

section
variable {X : Cx} {pins : List (Addr × Obj)} {σ : St} {H : Hp} {s : Shared} {a : Addr} {kvs : List (Key × V)} {k : Key} {u : Value} {A : Around} {E : Value → Shared → Prop}
end


theorem dict_typeIs {X : Cx} {pins : List (Addr × Obj)} {σ : St} {H : Hp} {s : Shared} {a : Addr} {y : V} {o : Option V} (I : Inv X pins σ H s) (g : DGet H a y o) : s.TypeIs (.ref a) "dict" := by
  rcases g with ⟨kvs, k, e, _, _⟩ | ⟨kvs, k, b, e, _, _, _⟩
  · obtain ⟨_, _, vs, _, dd⟩ := dk_rd I.hok e
    exact dd.typeIs
  · obtain ⟨_, _, xs, _, dd⟩ := dt_rd I.hok e
    exact dd.typeIs
section
variable {X : Cx} {o i e value : Expr} {pos pos' tpos : Pos} {td ty tv : TE}
end


theorem dk_empty {P : Program} {w : World} {H : Hp} (h : Heap) (hb : sysModules < h.objs.size) : ObjOk P w H (h.push { cls := .type "dict", data := .dict #[] }) h.objs.size (.dK []) :=
  ⟨Nat.zero_le _, beq_eq_false_iff_ne.mpr (Ne.symm (Nat.ne_of_lt hb)), [], .nil, Heap.DictOf.new h⟩
section
variable {X : Cx} {pos : Pos}
end

def tPairs : List (TE × TE) → St → Hp → (List (V × V) → Hp → Prop) → Prop
  | [], _, H, Q => Q [] H
  | (tk, tv) :: r, σ, H, Q => tk σ H fun x H1 => tv σ H1 fun y H2 => tPairs r σ H2 fun ps H3 => Q ((x, y) :: ps) H3
abbrev VV : List (V × V) → List (Value × Value) → Prop := Paired fun p q => RelV p.1 q.1 ∧ RelV p.2 q.2
def PPs (X : Cx) (pos : Pos) (keys : List (Option Expr)) (values : List Expr) (trs : List (TE × TE)) : Prop :=
  ∀ (pins : List (Addr × Obj)) (s : Shared) (σ : St) (H : Hp) (Q : List (V × V) → Hp → Prop), Inv X pins σ H s → tPairs trs σ H Q →
    wpAny (model X.prog X.w) X.A (evalPairs (pairTrees keys values X.env pos)) (fun vs s' => ∃ ps H', Inv X pins σ H' s' ∧ VV ps vs ∧ Q ps H') X.xe s
theorem pps_nil {X : Cx} {pos : Pos} : PPs X pos [] [] [] := fun pins s σ H Q I h => pairTrees_nil_walk ⟨[], H, I, .nil, h⟩
theorem pps_cons {X : Cx} {pos : Pos} {k v : Expr} {ks : List (Option Expr)} {vs : List Expr} {tk tv : TE} {trs : List (TE × TE)} (hk : PE X k tk) (hv : PE X v tv) (hr : PPs X pos ks vs trs) :
    PPs X pos (some k :: ks) (v :: vs) ((tk, tv) :: trs) := fun pins s σ H Q I h =>
  pairTrees_cons_walk (thn (hk pins s σ H _ I h) fun u s1 ⟨x, H1, I1, rx, q1⟩ => thn (hv pins s1 σ H1 _ I1 q1) fun w2 s2 ⟨y, H2, I2, ry, q2⟩ =>
    thn (hr pins s2 σ H2 _ I2 q2) fun ws s3 ⟨ps, H3, I3, rel, q3⟩ => ⟨(x, y) :: ps, H3, I3, .cons ⟨rx, ry⟩ rel, q3⟩)

def mergeK (kvs more : List (Key × V)) : List (Key × V) := more.foldl (fun acc kv => putK acc kv.1 kv.2) kvs
theorem KV.merge : ∀ {more : List (Key × V)} {rs : List (Key × Value)} {kvs : List (Key × V)} {vs : List (Key × Value)}, KV more rs → KV kvs vs → KV (mergeK kvs more) (merged vs rs) := by
  intro more rs kvs vs r
  unfold KV at r
  induction r generalizing kvs vs with
  | nil => intro q; exact q
  | @cons p q ps qs h t ih =>
    intro r0
    have e : KV (putK kvs p.1 p.2) (stored vs q.1 q.2) := by
      have := r0.put p.1 h.2
      rw [← h.1]; exact this
    exact ih e
theorem length_mergeK : ∀ (more kvs : List (Key × V)), (mergeK kvs more).length ≤ kvs.length + more.length
  | [], kvs => by show kvs.length ≤ kvs.length + 0; omega
  | p :: r, kvs => by
    have h1 := length_mergeK r (putK kvs p.1 p.2)
    have h2 := length_putK kvs p.1 p.2
    show (mergeK (putK kvs p.1 p.2) r).length ≤ _
    rw [List.length_cons]; omega
theorem carries_of {P : Program} {w : World} : ∀ {kvs : List (Key × V)} {ws : List (Value × Value)}, VV (kvs.map fun kv => (kV kv.1, kv.2)) ws → ∃ rs, Carries (mixKind P w) ws rs ∧ KV kvs rs
  | [], _, r => by rw [List.map_nil] at r; cases r; exact ⟨[], True.intro, .nil⟩
  | p :: kvs, _, r => by
    rw [List.map_cons] at r
    cases r with
    | @cons a b as bs h t =>
      obtain ⟨rs, c, q⟩ := carries_of (P := P) (w := w) t
      obtain ⟨b1, b2⟩ := b
      exact ⟨(p.1, b2) :: rs, ⟨kV_is h.1, rfl, c⟩, .cons ⟨rfl, h.2⟩ q⟩
def tDisp (trs : List (TE × TE)) : TE := fun σ H Q => ∀ p, H p = none → tPairs trs σ (upd H p (.dK [])) fun ps H2 => H2 p = some (.dK []) ∧ ∃ kvs : List (Key × V), ps = kvs.map (fun kv => (kV kv.1, kv.2)) ∧ kvs.length ≤ 15 ∧ Q (.ref p) (upd H2 p (.dK (mergeK [] kvs)))
theorem pe_disp {X : Cx} {pos : Pos} {keys : List (Option Expr)} {values : List Expr} {trs : List (TE × TE)} (h : PPs X pos keys values trs) (hall : keys.all (·.isSome) = true) (hl : keys.length = values.length) (h0 : keys ≠ [])
    (h15 : keys.length ≤ 15) : PE X (.Dict keys values pos) (tDisp trs) := by
  intro pins s σ H Q I q
  have hn := I.hok.fresh (Nat.le_refl s.heap.objs.size)
  have I1 := I.laid (a := s.heap.objs.size) (o := .dK []) (h' := s.heap.push { cls := .type "dict", data := .dict #[] }) (t' := s.toks) (fun _ _ q => Heap.get?_push_of_some _ q) (Nat.le_refl _) (dk_empty s.heap I.big)
  refine wpAny_Dict_walk (knd := mixKind X.prog X.w) hall hl h0 h15 (thn (h pins _ σ _ _ I1 (q _ hn)) fun ws s2 ⟨ps, H2, I2, rel, e, kvs, ep, lk, q2⟩ => ?_)
  subst ep
  obtain ⟨rs, c, rk⟩ := carries_of (P := X.prog) (w := X.w) rel
  obtain ⟨z, hd, vs0, r0, dd⟩ := dk_of I2.hok e
  cases r0
  refine ⟨rs, c, dd, fun h' dd' hs => ⟨.ref s.heap.objs.size, _, ?_, rfl, q2⟩⟩
  have hz : (mergeK [] kvs).length ≤ sizeLine := by
    have h1 := length_mergeK kvs []
    rw [List.length_nil] at h1
    rw [sizeLine_eq]; omega
  have he : ∃ q, h'.get? s.heap.objs.size = some q := let ⟨q, _, _, hq, _⟩ := dd'; ⟨q, hq⟩
  exact d_write I2 (by rw [e]; exact True.intro) hs he (dk_new hz hd (rk.merge .nil) dd')


structure M1 (X : Cx) (o : Expr) (m : Str) (apos : Pos) (e : Expr) (cpos : Pos) : Prop where
  base : attributeBase o m X.env (eval o X.env) = eval o X.env
  few : ((backTo cpos (starEach [e] X.env)).all (fun x => !x.1) && (backToKw cpos (keywordEach [] X.env)).all (fun x => x.1.isSome)
    && decide (([e] : List Expr).length + ([] : List Keyword).length + (if ([] : List Keyword).isEmpty then 0 else 1) < 30)) = true
  line : (apos.endLine == cpos.line) = true
  trees : backTo cpos (starEach [e] X.env) = [(false, eval e X.env)]
structure M2 (X : Cx) (o : Expr) (m : Str) (apos : Pos) (e f : Expr) (cpos : Pos) : Prop where
  base : attributeBase o m X.env (eval o X.env) = eval o X.env
  few : ((backTo cpos (starEach [e, f] X.env)).all (fun x => !x.1) && (backToKw cpos (keywordEach [] X.env)).all (fun x => x.1.isSome)
    && decide (([e, f] : List Expr).length + ([] : List Keyword).length + (if ([] : List Keyword).isEmpty then 0 else 1) < 30)) = true
  line : (apos.endLine == cpos.line) = true
  trees : backTo cpos (starEach [e, f] X.env) = [(false, eval e X.env), (false, eval f X.env)]

section
variable {X : Cx} {pins : List (Addr × Obj)} {σ : St} {H : Hp} {s : Shared} {a : Addr} {y d : V} {u r : Value} {o : Option V} {A : Around} {E : Value → Shared → Prop}
end

section
variable {X : Cx} {o e f : Expr} {apos cpos : Pos} {td ty tx : TE}
end

section
variable {X : Cx} {pins : List (Addr × Obj)} {σ : St} {H : Hp} {s : Shared} {a : Addr} {kvs : List (Key × V)} {A : Around} {E : Value → Shared → Prop}
end


section
variable {X : Cx} {pins : List (Addr × Obj)} {σ : St} {H : Hp} {s : Shared} {a : Addr} {y : V} {u : Value} {A : Around} {E : Value → Shared → Prop}
end
end L2

namespace Att
open PySem PySem.W PySem.Calls PyProof.Rows

section
variable {prog : Program} {w : World} {A : Around} {E : Value → Shared → Prop} {s : Shared} {K : Frag}

end
end Att

namespace L2
open PySem PySem.Spec PyProof.Rows

end L2

namespace L2
open PySem PySem.Spec PyProof.Rows

end L2

namespace L2
open PySem PySem.Spec PyProof.Rows

section
variable {P : Program} {w : World} {K : PySem.W.Frag} {mg : Str → Option Value} {base : Heap}
end
section
variable {X : Cx}
end

section
variable {κ : Type} [DecidableEq κ]
end
end L2

namespace L2
open PySem PySem.Spec PyProof.Rows

/-! ### list comprehensions of one clause -/
theorem closure_loop (env : Env) : ∀ (names : List (Str × NameKind)) (acc : List (Str × Addr)),
    (∀ p ∈ names, p.2 = .free → ∃ c, env.cells.lookup p.1 = some c) →
    (∀ x c, acc.lookup x = some c → env.cells.lookup x = some c) →
    ∃ cl, (forIn names acc (fun (x : Str × NameKind) cs =>
        (if (x.2 == NameKind.free) = true then (do let a ← cellOf env x.1; pure (ForInStep.yield ((x.1, a) :: cs))) else pure (ForInStep.yield cs))) : Sem (List (Str × Addr))) = pure cl ∧
      (∀ x c, cl.lookup x = some c → env.cells.lookup x = some c) ∧
      (∀ x, (names.lookup x = some .free ∨ (acc.lookup x).isSome = true) → ∃ c, cl.lookup x = some c) := by
  intro names
  induction names with
  | nil =>
    intro acc _ ha
    refine ⟨acc, rfl, ha, fun x hx => ?_⟩
    rcases hx with hx | hx
    · simp at hx
    · exact Option.isSome_iff_exists.mp hx
  | cons p r ih =>
    intro acc hf ha
    obtain ⟨n, k⟩ := p
    have hr : ∀ p ∈ r, p.2 = .free → ∃ c, env.cells.lookup p.1 = some c := fun p hp => hf p (List.mem_cons_of_mem _ hp)
    by_cases hk : k = .free
    · subst hk
      obtain ⟨c, hc⟩ := hf (n, .free) List.mem_cons_self rfl
      obtain ⟨cl, h1, h2, h3⟩ := ih ((n, c) :: acc) hr (fun x c' e => by
        rw [List.lookup_cons] at e
        cases hx : x == n with
        | true =>
          rw [hx] at e
          have := eq_of_beq hx
          subst this
          cases e
          exact hc
        | false => rw [hx] at e; exact ha x c' e)
      refine ⟨cl, ?_, h2, fun x hx => h3 x ?_⟩
      · rw [List.forIn_cons]
        have : cellOf env n = pure c := by unfold cellOf; rw [hc]
        simp only [beq_self_eq_true, if_true, this]
        exact h1
      · rcases hx with hx | hx
        · rw [List.lookup_cons] at hx
          cases hq : x == n with
          | true => right; rw [List.lookup_cons, hq]; rfl
          | false => rw [hq] at hx; exact .inl hx
        · right
          rw [List.lookup_cons]
          cases hq : x == n with
          | true => rfl
          | false => exact hx
    · have hb : (k == NameKind.free) = false := by simpa using hk
      obtain ⟨cl, h1, h2, h3⟩ := ih acc hr ha
      refine ⟨cl, ?_, h2, fun x hx => h3 x ?_⟩
      · rw [List.forIn_cons]
        simp only [hb, Bool.false_eq_true, if_false]
        exact h1
      · rcases hx with hx | hx
        · rw [List.lookup_cons] at hx
          cases hq : x == n with
          | true => rw [hq] at hx; cases hx; exact absurd rfl hk
          | false => rw [hq] at hx; exact .inl hx
        · exact .inr hx

theorem closure_free {scope : Scope} {env : Env} (hf : ∀ p ∈ scope.names, p.2 = .free → ∃ c, env.cells.lookup p.1 = some c) :
    ∃ cl, closureFor scope env = pure cl ∧ (∀ x c, cl.lookup x = some c → env.cells.lookup x = some c) ∧ (∀ x, scope.names.lookup x = some .free → ∃ c, cl.lookup x = some c) := by
  obtain ⟨cl, h1, h2, h3⟩ := closure_loop env scope.names [] hf (fun _ _ e => by simp at e)
  refine ⟨cl, ?_, h2, fun x hx => h3 x (.inl hx)⟩
  unfold closureFor
  simp only []
  have : ((forIn scope.names ([] : List (Str × Addr)) (fun (x : Str × NameKind) cs =>
        (if (x.2 == NameKind.free) = true then (do let a ← cellOf env x.1; pure (ForInStep.yield ((x.1, a) :: cs))) else pure (ForInStep.yield cs))) : Sem (List (Str × Addr))) >>= fun r => pure r) = pure cl := by
    rw [h1]; rfl
  exact this
/-- the names of a comprehension's block: those of the frame around (by their places there), and its own -/
def IxOk (N : List Str) (around : Scope) (scope : Scope) : List Str → List (Option Nat) → Prop
  | [], [] => True
  | y :: r, some j :: t => (N[j]? = some y ∧ scope.names.lookup y = some .free ∧ (around.names.lookup y = some .cell ∨ around.names.lookup y = some .free)) ∧ IxOk N around scope r t
  | _ :: r, none :: t => IxOk N around scope r t
  | _, _ => False
theorem IxOk.at {N : List Str} {around scope : Scope} : ∀ {N' : List Str} {ix : List (Option Nat)}, IxOk N around scope N' ix → ∀ (i : Nat) (y : Str) (j : Nat), N'[i]? = some y → ix[i]? = some (some j) →
    N[j]? = some y ∧ scope.names.lookup y = some .free ∧ (around.names.lookup y = some .cell ∨ around.names.lookup y = some .free)
  | [], _, _, i, y, j, e, _ => by simp at e
  | _ :: _, [], h, _, _, _, _, _ => h.elim
  | y' :: r, some j' :: t, h, 0, y, j, e, e' => by
    simp at e e'
    subst e e'
    exact h.1
  | y' :: r, some j' :: t, h, i + 1, y, j, e, e' => IxOk.at (N' := r) (ix := t) h.2 i y j (by simpa using e) (by simpa using e')
  | y' :: r, none :: t, h, 0, y, j, e, e' => by simp at e'
  | y' :: r, none :: t, h, i + 1, y, j, e, e' => IxOk.at (N' := r) (ix := t) h i y j (by simpa using e) (by simpa using e')
theorem IxOk.len {N : List Str} {around scope : Scope} : ∀ {N' : List Str} {ix : List (Option Nat)}, IxOk N around scope N' ix → ix.length = N'.length
  | [], [], _ => rfl
  | [], _ :: _, h => h.elim
  | _ :: _, [], h => h.elim
  | _ :: r, some _ :: t, h => by simp [IxOk.len (N' := r) (ix := t) h.2]
  | _ :: r, none :: t, h => by simp [IxOk.len (N' := r) (ix := t) h]
/-- the values that the block's names have at its entry -/
def innerSt (ix : List (Option Nat)) (σ : St) : St := ix.map fun o => match o with
  | none => none
  | some j => match σ[j]? with
    | some v => v
    | none => none
structure CompOk (X : Cx) (scope : Scope) (N' : List Str) (ix : List (Option Nat)) : Prop where
  kind : scope.kind = .function
  cell : ∀ y ∈ scope.names, y.2 ≠ .cell
  names : ∀ y ∈ scope.names, y.2 = .local → scope.names.lookup y.1 = some .local
  free : ∀ y ∈ scope.names, y.2 = .free → X.env.scope.names.lookup y.1 = some .cell ∨ X.env.scope.names.lookup y.1 = some .free
  ixs : IxOk X.N X.env.scope scope N' ix
/-- the context of the block: no exception leaves it -/
def Cx.comp (X : Cx) (scope : Scope) (N' : List Str) (cl : List (Str × Addr)) (C : Addr) (s : Shared) (H : Hp) (fp : List Addr) : Cx where
  prog := X.prog
  w := X.w
  K := X.K
  mg := X.mg
  base := X.base
  A := X.A
  N := N'
  s₀ := s
  H₀ := H
  env := compEnvC scope cl C X.env
  outer := X.stack
  stack := X.stack
  ex := fp
  fn := fun _ => false
  calm := true
  pn := []
  xe := fun _ _ => False

theorem lookup_relabel {env : Env} {scope : Scope} {x : Str} {k : NameKind} : (relabel scope env).names.lookup x = some k → k = .cell ∨ k = .free → (∀ y ∈ scope.names, y.2 ≠ .cell) → scope.names.lookup x = some .free := by
  unfold relabel
  dsimp only
  generalize scope.names = names
  intro h hk hc
  induction names with
  | nil => simp at h
  | cons p r ih =>
    obtain ⟨n, k'⟩ := p
    rw [List.map_cons, List.lookup_cons] at h
    rw [List.lookup_cons]
    by_cases hf : k' = .free
    · subst hf
      cases hq : x == n with
      | true => rfl
      | false =>
        refine ih ?_ fun y hy => hc y (List.mem_cons_of_mem _ hy)
        split at h
        · rename_i hh; simp only [hq] at hh; split at hh <;> exact absurd hh (by simp [hq])
        · exact h
    · have hb : (k' == NameKind.free) = false := by simpa using hf
      simp only [hb, Bool.false_and, Bool.false_eq_true, if_false] at h
      cases hq : x == n with
      | true =>
        rw [hq] at h
        simp only [Option.some.injEq] at h
        subst h
        rcases hk with hk | hk
        · exact absurd hk (hc (n, k') List.mem_cons_self)
        · exact absurd hk hf
      | false =>
        rw [hq] at h
        exact ih h fun y hy => hc y (List.mem_cons_of_mem _ hy)
theorem relabel_free {env : Env} {scope : Scope} {x : Str} (h : scope.names.lookup x = some .free) : (relabel scope env).names.lookup x = some .cell ∨ (relabel scope env).names.lookup x = some .free := by
  unfold relabel
  dsimp only
  generalize scope.names = names at h
  induction names with
  | nil => simp at h
  | cons p r ih =>
    obtain ⟨n, k'⟩ := p
    rw [List.lookup_cons] at h
    rw [List.map_cons]
    cases hq : x == n with
    | true =>
      rw [hq] at h
      simp only [Option.some.injEq] at h
      subst h
      by_cases hc : (env.scope.kind == ScopeKind.function && env.kindOf n == some NameKind.cell) = true
      · left
        simp only [beq_self_eq_true, Bool.true_and, hc, if_true, List.lookup_cons, hq]
      · right
        simp only [beq_self_eq_true, Bool.true_and, hc, Bool.false_eq_true, if_false, List.lookup_cons, hq]
    | false =>
      rw [hq] at h
      have := ih h
      by_cases hc : (k' == NameKind.free && env.scope.kind == ScopeKind.function && env.kindOf n == some NameKind.cell) = true
      · simp only [hc, if_true, List.lookup_cons, hq]; exact this
      · simp only [hc, Bool.false_eq_true, if_false, List.lookup_cons, hq]; exact this
end L2

namespace L2
open PySem PySem.Spec PyProof.Rows
section
variable {X : Cx} {pins : List (Addr × Obj)} {σ : St} {H : Hp} {s : Shared}

/-- an untracked object of ours becomes a tracked list -/
theorem Inv.track {D : Addr} {its : List Value} {n : Nat} {ys : List V} (I : Inv X pins σ H s) (hn : H D = none) (hL : D ≠ X.env.locals) (h1 : X.s₀.heap.objs.size ≤ D)
    (h2 : ∀ x c, X.env.cells.lookup x = some c → c ≠ D) (h3 : ∀ p ∈ X.pn ++ pins, p.1 ≠ D) (ho : s.heap.get? D = some { cls := .type "list", data := .seq its.toArray n }) (r : Vals ys its) (hz : ys.length ≤ sizeLine) :
    Inv X pins σ (upd H D (.lst ys)) s := by
  have ne : ∀ b u, H b = some u → b ≠ D := fun b u e z => by rw [z, hn] at e; cases e
  have ne0 : ∀ b o, X.s₀.heap.get? b = some o → b ≠ D := fun b o e => Nat.ne_of_lt (Nat.lt_of_lt_of_le (Heap.lt_size e) h1)
  refine ⟨I.ok, I.os, I.bare, ⟨I.base.keep, I.base.slot, fun b o e n' hx => ?_, I.base.there, fun b xs e => ?_, fun b o u e => ?_, fun b ps e => ?_⟩, I.loc, I.cell, ?_, fun x c e => ?_, fun p hp => ?_, fun b u e => ?_, I.len⟩
  · rw [upd_ne (ne0 b o e)]; exact I.base.free b o e n' hx
  · have q := I.base.tups b xs e
    rw [upd_ne (ne _ _ q)]; exact q
  · have q := I.base.frzs b o u e
    rw [upd_ne (ne _ _ q)]; exact q
  · obtain ⟨more, q⟩ := I.base.tbls b ps e
    exact ⟨more, by rw [upd_ne (ne _ _ q)]; exact q⟩
  · rw [upd_ne (Ne.symm hL)]; exact I.free
  · rw [upd_ne (h2 x c e)]; exact I.freeC x c e
  · obtain ⟨a1, a2, a3⟩ := I.pin p hp
    exact ⟨a1, by rw [upd_ne (h3 p hp)]; exact a2, a3⟩
  · by_cases hb : b = D
    · subst hb
      rw [upd_same] at e
      cases e
      exact ⟨hz, its, n, r, ho⟩
    · rw [upd_ne hb] at e
      refine (I.hok b u e).stay (fun c v hc q => q) (fun c q => ?_) fun c xs q => ?_
      · rw [upd_ne (ne _ _ q)]; exact q
      · rw [upd_ne (ne _ _ q)]; exact q

/-- the block's entry -/
theorem Inv.comp {scope : Scope} {N' : List Str} {ix : List (Option Nat)} {cl : List (Str × Addr)} {C : Addr} {fp : List Addr} {h' : Heap} {t' : Nat} (I : Inv X pins σ H s) (co : CompOk X scope N' ix)
    (hcl1 : ∀ x c, cl.lookup x = some c → X.env.cells.lookup x = some c) (hcl2 : ∀ x, scope.names.lookup x = some .free → ∃ c, cl.lookup x = some c) (hc : X.calm = true)
    (hC : s.heap.objs.size ≤ C) (hns : h'.Ns C fun _ => none) (hk : ∀ b o, s.heap.get? b = some o → h'.get? b = some o) (hf : ∀ b ∈ fp, FpOk X pins H b) (hfz : ∀ b ∈ fp, b < s.heap.objs.size) :
    Inv (X.comp scope N' cl C s H fp) [] (innerSt ix σ) H { s with heap := h', toks := t' } := by
  have lookK : ∀ x k, (compEnvC scope cl C X.env).kindOf x = some k → k = .cell ∨ k = .free → scope.names.lookup x = some .free := fun x k e hk' => lookup_relabel (env := X.env) e hk' co.cell
  have ok : (X.comp scope N' cl C s H fp).Ok := by
    refine ⟨I.ok.mod, co.kind, I.ok.glob, I.ok.blt, hC, fun x y c e1 e2 => I.ok.inj x y c (hcl1 x c e1) (hcl1 y c e2), fun x hx => ?_, fun x c e => (by cases e), fun _ => I.ok.hd hc, I.ok.frames, .inl rfl, fun b hb => ⟨?_, fun x c e => ?_⟩, I.bs, ?_, fun b o e hb => ?_, fun b hb z => ?_, I.stack, I.stkFree⟩
    · refine hcl2 x ?_
      rcases hx with e | e
      · exact lookK x _ e (.inl rfl)
      · exact lookK x _ e (.inr rfl)
    · exact Nat.ne_of_lt (Nat.lt_of_lt_of_le (hfz b hb) hC)
    · exact (hf b hb).2.2.2.2.1 x c (hcl1 x c e)
    · exact Nat.le_trans I.ok.bsz I.sz
    · rcases (hf b hb).2.2.2.1 with z | z
      · exact I.ok.noex b o e z
      · exact absurd (Nat.lt_of_lt_of_le (Heap.lt_size (I.ok.bs b o e).1) z) (Nat.lt_irrefl _)
    · rcases List.mem_cons.mp (I.stkSub b z) with q | q
      · exact (hf b hb).2.1 q
      · exact (hf b hb).2.2.1 q
  refine ⟨ok, rfl, I.bare, Un.kept hk, ⟨_, hns, fun i y v e1 e2 e3 => ?_⟩, fun x c e => ?_, ?_, fun x c e => I.freeC x c (hcl1 x c e), (fun p hp => by cases hp), I.hok.kept hk, ?_⟩
  · -- a name of the frame around
    have e1' : N'[i]? = some y := e1
    have e2' : (innerSt ix σ)[i]? = some (some v) := e2
    unfold innerSt at e2'
    rw [List.getElem?_map] at e2'
    cases hix : ix[i]? with
    | none => rw [hix] at e2'; cases e2'
    | some o =>
      rw [hix] at e2'
      cases o with
      | none => cases e2'
      | some j =>
        have hj : σ[j]? = some (some v) := by
          cases hs : σ[j]? with
          | none => simp only [Option.map_some, hs] at e2'; cases e2'
          | some o =>
            simp only [Option.map_some, hs, Option.some.injEq] at e2'
            rw [e2']
        obtain ⟨a1, a2, a3⟩ := co.ixs.at i y j e1' hix
        obtain ⟨m, hm, hl⟩ := I.loc
        obtain ⟨u, r, l⟩ := hl j y v a1 hj (by rcases a3 with z | z; exact .inr (.inl z); exact .inr (.inr z))
        refine ⟨u, r, .inr ⟨relabel_free a2, ?_⟩⟩
        obtain ⟨c, hc'⟩ := hcl2 y a2
        refine ⟨c, hc', ?_⟩
        rcases l with ⟨z, _⟩ | ⟨_, c', e', o, ho, hd⟩
        · have z' : X.env.scope.names.lookup y = some .local := z
          rcases a3 with q | q <;> rw [z'] at q <;> cases q
        · have : c' = c := Option.some.inj (e'.symm.trans (hcl1 y c hc'))
          subst this
          exact ⟨o, hk _ _ ho, hd⟩
  · obtain ⟨v, o, ho, hd⟩ := I.cell x c (hcl1 x c e)
    exact ⟨v, o, hk _ _ ho, hd⟩
  · exact I.hok.fresh hC
  · show (innerSt ix σ).length = N'.length
    unfold innerSt
    rw [List.length_map]
    exact co.ixs.len
end
end L2

namespace L2
open PySem PySem.Spec PyProof.Rows
/-- W holds between two turns (turn, what is there so far, the block's names, heap); n bounds the turns -/
def CompGo (J : It) (g : TG) (te : TE) (Q : VK) (σ₀ : St) (H1 : Hp) : Prop := ∃ (W : Nat → List V → St → Hp → Prop) (n : Nat), n ≤ sizeLine ∧ W 0 [] σ₀ H1 ∧ ∀ i ys σ H, i ≤ n → W i ys σ H →
  (J.stop i H ∧ ∀ p, H p = none → Q (.ref p) (upd H p (.lst ys))) ∨ (i < n ∧ J.go i H ∧ ∀ x H', J.yld i H x H' → g x σ H' fun σ2 H2 => te σ2 H2 fun y H3 => W (i + 1) (ys ++ [y]) σ2 H3)
/-- [e for t in iter] -/
def tComp (wi : TI) (ix : List (Option Nat)) (g : TG) (te : TE) : TE := fun σ H Q => wi σ H fun J H1 => CompGo J g te Q (innerSt ix σ) H1
section
variable {X : Cx} {tg iter elt c : Expr} {scope : Scope} {pos : Pos} {N' : List Str} {ix : List (Option Nat)} {wi : TI} {g : TG} {te : TE} {tc : TT}

/-- what stands between two turns -/
structure CompMid (X : Cx) (scope : Scope) (N' : List Str) (cl : List (Str × Addr)) (C D : Addr) (s₂ : Shared) (H₂ : Hp) (fp : List Addr) (tn : Nat → Heap → Prop) (W : Nat → List V → St → Hp → Prop) (i : Nat) (ys : List V) (σ' : St) (H' : Hp) (s' : Shared) : Prop where
  inv : ∃ us : List Value, Vals ys us ∧ Inv (X.comp scope N' cl C s₂ H₂ fp) [(D, { cls := .type "list", data := .seq us.toArray us.length })] σ' H' s'
  tn : tn i s'.heap
  fpn : ∀ b ∈ fp, H' b = none
  len : ys.length ≤ i
  w : W i ys σ' H'

/-- the block ends: the list is tracked -/
theorem comp_end {pins : List (Addr × Obj)} {σ : St} {H₂ : Hp} {s₂ : Shared} {cl : List (Str × Addr)} {C D : Addr} {fp : List Addr} {Q : VK} {ys : List V} {us : List Value} {σ' : St} {H' : Hp} {s' : Shared}
    (I₂ : Inv X pins σ H₂ s₂) (f2 : ∀ b ∈ fp, FpOk X pins H₂ b) (hD : s₂.heap.objs.size ≤ D) (hC : s₂.heap.objs.size ≤ C) (hDC : D ≠ C) (r : Vals ys us)
    (I' : Inv (X.comp scope N' cl C s₂ H₂ fp) [(D, { cls := .type "list", data := .seq us.toArray us.length })] σ' H' s') (hz : ys.length ≤ sizeLine) (q : ∀ p, H' p = none → Q (.ref p) (upd H' p (.lst ys))) :
    ∃ m, s'.heap.Ns C m ∧ ∀ h', Heap.SameBut C s'.heap h' → EP X pins σ Q (.ref D) { s' with heap := h' } := by
  obtain ⟨m, hm, _⟩ := I'.loc
  refine ⟨m, hm, fun h' sb => ?_⟩
  have new : ∀ a, s₂.heap.objs.size ≤ a → a ≠ X.env.locals ∧ X.s₀.heap.objs.size ≤ a ∧ (∀ x c, X.env.cells.lookup x = some c → c ≠ a) ∧ ∀ p ∈ X.pn ++ pins, p.1 ≠ a := fun a ha => by
    refine ⟨Nat.ne_of_gt (Nat.lt_of_lt_of_le I₂.lt ha), Nat.le_trans I₂.sz ha, fun x c e => ?_, fun p hp => ?_⟩
    · obtain ⟨v, o, ho, _⟩ := I₂.cell x c e
      exact Nat.ne_of_lt (Nat.lt_of_lt_of_le (Heap.lt_size ho) ha)
    · exact Nat.ne_of_lt (Nat.lt_of_lt_of_le (Heap.lt_size (I₂.pin p hp).1) ha)
  have I3 : Inv X pins σ H' s' := I₂.call' I'.os I'.base I'.hok I'.bare fun b hb => ⟨(f2 b hb).2.2.2.1, (f2 b hb).2.1, (f2 b hb).2.2.2.2.1, (f2 b hb).2.2.2.2.2⟩
  obtain ⟨eD, nD, _, _, _⟩ := I'.pin (D, { cls := .type "list", data := .seq us.toArray us.length }) (by simp)
  obtain ⟨c1, c2, c3, c4⟩ := new C hC
  have I4 : Inv X pins σ H' { s' with heap := h' } := I3.turned (t' := s'.toks) (it := C) (fun b o hb e => (sb.2 b hb).trans e) I'.free c1 (.inr c2) c3 c4
  obtain ⟨d1, d2, d3, d4⟩ := new D hD
  have I5 := I4.track (D := D) (ys := ys) nD d1 d2 d3 d4 ((sb.2 D hDC).trans eD) r hz
  exact ⟨.ref D, _, I5, rfl, q D nD⟩

/-- one more is laid on the list -/
theorem comp_app {H₂ : Hp} {s₂ : Shared} {cl : List (Str × Addr)} {C D : Addr} {fp : List Addr} {ys : List V} {us : List Value} {σ' : St} {H' : Hp} {s' : Shared} {pl : List (Addr × Obj)} {y : V} {u : Value} {Q : Value → Shared → Prop} {E : Value → Shared → Prop}
    (hD : s₂.heap.objs.size ≤ D) (hDC : D ≠ C) (hcl : ∀ x c, cl.lookup x = some c → c ≠ D) (r : Vals ys us) (ry : RelV y u) (hz : ys.length < sizeLine)
    (I' : Inv (X.comp scope N' cl C s₂ H₂ fp) ([(D, { cls := .type "list", data := .seq us.toArray us.length })] ++ pl) σ' H' s') (hp : ∀ p ∈ pl, p.1 ≠ D)
    (h : ∀ s'', Inv (X.comp scope N' cl C s₂ H₂ fp) ([(D, { cls := .type "list", data := .seq (us ++ [u]).toArray (us ++ [u]).length })] ++ pl) σ' H' s'' → Q .none s'') :
    wpAny (model X.prog X.w) X.A (call (.builtin "list.append") [.ref D, u]) Q E s' := by
  obtain ⟨eD, nD, neD, nfD, ndD⟩ := I'.pin (D, { cls := .type "list", data := .seq us.toArray us.length }) (by simp)
  refine append_at eD (fun h₅ hs₅ hD₅ => h _ ?_) (by simp only [List.size_toArray]; rw [← r.length]; exact Nat.le_of_lt hz)
  have I1 : Inv (X.comp scope N' cl C s₂ H₂ fp) pl σ' H' s' := I'.pins_of fun p hp' => I'.pin p (List.mem_append_right _ (List.mem_append_right _ hp'))
  have I2 : Inv (X.comp scope N' cl C s₂ H₂ fp) pl σ' H' { s' with heap := h₅ } := I1.turned (t' := s'.toks) (it := D) (fun b o hb e => (hs₅.2 b hb).trans e) nD neD (.inr hD) hcl (fun p hp' => hp p (by simpa [Cx.comp] using hp'))
  refine I2.pins_of fun p hp' => ?_
  rcases List.mem_append.mp hp' with z | z
  · obtain rfl := List.mem_singleton.mp z
    refine ⟨?_, nD, neD, nfD, fun v z => by cases z⟩
    rw [hD₅, List.length_append, List.length_singleton, List.push_toArray]
  · exact I2.pin p (List.mem_append_right _ z)

theorem pe_comp (hc : X.calm = true) (co : CompOk X scope N' ix) (hi : PI X tg iter wi) (hg : ∀ cl C s H fp, PG (X.comp scope N' cl C s H fp) tg g) (he : ∀ cl C s H fp, PE (X.comp scope N' cl C s H fp) elt te)
    (hs : ∀ x, foldedSetIterable iter X.env x = pure x := by intro _; rfl) : PE X (.ListComp elt [⟨tg, iter, [], 0⟩] scope pos) (tComp wi ix g te) := by
  intro pins s σ H Q I h
  obtain ⟨cl, hclos, hcl1, hcl2⟩ := closure_free (scope := scope) (env := X.env) fun p hp e => by
    rcases co.free p hp e with z | z
    · exact I.ok.has p.1 (.inl z)
    · exact I.ok.has p.1 (.inr z)
  rw [eval_ListComp]
  refine wpAny_comprehension_free (use := none) rfl hs hclos co.kind co.names (thn (hi pins s σ H _ I h) fun v s1 h1 => thn h1 fun itv s₂ h2 => ?_)
  obtain ⟨it, fp, tn, J, H₂, rfl, I₂, T, st2, f2, W, n, hn, w0, turn⟩ := h2
  refine wpAny_newObj_type (wpAny_newFunctionEnv co.cell (by intro y hy; simp at hy) (fun h₁ hns₁ hsb₁ => ?_) co.kind)
  dsimp only at hns₁ hsb₁ ⊢
  generalize hH2 : s₂.heap.push { cls := .type "list", dict := none, data := .seq ([] : List Value).toArray } = H2 at hns₁ hsb₁ ⊢
  have hC : H2.objs.size = s₂.heap.objs.size + 1 := by rw [← hH2, Heap.size_push]
  have hCle : s₂.heap.objs.size ≤ H2.objs.size := by omega
  have hDC : s₂.heap.objs.size ≠ H2.objs.size := by omega
  have old : ∀ b o, s₂.heap.get? b = some o → h₁.get? b = some o := fun b o e => hsb₁.extBut b o (Nat.ne_of_lt (by rw [hC]; exact Nat.lt_succ_of_lt (Heap.lt_size e))) (Heap.get?_push_of_some _ (hH2 ▸ Heap.get?_push_of_some _ e))
  have hacc : h₁.get? s₂.heap.objs.size = some { cls := .type "list", data := .seq ([] : List Value).toArray } := hsb₁.extBut _ _ hDC (Heap.get?_push_of_some _ (hH2 ▸ Heap.get?_push_size _ rfl))
  have hfz : ∀ b ∈ fp, b < s₂.heap.objs.size := fun b hb => by
    obtain ⟨o, e, _⟩ := T.obj _ _ st2 b hb
    exact Heap.lt_size e
  have hclD : ∀ x c, cl.lookup x = some c → c ≠ s₂.heap.objs.size := fun x c e => by
    obtain ⟨v, o, ho, _⟩ := I₂.cell x c (hcl1 x c e)
    exact Nat.ne_of_lt (Heap.lt_size ho)
  have st0 : tn 0 h₁ := T.keep _ _ _ st2 fun b hb o e => old b o e
  have loop : ∀ s₃ : Shared, s₃ = { s₂ with heap := h₁, toks := s₂.toks + ([] : List (Str × Value)).length } →
      codeAny (model X.prog X.w) X.A (.compLoop (.ListComp elt [⟨tg, iter, [], 0⟩] scope pos) 0 (.ref it) (.ref s₂.heap.objs.size) (compEnvC scope cl H2.objs.size X.env))
        (compPost (model X.prog X.w) X.A X.xe none (EP X pins σ Q) (.ref s₂.heap.objs.size) H2.objs.size) s₃ := by
    rintro s₃ rfl
    have I0 := I₂.comp (t' := s₂.toks + ([] : List (Str × Value)).length) co hcl1 hcl2 hc hCle hns₁ old f2 hfz
    have nof : s₂.heap.objs.size ∉ (X.comp scope N' cl H2.objs.size s₂ H₂ fp).fs := fun z => by
      obtain ⟨_, o, ho, _⟩ := I0.ok.funs.mem z
      exact absurd (Heap.lt_size ho) (Nat.lt_irrefl _)
    have I0' : Inv (X.comp scope N' cl H2.objs.size s₂ H₂ fp) [(s₂.heap.objs.size, { cls := .type "list", data := .seq ([] : List Value).toArray ([] : List Value).length })] (innerSt ix σ) H₂ { s₂ with heap := h₁, toks := s₂.toks + ([] : List (Str × Value)).length } := I0.pins_of fun p hp => by
      obtain rfl := List.mem_singleton.mp hp
      exact ⟨hacc, I₂.fresh, hDC, nof, fun v z => by cases z⟩
    have hclC : ∀ x c, cl.lookup x = some c → c ≠ s₂.heap.objs.size := hclD
    -- the iterator's records
    have fpok : ∀ {us : List Value} {H' : Hp}, (∀ b ∈ fp, H' b = none) → ∀ b ∈ fp, FpOk (X.comp scope N' cl H2.objs.size s₂ H₂ fp) [(s₂.heap.objs.size, { cls := .type "list", data := .seq us.toArray us.length })] H' b := fun hn' b hb =>
      ⟨hn' b hb, (I0.ok.exf b hb).1, I0.ok.exfs b hb, .inl hb, (I0.ok.exf b hb).2, fun p hp => by
        have hp' : p ∈ [(s₂.heap.objs.size, ({ cls := .type "list", data := .seq _ _ } : Obj))] := hp
        obtain rfl := List.mem_singleton.mp hp'
        exact Nat.ne_of_gt (hfz b hb)⟩
    refine PySem.W.kcp_loop (fun k s' => ∃ i ys σ' H', i ≤ n ∧ k = n - i ∧ CompMid X scope N' cl H2.objs.size s₂.heap.objs.size s₂ H₂ fp tn W i ys σ' H' s') ?_ n
      ⟨0, [], innerSt ix σ, H₂, Nat.zero_le _, rfl, ⟨[], .nil, I0'⟩, st0, fun b hb => (f2 b hb).1, Nat.le_refl _, w0⟩
    rintro k s3 ⟨i, ys, σ3, H3, hi3, rfl, ⟨us, r3, I3⟩, st3, fr3, hl3, w3⟩
    have weak : ∀ {e : Value} {s' : Shared}, False → notedBy (model X.prog X.w) X.A (compEnvC scope cl H2.objs.size X.env) (fun e s' => compPost (model X.prog X.w) X.A X.xe none (EP X pins σ Q) (.ref s₂.heap.objs.size) H2.objs.size (.error e) s') e s' := fun z => z.elim
    rcases turn i ys σ3 H3 hi3 w3 with ⟨stop, q⟩ | ⟨hlt, go, step⟩
    · refine thn (T.done (X.comp scope N' cl H2.objs.size s₂ H₂ fp) rfl rfl rfl rfl i _ s3 σ3 H3 _ I3 (fpok fr3) st3 stop) fun r s4 ⟨hr, I4⟩ => ?_
      subst hr
      exact comp_end I₂ f2 (Nat.le_refl _) hCle hDC r3 I4 (by omega) q
    · refine thn (T.item (X.comp scope N' cl H2.objs.size s₂ H₂ fp) rfl rfl rfl rfl i _ s3 σ3 H3 _ I3 (fpok fr3) st3 go) fun r s4 ⟨u, hr, h4⟩ => ?_
      subst hr
      refine thn h4 fun _ s5 ⟨x, H5, I5, r5, y5, st5, fr5⟩ => ?_
      have I5' := I5.pinned (fpok fr5) (T.obj _ _ st5)
      refine wpAny_mono (hg cl _ s₂ H₂ fp _ s5 σ3 H5 x u _ I5' r5 (step x H5 y5)) (fun _ s6 ⟨σ6, H6, I6, q6⟩ => ?_) fun _ _ z => weak z
      refine wpAny_mono (he cl _ s₂ H₂ fp _ s6 σ6 H6 _ I6 q6) (fun u7 s7 ⟨y7, H7, I7, r7, q7⟩ => ?_) fun _ _ z => weak z
      have hpl : ∀ p ∈ pinsAt fp s5.heap, p.1 ≠ s₂.heap.objs.size := fun p hp => Nat.ne_of_lt (hfz p.1 (of_pinsAt hp).1)
      refine comp_app (pl := pinsAt fp s5.heap) (Nat.le_refl _) hDC hclD r3 r7 (by omega) I7 hpl fun s8 I8 => ?_
      refine ⟨n - (i + 1), by omega, i + 1, ys ++ [y7], σ6, H7, hlt, rfl, ⟨us ++ [u7], r3.append (.cons r7 .nil), I8.unpinned⟩, ?_, fun b hb => ?_, by rw [List.length_append, List.length_singleton]; omega, q7⟩
      · exact T.keep _ _ _ st5 fun b hb o e => (I8.pin (b, o) (List.mem_append_right _ (List.mem_append_right _ (mem_pinsAt hb e)))).1
      · obtain ⟨o, e, d⟩ := T.obj _ _ st5 b hb
        exact (I8.pin (b, o) (List.mem_append_right _ (List.mem_append_right _ (mem_pinsAt hb e)))).2.1
  exact codeAny_compStart_list (loop _ rfl) (T.self _ 0 _ _ _ st0 (loop _ rfl))

end
end L2

namespace L2
open PySem PySem.Spec PyProof.Rows
section
variable {X : Cx} {tg iter elt c : Expr} {scope : Scope} {pos : Pos} {N' : List Str} {ix : List (Option Nat)} {wi : TI} {g : TG} {te : TE} {tc : TT}
theorem PI.mono {wi wi' : TI} (h : PI X tg iter wi) (i : ∀ σ H R, wi' σ H R → wi σ H R) : PI X tg iter wi' := fun pins s σ H R I q => h pins s σ H R I (i σ H R q)
end
end L2

namespace L2
open PySem PySem.Spec PyProof.Rows

/-! ### one more of a tuple's iterator, as zip asks it -/
section
variable {prog : Program} {w : World} {A : Around} {E : Value → Shared → Prop} {s : Shared}
end

/-! ### what zip draws from: a list's iterator or a tuple's -/
/-- it: the iterator's record, l: what it walks; tp: is it a tuple -/
def ZIt (tp : Bool) (it l : Addr) (i : Nat) (h : Heap) : Prop := if tp = true then h.IsTupleIter it l i else h.IsListIter it l i
def ZSrc (tp : Bool) (l : Addr) (xs : Array Value) (h : Heap) : Prop := if tp = true then h.IsTuple l xs else h.IsList l xs
theorem ZIt.get {tp : Bool} {it l : Addr} {i : Nat} {h : Heap} (x : ZIt tp it l i h) : ∃ o, h.get? it = some o ∧ ∀ v, o.data ≠ .cell v := by
  unfold ZIt at x
  split at x
  · obtain ⟨o, e, c, d⟩ := x
    exact ⟨o, e, fun v z => by rw [d] at z; cases z⟩
  · obtain ⟨o, e, c, d⟩ := x
    exact ⟨o, e, fun v z => by rw [d] at z; cases z⟩
theorem ZIt.at {tp : Bool} {it l : Addr} {i : Nat} {h h' : Heap} (x : ZIt tp it l i h) (k : ∀ o, h.get? it = some o → h'.get? it = some o) : ZIt tp it l i h' := by
  unfold ZIt at x ⊢
  split at x
  · rename_i c; rw [if_pos c]; obtain ⟨o, e, r⟩ := x; exact ⟨o, k o e, r⟩
  · rename_i c; rw [if_neg c]; obtain ⟨o, e, r⟩ := x; exact ⟨o, k o e, r⟩
theorem ZSrc.at {tp : Bool} {l : Addr} {xs : Array Value} {h h' : Heap} (x : ZSrc tp l xs h) (k : ∀ o, h.get? l = some o → h'.get? l = some o) : ZSrc tp l xs h' := by
  unfold ZSrc at x ⊢
  split at x
  · rename_i c; rw [if_pos c]; obtain ⟨o, e, r⟩ := x; exact ⟨o, k o e, r⟩
  · rename_i c; rw [if_neg c]; obtain ⟨o, e, r⟩ := x; exact ⟨o, k o e, r⟩
section
variable {prog : Program} {w : World} {A : Around} {E : Value → Shared → Prop} {s : Shared}
/-- the records of a zip lie apart, and apart from what it walks -/
structure ZAp (z ti to j1 j2 t1 t2 : Addr) : Prop where
  a1 : ti ≠ z
  a2 : to ≠ z
  a3 : j1 ≠ z
  a4 : j2 ≠ z
  a5 : ti ≠ to
  a6 : ti ≠ j1
  a7 : ti ≠ j2
  a8 : to ≠ j1
  a9 : to ≠ j2
  b1 : j1 ≠ j2
  b2 : t1 ≠ z
  b3 : t1 ≠ to
  b4 : t1 ≠ j1
  b5 : t1 ≠ j2
  b6 : t2 ≠ z
  b7 : t2 ≠ to
  b8 : t2 ≠ j1
  b9 : t2 ≠ j2

end
end L2

namespace L2
open PySem PySem.Spec PyProof.Rows

/-! ### several records turn, an object becomes tracked -/
section
variable {X : Cx} {pins : List (Addr × Obj)} {σ : St} {H : Hp} {s : Shared} {h' : Heap}
end

/-! ### zip of two, each a list or a tuple -/
/-- what stands at a, read as a list (tp false) or a tuple (tp true) -/
def Sq (tp : Bool) (K : PySem.W.Frag) (H : Hp) (a : Addr) (xs : List V) : Prop := if tp = true then SqT K H a xs else SqL K H a xs
theorem Inv.sq {X : Cx} {pins : List (Addr × Obj)} {σ : St} {H : Hp} {s : Shared} {tp : Bool} {a : Addr} {xs : List V} (I : Inv X pins σ H s) (h : Sq tp X.K H a xs) : ∃ its : List Value, Vals xs its ∧ ZSrc tp a its.toArray s.heap ∧ xs.length ≤ sizeLine := by
  cases tp with
  | true =>
    obtain ⟨its, r, t, z⟩ := I.tuple h
    exact ⟨its, r, t, z⟩
  | false =>
    obtain ⟨its, r, t, z⟩ := I.list h
    exact ⟨its, r, t.isList, z⟩
/-- the records of a zip at a turn -/
structure ZAt (tp tq : Bool) (z ti to j1 j2 a b : Addr) (i : Nat) (h : Heap) : Prop where
  gz : IsZip h z ti to .none
  gi : IsPair h ti (.ref j1) (.ref j2)
  go : ∃ p q, IsPair h to p q
  g1 : ZIt tp j1 a i h
  g2 : ZIt tq j2 b i h
end L2

namespace L2
open PySem PySem.Spec PyProof.Rows
/-- the iterator that is made of a list or a tuple -/
abbrev zItObj (tp : Bool) (a : Addr) : Obj := { cls := .type (if tp = true then "tuple_iterator" else "list_iterator"), data := .fields #[.ref a, .int 0 0] }
theorem ZIt.new {tp : Bool} {a : Addr} {h : Heap} {it : Addr} (g : h.get? it = some (zItObj tp a)) : ZIt tp it a 0 h := by
  cases tp with
  | true => exact ⟨_, g, rfl, rfl⟩
  | false => exact ⟨_, g, rfl, rfl⟩
end L2

namespace L2
open PySem PySem.Spec PyProof.Rows
section
variable {X : Cx}
/-! ### more rules: int lists compared, // by great numbers, sum, all, join, slices and places of texts, isinstance -/
theorem op_fdivB : OpR X (binaryOp .FloorDiv) (rI (fun _ j => 0 < j ∧ j < 2 ^ 100) fun i j => .int (i / j)) := opI fun i j _ _ s Q E hc q => by
  refine floordiv_int (by omega) ?_ (.inl (PyProof.noPylong_of_log2 ?_))
  · rw [Int.fdiv_eq_ediv_of_nonneg _ (by omega)]; exact q
  · have : j.natAbs < 2 ^ 100 := by omega
    have h2 : j.natAbs.log2 < 100 := (Nat.log2_lt (by omega)).mpr this
    omega
theorem call_sum : X.calm = true → CallR X (.builtin "sum") (fun xs H Q => ∃ (p : Addr) (ns : List Int), xs = [.ref p] ∧ SqL X.K H p (ns.map V.int) ∧ Q (.int ns.sum) H) := by
  intro hc pins s σ H xs us Q I r h
  obtain ⟨p, ns, rfl, hp, q⟩ := h
  obtain ⟨u, rfl, ru⟩ := vals1 r
  cases ru
  obtain ⟨is, r1, p1, _⟩ := I.list hp
  have hi := intsAre_of r1
  obtain ⟨zs, hz⟩ := hi.allInts.items
  refine sum_intListG (I.ok.hd hc) (by rw [← hz]; exact p1.isList) fun h' tk t' hk => ?_
  refine ⟨.int _, H, I.kept hk, ⟨t', rfl⟩, ?_⟩
  have e : preSum (numAt zs) zs.size = ns.sum := by
    rw [preSum_eq, List.take_of_length_le (by simp)]
    have e2 := hi.numsOf
    have e3 : is = (intItems zs).toList := by rw [← hz]
    rw [e3, nums_intItems] at e2
    rw [← e2]
  rw [e]; exact q
theorem isSlice_of {h : Heap} {sl : Addr} {vl vu : Value} {lo hi : Option Int} (hs : h.IsSliceOf sl vl vu .none) (pl : IsPart vl lo) (pu : IsPart vu hi) : ∃ l u : Option (Int × Tok), h.IsSlice sl l u none ∧ l.map (·.1) = lo ∧ u.map (·.1) = hi := by
  cases pl with
  | none =>
    cases pu with
    | none => exact ⟨none, none, hs, rfl, rfl⟩
    | int i t => exact ⟨none, some (_, _), hs, rfl, rfl⟩
  | int i t =>
    cases pu with
    | none => exact ⟨some (_, _), none, hs, rfl, rfl⟩
    | int i t => exact ⟨some (_, _), some (_, _), hs, rfl, rfl⟩
theorem sl_str : SlR X (fun x lo hi H Q => ∃ z : Str, x = .str z ∧ z.length ≤ sizeLine ∧ Q (.str (Txt.slice z lo hi)) H) := by
  intro pins s σ H x v vl vu lo hi sl Q I rx hs pl pu h
  obtain ⟨z, rfl, hz, q⟩ := h
  obtain ⟨t, rfl⟩ := rx
  obtain ⟨l, u, hsl, rfl, rfl⟩ := isSlice_of hs pl pu
  refine ⟨"str", _, F.slot_str_getitem.lookup, typeIs_str _ _ _, wpAny_getItem_str_slice (l := l) (u := u) (st := none) hsl rfl ?_⟩
  exact post_val_or_str ⟨Nat.le_trans (Txt.slice_le z _ _) hz, fun t' k => ⟨.str _, H, I.tok k, ⟨t', rfl⟩, q⟩⟩
end
end L2

namespace L2
open PySem PySem.Spec PyProof.Rows
section
variable {X : Cx}
end
theorem boot_sum : bootBuiltins "sum" = some (.builtin "sum") := by kernel_rfl
end L2

namespace L2
open PySem PySem.Spec PyProof.Rows
/-- the class of a value, of the plain kinds -/
inductive Ty (H : Hp) : V → String → Prop where
  | non : Ty H .non "NoneType"
  | bl (x : Bool) : Ty H (.bl x) "bool"
  | int (i : Int) : Ty H (.int i) "int"
  | str (x : Str) : Ty H (.str x) "str"
  | lst {a : Addr} {xs : List V} (e : H a = some (.lst xs)) : Ty H (.ref a) "list"
  | tup {a : Addr} {xs : List V} (e : H a = some (.tup xs)) : Ty H (.ref a) "tuple"
section
variable {X : Cx}
theorem Ty.of {K : PySem.W.Frag} {H : Hp} {x : V} {T : String} (h : Ty H x T) : TyOf K H x (.type T) := by
  cases h with
  | non => exact .non
  | bl x => exact .bl x
  | int i => exact .int i
  | str x => exact .str x
  | lst e => exact .lst e
  | tup e => exact .tup e
end
end L2

namespace L2
open PySem PySem.Spec PyProof.Rows
/-- a def that may be called: its promise, where it stands, how it binds -/
structure Cal (P : Program) (w : World) (K : PySem.W.Frag) (mg : Str → Option Value) (base : Heap) (k : Nat) (name : Str) (ps : List Str) (sp : Sp) (f : Addr) (fd : FuncData) : Prop where
  G : FnOk P w K mg base CX0 k f fd ps sp
  m : mg name = some (.ref f)
  kp : PySem.W.keepIn K (.ref f) = true
  b : Binds K fd ps []
theorem Cal.mono {P : Program} {w : World} {K : PySem.W.Frag} {mg : Str → Option Value} {base : Heap} {j k : Nat} {name : Str} {ps : List Str} {sp : Sp} {f : Addr} {fd : FuncData} (c : Cal P w K mg base j name ps sp f fd) (h : j ≤ k) : Cal P w K mg base k name ps sp f fd := ⟨c.G.mono h, c.m, c.kp, c.b⟩
/-- the name of a def as it stands behind the top -/
structure Loc2 (K : PySem.W.Frag) (mg : Str → Option Value) (name : Str) (st : Stmt) (ps : List Str) (f : Addr) (fd : FuncData) : Prop where
  F : Fun K name name st f fd
  m : mg name = some (.ref f)
  b : Binds K fd ps []
theorem Loc2.cal {P : Program} {w : World} {K : PySem.W.Frag} {mg : Str → Option Value} {base : Heap} {k : Nat} {name : Str} {st : Stmt} {ps : List Str} {sp : Sp} {f : Addr} {fd : FuncData} (l : Loc2 K mg name st ps f fd) (G : FnOk P w K mg base CX0 k f fd ps sp) : Cal P w K mg base k name ps sp f fd := ⟨G, l.m, l.F.kp, l.b⟩
theorem pe_fn {X : Cx} {k : Nat} {f : Addr} {fd : FuncData} {ps : List Str} {sp : Sp} {x : Str} {p pos : Pos} {e : Expr} {es : List Expr} {t : TA} (C : Cal X.prog X.w X.K X.mg X.base k x ps sp f fd) (hr : Room k X.A) (hg : Gl X x) (ha : PA X (e :: es) t)
    (hdb : (x == ("__debug__" : Str)) = false := by decide) (he : starEach (e :: es) X.env = (false, eval e X.env) :: starEach es X.env := by rfl) (hpl : (backTo pos (starEach es X.env)).any (·.1) = false := by rfl) :
    PE X (.Call (.Name x p) (e :: es) [] pos) (tCall sp [] E0 t) := pe_call C.G hr hg C.m C.kp C.b .nil pass0 ha hdb he hpl
/-- the built-in names that the text does not hide -/
structure Zs (mg : Str → Option Value) : Prop where
  len : mg "len" = none
  range : mg "range" = none
  isinstance : mg "isinstance" = none
  list : mg "list" = none
  tuple : mg "tuple" = none
  str : mg "str" = none
  int : mg "int" = none
  bool : mg "bool" = none
  sum : mg "sum" = none
  all : mg "all" = none
  zip : mg "zip" = none
/-- all that was tracked is as it was, but what stands at l -/
def SameX (l : Addr) (H H' : Hp) : Prop := ∀ b o, b ≠ l → H b = some o → H' b = some o
theorem Same.x {H H' : Hp} (h : Same H H') (l : Addr) : SameX l H H' := fun b o _ e => h b o e
theorem SameX.trans {l : Addr} {H H1 H2 : Hp} (a : SameX l H H1) (b : SameX l H1 H2) : SameX l H H2 := fun c o n e => b c o n (a c o n e)
theorem SameX.refl (l : Addr) (H : Hp) : SameX l H H := fun _ _ _ e => e
theorem SameX.seq {K : PySem.W.Frag} {l : Addr} {H H' : Hp} {a : Addr} {xs : List V} (e : SameX l H H') (n : a ≠ l) (h : SqL K H a xs) : SqL K H' a xs := by
  rcases h with h | h
  · left
    rcases h with q | ⟨ob, q⟩
    · exact .inl (e _ _ n q)
    · exact .inr ⟨ob, e _ _ n q⟩
  · exact .inr h
theorem small {n : Nat} (h : n ≤ 1000) : n ≤ sizeLine := Nat.le_of_lt (small1000 h)
end L2

namespace My
open PySem L2
/-! ### texts by their letters -/
/-- the word whose letters have these places in the alphabet -/
def wd (ks : List Nat) : Str := ⟨(ks.map (97 + ·)).toArray⟩
theorem str_ext {x y : Str} (h : x.cps.toList = y.cps.toList) : x = y := by
  obtain ⟨a⟩ := x
  obtain ⟨b⟩ := y
  have : a = b := by rw [← Array.toList_inj]; exact h
  rw [this]
theorem wd_list (ks : List Nat) : (wd ks).cps.toList = ks.map (97 + ·) := rfl
theorem wd_len (ks : List Nat) : (wd ks).length = ks.length := by simp [wd, Str.length]
theorem app_list (x y : Str) : (x ++ y).cps.toList = x.cps.toList ++ y.cps.toList := by
  show (x.cps ++ y.cps).toList = _
  simp
theorem letters_wd : (Str.ofString "abcdefghijklmnopqrstuvwxyz") = wd (List.range 26) := by decide +kernel
theorem letters_at {i : Int} (h0 : 0 ≤ i) (h1 : i < 26) : atI (Str.ofString "abcdefghijklmnopqrstuvwxyz").cps.toList i = some (97 + i.toNat) := by
  obtain ⟨m, rfl⟩ : ∃ m : Nat, i = (m : Int) := ⟨i.toNat, by omega⟩
  have hm : m < 26 := by omega
  rw [letters_wd]
  refine atI_nat ?_
  rw [wd_list]
  simp [hm]
theorem letters_len : (Str.ofString "abcdefghijklmnopqrstuvwxyz").length ≤ sizeLine := by rw [letters_wd, wd_len]; decide
/-- slices of texts -/
theorem idx_eq (lo hi : Option Int) (n : Nat) : Builtin.Str.strSliceIndices lo hi 1 n = (List.range (HT.sIx n n hi - HT.sIx n 0 lo)).map fun k => HT.sIx n 0 lo + k := by
  have clip : ∀ (v : Option Int) (d : Nat), (match v with | none => ((d : Nat) : Int) | some i => max 0 (min (if i < 0 then i + (n : Int) else i) (n : Int))) = ((HT.sIx n d v : Nat) : Int) := by
    intro v d
    cases v with
    | none => rfl
    | some i =>
      unfold HT.sIx
      dsimp only
      split
      · omega
      · omega
  unfold Builtin.Str.strSliceIndices
  simp only [show ((1 : Int) > 0) by decide, if_true]
  have e1 := clip lo 0
  have e2 := clip hi n
  simp only [Int.ofNat_zero] at e1
  have key : ∀ a b a' b' : Int, a = a' → b = b' → sliceRange a b 1 = sliceRange a' b' 1 := fun a b a' b' h1 h2 => by rw [h1, h2]
  refine (key _ _ _ _ e1 e2).trans ?_
  unfold sliceRange
  simp only [show ((1 : Int) > 0) by decide, if_true]
  have e3 : (if ((HT.sIx n 0 lo : Nat) : Int) < ((HT.sIx n n hi : Nat) : Int) then (((HT.sIx n n hi : Nat) : Int) - ((HT.sIx n 0 lo : Nat) : Int) + 1 - 1) / 1 else 0).toNat = HT.sIx n n hi - HT.sIx n 0 lo := by
    split
    · rw [Int.ediv_one]; omega
    · omega
  rw [e3]
  apply List.map_congr_left
  intro k _
  omega
theorem pick_eq (xs : List Nat) (a c : Nat) (hc : a + c ≤ xs.length) : ((List.range c).map fun k => a + k).filterMap (fun i => xs[i]?) = (xs.drop a).take c := by
  induction c generalizing a with
  | zero => simp
  | succ c ih =>
    have ha : a < xs.length := by omega
    rw [List.range_succ_eq_map, List.map_cons, List.map_map, List.filterMap_cons]
    have e0 : xs[a + 0]? = some xs[a] := by simp [ha]
    rw [e0]
    dsimp only
    rw [List.drop_eq_getElem_cons ha, List.take_succ_cons]
    congr 1
    have := ih (a + 1) (by omega)
    rw [← this]
    congr 1
    apply List.map_congr_left
    intro k _
    simp only [Function.comp]
    omega
theorem slice_list (x : Str) (lo hi : Option Int) : (Txt.slice x lo hi).cps.toList = (x.cps.toList.drop (HT.sIx x.length 0 lo)).take (HT.sIx x.length x.length hi - HT.sIx x.length 0 lo) := by
  have hn : x.cps.toList.length = x.length := by simp [Str.length]
  have hb := HT.sIx_le x.length x.length (Nat.le_refl _) hi
  have ha := HT.sIx_le x.length 0 (Nat.zero_le _) lo
  unfold Txt.slice
  rw [idx_eq, List.length_map, List.length_range]
  split
  · rename_i h
    have h' : HT.sIx x.length x.length hi - HT.sIx x.length 0 lo = x.length := by simpa using h
    have h2 : HT.sIx x.length 0 lo = 0 ∨ x.length = 0 := by omega
    rw [h']
    rcases h2 with h2 | h2
    · rw [h2, List.drop_zero, List.take_of_length_le (by omega)]
    · have : x.cps.toList = [] := List.length_eq_zero_iff.mp (by omega)
      rw [this]; simp
  · show List.filterMap _ _ = _
    have e : (fun (i : Nat) => x.cps[i]?) = fun i => x.cps.toList[i]? := by funext i; simp
    rw [e]
    by_cases hle : HT.sIx x.length 0 lo ≤ HT.sIx x.length x.length hi
    · exact pick_eq _ _ _ (by omega)
    · have : HT.sIx x.length x.length hi - HT.sIx x.length 0 lo = 0 := by omega
      rw [this]; simp
/-- a name: one to eight small letters -/
def Nm (x : Str) : Prop := ∃ ks : List Nat, x = wd ks ∧ ks ≠ [] ∧ ks.length ≤ 8 ∧ ∀ k ∈ ks, k < 26
theorem Nm.len {x : Str} (h : Nm x) : x.length ≤ 8 := by
  obtain ⟨ks, rfl, _, h, _⟩ := h
  rw [wd_len]; exact h
/-! ### the last letter turned -/
end My

namespace L2
open PySem PySem.Spec PyProof.Rows
theorem compOk {X : Cx} {scope : Scope} {N' : List Str} {ix : List (Option Nat)} (kind : scope.kind = .function) (cell : ∀ y ∈ scope.names, y.2 ≠ .cell) (names : ∀ y ∈ scope.names, y.2 = .local → scope.names.lookup y.1 = some .local)
    (free : (scope.names.all fun y => !(y.2 == .free) || X.env.scope.names.lookup y.1 == some .cell || X.env.scope.names.lookup y.1 == some .free) = true) (ixs : IxOk X.N X.env.scope scope N' ix) : CompOk X scope N' ix :=
  ⟨kind, cell, names, fun y hy e => by
    have h := List.all_eq_true.mp free y hy
    simp only [e, beq_self_eq_true, Bool.not_true, Bool.false_or, Bool.or_eq_true, beq_iff_eq] at h
    exact h, ixs⟩
/-! ### the rules with the written part named (inside a comprehension) -/
section
variable {X : Cx} {K : PySem.W.Frag}
end
end L2
namespace My
open PySem L2
end My

namespace L2
open PySem PySem.Spec PyProof.Rows
/-! ### the signs of a text, one by one -/
def Its (z : Str) : It := ⟨fun i _ => i < z.length, fun i H v H' => H' = H ∧ ∃ c, z.cps[i]? = some c ∧ v = .str ⟨#[c]⟩, fun i _ => z.length ≤ i⟩
theorem strWalk {P : Program} {w : World} {A : Around} (hh : A.handled = none) (it : Addr) (x : Str) (t : Tok) : Walks P w A it [it] [it] x.cps.size (SignAt x) fun i h => h.IsStrIter it (strIterType x) x t i := by
  unfold strIterType
  split
  · exact Walks.strAscii hh it x t
  · exact Walks.strWide hh it x t
theorem go_str {M : Model} {A : Around} {E : Value → Shared → Prop} {s : Shared} {tg : Expr} {it : Addr} {u : Value} {x : Str} {t : Tok} {i : Nat} {Q : Unit → Shared → Prop} (h : s.heap.IsStrIter it (strIterType x) x t i) (hQ : Q () s) : wpAny M A (letOwnedTupleGo tg (.ref it) u) Q E s := by
  obtain ⟨o, e, c, d⟩ := h
  refine go_of e c d ?_ hQ
  unfold strIterType
  split <;> decide
theorem turn_str {P : Program} {w : World} {K : PySem.W.Frag} {tg : Expr} (it : Addr) (x : Str) (t : Tok) : Turn P w K tg (Its x) [it] it (fun i h => i ≤ x.length ∧ h.IsStrIter it (strIterType x) x t i) where
  mem := by simp
  obj := fun i h st b hb => by
    obtain rfl := List.mem_singleton.mp hb
    obtain ⟨_, o, e, c, d⟩ := st
    exact ⟨o, e, fun v z => by rw [d] at z; cases z⟩
  keep := fun i h h' st k => by
    obtain ⟨hi, o, e, r⟩ := st
    exact ⟨hi, o, k it (by simp) o e, r⟩
  item := by
    intro X hP hw hK hc i pins s σ H E I hf st hg
    subst hP hw hK
    obtain ⟨f0, f1, f2, f3, f4, f5⟩ := hf it (by simp)
    have hg' : i < x.length := hg
    refine (strWalk (P := X.prog) (w := X.w) (I.ok.hd hc) it x t).item i s _ _ hg' st.2 fun v h' tk hv st' kk => ?_
    have I1 : Inv X pins σ H { s with heap := h', toks := tk } := I.turned (fun b o hb e => kk b o (by simpa using hb) e) f0 f1 f3 f4 f5
    obtain ⟨c, u, hc', rfl⟩ := hv
    exact ⟨_, rfl, go_str (s := { s with heap := h', toks := tk }) st' ⟨.str ⟨#[c]⟩, H, I1, ⟨u, rfl⟩, ⟨rfl, c, hc', rfl⟩, ⟨hg', st'⟩, fun b hb => (hf b hb).1⟩⟩
  done := by
    intro X hP hw hK hc i pins s σ H E I hf st hg
    subst hP hw hK
    obtain ⟨f0, f1, f2, f3, f4, f5⟩ := hf it (by simp)
    have hg' : x.length ≤ i := hg
    have e : i = x.cps.size := Nat.le_antisymm st.1 hg'
    subst e
    exact (strWalk (P := X.prog) (w := X.w) (I.ok.hd hc) it x t).done s _ _ st.2 fun h' tk kk => ⟨rfl, I.turned (fun b o hb e => kk b o (by simpa using hb) e) f0 f1 f3 f4 f5⟩
  self := fun A i s Q E st h => by
    have st' := st.2
    unfold strIterType at st'
    split at st'
    · exact wpAny_pyIter_striter_ascii st' h
    · exact wpAny_pyIter_striter_wide st' h
section
variable {X : Cx} {tg : Expr}
end
/-! ### f-strings of texts -/
abbrev TJ := St → Hp → Str → (Str → Hp → Prop) → Prop
def PJ (X : Cx) (es : List Expr) (t : TJ) : Prop := ∀ (pins : List (Addr × Obj)) (s : Shared) (σ : St) (H : Hp) (acc : Str) (Q : Str → Hp → Prop), Inv X pins σ H s → t σ H acc Q →
  Joins (model X.prog X.w) X.A X.xe (evalEach es X.env) acc (fun out s₁ => ∃ H', Inv X pins σ H' s₁ ∧ Q out H') s
section
variable {X : Cx} {e : Expr} {es : List Expr} {t : TJ} {te : TE} {pos p2 : Pos}
theorem op_isnotB : OpR X (compareOp .IsNot) (fun x y H Q => ∃ a b, x = .bl a ∧ y = .bl b ∧ Q (.bl (!decide (a = b))) H) := by
  intro pins s σ H x y v u Q I rx ry h
  obtain ⟨a, b, rfl, rfl, q⟩ := h
  cases (show v = Value.bool a from rx)
  cases (show u = Value.bool b from ry)
  refine wpAny_isNot_plain rfl ⟨.bl (!decide (a = b)), H, I, ?_, q⟩
  show Value.bool _ = Value.bool _
  cases a <;> cases b <;> rfl
end
end L2

namespace L2
open PySem PySem.Spec PyProof.Rows
section
variable {X : Cx}
/-! ### more: a list goes on by a tuple, () + t, upper -/
theorem op_catT0 : OpR X (binaryOp .Add) (fun x y H Q => (∃ a b ys, x = .ref a ∧ y = .ref b ∧ SqT X.K H a [] ∧ SqT X.K H b ys ∧ Q (.ref b) H) ∨ rCatT X.K x y H Q) := by
  intro pins s σ H x y v u Q I rx ry h
  rcases h with h | h
  · obtain ⟨a, b, ys, rfl, rfl, ha, hb, q⟩ := h
    cases rx
    cases ry
    obtain ⟨its, r1, p1, _⟩ := I.tuple ha
    obtain ⟨its2, r2, p2, hz⟩ := I.tuple hb
    cases r1
    obtain ⟨⟨c1, e1, t1, l1⟩, ho, hc, n, hd⟩ := p1
    obtain ⟨⟨c2, e2, t2, l2⟩, ho2, hc2, n2, hd2⟩ := p2
    simp only at hc hd hc2 hd2
    subst hc hd hc2 hd2
    refine concat_meets ⟨_, ho, rfl⟩ ⟨_, ho2, rfl⟩ noFill_tuple_add seq_tuple_add PySem.F.slot_tuple_add PySem.F.entry_tuple_add (PySem.F.args_tuple_add_2 _ _)
      (tuple_addW0 a b _ its2.toArray n n2 e1 e2 l1 l2 (by rfl)) ⟨ho, ho2, ⟨.ref b, H, I, rfl, q⟩⟩
  · exact op_catT pins s σ H x y v u Q I rx ry h
end
end L2

/-! values without a heap for tuples; a store for lists and dicts; what both layers say of one another -/
namespace Ev
open PySem L2
inductive PV where
  | non | bl (b : Bool) | int (i : Int) | str (x : Str) | ty (n : String)
  | tup (xs : List PV) | frl (xs : List PV) | ref (n : Nat)
inductive SO where
  | lst (xs : List PV) | dK (kvs : List (Key × PV))
abbrev Store := List SO
abbrev Loc := List (Option PV)
/-- a list that nobody may write: the script, a list of the module -/
def SqF (K : PySem.W.Frag) (H : Hp) (a : Addr) (xs : List V) : Prop :=
  (∃ o, H a = some (.frz o (.lst xs))) ∨ ∃ (o : Obj) (its : Array Value) (n : Nat), K.lookup a = some o ∧ o.cls = .type "list" ∧ o.dict = none ∧ o.data = .seq its n ∧ its.size ≤ sizeLine ∧ Vals xs its.toList
theorem SqF.sq {K : PySem.W.Frag} {H : Hp} {a : Addr} {xs : List V} (h : SqF K H a xs) : SqL K H a xs := by
  rcases h with ⟨o, h⟩ | h
  · exact .inl (.inr ⟨o, h⟩)
  · exact .inr h
mutual
def RV (K : PySem.W.Frag) (H : Hp) (φ : List Addr) : PV → V → Prop
  | .non, v => v = .non
  | .bl b, v => v = .bl b
  | .int i, v => v = .int i
  | .str x, v => v = .str x
  | .ty n, v => v = .ty n
  | .tup xs, v => ∃ a vs, v = .ref a ∧ SqT K H a vs ∧ RVs K H φ xs vs
  | .frl xs, v => ∃ a vs, v = .ref a ∧ SqF K H a vs ∧ RVs K H φ xs vs
  | .ref n, v => ∃ a, v = .ref a ∧ φ[n]? = some a
def RVs (K : PySem.W.Frag) (H : Hp) (φ : List Addr) : List PV → List V → Prop
  | [], vs => vs = []
  | x :: xs, vs => ∃ y ys, vs = y :: ys ∧ RV K H φ x y ∧ RVs K H φ xs ys
end
structure Mono (H H' : Hp) : Prop where
  tup : ∀ a xs, H a = some (.tup xs) → H' a = some (.tup xs)
  frz : ∀ a o u, H a = some (.frz o u) → H' a = some (.frz o u)
theorem Mono.refl (H : Hp) : Mono H H := ⟨fun _ _ h => h, fun _ _ _ h => h⟩
theorem Mono.trans {H H1 H2 : Hp} (a : Mono H H1) (b : Mono H1 H2) : Mono H H2 := ⟨fun c xs h => b.tup c xs (a.tup c xs h), fun c o u h => b.frz c o u (a.frz c o u h)⟩
theorem Mono.new {H : Hp} {p : Addr} (o : HO) (h : H p = none) : Mono H (upd H p o) := ⟨fun b u q => by rw [upd_ne (ne_of_none q h)]; exact q, fun b u v q => by rw [upd_ne (ne_of_none q h)]; exact q⟩
theorem Mono.rd {H H' : Hp} (m : Mono H H') {a : Addr} {xs : List V} (h : Rd H a (.tup xs)) : Rd H' a (.tup xs) := by
  rcases h with h | ⟨o, h⟩
  · exact .inl (m.tup _ _ h)
  · exact .inr ⟨o, m.frz _ _ _ h⟩
theorem Mono.sqT {K : PySem.W.Frag} {H H' : Hp} (m : Mono H H') {a : Addr} {xs : List V} (h : SqT K H a xs) : SqT K H' a xs := by
  rcases h with h | h
  · exact .inl (m.rd h)
  · exact .inr h
theorem Mono.sqF {K : PySem.W.Frag} {H H' : Hp} (m : Mono H H') {a : Addr} {xs : List V} (h : SqF K H a xs) : SqF K H' a xs := by
  rcases h with ⟨o, h⟩ | h
  · exact .inl ⟨o, m.frz _ _ _ h⟩
  · exact .inr h
theorem pre_get {φ φ' : List Addr} (h : φ <+: φ') {n : Nat} {a : Addr} (e : φ[n]? = some a) : φ'[n]? = some a := by
  obtain ⟨t, rfl⟩ := h
  rw [List.getElem?_append_left (by
    have := List.getElem?_eq_some_iff.mp e
    exact this.1)]
  exact e
section
variable {K : PySem.W.Frag} {H H' : Hp} {φ φ' : List Addr}
mutual
theorem RV.mono (m : Mono H H') (p : φ <+: φ') : ∀ (v : PV) (x : V), RV K H φ v x → RV K H' φ' v x
  | .non, _, h => h
  | .bl _, _, h => h
  | .int _, _, h => h
  | .str _, _, h => h
  | .ty _, _, h => h
  | .tup xs, _, ⟨a, vs, e, s, r⟩ => ⟨a, vs, e, m.sqT s, RVs.mono m p xs vs r⟩
  | .frl xs, _, ⟨a, vs, e, s, r⟩ => ⟨a, vs, e, m.sqF s, RVs.mono m p xs vs r⟩
  | .ref _, _, ⟨a, e, q⟩ => ⟨a, e, pre_get p q⟩
theorem RVs.mono (m : Mono H H') (p : φ <+: φ') : ∀ (xs : List PV) (vs : List V), RVs K H φ xs vs → RVs K H' φ' xs vs
  | [], _, h => h
  | x :: xs, _, ⟨y, ys, e, r, t⟩ => ⟨y, ys, e, RV.mono m p x y r, RVs.mono m p xs ys t⟩
end
theorem RVs.length : ∀ {xs : List PV} {vs : List V}, RVs K H φ xs vs → xs.length = vs.length
  | [], _, h => by rw [show _ = [] from h]; rfl
  | _ :: xs, _, ⟨y, ys, e, _, t⟩ => by rw [e, List.length_cons, List.length_cons, RVs.length t]
theorem RVs.get : ∀ {xs : List PV} {vs : List V} {i : Nat} {x : PV}, RVs K H φ xs vs → xs[i]? = some x → ∃ y, vs[i]? = some y ∧ RV K H φ x y
  | [], _, _, _, _, e => by simp at e
  | x :: xs, _, 0, x', ⟨y, ys, e, r, t⟩, q => by
    simp at q; subst q; subst e
    exact ⟨y, by simp, r⟩
  | x :: xs, _, i + 1, x', ⟨y, ys, e, r, t⟩, q => by
    subst e
    obtain ⟨z, h1, h2⟩ := RVs.get (i := i) t (by simpa using q)
    exact ⟨z, by simpa using h1, h2⟩
theorem RVs.append : ∀ {xs ys : List PV} {vs ws : List V}, RVs K H φ xs vs → RVs K H φ ys ws → RVs K H φ (xs ++ ys) (vs ++ ws)
  | [], _, _, _, h, s => by rw [show _ = [] from h]; exact s
  | x :: xs, _, _, _, ⟨y, ys, e, r, t⟩, s => by subst e; exact ⟨y, _, rfl, r, RVs.append t s⟩
theorem RVs.one {x : PV} {y : V} (r : RV K H φ x y) : RVs K H φ [x] [y] := ⟨y, [], rfl, r, rfl⟩
theorem RVs.cons {x : PV} {y : V} {xs : List PV} {ys : List V} (r : RV K H φ x y) (t : RVs K H φ xs ys) : RVs K H φ (x :: xs) (y :: ys) := ⟨y, ys, rfl, r, t⟩
theorem RVs.take : ∀ {xs : List PV} {vs : List V} (n : Nat), RVs K H φ xs vs → RVs K H φ (xs.take n) (vs.take n)
  | _, _, 0, _ => by simp; exact rfl
  | [], _, _ + 1, h => by rw [show _ = [] from h]; exact rfl
  | x :: xs, _, n + 1, ⟨y, ys, e, r, t⟩ => by subst e; exact ⟨y, _, rfl, r, RVs.take n t⟩
theorem RVs.drop : ∀ {xs : List PV} {vs : List V} (n : Nat), RVs K H φ xs vs → RVs K H φ (xs.drop n) (vs.drop n)
  | _, _, 0, h => h
  | [], _, _ + 1, h => by rw [show _ = [] from h]; exact rfl
  | x :: xs, _, n + 1, ⟨y, ys, e, r, t⟩ => by subst e; exact RVs.drop n t
theorem RVs.set {z : PV} {u : V} (q : RV K H φ z u) : ∀ {xs : List PV} {vs : List V} (n : Nat), RVs K H φ xs vs → RVs K H φ (xs.set n z) (vs.set n u)
  | [], _, _, h => by rw [show _ = [] from h]; exact rfl
  | x :: xs, _, 0, ⟨y, ys, e, r, t⟩ => by subst e; exact ⟨u, _, rfl, q, t⟩
  | x :: xs, _, n + 1, ⟨y, ys, e, r, t⟩ => by subst e; exact ⟨y, _, rfl, r, RVs.set q n t⟩
theorem RVs.eraseIdx : ∀ {xs : List PV} {vs : List V} (n : Nat), RVs K H φ xs vs → RVs K H φ (xs.eraseIdx n) (vs.eraseIdx n)
  | [], _, _, h => by rw [show _ = [] from h]; exact rfl
  | x :: xs, _, 0, ⟨y, ys, e, r, t⟩ => by subst e; exact t
  | x :: xs, _, n + 1, ⟨y, ys, e, r, t⟩ => by subst e; exact ⟨y, _, rfl, r, RVs.eraseIdx n t⟩
theorem RVs.dropLast {xs : List PV} {vs : List V} (h : RVs K H φ xs vs) : RVs K H φ xs.dropLast vs.dropLast := by
  rw [List.dropLast_eq_take, List.dropLast_eq_take, ← h.length]
  exact h.take _
theorem RVs.reverse : ∀ {xs : List PV} {vs : List V}, RVs K H φ xs vs → RVs K H φ xs.reverse vs.reverse
  | [], _, h => by rw [show _ = [] from h]; exact rfl
  | x :: xs, _, ⟨y, ys, e, r, t⟩ => by
    subst e
    rw [List.reverse_cons, List.reverse_cons]
    exact (RVs.reverse t).append (.one r)
theorem RVs.rep {xs : List PV} {vs : List V} (h : RVs K H φ xs vs) : ∀ n, RVs K H φ (List.replicate n xs).flatten (List.replicate n vs).flatten
  | 0 => rfl
  | n + 1 => by
    rw [List.replicate_succ, List.replicate_succ, List.flatten_cons, List.flatten_cons]
    exact h.append (RVs.rep h n)
theorem RVs.ints : ∀ {ns : List Int} {vs : List V}, RVs K H φ (ns.map PV.int) vs → vs = ns.map V.int
  | [], _, h => h
  | _ :: ns, _, ⟨y, ys, e, r, t⟩ => by rw [e, show y = _ from r, RVs.ints t]; rfl
theorem RVs.strs : ∀ {ns : List Str} {vs : List V}, RVs K H φ (ns.map PV.str) vs → vs = ns.map V.str
  | [], _, h => h
  | _ :: ns, _, ⟨y, ys, e, r, t⟩ => by rw [e, show y = _ from r, RVs.strs t]; rfl
theorem RVs.of_ints : ∀ (ns : List Int), RVs K H φ (ns.map PV.int) (ns.map V.int)
  | [] => rfl
  | _ :: ns => ⟨_, _, rfl, rfl, RVs.of_ints ns⟩
/-- a dict's pairs -/
def RKs (K : PySem.W.Frag) (H : Hp) (φ : List Addr) : List (Key × PV) → List (Key × V) → Prop := Paired fun p q => p.1 = q.1 ∧ RV K H φ p.2 q.2
theorem RKs.mono (m : Mono H H') (p : φ <+: φ') {xs : List (Key × PV)} {ys : List (Key × V)} (h : RKs K H φ xs ys) : RKs K H' φ' xs ys := Paired.mapP h fun _ _ ⟨a, b⟩ => ⟨a, RV.mono m p _ _ b⟩
def ObjR (K : PySem.W.Frag) (H : Hp) (φ : List Addr) : SO → Addr → Prop
  | .lst xs, a => ∃ vs, H a = some (.lst vs) ∧ RVs K H φ xs vs
  | .dK kvs, a => ∃ ws, H a = some (.dK ws) ∧ RKs K H φ kvs ws
theorem ObjR.some {o : SO} {a : Addr} (h : ObjR K H φ o a) : ∃ u, H a = Option.some u := by
  cases o with
  | lst xs => obtain ⟨vs, e, _⟩ := h; exact ⟨_, e⟩
  | dK xs => obtain ⟨vs, e, _⟩ := h; exact ⟨_, e⟩
theorem ObjR.mono (m : Mono H H') (p : φ <+: φ') {o : SO} {a : Addr} (e : ∀ u, H a = Option.some u → H' a = Option.some u) (h : ObjR K H φ o a) : ObjR K H' φ' o a := by
  cases o with
  | lst xs => obtain ⟨vs, q, r⟩ := h; exact ⟨vs, e _ q, RVs.mono m p _ _ r⟩
  | dK xs => obtain ⟨vs, q, r⟩ := h; exact ⟨vs, e _ q, RKs.mono m p r⟩
structure Rel (K : PySem.W.Frag) (φ : List Addr) (S : Store) (H : Hp) : Prop where
  len : φ.length = S.length
  nd : φ.Nodup
  obj : ∀ (n : Nat) (a : Addr) (o : SO), φ[n]? = some a → S[n]? = some o → ObjR K H φ o a
theorem Rel.at {S : Store} (h : Rel K φ S H) {n : Nat} {o : SO} (e : S[n]? = some o) : ∃ a, φ[n]? = some a ∧ ObjR K H φ o a := by
  have hn : n < φ.length := by rw [h.len]; exact (List.getElem?_eq_some_iff.mp e).1
  exact ⟨φ[n], List.getElem?_eq_getElem hn, h.obj n _ o (List.getElem?_eq_getElem hn) e⟩
theorem Rel.at' {S : Store} (h : Rel K φ S H) {n : Nat} {a : Addr} (e : φ[n]? = some a) : ∃ o, S[n]? = some o ∧ ObjR K H φ o a := by
  have hn : n < S.length := by rw [← h.len]; exact (List.getElem?_eq_some_iff.mp e).1
  exact ⟨S[n], List.getElem?_eq_getElem hn, h.obj n a _ e (List.getElem?_eq_getElem hn)⟩
/-- the heap grows by what the store does not know -/
theorem Rel.frame {S : Store} (h : Rel K φ S H) {p : Addr} (o : HO) (hp : H p = none) : Rel K φ S (upd H p o) :=
  ⟨h.len, h.nd, fun n a o' e q => (h.obj n a o' e q).mono (Mono.new o hp) (List.prefix_refl _) fun u z => by rw [upd_ne (ne_of_none z hp)]; exact z⟩
/-- a new thing -/
theorem Rel.new {S : Store} (h : Rel K φ S H) {p : Addr} {o : SO} {u : HO} (hp : H p = none) (ho : ObjR K (upd H p u) (φ ++ [p]) o p) : Rel K (φ ++ [p]) (S ++ [o]) (upd H p u) := by
  refine ⟨by simp [h.len], ?_, fun n a o' e q => ?_⟩
  · refine List.nodup_append.mpr ⟨h.nd, by simp, fun a ha b hb => ?_⟩
    rw [List.mem_singleton] at hb
    subst hb
    intro z
    subst z
    obtain ⟨n, hn, e⟩ := List.mem_iff_getElem.mp ha
    obtain ⟨o', _, r⟩ := h.at' (n := n) (a := a) (by rw [List.getElem?_eq_getElem hn, e])
    obtain ⟨u', z⟩ := r.some
    rw [hp] at z
    cases z
  · by_cases hn : n < φ.length
    · rw [List.getElem?_append_left hn] at e
      rw [List.getElem?_append_left (by rw [← h.len]; exact hn)] at q
      exact (h.obj n a o' e q).mono (Mono.new u hp) (List.prefix_append _ _) fun u' z => by rw [upd_ne (ne_of_none z hp)]; exact z
    · have hn' : n = φ.length := by
        have := (List.getElem?_eq_some_iff.mp e).1
        simp at this
        omega
      subst hn'
      rw [List.getElem?_append_right (Nat.le_refl _)] at e
      rw [h.len, List.getElem?_append_right (Nat.le_refl _)] at q
      simp at e q
      subst e q
      exact ho
/-- what may be written and what it becomes -/
theorem Rel.put {S : Store} (h : Rel K φ S H) {n : Nat} {a : Addr} {o : SO} {u : HO} (e : φ[n]? = some a) (m : Mono H (upd H a u)) (ho : ObjR K (upd H a u) φ o a) : Rel K φ (S.set n o) (upd H a u) := by
  refine ⟨by simp [h.len], h.nd, fun i b o' q r => ?_⟩
  by_cases hi : i = n
  · subst hi
    rw [e] at q
    cases q
    have hl : i < S.length := by rw [← h.len]; exact (List.getElem?_eq_some_iff.mp e).1
    rw [List.getElem?_set_self hl] at r
    cases r
    exact ho
  · rw [List.getElem?_set_ne (fun z => hi z.symm)] at r
    have hb : b ≠ a := fun z => by
      subst z
      have h1 := List.getElem?_eq_some_iff.mp q
      have h2 := List.getElem?_eq_some_iff.mp e
      obtain ⟨l1, e1⟩ := h1
      obtain ⟨l2, e2⟩ := h2
      exact hi ((List.getElem_inj h.nd).mp (e1.trans e2.symm))
    exact (h.obj i b o' q r).mono m (List.prefix_refl _) fun u' z => by rw [upd_ne hb]; exact z
theorem Mono.lst {a : Addr} {xs : List V} {u : HO} (e : H a = some (.lst xs)) : Mono H (upd H a u) :=
  ⟨fun b xs q => by rw [upd_ne (ne_of q e (by intro z; cases z))]; exact q, fun b o w q => by rw [upd_ne (ne_of q e (by intro z; cases z))]; exact q⟩
theorem Mono.dict {a : Addr} {xs : List (Key × V)} {u : HO} (e : H a = some (.dK xs)) : Mono H (upd H a u) :=
  ⟨fun b xs q => by rw [upd_ne (ne_of q e (by intro z; cases z))]; exact q, fun b o w q => by rw [upd_ne (ne_of q e (by intro z; cases z))]; exact q⟩
/-- the local names -/
structure LRel (K : PySem.W.Frag) (H : Hp) (φ : List Addr) (σ : Loc) (σV : St) : Prop where
  len : σ.length = σV.length
  at' : ∀ (i : Nat) (v : PV), σ[i]? = some (some v) → ∃ x, σV[i]? = some (some x) ∧ RV K H φ v x
theorem LRel.mono (m : Mono H H') (p : φ <+: φ') {σ : Loc} {σV : St} (h : LRel K H φ σ σV) : LRel K H' φ' σ σV :=
  ⟨h.len, fun i v e => let ⟨x, a, b⟩ := h.at' i v e; ⟨x, a, RV.mono m p _ _ b⟩⟩
theorem LRel.set {σ : Loc} {σV : St} (h : LRel K H φ σ σV) (i : Nat) {v : PV} {x : V} (r : RV K H φ v x) : LRel K H φ (σ.set i (some v)) (σV.set i (some x)) := by
  refine ⟨by simp [h.len], fun j u e => ?_⟩
  by_cases hj : j = i
  · subst hj
    have hl : j < σ.length := by
      have := (List.getElem?_eq_some_iff.mp e).1
      simpa using this
    rw [List.getElem?_set_self hl] at e
    cases e
    exact ⟨x, List.getElem?_set_self (by rw [← h.len]; exact hl), r⟩
  · rw [List.getElem?_set_ne (fun z => hj z.symm)] at e
    rw [List.getElem?_set_ne (fun z => hj z.symm)]
    exact h.at' j u e
end
end Ev

/-! expressions -/
namespace Ev
open PySem L2
abbrev EK := PV → Store → Prop
abbrev VC := PV → Store → Prop
abbrev WE := Loc → Store → EK → VC → Prop
abbrev WT := Loc → Store → EK → (Bool → Store → Prop) → Prop
abbrev WA := Loc → Store → EK → (List PV → Store → Prop) → Prop
def KE (K : PySem.W.Frag) (φ : List Addr) (H : Hp) (Q0 : VC) (Q : VK) : Prop := ∀ v S' φ' H' x, Q0 v S' → φ <+: φ' → Mono H H' → Rel K φ' S' H' → RV K H' φ' v x → Q x H'
def KB (K : PySem.W.Frag) (φ : List Addr) (H : Hp) (Q0 : Bool → Store → Prop) (Q : Bool → Hp → Prop) : Prop := ∀ v S' φ' H', Q0 v S' → φ <+: φ' → Mono H H' → Rel K φ' S' H' → Q v H'
def KL (K : PySem.W.Frag) (φ : List Addr) (H : Hp) (Q0 : List PV → Store → Prop) (Q : List V → Hp → Prop) : Prop := ∀ v S' φ' H' x, Q0 v S' → φ <+: φ' → Mono H H' → Rel K φ' S' H' → RVs K H' φ' v x → Q x H'
theorem KE.up {K : PySem.W.Frag} {φ φ1 : List Addr} {H H1 : Hp} {Q0 : VC} {Q : VK} (k : KE K φ H Q0 Q) (p : φ <+: φ1) (m : Mono H H1) : KE K φ1 H1 Q0 Q := fun v S' φ' H' x q p' m' => k v S' φ' H' x q (p.trans p') (m.trans m')
theorem KB.up {K : PySem.W.Frag} {φ φ1 : List Addr} {H H1 : Hp} {Q0 : Bool → Store → Prop} {Q : Bool → Hp → Prop} (k : KB K φ H Q0 Q) (p : φ <+: φ1) (m : Mono H H1) : KB K φ1 H1 Q0 Q := fun v S' φ' H' q p' m' => k v S' φ' H' q (p.trans p') (m.trans m')
theorem KL.up {K : PySem.W.Frag} {φ φ1 : List Addr} {H H1 : Hp} {Q0 : List PV → Store → Prop} {Q : List V → Hp → Prop} (k : KL K φ H Q0 Q) (p : φ <+: φ1) (m : Mono H H1) : KL K φ1 H1 Q0 Q := fun v S' φ' H' x q p' m' => k v S' φ' H' x q (p.trans p') (m.trans m')
def liftE (K : PySem.W.Frag) (G : EK) (w : WE) : TE := fun σV H Q => ∃ φ σ S Q0, LRel K H φ σ σV ∧ Rel K φ S H ∧ w σ S G Q0 ∧ KE K φ H Q0 Q
def liftT (K : PySem.W.Frag) (G : EK) (w : WT) : TT := fun σV H Q => ∃ φ σ S Q0, LRel K H φ σ σV ∧ Rel K φ S H ∧ w σ S G Q0 ∧ KB K φ H Q0 Q
def liftA (K : PySem.W.Frag) (G : EK) (w : WA) : TA := fun σV H Q => ∃ φ σ S Q0, LRel K H φ σ σV ∧ Rel K φ S H ∧ w σ S G Q0 ∧ KL K φ H Q0 Q
def SimE (X : Cx) (G : EK) (e : Expr) (w : WE) : Prop := PE X e (liftE X.K G w)
def SimT (X : Cx) (G : EK) (e : Expr) (w : WT) : Prop := PT X e (liftT X.K G w)
def SimW (X : Cx) (G : EK) (e : Expr) (w : WT) : Prop := PW X e (liftT X.K G w)
def SimA (X : Cx) (G : EK) (es : List Expr) (w : WA) : Prop := PA X es (liftA X.K G w)
theorem _root_.L2.PE.imp {X : Cx} {e : Expr} {t t' : TE} (h : PE X e t) (i : ∀ σ H Q, t' σ H Q → t σ H Q) : PE X e t' := fun pins s σ H Q I q => h pins s σ H Q I (i σ H Q q)
theorem _root_.L2.PT.imp {X : Cx} {e : Expr} {t t' : TT} (h : PT X e t) (i : ∀ σ H Q, t' σ H Q → t σ H Q) : PT X e t' := fun pins s σ H Q I q => h pins s σ H Q I (i σ H Q q)
theorem _root_.L2.PW.imp {X : Cx} {e : Expr} {t t' : TT} (h : PW X e t) (i : ∀ σ H Q, t' σ H Q → t σ H Q) : PW X e t' := fun wh pins s σ H Q I q => h wh pins s σ H Q I (i σ H Q q)
theorem _root_.L2.PA.imp {X : Cx} {e : List Expr} {t t' : TA} (h : PA X e t) (i : ∀ σ H Q, t' σ H Q → t σ H Q) : PA X e t' := fun pos pins s σ H Q I q => h pos pins s σ H Q I (i σ H Q q)
/-- names and constants -/
def wVar (i : Nat) : WE := fun σ S _ Q => match σ[i]? with
  | some (some v) => Q v S
  | _ => False
def wC (v : PV) : WE := fun _ S _ Q => Q v S
section
variable {X : Cx} {G : EK} {pos : Pos}
theorem sim_var (i : Nat) {x : Str} (hN : X.N[i]? = some x := by rfl) (hv : Vis X.env.scope x := by first | exact Or.inl rfl | exact Or.inr (Or.inl rfl) | exact Or.inr (Or.inr rfl)) (hd : (x == ("__debug__" : Str)) = false := by decide) (hcd : (x == ("__classdict__" : Str)) = false := by decide) :
    SimE X G (.Name x pos) (wVar i) := by
  refine (pe_var (i := i) hN hv hd hcd).imp fun σV H Q ⟨φ, σ, S, Q0, L, R, h, k⟩ => ?_
  unfold wVar at h
  split at h
  · rename_i v e
    obtain ⟨x, e', r⟩ := L.at' i v e
    exact ⟨x, e', k v S φ H x h (List.prefix_refl _) (.refl _) R r⟩
  · exact h.elim
theorem sim_cst {e : Expr} {v : V} (p : PV) (h : PE X e (tC v)) (r : ∀ H φ, RV X.K H φ p v) : SimE X G e (wC p) :=
  h.imp fun σV H Q ⟨φ, σ, S, Q0, L, R, h, k⟩ => k p S φ H v h (List.prefix_refl _) (.refl _) R (r H φ)
theorem sim_int {i j} : SimE X G (.Constant (.int i) j pos) (wC (.int i)) := sim_cst _ pe_int fun _ _ => rfl
theorem sim_bl {i j} : SimE X G (.Constant (.bool i) j pos) (wC (.bl i)) := sim_cst _ pe_bl fun _ _ => rfl
theorem sim_str {i j} : SimE X G (.Constant (.str i) j pos) (wC (.str i)) := sim_cst _ pe_str fun _ _ => rfl
theorem sim_non {j} : SimE X G (.Constant .none j pos) (wC .non) := sim_cst _ pe_non fun _ _ => rfl
/-- a name of the module -/
structure GlobV (K : PySem.W.Frag) (mg : Str → Option Value) (x : Str) (p : PV) : Prop where
  is : ∃ u v, mg x = some u ∧ RelV v u ∧ ∀ H φ, RV K H φ p v
end
/-- two-place operations -/
abbrev F2 := PV → PV → Store → VC → Prop
def wBin (f : F2) (wa wb : WE) : WE := fun σ S E Q => wa σ S E fun x S1 => wb σ S1 E fun y S2 => f x y S2 Q
def liftR (K : PySem.W.Frag) (f : F2) : R2 := fun x' y' H Q => ∃ φ S x y Q0, Rel K φ S H ∧ RV K H φ x x' ∧ RV K H φ y y' ∧ f x y S Q0 ∧ KE K φ H Q0 Q
section
variable {X : Cx} {G : EK} {pos : Pos} {a b : Expr} {wa wb : WE} {f : F2}
theorem lift_bin {σV : St} {H : Hp} {Q : VK} (h : liftE X.K G (wBin f wa wb) σV H Q) : tOp (liftR X.K f) (liftE X.K G wa) (liftE X.K G wb) σV H Q := by
  obtain ⟨φ, σ, S, Q0, L, R, h, k⟩ := h
  refine ⟨φ, σ, S, _, L, R, h, fun v S1 φ1 H1 x q p1 m1 R1 r1 => ?_⟩
  refine ⟨φ1, σ, S1, _, L.mono m1 p1, R1, q, fun u S2 φ2 H2 y q2 p2 m2 R2 r2 => ?_⟩
  exact ⟨φ2, S2, v, u, Q0, R2, RV.mono m2 p2 _ _ r1, r2, q2, k.up (p1.trans p2) (m1.trans m2)⟩
theorem sim_bin {op : Operator} (ho : OpR X (binaryOp op) (liftR X.K f)) (ha : SimE X G a wa) (hb : SimE X G b wb) : SimE X G (.BinOp a op b pos) (wBin f wa wb) := (pe_op ho ha hb).imp fun _ _ _ h => lift_bin h
theorem sim_cmp {op : CmpOp} (ho : OpR X (compareOp op) (liftR X.K f)) (ha : SimE X G a wa) (hb : SimE X G b wb) (hm : behindInMarks op b = false) : SimE X G (.Compare a [op] [b] pos) (wBin f wa wb) := (pe_cmpR ho ha hb hm).imp fun _ _ _ h => lift_bin h
/-- a test that is a comparison -/
def wTest (w : WE) : WT := fun σ S E Q => w σ S E fun x S1 => match x with
  | .bl c => Q c S1
  | _ => False
theorem lift_test {w : WE} {t : TE} (i : ∀ σ H Q, liftE X.K G w σ H Q → t σ H Q) {σV : St} {H : Hp} {Q : Bool → Hp → Prop} (h : liftT X.K G (wTest w) σV H Q) : tTest t σV H Q := by
  obtain ⟨φ, σ, S, Q0, L, R, h, k⟩ := h
  refine i _ _ _ ⟨φ, σ, S, _, L, R, h, fun v S1 φ1 H1 x q p1 m1 R1 r1 => ?_⟩
  cases v with
  | bl c => exact ⟨c, r1, k c S1 φ1 H1 q p1 m1 R1⟩
  | _ => exact q.elim
theorem simT_cmp {op : CmpOp} (ho : OpR X (compareOp op) (liftR X.K f)) (ha : SimE X G a wa) (hb : SimE X G b wb) (hm : behindInMarks op b = false) : SimT X G (.Compare a [op] [b] pos) (wTest (wBin f wa wb)) :=
  (pt_cmpR ho ha hb hm).imp fun _ _ _ h => lift_test (fun _ _ _ h => lift_bin h) h
end
/-- truth -/
def truK (x : PV) (S : Store) (Q : Bool → Store → Prop) : Prop := match x with
  | .non => Q false S
  | .bl b => Q b S
  | .int i => Q (i != 0) S
  | .str y => y.length ≤ sizeLine ∧ Q (!decide (y.length = 0)) S
  | .tup xs => Q (!xs.isEmpty) S
  | .frl xs => Q (!xs.isEmpty) S
  | .ref n => match S[n]? with
    | some (.lst xs) => Q (!xs.isEmpty) S
    | some (.dK xs) => Q (!xs.isEmpty) S
    | none => False
  | .ty _ => False
def wTru (w : WE) : WT := fun σ S E Q => w σ S E fun x S1 => truK x S1 Q
theorem emp_of {K : PySem.W.Frag} {H : Hp} {φ : List Addr} {xs : List PV} {vs : List V} (r : RVs K H φ xs vs) : (!xs.isEmpty) = !vs.isEmpty := by
  have := r.length
  cases xs <;> cases vs <;> simp_all
theorem tru_rel {K : PySem.W.Frag} {H : Hp} {φ : List Addr} {S : Store} {x : PV} {x' : V} {Q0 : Bool → Store → Prop} {Q : Bool → Hp → Prop} (R : Rel K φ S H) (r : RV K H φ x x') (h : truK x S Q0) (k : ∀ b, Q0 b S → Q b H) : ∃ b, TruV K x' H b ∧ Q b H := by
  unfold truK at h
  cases x with
  | non => cases r; exact ⟨false, rfl, k _ h⟩
  | bl b => cases r; exact ⟨b, rfl, k _ h⟩
  | int i => cases r; exact ⟨_, rfl, k _ h⟩
  | str y =>
    cases r
    obtain ⟨hz, h⟩ := h
    refine ⟨!decide (y.length = 0), ⟨hz, ?_⟩, k _ h⟩
    by_cases e : y.length = 0
    · rw [e]; rfl
    · rw [decide_eq_false e]
      symm
      simp only [bne_iff_ne, Bool.not_false]
      intro z
      exact e (by exact_mod_cast z)
  | tup xs =>
    obtain ⟨a, vs, rfl, s, rs⟩ := r
    exact ⟨_, .inr (.inl ⟨vs, s, rfl⟩), k _ (by rw [← emp_of rs]; exact h)⟩
  | frl xs =>
    obtain ⟨a, vs, rfl, s, rs⟩ := r
    exact ⟨_, .inl ⟨vs, s.sq, rfl⟩, k _ (by rw [← emp_of rs]; exact h)⟩
  | ref n =>
    obtain ⟨a, rfl, e⟩ := r
    dsimp only at h
    split at h
    · rename_i xs es
      obtain ⟨vs, e1, rs⟩ := R.obj n a _ e es
      exact ⟨_, .inl ⟨vs, SqL.of e1, rfl⟩, k _ (by rw [← emp_of rs]; exact h)⟩
    · rename_i xs es
      obtain ⟨vs, e1, rs⟩ := R.obj n a _ e es
      have : (!xs.isEmpty) = !vs.isEmpty := by cases rs <;> rfl
      exact ⟨_, .inr (.inr ⟨vs, e1, rfl⟩), k _ (by rw [← this]; exact h)⟩
    · exact h.elim
  | ty n => exact h.elim
section
variable {X : Cx} {G : EK} {pos : Pos} {a b c : Expr} {wa wb : WE} {ta tb : WT} {rest : List Expr}
theorem simT_tru (ha : SimE X G a wa) (he : ∀ whole, isTrue a X.env whole = (do let v ← whole; standAt a.pos; holding [v] (truthy v)) := by intro _; rfl) : SimT X G a (wTru wa) :=
  (pt_truth ha he).imp fun σV H Q ⟨φ, σ, S, Q0, L, R, h, k⟩ => ⟨φ, σ, S, _, L, R, h, fun v S1 φ1 H1 x q p1 m1 R1 r1 => tru_rel R1 r1 q fun b q => k b S1 φ1 H1 q p1 m1 R1⟩
def wAnd (ta tb : WT) : WT := fun σ S E Q => ta σ S E fun c S1 => if c = true then tb σ S1 E Q else Q false S1
def wOr (ta tb : WT) : WT := fun σ S E Q => ta σ S E fun c S1 => if c = true then Q true S1 else tb σ S1 E Q
def wNot (ta : WT) : WT := fun σ S E Q => ta σ S E fun c S1 => Q (!c) S1
theorem SimW.t {e : Expr} {w : WT} (h : SimW X G e w) : SimT X G e w := h _
theorem simW_and1 (ha : SimT X G a ta) : SimW X G (.BoolOp .And [a] pos) ta := pw_and1 ha
theorem simW_or1 (ha : SimT X G a ta) : SimW X G (.BoolOp .Or [a] pos) ta := pw_or1 ha
theorem simW_and (ha : SimT X G a ta) (hb : SimW X G (.BoolOp .And (b :: rest) pos) tb) : SimW X G (.BoolOp .And (a :: b :: rest) pos) (wAnd ta tb) :=
  (pw_and ha hb).imp fun σV H Q ⟨φ, σ, S, Q0, L, R, h, k⟩ => ⟨φ, σ, S, _, L, R, h, fun c S1 φ1 H1 q p1 m1 R1 => by
    cases c with
    | true => exact ⟨φ1, σ, S1, _, L.mono m1 p1, R1, q, k.up p1 m1⟩
    | false => exact k false S1 φ1 H1 q p1 m1 R1⟩
theorem simW_or (ha : SimT X G a ta) (hb : SimW X G (.BoolOp .Or (b :: rest) pos) tb) : SimW X G (.BoolOp .Or (a :: b :: rest) pos) (wOr ta tb) :=
  (pw_or ha hb).imp fun σV H Q ⟨φ, σ, S, Q0, L, R, h, k⟩ => ⟨φ, σ, S, _, L, R, h, fun c S1 φ1 H1 q p1 m1 R1 => by
    cases c with
    | false => exact ⟨φ1, σ, S1, _, L.mono m1 p1, R1, q, k.up p1 m1⟩
    | true => exact k true S1 φ1 H1 q p1 m1 R1⟩
/-- and, or, not of truths as values -/
def wAndV (wa wb : WE) : WE := fun σ S E Q => wa σ S E fun x S1 => match x with
  | .bl c => if c = true then wb σ S1 E Q else Q (.bl false) S1
  | _ => False
def wOrV (wa wb : WE) : WE := fun σ S E Q => wa σ S E fun x S1 => match x with
  | .bl c => if c = true then Q (.bl true) S1 else wb σ S1 E Q
  | _ => False
def wNotV (wa : WE) : WE := fun σ S E Q => wa σ S E fun x S1 => match x with
  | .bl c => Q (.bl (!c)) S1
  | _ => False
def wIf (t : WT) (wa wb : WE) : WE := fun σ S E Q => t σ S E fun c S1 => if c = true then wa σ S1 E Q else wb σ S1 E Q
def wNeg (wa : WE) : WE := fun σ S E Q => wa σ S E fun x S1 => match x with
  | .int i => Q (.int (-i)) S1
  | _ => False
theorem sim_neg (ha : SimE X G a wa) : SimE X G (.UnaryOp .USub a pos) (wNeg wa) :=
  (pe_un un_neg ha).imp fun σV H Q ⟨φ, σ, S, Q0, L, R, h, k⟩ => ⟨φ, σ, S, _, L, R, h, fun v S1 φ1 H1 x q p1 m1 R1 r1 => by
    cases v with
    | int c => exact ⟨c, r1, k _ S1 φ1 H1 _ q p1 m1 R1 rfl⟩
    | _ => exact q.elim⟩
/-- argument lists, displays -/
def wNil : WA := fun _ S _ Q => Q [] S
def wCons (wa : WE) (wr : WA) : WA := fun σ S E Q => wa σ S E fun x S1 => wr σ S1 E fun xs S2 => Q (x :: xs) S2
theorem simA_nil : SimA X G [] wNil := pa_nil.imp fun σV H Q ⟨φ, σ, S, Q0, L, R, h, k⟩ => k [] S φ H [] h (List.prefix_refl _) (.refl _) R rfl
theorem simA_cons {e : Expr} {es : List Expr} {we : WE} {wr : WA} (ha : SimE X G e we) (hr : SimA X G es wr) (hs : starEach (e :: es) X.env = (false, eval e X.env) :: starEach es X.env := by rfl) : SimA X G (e :: es) (wCons we wr) :=
  (pa_cons ha hr hs).imp fun σV H Q ⟨φ, σ, S, Q0, L, R, h, k⟩ => ⟨φ, σ, S, _, L, R, h, fun v S1 φ1 H1 x q p1 m1 R1 r1 =>
    ⟨φ1, σ, S1, _, L.mono m1 p1, R1, q, fun vs S2 φ2 H2 xs q2 p2 m2 R2 r2 => k (v :: vs) S2 φ2 H2 (x :: xs) q2 (p1.trans p2) (m1.trans m2) R2 (.cons (RV.mono m2 p2 _ _ r1) r2)⟩⟩
def wTup (w : WA) : WE := fun σ S E Q => w σ S E fun xs S1 => xs.length ≤ sizeLine ∧ Q (.tup xs) S1
def wLst (w : WA) : WE := fun σ S E Q => w σ S E fun xs S1 => xs.length ≤ sizeLine ∧ Q (.ref S1.length) (S1 ++ [.lst xs])
variable {es : List Expr} {w : WA}
theorem KE.tup {K : PySem.W.Frag} {φ : List Addr} {H : Hp} {Q0 : VC} {Q : VK} {S : Store} {xs : List PV} {vs : List V} (k : KE K φ H Q0 Q) (q : Q0 (.tup xs) S) (R : Rel K φ S H) (r : RVs K H φ xs vs) : ∀ p, H p = none → Q (.ref p) (upd H p (.tup vs)) := fun p hp =>
  k _ S φ _ _ q (List.prefix_refl _) (.new _ hp) (R.frame _ hp) ⟨p, vs, rfl, SqT.of upd_same, RVs.mono (.new _ hp) (List.prefix_refl _) _ _ r⟩
theorem KE.lst {K : PySem.W.Frag} {φ : List Addr} {H : Hp} {Q0 : VC} {Q : VK} {S : Store} {xs : List PV} {vs : List V} (k : KE K φ H Q0 Q) (q : Q0 (.ref S.length) (S ++ [.lst xs])) (R : Rel K φ S H) (r : RVs K H φ xs vs) : ∀ p, H p = none → Q (.ref p) (upd H p (.lst vs)) := fun p hp =>
  k _ (S ++ [.lst xs]) (φ ++ [p]) _ _ q (List.prefix_append _ _) (.new _ hp) (R.new (o := .lst xs) hp ⟨vs, upd_same, RVs.mono (.new _ hp) (List.prefix_append _ _) _ _ r⟩) (show RV K _ _ (.ref S.length) _ from ⟨p, rfl, by rw [← R.len]; simp⟩)
theorem sim_tup {x1} (h : SimA X G es w) : SimE X G (.Tuple es x1 pos) (wTup w) :=
  (pe_tup h).imp fun σV H Q ⟨φ, σ, S, Q0, L, R, h, k⟩ => ⟨φ, σ, S, _, L, R, h, fun vs S1 φ1 H1 xs ⟨hz, q⟩ p1 m1 R1 r1 => ⟨by rw [← r1.length]; exact hz, (k.up p1 m1).tup q R1 r1⟩⟩
theorem sim_lst (h : SimA X G es w) : SimE X G (.List es pos) (wLst w) :=
  (pe_lst h).imp fun σV H Q ⟨φ, σ, S, Q0, L, R, h, k⟩ => ⟨φ, σ, S, _, L, R, h, fun vs S1 φ1 H1 xs ⟨hz, q⟩ p1 m1 R1 r1 => ⟨by rw [← r1.length]; exact hz, (k.up p1 m1).lst q R1 r1⟩⟩
end
end Ev

/-! operations by values -/
namespace Ev
open PySem L2
def lstOf (S : Store) (n : Nat) : Option (List PV) := match S[n]? with
  | some (.lst xs) => some xs
  | _ => none
def seqOf (S : Store) (n : Nat) : Option (List PV) := match S[n]? with
  | some (.lst xs) => some xs
  | _ => none
section
variable {K : PySem.W.Frag} {H : Hp} {φ : List Addr} {S : Store}
theorem lstOf_get {n : Nat} {xs : List PV} (e : lstOf S n = some xs) : S[n]? = some (.lst xs) := by
  unfold lstOf at e
  split at e
  · cases e; assumption
  · cases e
theorem Rel.lst (R : Rel K φ S H) {n : Nat} {a : Addr} {xs : List PV} (q : φ[n]? = some a) (e : lstOf S n = some xs) : ∃ vs, H a = some (.lst vs) ∧ RVs K H φ xs vs := R.obj n a _ q (lstOf_get e)
theorem Rel.seq (R : Rel K φ S H) {n : Nat} {a : Addr} {xs : List PV} (q : φ[n]? = some a) (e : seqOf S n = some xs) : ∃ vs, SqL K H a vs ∧ RVs K H φ xs vs := by
  unfold seqOf at e
  split at e
  · rename_i ys es
    cases e
    obtain ⟨vs, e1, r⟩ := R.obj n a _ q es
    exact ⟨vs, SqL.of e1, r⟩
  · cases e
end
/-! ### + - * // % ** -/
def bAdd : F2 := fun x y S Q => match x, y with
  | .int i, .int j => Q (.int (i + j)) S
  | .str a, .str b => a.length + b.length ≤ sizeLine ∧ Q (.str (a ++ b)) S
  | .tup xs, .tup ys => xs.length + ys.length ≤ sizeLine ∧ Q (.tup (xs ++ ys)) S
  | .ref m, .ref n => match lstOf S m, lstOf S n with
    | some xs, some ys => xs.length + ys.length ≤ sizeLine ∧ Q (.ref S.length) (S ++ [.lst (xs ++ ys)])
    | _, _ => False
  | _, _ => False
def bI (C : Int → Int → Prop) (g : Int → Int → PV) : F2 := fun x y S Q => match x, y with
  | .int i, .int j => C i j ∧ Q (g i j) S
  | _, _ => False
def bSub : F2 := bI (fun _ _ => True) fun i j => .int (i - j)
def bFdiv : F2 := bI (fun _ j => 0 < j ∧ j < 2 ^ 100) fun i j => .int (i / j)
def bMod : F2 := bI (fun _ j => 0 < j) fun i j => .int (i % j)
def bPow : F2 := bI CPow fun i j => .int (i ^ j.toNat)
def cLt : F2 := bI (fun _ _ => True) fun i j => .bl (decide (i < j))
def cLe : F2 := bI (fun _ _ => True) fun i j => .bl (decide (i ≤ j))
def cGt : F2 := bI (fun _ _ => True) fun i j => .bl (decide (j < i))
def cGe : F2 := bI (fun _ _ => True) fun i j => .bl (decide (j ≤ i))
def bMul : F2 := fun x y S Q => match x, y with
  | .int i, .int j => CMul i j ∧ Q (.int (i * j)) S
  | .ref m, .int k => match lstOf S m with
    | some xs => (-(2 ^ 63) ≤ k ∧ k < 2 ^ 63 ∧ xs.length * k.toNat ≤ sizeLine) ∧ Q (.ref S.length) (S ++ [.lst (List.replicate k.toNat xs).flatten])
    | none => False
  | _, _ => False
section
variable {X : Cx}
theorem ops_I {f : Value → Value → Sem Value} {C D : Int → Int → Prop} {g : Int → Int → PV} {gV : Int → Int → V} (ho : OpR X f (rI D gV)) (hd : ∀ i j, C i j → D i j) (hg : ∀ i j H φ, RV X.K H φ (g i j) (gV i j)) : OpR X f (liftR X.K (bI C g)) := by
  intro pins s σ H x y v u Q I rx ry ⟨φ, S, px, py, Q0, R, hx, hy, h, k⟩
  unfold bI at h
  split at h
  · rename_i i j
    exact ho pins s σ H x y v u Q I rx ry ⟨i, j, hx, hy, hd i j h.1, k _ S φ H _ h.2 (List.prefix_refl _) (.refl _) R (hg i j H φ)⟩
  · exact h.elim
theorem OpR.of0 {f : Value → Value → Sem Value} {gV : Int → Int → V} (ho : OpR X f (rI0 gV)) : OpR X f (rI (fun _ _ => True) gV) := fun pins s σ H x y v u Q I rx ry ⟨i, j, a, b, _, q⟩ => ho pins s σ H x y v u Q I rx ry ⟨i, j, a, b, q⟩
theorem ops_sub : OpR X (binaryOp .Sub) (liftR X.K bSub) := ops_I (OpR.of0 op_sub) (fun _ _ h => h) fun _ _ _ _ => rfl
theorem ops_fdiv : OpR X (binaryOp .FloorDiv) (liftR X.K bFdiv) := ops_I op_fdivB (fun _ _ h => h) fun _ _ _ _ => rfl
theorem ops_mod : OpR X (binaryOp .Mod) (liftR X.K bMod) := ops_I op_mod (fun _ _ h => h) fun _ _ _ _ => rfl
theorem ops_pow : OpR X (binaryOp .Pow) (liftR X.K bPow) := ops_I op_pow (fun _ _ h => h) fun _ _ _ _ => rfl
theorem ops_lt : OpR X (compareOp .Lt) (liftR X.K cLt) := ops_I (OpR.of0 op_lt) (fun _ _ h => h) fun _ _ _ _ => rfl
theorem ops_gt : OpR X (compareOp .Gt) (liftR X.K cGt) := ops_I (OpR.of0 op_gt) (fun _ _ h => h) fun _ _ _ _ => rfl
theorem ops_mul : OpR X (binaryOp .Mult) (liftR X.K bMul) := by
  intro pins s σ H x y v u Q I rx ry ⟨φ, S, px, py, Q0, R, hx, hy, h, k⟩
  unfold bMul at h
  split at h
  · rename_i i j
    exact op_mul pins s σ H x y v u Q I rx ry ⟨i, j, hx, hy, h.1, k _ S φ H _ h.2 (List.prefix_refl _) (.refl _) R rfl⟩
  · rename_i m kk
    split at h
    · rename_i xs e
      obtain ⟨a, rfl, qa⟩ := hx
      cases hy
      obtain ⟨vs, ea, r⟩ := R.lst qa e
      obtain ⟨⟨h1, h2, h3⟩, h⟩ := h
      exact op_rep pins s σ H _ _ v u Q I rx ry ⟨a, kk, vs, rfl, rfl, ea, h1, h2, by rw [← r.length]; exact h3, k.lst h R (r.rep _)⟩
    · exact h.elim
  · exact h.elim
theorem ops_add : OpR X (binaryOp .Add) (liftR X.K bAdd) := by
  intro pins s σ H x y v u Q I rx ry ⟨φ, S, px, py, Q0, R, hx, hy, h, k⟩
  unfold bAdd at h
  split at h
  · rename_i i j
    exact op_add pins s σ H x y v u Q I rx ry ⟨i, j, hx, hy, k _ S φ H _ h (List.prefix_refl _) (.refl _) R rfl⟩
  · rename_i a b
    exact op_add_str pins s σ H x y v u Q I rx ry ⟨a, b, hx, hy, h.1, k _ S φ H _ h.2 (List.prefix_refl _) (.refl _) R rfl⟩
  · rename_i xs ys
    obtain ⟨a, vs, rfl, sa, ra⟩ := hx
    obtain ⟨b, ws, rfl, sb, rb⟩ := hy
    refine op_catT0 pins s σ H _ _ v u Q I rx ry ?_
    by_cases hv : vs = []
    · subst hv
      have : xs = [] := List.length_eq_zero_iff.mp (by rw [ra.length]; rfl)
      subst this
      exact .inl ⟨a, b, ws, rfl, rfl, sa, sb, k _ S φ H _ h.2 (List.prefix_refl _) (.refl _) R ⟨b, ws, rfl, sb, rb⟩⟩
    · refine .inr ⟨a, b, vs, ws, rfl, rfl, sa, sb, hv, by rw [← ra.length, ← rb.length]; exact h.1, fun hw => ?_, fun _ => k.tup h.2 R (ra.append rb)⟩
      subst hw
      have : ys = [] := List.length_eq_zero_iff.mp (by rw [rb.length]; rfl)
      subst this
      refine k _ S φ H _ h.2 (List.prefix_refl _) (.refl _) R ?_
      rw [List.append_nil]
      exact ⟨a, vs, rfl, sa, ra⟩
  · rename_i m n
    split at h
    · rename_i xs ys e1 e2
      obtain ⟨a, rfl, qa⟩ := hx
      obtain ⟨b, rfl, qb⟩ := hy
      obtain ⟨vs, ea, ra⟩ := R.lst qa e1
      obtain ⟨ws, eb, rb⟩ := R.lst qb e2
      exact op_cat pins s σ H _ _ v u Q I rx ry ⟨a, b, vs, ws, rfl, rfl, ea, eb, by rw [← ra.length, ← rb.length]; exact h.1, k.lst h.2 R (ra.append rb)⟩
    · exact h.elim
  · exact h.elim
def bIAdd : F2 := fun x y S Q => match x, y with
  | .int i, .int j => Q (.int (i + j)) S
  | .str a, .str b => a.length + b.length ≤ sizeLine ∧ Q (.str (a ++ b)) S
  | _, _ => False
end
/-! ### == -/
mutual
def eqB : PV → PV → Bool
  | .non, y => match y with
    | .non => true
    | _ => false
  | .bl a, y => match y with
    | .bl b => a == b
    | .int b => (if a then 1 else 0) == b
    | _ => false
  | .int a, y => match y with
    | .bl b => a == (if b then 1 else 0)
    | .int b => a == b
    | _ => false
  | .str a, y => match y with
    | .str b => a == b
    | _ => false
  | .tup xs, y => match y with
    | .tup ys => eqBs xs ys
    | _ => false
  | .ty _, _ => false
  | .frl _, _ => false
  | .ref _, _ => false
def eqBs : List PV → List PV → Bool
  | [], ys => ys.isEmpty
  | x :: xs, ys => match ys with
    | [] => false
    | y :: r => eqB x y && eqBs xs r
end
mutual
/-- plain through and through, and how deep -/
def nrf : PV → Bool
  | .ty _ => false
  | .frl _ => false
  | .ref _ => false
  | .tup xs => nrfs xs
  | _ => true
def nrfs : List PV → Bool
  | [] => true
  | x :: xs => nrf x && nrfs xs
end
mutual
def dep : PV → Nat
  | .tup xs => 1 + deps xs
  | _ => 0
def deps : List PV → Nat
  | [] => 0
  | x :: xs => max (dep x) (deps xs)
end
theorem eqBs_len : ∀ {xs ys : List PV}, eqBs xs ys = true → xs.length = ys.length
  | [], ys, h => by cases ys <;> simp_all [eqBs]
  | x :: xs, ys, h => by
    cases ys with
    | nil => simp [eqBs] at h
    | cons y r =>
      simp only [eqBs, Bool.and_eq_true] at h
      simp [eqBs_len h.2]
/-- item by item -/
theorem eqBs_range : ∀ (xs ys : List PV), eqBs xs ys = ((List.range (min xs.length ys.length)).all (fun j => eqB (xs.getD j .non) (ys.getD j .non)) && xs.length == ys.length)
  | [], ys => by cases ys <;> simp [eqBs]
  | x :: xs, ys => by
    cases ys with
    | nil => simp [eqBs]
    | cons y r =>
      have e : min (x :: xs).length (y :: r).length = min xs.length r.length + 1 := by simp only [List.length_cons]; omega
      rw [e, List.range_succ_eq_map, List.all_cons, List.all_map]
      simp only [eqBs, eqBs_range xs r, List.length_cons, Function.comp]
      rw [Bool.and_assoc]
      congr 2
      by_cases h : xs.length = r.length
      · simp [h]
      · simp [h]
mutual
theorem eqB_self : ∀ x : PV, nrf x = true → eqB x x = true
  | .non, _ => rfl
  | .bl b, _ => by simp [eqB]
  | .int i, _ => by simp [eqB]
  | .str x, _ => by simp [eqB]
  | .tup xs, h => by simp only [eqB]; exact eqBs_self xs (by simpa [nrf] using h)
  | .ty _, h => by simp [nrf] at h
  | .frl _, h => by simp [nrf] at h
  | .ref _, h => by simp [nrf] at h
theorem eqBs_self : ∀ xs : List PV, nrfs xs = true → eqBs xs xs = true
  | [], _ => rfl
  | x :: xs, h => by
    simp only [nrfs, Bool.and_eq_true] at h
    simp only [eqBs, eqB_self x h.1, eqBs_self xs h.2, Bool.and_self]
end
section
variable {X : Cx} {pins : List (Addr × Obj)} {s : Shared} {σ : St} {H : Hp} {φ : List Addr}
mutual
theorem RV.inj (I : Inv X pins σ H s) : ∀ (x y : PV) (v : V), nrf x = true → nrf y = true → RV X.K H φ x v → RV X.K H φ y v → x = y
  | .non, y, v, _, hy, r, q => by cases y <;> simp_all [RV, nrf]
  | .bl b, y, v, _, hy, r, q => by cases y <;> simp_all [RV, nrf]
  | .int b, y, v, _, hy, r, q => by cases y <;> simp_all [RV, nrf]
  | .str b, y, v, _, hy, r, q => by cases y <;> simp_all [RV, nrf]
  | .ty _, y, v, h, hy, r, q => by simp [nrf] at h
  | .frl _, y, v, h, hy, r, q => by simp [nrf] at h
  | .ref _, y, v, h, hy, r, q => by simp [nrf] at h
  | .tup xs, y, v, h, hy, r, q => by
    obtain ⟨a, vs, rfl, sa, ra⟩ := r
    cases y with
    | tup ys =>
      obtain ⟨b, ws, e, sb, rb⟩ := q
      cases e
      have := I.tuple_inj sa sb
      subst this
      rw [RVs.inj I xs ys vs (by simpa [nrf] using h) (by simpa [nrf] using hy) ra rb]
    | non => cases q
    | bl _ => cases q
    | int _ => cases q
    | str _ => cases q
    | ty _ => simp [nrf] at hy
    | frl _ => simp [nrf] at hy
    | ref _ => simp [nrf] at hy
theorem RVs.inj (I : Inv X pins σ H s) : ∀ (xs ys : List PV) (vs : List V), nrfs xs = true → nrfs ys = true → RVs X.K H φ xs vs → RVs X.K H φ ys vs → xs = ys
  | [], ys, vs, _, _, r, q => by
    rw [show vs = [] from r] at q
    exact (List.length_eq_zero_iff.mp (by rw [RVs.length q]; rfl)).symm
  | x :: xs, ys, vs, h, h', r, q => by
    obtain ⟨v, ws, rfl, r1, r2⟩ := r
    cases ys with
    | nil => cases (show v :: ws = [] from q)
    | cons y ys =>
      obtain ⟨v', ws', e, q1, q2⟩ := q
      cases e
      simp only [nrfs, Bool.and_eq_true] at h h'
      rw [RV.inj I x y v h.1 h'.1 r1 q1, RVs.inj I xs ys ws h.2 h'.2 r2 q2]
end
theorem in1_units (A : Around) : A.in1.units = A.units + 1 := rfl
theorem vals_at {vs : List V} {its : List Value} (r : Vals vs its) {j : Nat} (h : j < its.toArray.size) {x : V} (e : vs[j]? = some x) : RelV x its.toArray[j] := by
  obtain ⟨u, e1, r1⟩ := r.get e
  have : its.toArray[j] = u := by
    have h' : j < its.length := by simpa using h
    rw [List.getElem?_eq_getElem h'] at e1
    simpa using e1
  rw [this]
  exact r1
theorem nrfs_get : ∀ {xs : List PV} {j : Nat} {x : PV}, nrfs xs = true → xs[j]? = some x → nrf x = true
  | [], _, _, _, e => by simp at e
  | x :: xs, 0, y, h, e => by simp [nrfs] at h e; subst e; exact h.1
  | x :: xs, j + 1, y, h, e => by simp [nrfs] at h e; exact nrfs_get h.2 e
theorem deps_get : ∀ {xs : List PV} {j : Nat} {x : PV}, xs[j]? = some x → dep x ≤ deps xs
  | [], _, _, e => by simp at e
  | x :: xs, 0, y, e => by simp at e; subst e; simp only [deps]; omega
  | x :: xs, j + 1, y, e => by simp at e; have := deps_get e; simp only [deps]; omega
theorem getD_some {xs : List PV} {j : Nat} {x : PV} (e : xs[j]? = some x) : xs.getD j .non = x := by rw [List.getD_eq_getElem?_getD, e]; rfl
/-- == where an item is met -/
theorem eqAt_P (I : Inv X pins σ H s) : ∀ (d : Nat) (A : Around) (x y : PV) (x' y' : V) (v u : Value), nrf x = true → nrf y = true → dep x ≤ d → A.units + d < cLine → RV X.K H φ x x' → RV X.K H φ y y' → RelV x' v → RelV y' u → SeqAt.EqAt A s v u (eqB x y) := by
  intro d
  induction d with
  | zero =>
    intro A x y x' y' v u hx hy hd hu rx ry qx qy
    cases x with
    | tup xs => simp [dep] at hd
    | non =>
      cases rx; cases qx
      cases y with
      | non => cases ry; cases qy; exact .same _
      | bl b => cases ry; cases qy; exact .none_bool b
      | int b => cases ry; obtain ⟨t, rfl⟩ := qy; exact .none_int b t
      | str b => cases ry; obtain ⟨t, rfl⟩ := qy; exact .none_str b t
      | tup ys => obtain ⟨b, ws, rfl, sb, rb⟩ := ry; cases qy; obtain ⟨_, _, p, _⟩ := I.tuple sb; exact .none_tuple p (by omega)
      | ty _ => simp [nrf] at hy
      | frl _ => simp [nrf] at hy
      | ref _ => simp [nrf] at hy
    | bl a =>
      cases rx; cases qx
      cases y with
      | non => cases ry; cases qy; exact .bool_none a
      | bl b => cases ry; cases qy; exact .bool_bool a b
      | int b => cases ry; obtain ⟨t, rfl⟩ := qy; exact .bool_int a b t
      | str b => cases ry; obtain ⟨t, rfl⟩ := qy; exact .bool_str a b t
      | tup ys => obtain ⟨b, ws, rfl, sb, rb⟩ := ry; cases qy; obtain ⟨_, _, p, _⟩ := I.tuple sb; exact .bool_tuple a p (by omega)
      | ty _ => simp [nrf] at hy
      | frl _ => simp [nrf] at hy
      | ref _ => simp [nrf] at hy
    | int a =>
      cases rx; obtain ⟨t, rfl⟩ := qx
      cases y with
      | non => cases ry; cases qy; exact .int_none a t
      | bl b => cases ry; cases qy; exact .int_bool a t b
      | int b => cases ry; obtain ⟨t', rfl⟩ := qy; exact .int_int a t b t'
      | str b => cases ry; obtain ⟨t', rfl⟩ := qy; exact .int_str a t b t'
      | tup ys => obtain ⟨b, ws, rfl, sb, rb⟩ := ry; cases qy; obtain ⟨_, _, p, _⟩ := I.tuple sb; exact .int_tuple a t p (by omega)
      | ty _ => simp [nrf] at hy
      | frl _ => simp [nrf] at hy
      | ref _ => simp [nrf] at hy
    | str a =>
      cases rx; obtain ⟨t, rfl⟩ := qx
      cases y with
      | non => cases ry; cases qy; exact .str_none a t
      | bl b => cases ry; cases qy; exact .str_bool a t b
      | int b => cases ry; obtain ⟨t', rfl⟩ := qy; exact .str_int a t b t'
      | str b => cases ry; obtain ⟨t', rfl⟩ := qy; exact .str_str a t b t'
      | tup ys => obtain ⟨b, ws, rfl, sb, rb⟩ := ry; cases qy; obtain ⟨_, _, p, _⟩ := I.tuple sb; exact .str_tuple a t p (by omega)
      | ty _ => simp [nrf] at hy
      | frl _ => simp [nrf] at hy
      | ref _ => simp [nrf] at hy
    | ty _ => simp [nrf] at hx
    | frl _ => simp [nrf] at hx
    | ref _ => simp [nrf] at hx
  | succ d ih =>
    intro A x y x' y' v u hx hy hd hu rx ry qx qy
    cases x with
    | tup xs =>
      obtain ⟨a, vs, rfl, sa, ra⟩ := id rx
      cases qx
      obtain ⟨its, r1, p1, _⟩ := I.tuple sa
      cases y with
      | non => cases ry; cases qy; exact .tuple_none p1 (by omega)
      | bl b => cases ry; cases qy; exact .tuple_bool b p1 (by omega)
      | int b => cases ry; obtain ⟨t, rfl⟩ := qy; exact .tuple_int b t p1 (by omega)
      | str b => cases ry; obtain ⟨t, rfl⟩ := qy; exact .tuple_str b t p1 (by omega)
      | ty _ => simp [nrf] at hy
      | frl _ => simp [nrf] at hy
      | ref _ => simp [nrf] at hy
      | tup ys =>
        obtain ⟨b, ws, rfl, sb, rb⟩ := id ry
        cases qy
        obtain ⟨its2, r2, p2, _⟩ := I.tuple sb
        by_cases hab : a = b
        · subst hab
          rw [RV.inj I _ _ _ hx hy rx ry, eqB_self _ hy]
          exact .same _
        · refine .of_refs hab ?_
          have e : eqB (.tup xs) (.tup ys) = ((List.range (min its.toArray.size its2.toArray.size)).all (fun j => eqB (xs.getD j .non) (ys.getD j .non)) && its.toArray.size == its2.toArray.size) := by
            simp only [eqB]
            rw [eqBs_range, List.size_toArray, List.size_toArray, ← r1.length, ← r2.length, ra.length, rb.length]
          rw [e]
          refine .tuples p1 p2 (by omega) fun j h1 h2 => ?_
          have hj1 : j < xs.length := by rw [ra.length, r1.length]; simpa using h1
          have hj2 : j < ys.length := by rw [rb.length, r2.length]; simpa using h2
          have e1 : xs[j]? = some xs[j] := List.getElem?_eq_getElem hj1
          have e2 : ys[j]? = some ys[j] := List.getElem?_eq_getElem hj2
          obtain ⟨v1, g1, q1⟩ := ra.get e1
          obtain ⟨v2, g2, q2⟩ := rb.get e2
          rw [getD_some e1, getD_some e2]
          have hdd := deps_get e1
          simp only [dep] at hd
          exact ih A.in1 _ _ v1 v2 _ _ (nrfs_get (by simpa [nrf] using hx) e1) (nrfs_get (by simpa [nrf] using hy) e2) (by omega) (by rw [in1_units]; omega) q1 q2 (vals_at r1 h1 g1) (vals_at r2 h2 g2)
    | non => exact ih A _ _ x' y' v u hx hy (Nat.zero_le _) (by omega) rx ry qx qy
    | bl a => exact ih A _ _ x' y' v u hx hy (Nat.zero_le _) (by omega) rx ry qx qy
    | int a => exact ih A _ _ x' y' v u hx hy (Nat.zero_le _) (by omega) rx ry qx qy
    | str a => exact ih A _ _ x' y' v u hx hy (Nat.zero_le _) (by omega) rx ry qx qy
    | ty _ => simp [nrf] at hx
    | frl _ => simp [nrf] at hx
    | ref _ => simp [nrf] at hx
end
end Ev

/-! comparisons, in, is, places, slices -/
namespace Ev
open PySem L2
section
variable {X : Cx} {pins : List (Addr × Obj)} {s : Shared} {σ : St} {H : Hp} {φ : List Addr}
theorem rcAt_P (I : Inv X pins σ H s) (d : Nat) (A : Around) (x y : PV) (x' y' : V) (v u : Value) (hx : nrf x = true) (hy : nrf y = true) (hd : ∀ xs ys, x = .tup xs → y = .tup ys → dep x ≤ d) (hu : A.units + d < cLine) (rx : RV X.K H φ x x') (ry : RV X.K H φ y y') (qx : RelV x' v) (qy : RelV y' u) : SeqAt.RcAt A s v u (eqB x y) := by
  cases x with
  | non =>
    cases rx
    cases qx
    cases y with
    | non => cases ry; cases qy; exact .none_none 
    | bl b => cases ry; cases qy; exact .none_bool b
    | int b => cases ry; obtain ⟨t', rfl⟩ := qy; exact .none_int b t'
    | str b => cases ry; obtain ⟨t', rfl⟩ := qy; exact .none_str b t'
    | tup ys => obtain ⟨b, ws, rfl, sb, rb⟩ := ry; cases qy; obtain ⟨_, _, p, _⟩ := I.tuple sb; exact .none_tuple  p (by omega)
    | ty _ => simp [nrf] at hy
    | frl _ => simp [nrf] at hy
    | ref _ => simp [nrf] at hy
  | bl a =>
    cases rx
    cases qx
    cases y with
    | non => cases ry; cases qy; exact .bool_none a
    | bl b => cases ry; cases qy; exact .bool_bool a b
    | int b => cases ry; obtain ⟨t', rfl⟩ := qy; exact .bool_int a b t'
    | str b => cases ry; obtain ⟨t', rfl⟩ := qy; exact .bool_str a b t'
    | tup ys => obtain ⟨b, ws, rfl, sb, rb⟩ := ry; cases qy; obtain ⟨_, _, p, _⟩ := I.tuple sb; exact .bool_tuple a p (by omega)
    | ty _ => simp [nrf] at hy
    | frl _ => simp [nrf] at hy
    | ref _ => simp [nrf] at hy
  | int a =>
    cases rx
    obtain ⟨t, rfl⟩ := qx
    cases y with
    | non => cases ry; cases qy; exact .int_none a t
    | bl b => cases ry; cases qy; exact .int_bool a t b
    | int b => cases ry; obtain ⟨t', rfl⟩ := qy; exact .int_int a t b t'
    | str b => cases ry; obtain ⟨t', rfl⟩ := qy; exact .int_str a t b t'
    | tup ys => obtain ⟨b, ws, rfl, sb, rb⟩ := ry; cases qy; obtain ⟨_, _, p, _⟩ := I.tuple sb; exact .int_tuple a t p (by omega)
    | ty _ => simp [nrf] at hy
    | frl _ => simp [nrf] at hy
    | ref _ => simp [nrf] at hy
  | str a =>
    cases rx
    obtain ⟨t, rfl⟩ := qx
    cases y with
    | non => cases ry; cases qy; exact .str_none a t
    | bl b => cases ry; cases qy; exact .str_bool a t b
    | int b => cases ry; obtain ⟨t', rfl⟩ := qy; exact .str_int a t b t'
    | str b => cases ry; obtain ⟨t', rfl⟩ := qy; exact .str_str a t b t'
    | tup ys => obtain ⟨b, ws, rfl, sb, rb⟩ := ry; cases qy; obtain ⟨_, _, p, _⟩ := I.tuple sb; exact .str_tuple a t p (by omega)
    | ty _ => simp [nrf] at hy
    | frl _ => simp [nrf] at hy
    | ref _ => simp [nrf] at hy
  | ty _ => simp [nrf] at hx
  | frl _ => simp [nrf] at hx
  | ref _ => simp [nrf] at hx
  | tup xs =>
    obtain ⟨a, vs, rfl, sa, ra⟩ := id rx
    cases qx
    obtain ⟨its, r1, p1, _⟩ := I.tuple sa
    cases y with
    | non => cases ry; cases qy; exact .tuple_none p1 (by omega)
    | bl b => cases ry; cases qy; exact .tuple_bool b p1 (by omega)
    | int b => cases ry; obtain ⟨t, rfl⟩ := qy; exact .tuple_int b t p1 (by omega)
    | str b => cases ry; obtain ⟨t, rfl⟩ := qy; exact .tuple_str b t p1 (by omega)
    | ty _ => simp [nrf] at hy
    | frl _ => simp [nrf] at hy
    | ref _ => simp [nrf] at hy
    | tup ys =>
      obtain ⟨b, ws, rfl, sb, rb⟩ := id ry
      cases qy
      obtain ⟨its2, r2, p2, _⟩ := I.tuple sb
      have e : eqB (.tup xs) (.tup ys) = ((List.range (min its.toArray.size its2.toArray.size)).all (fun j => eqB (xs.getD j .non) (ys.getD j .non)) && its.toArray.size == its2.toArray.size) := by
        simp only [eqB]
        rw [eqBs_range, List.size_toArray, List.size_toArray, ← r1.length, ← r2.length, ra.length, rb.length]
      rw [e]
      have hd' := hd xs ys rfl rfl
      simp only [dep] at hd'
      refine .tuples p1 p2 (by omega) fun j h1 h2 => ?_
      have hj1 : j < xs.length := by rw [ra.length, r1.length]; simpa using h1
      have hj2 : j < ys.length := by rw [rb.length, r2.length]; simpa using h2
      have e1 : xs[j]? = some xs[j] := List.getElem?_eq_getElem hj1
      have e2 : ys[j]? = some ys[j] := List.getElem?_eq_getElem hj2
      obtain ⟨v1, g1, q1⟩ := ra.get e1
      obtain ⟨v2, g2, q2⟩ := rb.get e2
      rw [getD_some e1, getD_some e2]
      have hdd := deps_get e1
      exact eqAt_P I (d - 1) A.in1 _ _ v1 v2 _ _ (nrfs_get (by simpa [nrf] using hx) e1) (nrfs_get (by simpa [nrf] using hy) e2) (by omega) (by rw [in1_units]; omega) q1 q2 (vals_at r1 h1 g1) (vals_at r2 h2 g2)
theorem rcNeAt_P (I : Inv X pins σ H s) (d : Nat) (A : Around) (x y : PV) (x' y' : V) (v u : Value) (hx : nrf x = true) (hy : nrf y = true) (hd : ∀ xs ys, x = .tup xs → y = .tup ys → dep x ≤ d) (hu : A.units + d < cLine) (rx : RV X.K H φ x x') (ry : RV X.K H φ y y') (qx : RelV x' v) (qy : RelV y' u) : SeqAt.RcNeAt A s v u (!eqB x y) := by
  cases x with
  | non =>
    cases rx
    cases qx
    cases y with
    | non => cases ry; cases qy; exact .none_none 
    | bl b => cases ry; cases qy; exact .none_bool b
    | int b => cases ry; obtain ⟨t', rfl⟩ := qy; exact .none_int b t'
    | str b => cases ry; obtain ⟨t', rfl⟩ := qy; exact .none_str b t'
    | tup ys => obtain ⟨b, ws, rfl, sb, rb⟩ := ry; cases qy; obtain ⟨_, _, p, _⟩ := I.tuple sb; exact .none_tuple  p (by omega)
    | ty _ => simp [nrf] at hy
    | frl _ => simp [nrf] at hy
    | ref _ => simp [nrf] at hy
  | bl a =>
    cases rx
    cases qx
    cases y with
    | non => cases ry; cases qy; exact .bool_none a
    | bl b => cases ry; cases qy; exact .bool_bool a b
    | int b => cases ry; obtain ⟨t', rfl⟩ := qy; exact .bool_int a b t'
    | str b => cases ry; obtain ⟨t', rfl⟩ := qy; exact .bool_str a b t'
    | tup ys => obtain ⟨b, ws, rfl, sb, rb⟩ := ry; cases qy; obtain ⟨_, _, p, _⟩ := I.tuple sb; exact .bool_tuple a p (by omega)
    | ty _ => simp [nrf] at hy
    | frl _ => simp [nrf] at hy
    | ref _ => simp [nrf] at hy
  | int a =>
    cases rx
    obtain ⟨t, rfl⟩ := qx
    cases y with
    | non => cases ry; cases qy; exact .int_none a t
    | bl b => cases ry; cases qy; exact .int_bool a t b
    | int b => cases ry; obtain ⟨t', rfl⟩ := qy; exact .int_int a t b t'
    | str b => cases ry; obtain ⟨t', rfl⟩ := qy; exact .int_str a t b t'
    | tup ys => obtain ⟨b, ws, rfl, sb, rb⟩ := ry; cases qy; obtain ⟨_, _, p, _⟩ := I.tuple sb; exact .int_tuple a t p (by omega)
    | ty _ => simp [nrf] at hy
    | frl _ => simp [nrf] at hy
    | ref _ => simp [nrf] at hy
  | str a =>
    cases rx
    obtain ⟨t, rfl⟩ := qx
    cases y with
    | non => cases ry; cases qy; exact .str_none a t
    | bl b => cases ry; cases qy; exact .str_bool a t b
    | int b => cases ry; obtain ⟨t', rfl⟩ := qy; exact .str_int a t b t'
    | str b => cases ry; obtain ⟨t', rfl⟩ := qy; exact .str_str a t b t'
    | tup ys => obtain ⟨b, ws, rfl, sb, rb⟩ := ry; cases qy; obtain ⟨_, _, p, _⟩ := I.tuple sb; exact .str_tuple a t p (by omega)
    | ty _ => simp [nrf] at hy
    | frl _ => simp [nrf] at hy
    | ref _ => simp [nrf] at hy
  | ty _ => simp [nrf] at hx
  | frl _ => simp [nrf] at hx
  | ref _ => simp [nrf] at hx
  | tup xs =>
    obtain ⟨a, vs, rfl, sa, ra⟩ := id rx
    cases qx
    obtain ⟨its, r1, p1, _⟩ := I.tuple sa
    cases y with
    | non => cases ry; cases qy; exact .tuple_none p1 (by omega)
    | bl b => cases ry; cases qy; exact .tuple_bool b p1 (by omega)
    | int b => cases ry; obtain ⟨t, rfl⟩ := qy; exact .tuple_int b t p1 (by omega)
    | str b => cases ry; obtain ⟨t, rfl⟩ := qy; exact .tuple_str b t p1 (by omega)
    | ty _ => simp [nrf] at hy
    | frl _ => simp [nrf] at hy
    | ref _ => simp [nrf] at hy
    | tup ys =>
      obtain ⟨b, ws, rfl, sb, rb⟩ := id ry
      cases qy
      obtain ⟨its2, r2, p2, _⟩ := I.tuple sb
      have e : eqB (.tup xs) (.tup ys) = ((List.range (min its.toArray.size its2.toArray.size)).all (fun j => eqB (xs.getD j .non) (ys.getD j .non)) && its.toArray.size == its2.toArray.size) := by
        simp only [eqB]
        rw [eqBs_range, List.size_toArray, List.size_toArray, ← r1.length, ← r2.length, ra.length, rb.length]
      rw [e]
      have hd' := hd xs ys rfl rfl
      simp only [dep] at hd'
      refine .tuples p1 p2 (by omega) fun j h1 h2 => ?_
      have hj1 : j < xs.length := by rw [ra.length, r1.length]; simpa using h1
      have hj2 : j < ys.length := by rw [rb.length, r2.length]; simpa using h2
      have e1 : xs[j]? = some xs[j] := List.getElem?_eq_getElem hj1
      have e2 : ys[j]? = some ys[j] := List.getElem?_eq_getElem hj2
      obtain ⟨v1, g1, q1⟩ := ra.get e1
      obtain ⟨v2, g2, q2⟩ := rb.get e2
      rw [getD_some e1, getD_some e2]
      have hdd := deps_get e1
      exact eqAt_P I (d - 1) A.in1 _ _ v1 v2 _ _ (nrfs_get (by simpa [nrf] using hx) e1) (nrfs_get (by simpa [nrf] using hy) e2) (by omega) (by rw [in1_units]; omega) q1 q2 (vals_at r1 h1 g1) (vals_at r2 h2 g2)
theorem any_link {f : PV → Bool} {e : Value → Bool} : ∀ {its : List Value} {ys : List PV}, its.length = ys.length → (∀ (j : Nat) u y, its[j]? = some u → ys[j]? = some y → e u = f y) → its.any e = ys.any f
  | [], [], _, _ => rfl
  | u :: its, y :: ys, hl, he => by
    rw [List.any_cons, List.any_cons, he 0 u y rfl rfl, any_link (by simpa using hl) fun j u y h1 h2 => he (j + 1) u y (by simpa using h1) (by simpa using h2)]
  | [], _ :: _, hl, _ => by simp at hl
  | _ :: _, [], hl, _ => by simp at hl
end
/-- may be met by == : plain through and through, not too deep -/
def okEq (x : PV) : Prop := nrf x = true ∧ dep x ≤ 190
def okEqs (xs : List PV) : Prop := nrfs xs = true ∧ deps xs ≤ 190
def cEqG (neg : Bool) : F2 := fun x y S Q => match x, y with
  | .tup xs, .tup ys => (okEq (.tup xs) ∧ okEq (.tup ys)) ∧ Q (.bl (neg ^^ eqBs xs ys)) S
  | .ref m, .ref n => match seqOf S m, seqOf S n with
    | some xs, some ys => (okEqs xs ∧ okEqs ys) ∧ Q (.bl (neg ^^ eqBs xs ys)) S
    | _, _ => False
  | .ref _, _ => False
  | _, .ref _ => False
  | x, y => (nrf x = true ∧ nrf y = true) ∧ Q (.bl (neg ^^ eqB x y)) S
def cEq : F2 := cEqG false
def cNe : F2 := cEqG true
theorem eqBs_ne : ∀ {xs ys : List PV}, xs.length ≠ ys.length → eqBs xs ys = false := fun {xs ys} h => by
  cases e : eqBs xs ys with
  | false => rfl
  | true => exact absurd (eqBs_len e) h
theorem eqBs_eq {xs ys : List PV} (h : xs.length = ys.length) : eqBs xs ys = (List.range xs.length).all (fun j => eqB (xs.getD j .non) (ys.getD j .non)) := by
  rw [eqBs_range, ← h, Nat.min_self]; simp
section
variable {X : Cx}
theorem xor_f (b : Bool) : (false ^^ b) = b := by cases b <;> rfl
theorem xor_t (b : Bool) : (true ^^ b) = !b := by cases b <;> rfl
theorem fin_b {pins : List (Addr × Obj)} {s : Shared} {σ : St} {H : Hp} {φ : List Addr} {S : Store} {Q0 : VC} {Q : VK} {b b' : Bool} (I : Inv X pins σ H s) (k : KE X.K φ H Q0 Q) (R : Rel X.K φ S H) (q : Q0 (.bl b) S) (e : b = b') : EP X pins σ Q (.bool b') s := by
  subst e
  exact ⟨.bl b, H, I, rfl, k _ S φ H _ q (List.prefix_refl _) (.refl _) R rfl⟩
theorem flatTup {x y : PV} (h : ∀ xs ys, x = .tup xs → y = .tup ys → False) (d : Nat) : ∀ xs ys, x = .tup xs → y = .tup ys → dep x ≤ d := fun xs ys a b => (h xs ys a b).elim
theorem ops_eq (hu : X.A.units + 200 < cLine) : OpR X (compareOp .Eq) (liftR X.K cEq) := by
  intro pins s σ H x y v u Q I rx ry ⟨φ, S, px, py, Q0, R, hx, hy, h, k⟩
  unfold cEq cEqG at h
  split at h
  · rename_i xs ys
    obtain ⟨⟨o1, o2⟩, h⟩ := h
    rw [xor_f] at h
    exact rcAt_P I 190 X.A _ _ x y v u o1.1 o2.1 (fun _ _ _ _ => o1.2) (by omega) hx hy rx ry X.prog X.w X.xe _ (fin_b I k R h (by simp only [eqB]))
  · rename_i m n
    split at h
    · rename_i xs ys e1 e2
      obtain ⟨⟨o1, o2⟩, h⟩ := h
      rw [xor_f] at h
      obtain ⟨a, rfl, qa⟩ := hx
      obtain ⟨b, rfl, qb⟩ := hy
      obtain ⟨vs, sa, ra⟩ := R.seq qa e1
      obtain ⟨ws, sb, rb⟩ := R.seq qb e2
      cases rx
      cases ry
      obtain ⟨its, r1, p1, _⟩ := I.list sa
      obtain ⟨its2, r2, p2, _⟩ := I.list sb
      by_cases hl : xs.length = ys.length
      · rw [eqBs_eq hl] at h
        have hz : its.toArray.size = its2.toArray.size := by rw [List.size_toArray, List.size_toArray, ← r1.length, ← r2.length, ← ra.length, ← rb.length, hl]
        refine SeqAt.eq_listAt (e := fun j => eqB (xs.getD j .non) (ys.getD j .non)) p1.isList p2.isList hz (by omega) (fun j h1 h2 => ?_) (fin_b I k R h (by rw [List.size_toArray, ← r1.length, ← ra.length]))
        have hj1 : j < xs.length := by rw [ra.length, r1.length]; simpa using h1
        have hj2 : j < ys.length := by omega
        have e1 : xs[j]? = some xs[j] := List.getElem?_eq_getElem hj1
        have e2 : ys[j]? = some ys[j] := List.getElem?_eq_getElem hj2
        obtain ⟨v1, g1, q1⟩ := ra.get e1
        obtain ⟨v2, g2, q2⟩ := rb.get e2
        rw [getD_some e1, getD_some e2]
        have hdd := deps_get e1
        have := o1.2
        exact eqAt_P I 190 X.A.in1 _ _ v1 v2 _ _ (nrfs_get o1.1 e1) (nrfs_get o2.1 e2) (by omega) (by rw [in1_units]; omega) q1 q2 (vals_at r1 h1 g1) (vals_at r2 h2 g2)
      · rw [eqBs_ne hl] at h
        have hz : (its.toArray.size != its2.toArray.size) = true := by rw [List.size_toArray, List.size_toArray, ← r1.length, ← r2.length, ← ra.length, ← rb.length]; simpa using hl
        exact SeqAt.eq_list_lengthsAt p1.isList p2.isList hz (by omega) (fin_b I k R h rfl)
    · exact h.elim
  · exact h.elim
  · exact h.elim
  · rename_i h1 h2 h3 h4
    obtain ⟨⟨o1, o2⟩, h⟩ := h
    rw [xor_f] at h
    exact rcAt_P I 0 X.A _ _ x y v u o1 o2 (flatTup (by assumption) _) (by omega) hx hy rx ry X.prog X.w X.xe _ (fin_b I k R h rfl)
theorem ops_ne (hu : X.A.units + 200 < cLine) : OpR X (compareOp .NotEq) (liftR X.K cNe) := by
  intro pins s σ H x y v u Q I rx ry ⟨φ, S, px, py, Q0, R, hx, hy, h, k⟩
  unfold cNe cEqG at h
  split at h
  · rename_i xs ys
    obtain ⟨⟨o1, o2⟩, h⟩ := h
    rw [xor_t] at h
    exact rcNeAt_P I 190 X.A _ _ x y v u o1.1 o2.1 (fun _ _ _ _ => o1.2) (by omega) hx hy rx ry X.prog X.w X.xe _ (fin_b I k R h (by simp only [eqB]))
  · rename_i m n
    split at h
    · rename_i xs ys e1 e2
      obtain ⟨⟨o1, o2⟩, h⟩ := h
      rw [xor_t] at h
      obtain ⟨a, rfl, qa⟩ := hx
      obtain ⟨b, rfl, qb⟩ := hy
      obtain ⟨vs, sa, ra⟩ := R.seq qa e1
      obtain ⟨ws, sb, rb⟩ := R.seq qb e2
      cases rx
      cases ry
      obtain ⟨its, r1, p1, _⟩ := I.list sa
      obtain ⟨its2, r2, p2, _⟩ := I.list sb
      by_cases hl : xs.length = ys.length
      · rw [eqBs_eq hl] at h
        have hz : its.toArray.size = its2.toArray.size := by rw [List.size_toArray, List.size_toArray, ← r1.length, ← r2.length, ← ra.length, ← rb.length, hl]
        refine SeqAt.RcNeAt.lists (e := fun j => eqB (xs.getD j .non) (ys.getD j .non)) p1.isList p2.isList hz (by omega) (fun j h1 h2 => ?_) X.prog X.w X.xe _ (fin_b I k R h (by rw [List.size_toArray, ← r1.length, ← ra.length]))
        have hj1 : j < xs.length := by rw [ra.length, r1.length]; simpa using h1
        have hj2 : j < ys.length := by omega
        have e1 : xs[j]? = some xs[j] := List.getElem?_eq_getElem hj1
        have e2 : ys[j]? = some ys[j] := List.getElem?_eq_getElem hj2
        obtain ⟨v1, g1, q1⟩ := ra.get e1
        obtain ⟨v2, g2, q2⟩ := rb.get e2
        rw [getD_some e1, getD_some e2]
        have hdd := deps_get e1
        have := o1.2
        exact eqAt_P I 190 X.A.in1 _ _ v1 v2 _ _ (nrfs_get o1.1 e1) (nrfs_get o2.1 e2) (by omega) (by rw [in1_units]; omega) q1 q2 (vals_at r1 h1 g1) (vals_at r2 h2 g2)
      · rw [eqBs_ne hl] at h
        have hz : (its.toArray.size != its2.toArray.size) = true := by rw [List.size_toArray, List.size_toArray, ← r1.length, ← r2.length, ← ra.length, ← rb.length]; simpa using hl
        exact SeqAt.RcNeAt.lists_lengths p1.isList p2.isList hz (by omega) X.prog X.w X.xe _ (fin_b I k R h rfl)
    · exact h.elim
  · exact h.elim
  · exact h.elim
  · rename_i h1 h2 h3 h4
    obtain ⟨⟨o1, o2⟩, h⟩ := h
    rw [xor_t] at h
    exact rcNeAt_P I 0 X.A _ _ x y v u o1 o2 (flatTup (by assumption) _) (by omega) hx hy rx ry X.prog X.w X.xe _ (fin_b I k R h rfl)
/-! ### in -/
def inS (i j : Str) : Bool := !(Builtin.Str.occurrences j i 0 j.length 1).isEmpty
def cInG (neg : Bool) : F2 := fun x y S Q => match x, y with
  | .str i, .str j => Q (.bl (neg ^^ inS i j)) S
  | x, .tup ys => (okEq x ∧ okEqs ys) ∧ Q (.bl (neg ^^ ys.any fun y => eqB y x)) S
  | x, .ref n => match seqOf S n with
    | some ys => (okEq x ∧ okEqs ys) ∧ Q (.bl (neg ^^ ys.any fun y => eqB y x)) S
    | none => False
  | _, _ => False
def cIn : F2 := cInG false
def cNotIn : F2 := cInG true
open Classical in
theorem in_items {pins : List (Addr × Obj)} {s : Shared} {σ : St} {H : Hp} {φ : List Addr} (hu : X.A.units + 200 < cLine) (I : Inv X pins σ H s) {x : PV} {x' : V} {v : Value} {ys : List PV} {vs : List V} {its : List Value} (ox : okEq x) (oy : okEqs ys) (rx : RV X.K H φ x x') (qx : RelV x' v) (ry : RVs X.K H φ ys vs) (r : Vals vs its) :
    ∃ e : Value → Bool, (∀ u, u ∈ its.toArray → SeqAt.EqAt X.A.in1 s u v (e u)) ∧ its.toArray.any e = ys.any fun y => eqB y x := by
  have key : ∀ (j : Nat) u y, its[j]? = some u → ys[j]? = some y → ∃ y', RV X.K H φ y y' ∧ RelV y' u := fun j u y h1 h2 => by
    obtain ⟨y', g, q⟩ := ry.get h2
    obtain ⟨u', g', q'⟩ := r.get g
    rw [h1] at g'
    cases g'
    exact ⟨y', q, q'⟩
  refine ⟨fun u => decide (∃ (j : Nat) (y : PV), its[j]? = some u ∧ ys[j]? = some y ∧ eqB y x = true), ?_, ?_⟩
  · intro u hu'
    have hm : u ∈ its := by simpa using hu'
    obtain ⟨j, hj, e⟩ := List.mem_iff_getElem.mp hm
    have hjy : j < ys.length := by rw [ry.length, r.length]; exact hj
    have e1 : its[j]? = some u := by rw [List.getElem?_eq_getElem hj, e]
    have e2 : ys[j]? = some ys[j] := List.getElem?_eq_getElem hjy
    obtain ⟨y', q, q'⟩ := key j u _ e1 e2
    have hdd := deps_get e2
    have o2 := oy.2
    have base := eqAt_P I 190 X.A.in1 _ x y' x' u v (nrfs_get oy.1 e2) ox.1 (by omega) (by rw [in1_units]; omega) q rx q' qx
    have : decide (∃ (j : Nat) (y : PV), its[j]? = some u ∧ ys[j]? = some y ∧ eqB y x = true) = eqB ys[j] x := by
      cases hb : eqB ys[j] x with
      | true => exact decide_eq_true ⟨j, _, e1, e2, hb⟩
      | false =>
        refine decide_eq_false ?_
        rintro ⟨i, y, h1, h2, h3⟩
        obtain ⟨y2, g, g'⟩ := key i u y h1 h2
        have := g'.inj q'
        subst this
        have := RV.inj I _ _ _ (nrfs_get oy.1 h2) (nrfs_get oy.1 e2) g q
        rw [this, hb] at h3
        cases h3
    dsimp only
    rw [this]
    exact base
  · rw [List.any_toArray]
    refine any_link (by rw [← r.length, ry.length]) fun j u y h1 h2 => ?_
    obtain ⟨y', q, q'⟩ := key j u y h1 h2
    cases hb : eqB y x with
    | true => exact decide_eq_true ⟨j, _, h1, h2, hb⟩
    | false =>
      refine decide_eq_false ?_
      rintro ⟨i, z, g1, g2, g3⟩
      obtain ⟨y2, g, g'⟩ := key i u z g1 g2
      have := g'.inj q'
      subst this
      have := RV.inj I _ _ _ (nrfs_get oy.1 g2) (nrfs_get oy.1 h2) g q
      rw [this, hb] at g3
      cases g3
theorem ops_in (hu : X.A.units + 200 < cLine) : OpR X (compareOp .In) (liftR X.K cIn) := by
  intro pins s σ H x y v u Q I rx ry ⟨φ, S, px, py, Q0, R, hx, hy, h, k⟩
  unfold cIn cInG at h
  split at h
  · rename_i i j
    rw [xor_f] at h
    exact op_in_str pins s σ H x y v u Q I rx ry ⟨i, j, hx, hy, k _ S φ H _ h (List.prefix_refl _) (.refl _) R rfl⟩
  · rename_i ys _
    obtain ⟨⟨o1, o2⟩, h⟩ := h
    rw [xor_f] at h
    obtain ⟨a, vs, rfl, sa, ra⟩ := hy
    cases ry
    obtain ⟨its, r1, p1, _⟩ := I.tuple sa
    obtain ⟨e, h1, h2⟩ := in_items hu I o1 o2 hx rx ra r1
    exact SeqAt.in_tupleAt e p1 h1 (fin_b I k R h (by rw [h2]))
  · rename_i n _
    split at h
    · rename_i ys es
      obtain ⟨⟨o1, o2⟩, h⟩ := h
      rw [xor_f] at h
      obtain ⟨a, rfl, qa⟩ := hy
      cases ry
      obtain ⟨vs, sa, ra⟩ := R.seq qa es
      obtain ⟨its, r1, p1, _⟩ := I.list sa
      obtain ⟨e, h1, h2⟩ := in_items hu I o1 o2 hx rx ra r1
      exact SeqAt.in_listAt e p1.isList h1 (fin_b I k R h (by rw [h2]))
    · exact h.elim
  · exact h.elim
/-! ### is -/
def isNon : PV → Bool
  | .non => true
  | _ => false
def cIs : F2 := fun x y S Q => match y with
  | .non => Q (.bl (isNon x)) S
  | _ => False
def cIsNot : F2 := fun x y S Q => match x, y with
  | x, .non => Q (.bl (!isNon x)) S
  | .bl a, .bl b => Q (.bl (!decide (a = b))) S
  | _, _ => False
theorem isNon_dec {K : PySem.W.Frag} {H : Hp} {φ : List Addr} {x : PV} {x' : V} (r : RV K H φ x x') : decide (x' = .non) = isNon x := by
  cases x with
  | non => cases r; rfl
  | bl b => cases r; exact decide_eq_false (fun z => nomatch z)
  | int b => cases r; exact decide_eq_false (fun z => nomatch z)
  | str b => cases r; exact decide_eq_false (fun z => nomatch z)
  | ty b => cases r; exact decide_eq_false (fun z => nomatch z)
  | tup b => obtain ⟨a, vs, rfl, _⟩ := r; exact decide_eq_false (fun z => nomatch z)
  | frl b => obtain ⟨a, vs, rfl, _⟩ := r; exact decide_eq_false (fun z => nomatch z)
  | ref b => obtain ⟨a, rfl, _⟩ := r; exact decide_eq_false (fun z => nomatch z)
theorem ops_is : OpR X (compareOp .Is) (liftR X.K cIs) := by
  intro pins s σ H x y v u Q I rx ry ⟨φ, S, px, py, Q0, R, hx, hy, h, k⟩
  unfold cIs at h
  split at h
  · exact op_isN pins s σ H x y v u Q I rx ry ⟨hy, k _ S φ H _ h (List.prefix_refl _) (.refl _) R (by rw [isNon_dec hx]; rfl)⟩
  · exact h.elim
theorem ops_isNot : OpR X (compareOp .IsNot) (liftR X.K cIsNot) := by
  intro pins s σ H x y v u Q I rx ry ⟨φ, S, px, py, Q0, R, hx, hy, h, k⟩
  unfold cIsNot at h
  split at h
  · exact op_notN pins s σ H x y v u Q I rx ry ⟨hy, k _ S φ H _ h (List.prefix_refl _) (.refl _) R (by rw [isNon_dec hx]; rfl)⟩
  · exact op_isnotB pins s σ H x y v u Q I rx ry ⟨_, _, hx, hy, k _ S φ H _ h (List.prefix_refl _) (.refl _) R rfl⟩
  · exact h.elim
end
end Ev

/-! places, slices, built-in calls and methods -/
namespace Ev
open PySem L2
theorem atI_rel {K : PySem.W.Frag} {H : Hp} {φ : List Addr} {xs : List PV} {vs : List V} {i : Int} {v : PV} (r : RVs K H φ xs vs) (e : atI xs i = some v) : ∃ x, atI vs i = some x ∧ RV K H φ v x := by
  unfold atI at e ⊢
  rw [← r.length]
  cases h : ixN xs.length i with
  | none => rw [h] at e; cases e
  | some j =>
    rw [h] at e
    obtain ⟨x, h1, h2⟩ := r.get (i := j) e
    exact ⟨x, h1, h2⟩
/-! ### dicts -/
def valP (kvs : List (Key × PV)) (k : Key) : Option PV := (kvs.find? fun kv => decide (kv.1 = k)).map (·.2)
def putP (kvs : List (Key × PV)) (k : Key) (v : PV) : List (Key × PV) :=
  if kvs.any (fun kv => decide (kv.1 = k)) then kvs.map fun kv => if kv.1 = k then (kv.1, v) else kv else kvs ++ [(k, v)]
def keyOf : PV → Option Key
  | .int i => some (.inl i)
  | .str x => some (.inr x)
  | _ => none
theorem key_rel {K : PySem.W.Frag} {H : Hp} {φ : List Addr} {y : PV} {y' : V} {k : Key} (r : RV K H φ y y') (e : keyOf y = some k) : y' = kV k := by
  cases y with
  | int i => cases e; exact r
  | str i => cases e; exact r
  | _ => cases e
theorem RKs.val {K : PySem.W.Frag} {H : Hp} {φ : List Addr} {xs : List (Key × PV)} {ys : List (Key × V)} (h : RKs K H φ xs ys) (k : Key) : (∀ v, valP xs k = some v → ∃ x, valV ys k = some x ∧ RV K H φ v x) ∧ (valP xs k = none → valV ys k = none) := by
  unfold RKs at h
  induction h with
  | nil => exact ⟨fun v e => by simp [valP] at e, fun _ => rfl⟩
  | @cons p q ps qs hd t ih =>
    by_cases e : p.1 = k
    · have e1 : valP (p :: ps) k = some p.2 := by simp [valP, List.find?_cons, e]
      rw [e1, valV_pos (hd.1.symm.trans e)]
      exact ⟨fun v z => by cases z; exact ⟨_, rfl, hd.2⟩, fun z => by cases z⟩
    · have e1 : valP (p :: ps) k = valP ps k := by simp [valP, List.find?_cons, e]
      rw [e1, valV_neg (fun z => e (hd.1.trans z))]
      exact ih
theorem RKs.any {K : PySem.W.Frag} {H : Hp} {φ : List Addr} {xs : List (Key × PV)} {ys : List (Key × V)} (h : RKs K H φ xs ys) (k : Key) : (xs.any fun kv => decide (kv.1 = k)) = ys.any fun kv => decide (kv.1 = k) := by
  unfold RKs at h
  induction h with
  | nil => rfl
  | @cons p q ps qs hd t ih => rw [List.any_cons, List.any_cons, ih, hd.1]
theorem RKs.repl {K : PySem.W.Frag} {H : Hp} {φ : List Addr} {xs : List (Key × PV)} {ys : List (Key × V)} (h : RKs K H φ xs ys) (k : Key) {v : PV} {x : V} (r : RV K H φ v x) : RKs K H φ (xs.map fun kv => if kv.1 = k then (kv.1, v) else kv) (ys.map fun kv => if kv.1 = k then (kv.1, x) else kv) := by
  unfold RKs at h ⊢
  induction h with
  | nil => exact .nil
  | @cons p q ps qs hd t ih =>
    rw [List.map_cons, List.map_cons]
    refine .cons ?_ ih
    by_cases e : p.1 = k
    · rw [if_pos e, if_pos (hd.1.symm.trans e)]
      exact ⟨hd.1, r⟩
    · rw [if_neg e, if_neg (fun z => e (hd.1.trans z))]
      exact hd
theorem RKs.snoc {K : PySem.W.Frag} {H : Hp} {φ : List Addr} {xs : List (Key × PV)} {ys : List (Key × V)} (h : RKs K H φ xs ys) (k : Key) {v : PV} {x : V} (r : RV K H φ v x) : RKs K H φ (xs ++ [(k, v)]) (ys ++ [(k, x)]) := by
  unfold RKs at h ⊢
  induction h with
  | nil => exact .cons ⟨rfl, r⟩ .nil
  | cons hd t ih => exact .cons hd ih
theorem RKs.put {K : PySem.W.Frag} {H : Hp} {φ : List Addr} {xs : List (Key × PV)} {ys : List (Key × V)} (h : RKs K H φ xs ys) (k : Key) {v : PV} {x : V} (r : RV K H φ v x) : RKs K H φ (putP xs k v) (putK ys k x) := by
  unfold putP putK
  rw [h.any]
  split
  · exact h.repl k r
  · exact h.snoc k r
theorem RKs.length {K : PySem.W.Frag} {H : Hp} {φ : List Addr} {xs : List (Key × PV)} {ys : List (Key × V)} (h : RKs K H φ xs ys) : xs.length = ys.length := Paired.length h
def bIx : F2 := fun x y S Q => match x, y with
  | .tup xs, .int i => match atI xs i with
    | some v => Q v S
    | none => False
  | .str z, .int i => z.length ≤ sizeLine ∧ match atI z.cps.toList i with
    | some c => Q (.str ⟨#[c]⟩) S
    | none => False
  | .frl xs, .int i => match atI xs i with
    | some v => Q v S
    | none => False
  | .ref n, y => match S[n]? with
    | some (.lst xs) => match y with
      | .int i => match atI xs i with
        | some v => Q v S
        | none => False
      | _ => False
    | some (.dK kvs) => match keyOf y with
      | some k => match valP kvs k with
        | some v => Q v S
        | none => False
      | none => False
    | none => False
  | _, _ => False
theorem ix_dict {X : Cx} (hu : X.A.units + 200 < cLine) : IxR X (fun x y H Q => ∃ a v, x = .ref a ∧ DGet H a y (some v) ∧ Q v H) := by
  intro value slice pins s σ H x y v u Q I rx ry h hs
  obtain ⟨a, w, rfl, g, q⟩ := h
  cases rx
  exact PyProof.Rows.tail_any (dict_typeIs I g) PySem.F.slot_dict_getitem.lookup (d_getItem (by omega) I g ry fun w' s3 I3 rw' => ⟨w, H, I3, rw', q⟩) hs
section
variable {X : Cx} {G : EK} {pos : Pos}
theorem ixs_seq (hu : X.A.units + 200 < cLine) : IxR X (liftR X.K bIx) := by
  intro value slice pins s σ H x y v u Q I rx ry ⟨φ, S, px, py, Q0, R, hx, hy, h, k⟩ hs
  unfold bIx at h
  split at h
  · rename_i xs i
    split at h
    · rename_i w e
      obtain ⟨a, vs, rfl, sa, ra⟩ := hx
      cases hy
      obtain ⟨w', e', r'⟩ := atI_rel ra e
      exact ix_tup value slice pins s σ H _ _ v u Q I rx ry ⟨a, vs, i, w', rfl, rfl, sa, e', k _ S φ H _ h (List.prefix_refl _) (.refl _) R r'⟩ hs
    · exact h.elim
  · rename_i z i
    obtain ⟨hz, h⟩ := h
    split at h
    · rename_i c e
      cases hx
      cases hy
      exact ix_str value slice pins s σ H _ _ v u Q I rx ry ⟨z, i, c, rfl, rfl, hz, e, k _ S φ H _ h (List.prefix_refl _) (.refl _) R rfl⟩ hs
    · exact h.elim
  · rename_i xs i
    split at h
    · rename_i w e
      obtain ⟨a, vs, rfl, sa, ra⟩ := hx
      cases hy
      obtain ⟨w', e', r'⟩ := atI_rel ra e
      exact ix_list value slice pins s σ H _ _ v u Q I rx ry ⟨a, vs, i, w', rfl, rfl, sa.sq, e', k _ S φ H _ h (List.prefix_refl _) (.refl _) R r'⟩ hs
    · exact h.elim
  · rename_i n
    obtain ⟨a, rfl, qa⟩ := hx
    split at h
    · rename_i xs es
      split at h
      · rename_i i
        split at h
        · rename_i w e
          cases hy
          obtain ⟨vs, sa, ra⟩ := R.obj n a _ qa es
          obtain ⟨w', e', r'⟩ := atI_rel ra e
          exact ix_list value slice pins s σ H _ _ v u Q I rx ry ⟨a, vs, i, w', rfl, rfl, SqL.of sa, e', k _ S φ H _ h (List.prefix_refl _) (.refl _) R r'⟩ hs
        · exact h.elim
      · exact h.elim
    · rename_i kvs es
      split at h
      · rename_i kk ek
        split at h
        · rename_i w e
          have hk := key_rel hy ek
          subst hk
          obtain ⟨ws, sa, ra⟩ := R.obj n a _ qa es
          obtain ⟨w', e', r'⟩ := (ra.val kk).1 w e
          refine ix_dict hu value slice pins s σ H _ _ v u Q I rx ry ⟨a, w', rfl, ?_, k _ S φ H _ h (List.prefix_refl _) (.refl _) R r'⟩ hs
          rw [← e']
          exact DGet.k sa
        · exact h.elim
      · exact h.elim
    · exact h.elim
  · exact h.elim
variable {a b : Expr} {wa wb : WE}
theorem sim_ix (hu : X.A.units + 200 < cLine) (ha : SimE X G a wa) (hb : SimE X G b wb) (hs : PlainIx b := by exact fun _ _ => rfl) : SimE X G (.Subscript a b pos) (wBin bIx wa wb) := (pe_ix (ixs_seq hu) ha hb hs).imp fun _ _ _ h => lift_bin h
/-! ### slices -/
def cutP {α : Type} (xs : List α) (lo hi : Option Int) : List α := (xs.drop (HT.sIx xs.length 0 lo)).take (HT.sIx xs.length xs.length hi - HT.sIx xs.length 0 lo)
theorem cut_rel {K : PySem.W.Frag} {H : Hp} {φ : List Addr} {xs : List PV} {vs : List V} (lo hi : Option Int) (r : RVs K H φ xs vs) : RVs K H φ (cutP xs lo hi) (cutV vs lo hi) := by
  unfold cutP cutV
  rw [← r.length]
  exact (r.drop _).take _
abbrev F3 := PV → Option Int → Option Int → Store → VC → Prop
def bSl : F3 := fun x lo hi S Q => match x with
  | .str z => z.length ≤ sizeLine ∧ Q (.str (Txt.slice z lo hi)) S
  | .tup xs => ¬ (HT.sIx xs.length 0 lo = 0 ∧ HT.sIx xs.length xs.length hi = xs.length) ∧ Q (.tup (cutP xs lo hi)) S
  | .frl xs => Q (.ref S.length) (S ++ [.lst (cutP xs lo hi)])
  | .ref n => match seqOf S n with
    | some xs => Q (.ref S.length) (S ++ [.lst (cutP xs lo hi)])
    | none => False
  | _ => False
def liftR3 (K : PySem.W.Frag) (f : F3) : V → Option Int → Option Int → Hp → VK → Prop := fun x' lo hi H Q => ∃ φ S x Q0, Rel K φ S H ∧ RV K H φ x x' ∧ f x lo hi S Q0 ∧ KE K φ H Q0 Q
theorem sls : SlR X (liftR3 X.K bSl) := by
  intro pins s σ H x v vl vu lo hi sl Q I rx hs pl pu ⟨φ, S, px, Q0, R, hx, h, k⟩
  unfold bSl at h
  split at h
  · rename_i z
    cases hx
    exact sl_str pins s σ H _ v vl vu lo hi sl Q I rx hs pl pu ⟨z, rfl, h.1, k _ S φ H _ h.2 (List.prefix_refl _) (.refl _) R rfl⟩
  · rename_i xs
    obtain ⟨a, vs, rfl, sa, ra⟩ := hx
    exact sl_tup pins s σ H _ v vl vu lo hi sl Q I rx hs pl pu ⟨a, vs, rfl, sa, by rw [← ra.length]; exact h.1, k.tup h.2 R (cut_rel lo hi ra)⟩
  · rename_i xs
    obtain ⟨a, vs, rfl, sa, ra⟩ := hx
    exact sl_list pins s σ H _ v vl vu lo hi sl Q I rx hs pl pu ⟨a, vs, rfl, sa.sq, k.lst h R (cut_rel lo hi ra)⟩
  · rename_i n
    split at h
    · rename_i xs es
      obtain ⟨a, rfl, qa⟩ := hx
      obtain ⟨vs, sa, ra⟩ := R.seq qa es
      exact sl_list pins s σ H _ v vl vu lo hi sl Q I rx hs pl pu ⟨a, vs, rfl, sa, k.lst h R (cut_rel lo hi ra)⟩
    · exact h.elim
  · exact h.elim
abbrev WO := Loc → Store → EK → (Option Int → Store → Prop) → Prop
def KO (K : PySem.W.Frag) (φ : List Addr) (H : Hp) (Q0 : Option Int → Store → Prop) (Q : Option Int → Hp → Prop) : Prop := ∀ v S' φ' H', Q0 v S' → φ <+: φ' → Mono H H' → Rel K φ' S' H' → Q v H'
def liftO (K : PySem.W.Frag) (G : EK) (w : WO) : TO := fun σV H Q => ∃ φ σ S Q0, LRel K H φ σ σV ∧ Rel K φ S H ∧ w σ S G Q0 ∧ KO K φ H Q0 Q
def SimO (X : Cx) (G : EK) (e : Option Expr) (w : WO) : Prop := PO X e (liftO X.K G w)
theorem PO.imp {e : Option Expr} {t t' : TO} (h : PO X e t) (i : ∀ σ H Q, t' σ H Q → t σ H Q) : PO X e t' := fun pins s σ H Q I q => h pins s σ H Q I (i σ H Q q)
def wNoPart : WO := fun _ S _ Q => Q none S
def wPart (w : WE) : WO := fun σ S E Q => w σ S E fun x S1 => match x with
  | .int i => Q (some i) S1
  | _ => False
theorem simO_none : SimO X G none wNoPart := PO.imp po_none fun σV H Q ⟨φ, σ, S, Q0, L, R, h, k⟩ => k none S φ H h (List.prefix_refl _) (.refl _) R
theorem simO_some {e : Expr} {w : WE} (h : SimE X G e w) : SimO X G (some e) (wPart w) :=
  PO.imp (po_some h) fun σV H Q ⟨φ, σ, S, Q0, L, R, h, k⟩ => ⟨φ, σ, S, _, L, R, h, fun v S1 φ1 H1 x q p1 m1 R1 r1 => by
    cases v with
    | int i => exact ⟨i, r1, k _ S1 φ1 H1 q p1 m1 R1⟩
    | _ => exact q.elim⟩
def wSl (w : WE) (wl wh : WO) : WE := fun σ S E Q => w σ S E fun x S1 => wl σ S1 E fun lo S2 => wh σ S2 E fun hi S3 => bSl x lo hi S3 Q
theorem sim_slice {e : Expr} {w : WE} {lo hi : Option Expr} {wl wh : WO} {p2 : Pos} (he : SimE X G e w) (hl : SimO X G lo wl) (hh : SimO X G hi wh) : SimE X G (.Subscript e (.Slice lo hi none p2) pos) (wSl w wl wh) :=
  (pe_slice sls he hl hh).imp fun σV H Q ⟨φ, σ, S, Q0, L, R, h, k⟩ => ⟨φ, σ, S, _, L, R, h, fun v S1 φ1 H1 x q p1 m1 R1 r1 =>
    ⟨φ1, σ, S1, _, L.mono m1 p1, R1, q, fun l S2 φ2 H2 q2 p2 m2 R2 =>
      ⟨φ2, σ, S2, _, (L.mono m1 p1).mono m2 p2, R2, q2, fun u S3 φ3 H3 q3 p3 m3 R3 =>
        ⟨φ3, S3, v, Q0, R3, RV.mono m3 p3 _ _ (RV.mono m2 p2 _ _ r1), q3, k.up ((p1.trans p2).trans p3) ((m1.trans m2).trans m3)⟩⟩⟩⟩
/-! ### built-in functions and types -/
abbrev FL := List PV → Store → VC → Prop
def liftC (K : PySem.W.Frag) (f : FL) : List V → Hp → VK → Prop := fun xs' H Q => ∃ φ S xs Q0, Rel K φ S H ∧ RVs K H φ xs xs' ∧ f xs S Q0 ∧ KE K φ H Q0 Q
def wCB (f : FL) (wa : WA) : WE := fun σ S E Q => wa σ S E fun xs S1 => f xs S1 Q
theorem lift_cb {f : FL} {wa : WA} {σV : St} {H : Hp} {Q : VK} (h : liftE X.K G (wCB f wa) σV H Q) : tCB (liftC X.K f) (liftA X.K G wa) σV H Q := by
  obtain ⟨φ, σ, S, Q0, L, R, h, k⟩ := h
  exact ⟨φ, σ, S, _, L, R, h, fun v S1 φ1 H1 x q p1 m1 R1 r1 => ⟨φ1, S1, v, Q0, R1, r1, q, k.up p1 m1⟩⟩
theorem sim_callB {f : FL} {x : Str} {id : String} {p : Pos} {e : Expr} {es : List Expr} {wa : WA} (hc : CallR X (.builtin id) (liftC X.K f)) (hm : X.mg x = none) (hv : bootBuiltins x = some (.builtin id)) (ha : SimA X G (e :: es) wa) (hg : Gl X x := by rfl) (hn : x ≠ "__name__" := by decide) (hdb : (x == ("__debug__" : Str)) = false := by decide)
    (he : starEach (e :: es) X.env = (false, eval e X.env) :: starEach es X.env := by rfl) (hpl : (backTo pos (starEach es X.env)).any (·.1) = false := by rfl) : SimE X G (.Call (.Name x p) (e :: es) [] pos) (wCB f wa) :=
  (pe_callB hc hg hm hv ha hn hdb he hpl).imp fun _ _ _ h => lift_cb h
theorem one_rel {K : PySem.W.Frag} {H : Hp} {φ : List Addr} {x : PV} {vs : List V} (r : RVs K H φ [x] vs) : ∃ v, vs = [v] ∧ RV K H φ x v := by
  obtain ⟨y, ys, rfl, r1, r2⟩ := r
  rw [show ys = [] from r2]
  exact ⟨y, rfl, r1⟩
def fLen : FL := fun xs S Q => match xs with
  | [.str z] => z.length ≤ sizeLine ∧ Q (.int z.length) S
  | [.tup xs] => Q (.int xs.length) S
  | [.frl xs] => Q (.int xs.length) S
  | [.ref n] => match seqOf S n with
    | some xs => Q (.int xs.length) S
    | none => False
  | _ => False
theorem calls_len : CallR X (.builtin "len") (liftC X.K fLen) := by
  intro pins s σ H xs us Q I r ⟨φ, S, pxs, Q0, R, hx, h, k⟩
  unfold fLen at h
  split at h
  · rename_i z
    obtain ⟨v, rfl, r1⟩ := one_rel hx
    cases r1
    exact call_len_str pins s σ H _ us Q I r ⟨z, rfl, h.1, k _ S φ H _ h.2 (List.prefix_refl _) (.refl _) R rfl⟩
  · rename_i ys
    obtain ⟨v, rfl, a, vs, rfl, sa, ra⟩ := one_rel hx
    exact call_len_seq pins s σ H _ us Q I r ⟨a, vs, rfl, .inr sa, k _ S φ H _ h (List.prefix_refl _) (.refl _) R (by rw [← ra.length]; rfl)⟩
  · rename_i ys
    obtain ⟨v, rfl, a, vs, rfl, sa, ra⟩ := one_rel hx
    exact call_len_seq pins s σ H _ us Q I r ⟨a, vs, rfl, .inl sa.sq, k _ S φ H _ h (List.prefix_refl _) (.refl _) R (by rw [← ra.length]; rfl)⟩
  · rename_i n
    split at h
    · rename_i ys es
      obtain ⟨v, rfl, a, rfl, qa⟩ := one_rel hx
      obtain ⟨vs, sa, ra⟩ := R.seq qa es
      exact call_len_seq pins s σ H _ us Q I r ⟨a, vs, rfl, .inl sa, k _ S φ H _ h (List.prefix_refl _) (.refl _) R (by rw [← ra.length]; rfl)⟩
    · exact h.elim
  · exact h.elim
/-- the type of a value -/
def tyP (x : PV) (S : Store) : Option String := match x with
  | .non => some "NoneType"
  | .bl _ => some "bool"
  | .int _ => some "int"
  | .str _ => some "str"
  | .tup _ => some "tuple"
  | .ref n => match S[n]? with
    | some (.lst _) => some "list"
    | some (.dK _) => some "dict"
    | none => none
  | .frl _ => some "list"
  | .ty _ => none
def isT (T C : String) : Bool := T == C || (T == "bool" && C == "int")
def kinds : List String := ["NoneType", "bool", "int", "str", "tuple", "list", "dict"]
def kindsC : List String := ["list", "tuple", "str", "int", "bool", "dict"]
end
end Ev

namespace Ev
open PySem L2
section
variable {X : Cx} {G : EK} {pos : Pos}
/-! ### isinstance -/
def fIsi : FL := fun xs S Q => match xs with
  | [x, .ty D] => match tyP x S with
    | some T => D ∈ kindsC ∧ Q (.bl (isT T D)) S
    | none => False
  | [x, .tup [.ty D, .ty D']] => match tyP x S with
    | some T => (D ∈ kindsC ∧ D' ∈ kindsC) ∧ Q (.bl (isT T D || isT T D')) S
    | none => False
  | _ => False
/-! ### lists of one kind -/
def intsOf : List PV → Option (List Int)
  | [] => some []
  | .int i :: r => (intsOf r).map (i :: ·)
  | _ => none
def strsOf : List PV → Option (List Str)
  | [] => some []
  | .str i :: r => (strsOf r).map (i :: ·)
  | _ => none
def blsOf : List PV → Option (List Bool)
  | [] => some []
  | .bl i :: r => (blsOf r).map (i :: ·)
  | _ => none
theorem intsOf_eq : ∀ {xs : List PV} {ns : List Int}, intsOf xs = some ns → xs = ns.map PV.int
  | [], ns, h => by simp [intsOf] at h; subst h; rfl
  | x :: r, ns, h => by
    cases x with
    | int i =>
      simp only [intsOf, Option.map_eq_some_iff] at h
      obtain ⟨ms, h1, rfl⟩ := h
      rw [intsOf_eq h1]; rfl
    | _ => simp [intsOf] at h
theorem intsOf_map (ns : List Int) : intsOf (ns.map PV.int) = some ns := by induction ns with
  | nil => rfl
  | cons a r ih => simp [intsOf, ih]
def fSum : FL := fun xs S Q => match xs with
  | [.frl ys] => match intsOf ys with
    | some ns => Q (.int ns.sum) S
    | none => False
  | [.ref n] => match (seqOf S n).bind intsOf with
    | some ns => Q (.int ns.sum) S
    | none => False
  | _ => False
def fAll : FL := fun xs S Q => match xs with
  | [.ref n] => match (seqOf S n).bind blsOf with
    | some ns => Q (.bl (ns.all id)) S
    | none => False
  | _ => False
theorem calls_sum (hc : X.calm = true) : CallR X (.builtin "sum") (liftC X.K fSum) := by
  intro pins s σ H xs us Q I r ⟨φ, S, pxs, Q0, R, hx, h, k⟩
  unfold fSum at h
  split at h
  · split at h
    · rename_i ns e
      have := intsOf_eq e
      subst this
      obtain ⟨v, rfl, a, vs, rfl, sa, ra⟩ := one_rel hx
      have sa := sa.sq
      rw [ra.ints] at sa
      exact call_sum hc pins s σ H _ us Q I r ⟨a, ns, rfl, sa, k _ S φ H _ h (List.prefix_refl _) (.refl _) R rfl⟩
    · exact h.elim
  · rename_i n
    split at h
    · rename_i ns e
      obtain ⟨ys, e1, e2⟩ := Option.bind_eq_some_iff.mp e
      have := intsOf_eq e2
      subst this
      obtain ⟨v, rfl, a, rfl, qa⟩ := one_rel hx
      obtain ⟨vs, sa, ra⟩ := R.seq qa e1
      rw [ra.ints] at sa
      exact call_sum hc pins s σ H _ us Q I r ⟨a, ns, rfl, sa, k _ S φ H _ h (List.prefix_refl _) (.refl _) R rfl⟩
    · exact h.elim
  · exact h.elim
def fList : FL := fun xs S Q => match xs with
  | [.frl ys] => Q (.ref S.length) (S ++ [.lst ys])
  | [.tup ys] => Q (.ref S.length) (S ++ [.lst ys])
  | [.ref n] => match seqOf S n with
    | some ys => Q (.ref S.length) (S ++ [.lst ys])
    | none => False
  | _ => False
def fTuple : FL := fun xs S Q => match xs with
  | [.tup ys] => Q (.tup ys) S
  | [.ref n] => match seqOf S n with
    | some ys => Q (.tup ys) S
    | none => False
  | _ => False
def fInt : FL := fun xs S Q => match xs with
  | [.int i] => Q (.int i) S
  | [.bl b] => Q (.int (if b then 1 else 0)) S
  | _ => False
def fStr : FL := fun xs S Q => match xs with
  | [.int i] => i.natAbs.log2 < 1920 ∧ Q (.str (toString i)) S
  | _ => False
def fMax : FL := fun xs S Q => match xs with
  | [.int i, .int j] => Q (.int (if j > i then j else i)) S
  | _ => False
/-! ### methods -/
abbrev FM := PV → List PV → Store → VC → Prop
def liftM (K : PySem.W.Frag) (f : FM) : V → List V → Hp → VK → Prop := fun x' xs' H Q => ∃ φ S x xs Q0, Rel K φ S H ∧ RV K H φ x x' ∧ RVs K H φ xs xs' ∧ f x xs S Q0 ∧ KE K φ H Q0 Q
def wBM (T : String) (f : FM) (wo : WE) (wa : WA) : WE := fun σ S E Q => wo σ S E fun x S1 => tyP x S1 = some T ∧ wa σ S1 E fun xs S2 => f x xs S2 Q
def wBM0 (T : String) (f : FM) (wo : WE) : WE := fun σ S E Q => wo σ S E fun x S1 => tyP x S1 = some T ∧ f x [] S1 Q
theorem ty_rel {K : PySem.W.Frag} {H : Hp} {φ : List Addr} {S : Store} {x : PV} {x' : V} {T : String} (R : Rel K φ S H) (r : RV K H φ x x') (h : tyP x S = some T) (hT : T = "str" ∨ T = "list" ∨ T = "dict") : tyV K T x' H := by
  unfold tyP at h
  split at h
  · cases h; simp at hT
  · cases h; simp at hT
  · cases h; simp at hT
  · cases h; cases r; rfl
  · cases h; simp at hT
  · rename_i n
    obtain ⟨a, rfl, qa⟩ := r
    split at h
    · rename_i xs es
      cases h
      obtain ⟨vs, e1, _⟩ := R.obj n a _ qa es
      exact .inl ⟨rfl, vs, SqL.of e1⟩
    · rename_i xs es
      cases h
      obtain ⟨vs, e1, _⟩ := R.obj n a _ qa es
      exact .inr (.inr (.inl ⟨rfl, .inl ⟨vs, e1⟩⟩))
    · cases h
  · cases h
    obtain ⟨a, vs, rfl, sa, ra⟩ := r
    exact .inl ⟨rfl, vs, sa.sq⟩
  · cases h
theorem sim_bm {f : FM} {T id : String} {name : Str} {o e : Expr} {es : List Expr} {apos cpos : Pos} {wo : WE} {wa : WA} (pa : PlainAttrs T) (slot : Slot T name id) (hty : typeOf (.builtin id) = pure (.type "method_descriptor")) (hm : MtR X id (liftM X.K f)) (ho : SimE X G o wo) (ha : SimA X G (e :: es) wa)
    (hT : T = "str" ∨ T = "list" ∨ T = "dict" := by first | exact Or.inl rfl | exact Or.inr (Or.inl rfl) | exact Or.inr (Or.inr rfl))
    (hbase : attributeBase o name X.env (eval o X.env) = eval o X.env := by rfl)
    (hfew : ((backTo cpos (starEach (e :: es) X.env)).all (fun x => !x.1) && (backToKw cpos (keywordEach [] X.env)).all (fun x => x.1.isSome)
      && decide ((e :: es).length + ([] : List Keyword).length + (if ([] : List Keyword).isEmpty then 0 else 1) < 30)) = true := by rfl)
    (hline : (apos.endLine == cpos.line) = true := by rfl) (hs : starEach (e :: es) X.env = (false, eval e X.env) :: starEach es X.env := by rfl) (hplain : (backTo cpos (starEach es X.env)).any (·.1) = false := by rfl) :
    SimE X G (.Call (.Attribute o name apos) (e :: es) [] cpos) (wBM T f wo wa) :=
  (pe_bm pa slot hty hm ho ha hbase hfew hline hs hplain).imp fun σV H Q ⟨φ, σ, S, Q0, L, R, h, k⟩ => ⟨φ, σ, S, _, L, R, h, fun v S1 φ1 H1 x ⟨ht, q⟩ p1 m1 R1 r1 => ⟨ty_rel R1 r1 ht hT,
    ⟨φ1, σ, S1, _, L.mono m1 p1, R1, q, fun vs S2 φ2 H2 xs q2 p2 m2 R2 r2 => ⟨φ2, S2, v, vs, Q0, R2, RV.mono m2 p2 _ _ r1, r2, q2, k.up (p1.trans p2) (m1.trans m2)⟩⟩⟩⟩
/-- a list is written -/
theorem KE.put {K : PySem.W.Frag} {φ : List Addr} {H : Hp} {Q0 : VC} {Q : VK} {S : Store} {n : Nat} {a : Addr} {old : List V} {xs : List PV} {vs : List V} {y : PV} {y' : V} (k : KE K φ H Q0 Q) (R : Rel K φ S H) (qa : φ[n]? = some a) (e : H a = some (.lst old)) (r : RVs K H φ xs vs) (ry : RV K H φ y y') (q : Q0 y (S.set n (.lst xs))) : Q y' (upd H a (.lst vs)) :=
  k _ _ φ _ _ q (List.prefix_refl _) (.lst e) (R.put (o := .lst xs) qa (.lst e) ⟨vs, upd_same, RVs.mono (.lst e) (List.prefix_refl _) _ _ r⟩) (RV.mono (.lst e) (List.prefix_refl _) _ _ ry)
def mAppend : FM := fun x xs S Q => match x, xs with
  | .ref n, [y] => match lstOf S n with
    | some ys => ys.length < sizeLine ∧ Q .non (S.set n (.lst (ys ++ [y])))
    | none => False
  | _, _ => False
theorem mts_append : MtR X "list.append" (liftM X.K mAppend) := by
  intro pins s σ H x xs v us Q I rx rs ⟨φ, S, px, pxs, Q0, R, hx, hxs, h, k⟩
  unfold mAppend at h
  split at h
  · rename_i n y
    split at h
    · rename_i ys e
      obtain ⟨a, rfl, qa⟩ := hx
      obtain ⟨y', rfl, ry⟩ := one_rel hxs
      obtain ⟨vs, ea, ra⟩ := R.lst qa e
      exact mt_append pins s σ H _ _ v us Q I rx rs ⟨a, vs, y', rfl, rfl, ea, by rw [← ra.length]; exact h.1, k.put R qa ea (ra.append (.one ry)) (show RV X.K H φ .non .non from rfl) h.2⟩
    · exact h.elim
  · exact h.elim
def mPop : FM := fun x xs S Q => match x, xs with
  | .ref n, [] => match lstOf S n with
    | some ys => match ys.getLast? with
      | some y => Q y (S.set n (.lst ys.dropLast))
      | none => False
    | none => False
  | _, _ => False
def mPopAt : FM := fun x xs S Q => match x, xs with
  | .ref n, [.int i] => match lstOf S n with
    | some ys => match ixN ys.length i with
      | some j => match ys[j]? with
        | some y => (-(2 ^ 63) ≤ i ∧ i < 2 ^ 63) ∧ Q y (S.set n (.lst (ys.eraseIdx j)))
        | none => False
      | none => False
    | none => False
  | _, _ => False
def mClear : FM := fun x xs S Q => match x, xs with
  | .ref n, [] => match lstOf S n with
    | some _ => Q .non (S.set n (.lst []))
    | none => False
  | _, _ => False
def mExtend : FM := fun x xs S Q => match x, xs with
  | .ref n, [.ref m] => match lstOf S n, lstOf S m with
    | some ys, some zs => ys.length + zs.length ≤ sizeLine ∧ Q .non (S.set n (.lst (ys ++ zs)))
    | _, _ => False
  | .ref n, [.tup zs] => match lstOf S n with
    | some ys => ys.length + zs.length ≤ sizeLine ∧ Q .non (S.set n (.lst (ys ++ zs)))
    | none => False
  | _, _ => False
theorem mts_popAt : MtR X "list.pop" (liftM X.K mPopAt) := by
  intro pins s σ H x xs v us Q I rx rs ⟨φ, S, px, pxs, Q0, R, hx, hxs, h, k⟩
  unfold mPopAt at h
  split at h
  · rename_i n i
    split at h
    · rename_i ys e
      split at h
      · rename_i j ej
        split at h
        · rename_i y ey
          obtain ⟨a, rfl, qa⟩ := hx
          obtain ⟨y', rfl, ry⟩ := one_rel hxs
          cases ry
          obtain ⟨vs, ea, ra⟩ := R.lst qa e
          obtain ⟨y', e', r'⟩ := ra.get ey
          rw [ra.length] at ej
          exact mt_popAt pins s σ H _ _ v us Q I rx rs ⟨a, vs, i, j, y', rfl, rfl, ea, h.1.1, h.1.2, (ixN_seq ej).1, e', k.put R qa ea (ra.eraseIdx _) r' h.2⟩
        · exact h.elim
      · exact h.elim
    · exact h.elim
  · exact h.elim
def mJoin : FM := fun x xs S Q => match x, xs with
  | .str z, [.ref n] => match (seqOf S n).bind strsOf with
    | some ys => (ys.map (·.length)).sum + ys.length * z.length ≤ 16777216 ∧ Q (.str (Txt.join z ys)) S
    | none => False
  | _, _ => False
def mIndex : FM := fun x xs S Q => match x, xs with
  | .str z, [.str y] => 0 ≤ Txt.find z y ∧ Q (.int (Txt.find z y)) S
  | _, _ => False
/-! ### f-strings -/
abbrev WJ := Loc → Store → EK → Str → (Str → Store → Prop) → Prop
theorem PJ.imp {e : List Expr} {t t' : TJ} (h : PJ X e t) (i : ∀ σ H a Q, t' σ H a Q → t σ H a Q) : PJ X e t' := fun pins s σ H acc Q I q => h pins s σ H acc Q I (i σ H acc Q q)
def wjNil : WJ := fun _ S _ acc Q => Q acc S
def wjStr (x : Str) (w : WJ) : WJ := fun σ S E acc Q => (acc ++ x).length ≤ sizeLine ∧ w σ S E (acc ++ x) Q
def wjVal (we : WE) (w : WJ) : WJ := fun σ S E acc Q => we σ S E fun v S1 => match v with
  | .str x => (x.length ≤ sizeLine ∧ (acc ++ x).length ≤ sizeLine) ∧ w σ S1 E (acc ++ x) Q
  | _ => False
def wJoined (w : WJ) : WE := fun σ S E Q => w σ S E Str.empty fun out S1 => out.length ≤ sizeLine ∧ Q (.str out) S1
end
end Ev

/-! statements, loops, comprehensions -/
namespace Ev
open PySem L2
structure PEnds where
  nx : Loc → Store → Prop
  rt : VC
  bk : Loc → Store → Prop := fun _ _ => False
  ct : Loc → Store → Prop := fun _ _ => False
abbrev WS := PEnds → EK → Loc → Store → Prop
def KN (K : PySem.W.Frag) (φ : List Addr) (H : Hp) (Q0 : Loc → Store → Prop) (Q : St → Hp → Prop) : Prop := ∀ σ' S' φ' H' σV', Q0 σ' S' → φ <+: φ' → Mono H H' → Rel K φ' S' H' → LRel K H' φ' σ' σV' → Q σV' H'
theorem KN.up {K : PySem.W.Frag} {φ φ1 : List Addr} {H H1 : Hp} {Q0 : Loc → Store → Prop} {Q : St → Hp → Prop} (k : KN K φ H Q0 Q) (p : φ <+: φ1) (m : Mono H H1) : KN K φ1 H1 Q0 Q := fun σ' S' φ' H' σV' q p' m' => k σ' S' φ' H' σV' q (p.trans p') (m.trans m')
structure KS (K : PySem.W.Frag) (φ : List Addr) (H : Hp) (D0 : PEnds) (D : Ends) : Prop where
  nx : KN K φ H D0.nx D.nx
  rt : KE K φ H D0.rt D.rt
  bk : KN K φ H D0.bk D.bk
  ct : KN K φ H D0.ct D.ct
theorem KS.up {K : PySem.W.Frag} {φ φ1 : List Addr} {H H1 : Hp} {D0 : PEnds} {D : Ends} (k : KS K φ H D0 D) (p : φ <+: φ1) (m : Mono H H1) : KS K φ1 H1 D0 D := ⟨k.nx.up p m, k.rt.up p m, k.bk.up p m, k.ct.up p m⟩
def liftS (K : PySem.W.Frag) (G : EK) (w : WS) : TS := fun D σV H => ∃ φ σ S D0, LRel K H φ σ σV ∧ Rel K φ S H ∧ w D0 G σ S ∧ KS K φ H D0 D
def SimS (X : Cx) (G : EK) (st : Stmt) (w : WS) : Prop := PS X st (liftS X.K G w)
def SimSs (X : Cx) (G : EK) (st : List Stmt) (w : WS) : Prop := PSs X st (liftS X.K G w)
theorem _root_.L2.PS.imp {X : Cx} {e : Stmt} {t t' : TS} (h : PS X e t) (i : ∀ D σ H, t' D σ H → t D σ H) : PS X e t' := fun pins s σ H D I q => h pins s σ H D I (i D σ H q)
theorem _root_.L2.PSs.imp {X : Cx} {e : List Stmt} {t t' : TS} (h : PSs X e t) (i : ∀ D σ H, t' D σ H → t D σ H) : PSs X e t' := fun pins s σ H D I q => h pins s σ H D I (i D σ H q)
section
variable {X : Cx} {G : EK} {pos : Pos}
def wNext : WS := fun D _ σ S => D.nx σ S
def wSeq (w1 w2 : WS) : WS := fun D E σ S => w1 { D with nx := w2 D E } E σ S
theorem sims_nil : SimSs X G [] wNext := pss_nil.imp fun D σV H ⟨φ, σ, S, D0, L, R, h, k⟩ => k.nx σ S φ H σV h (List.prefix_refl _) (.refl _) R L
theorem sims_one {st : Stmt} {w : WS} (h : SimS X G st w) : SimSs X G [st] w := pss_one h
theorem sims_cons {st : Stmt} {rest : List Stmt} {w1 w2 : WS} (h1 : SimS X G st w1) (h2 : SimSs X G rest w2) : SimSs X G (st :: rest) (wSeq w1 w2) :=
  (pss_cons h1 h2).imp fun D σV H ⟨φ, σ, S, D0, L, R, h, k⟩ => ⟨φ, σ, S, _, L, R, h, ⟨fun σ' S' φ' H' σV' q p m R' L' => ⟨φ', σ', S', D0, L', R', q, k.up p m⟩, k.rt, k.bk, k.ct⟩⟩
def wPass : WS := wNext
def wBreak : WS := fun D _ σ S => D.bk σ S
def wCont : WS := fun D _ σ S => D.ct σ S
def wNever : WS := fun _ _ _ _ => False
def wDrop (w : WE) : WS := fun D E σ S => w σ S E fun _ S1 => D.nx σ S1
theorem sim_expr {e : Expr} {w : WE} (he : SimE X G e w) (hs : swapsWith e none pos.line X.env = pure false := by rfl) : SimS X G (.Expr e pos) (wDrop w) :=
  (ps_expr he hs).imp fun D σV H ⟨φ, σ, S, D0, L, R, h, k⟩ => ⟨φ, σ, S, _, L, R, h, fun v S1 φ1 H1 x q p1 m1 R1 r1 => k.nx σ S1 φ1 H1 σV q p1 m1 R1 (L.mono m1 p1)⟩
def wRet (w : WE) : WS := fun D E σ S => w σ S E D.rt
theorem sim_ret {e : Expr} {w : WE} (he : SimE X G e w) : SimS X G (.Return (some e) pos) (wRet w) :=
  (ps_ret he).imp fun D σV H ⟨φ, σ, S, D0, L, R, h, k⟩ => ⟨φ, σ, S, _, L, R, h, k.rt⟩
def wRetN : WS := fun D _ _ S => D.rt .non S
def wIfS (c : WT) (t u : WS) : WS := fun D E σ S => c σ S E fun b S1 => if b = true then t D E σ S1 else u D E σ S1
theorem sim_if {c : Expr} {a b : List Stmt} {wc : WT} {t u : WS} (hc : SimT X G c wc) (ha : SimSs X G a t) (hb : SimSs X G b u) : SimS X G (.If c a b pos) (wIfS wc t u) :=
  (ps_if hc ha hb).imp fun D σV H ⟨φ, σ, S, D0, L, R, h, k⟩ => ⟨φ, σ, S, _, L, R, h, fun c S1 φ1 H1 q p1 m1 R1 => by
    cases c with
    | true => exact ⟨φ1, σ, S1, D0, L.mono m1 p1, R1, q, k.up p1 m1⟩
    | false => exact ⟨φ1, σ, S1, D0, L.mono m1 p1, R1, q, k.up p1 m1⟩⟩
/-! ### targets -/
abbrev WG := PV → Loc → Store → EK → (Loc → Store → Prop) → Prop
abbrev WGs := List PV → Loc → Store → EK → (Loc → Store → Prop) → Prop
def liftG (K : PySem.W.Frag) (G : EK) (w : WG) : TG := fun v' σV H Q => ∃ φ v σ S Q0, LRel K H φ σ σV ∧ Rel K φ S H ∧ RV K H φ v v' ∧ w v σ S G Q0 ∧ KN K φ H Q0 Q
def liftGs (K : PySem.W.Frag) (G : EK) (w : WGs) : TGs := fun v' σV H Q => ∃ φ v σ S Q0, LRel K H φ σ σV ∧ Rel K φ S H ∧ RVs K H φ v v' ∧ w v σ S G Q0 ∧ KN K φ H Q0 Q
def SimG (X : Cx) (G : EK) (tg : Expr) (w : WG) : Prop := PG X tg (liftG X.K G w)
def SimGs (X : Cx) (G : EK) (tg : List Expr) (w : WGs) : Prop := PGs X tg (liftGs X.K G w)
theorem PG.imp {e : Expr} {t t' : TG} (h : PG X e t) (i : ∀ v σ H Q, t' v σ H Q → t v σ H Q) : PG X e t' := fun pins s σ H v u Q I r q => h pins s σ H v u Q I r (i v σ H Q q)
theorem PGs.imp {e : List Expr} {t t' : TGs} (h : PGs X e t) (i : ∀ v σ H Q, t' v σ H Q → t v σ H Q) : PGs X e t' := fun pins s σ H v u Q I r q => h pins s σ H v u Q I r (i v σ H Q q)
def wgName (i : Nat) : WG := fun v σ S _ Q => Q (σ.set i (some v)) S
theorem simG_name {i : Nat} {x : Str} (hN : X.N.Nodup) (hi : X.N[i]? = some x := by rfl) (hx : L2.Loc X.env.scope x := by first | exact Or.inl rfl | exact Or.inr rfl) (hf : X.fn x = true ∨ X.env.scope.names.lookup x = some .local := by first | exact .inl rfl | exact .inr rfl | assumption) : SimG X G (.Name x pos) (wgName i) :=
  PG.imp (pg_name (i := i) hN hi hx hf) fun v' σV H Q ⟨φ, v, σ, S, Q0, L, R, r, h, k⟩ => k _ S φ H _ h (List.prefix_refl _) (.refl _) R (L.set i r)
def wgNil : WGs := fun vs σ S _ Q => match vs with
  | [] => Q σ S
  | _ => False
def wgCons (w : WG) (ws : WGs) : WGs := fun vs σ S E Q => match vs with
  | v :: r => w v σ S E fun σ' S' => ws r σ' S' E Q
  | _ => False
theorem simGs_nil : SimGs X G [] wgNil := PGs.imp pgs_nil fun v' σV H Q ⟨φ, v, σ, S, Q0, L, R, r, h, k⟩ => by
  cases v with
  | nil => exact ⟨r, k _ S φ H _ h (List.prefix_refl _) (.refl _) R L⟩
  | cons _ _ => exact h.elim
theorem simGs_cons {e : Expr} {es : List Expr} {w : WG} {ws : WGs} (h1 : SimG X G e w) (h2 : SimGs X G es ws) (hs : (assignEach (e :: es) X.env).map (·.2) = assign e X.env :: (assignEach es X.env).map (·.2) := by rfl) : SimGs X G (e :: es) (wgCons w ws) :=
  PGs.imp (pgs_cons h1 h2 hs) fun v' σV H Q ⟨φ, v, σ, S, Q0, L, R, r, h, k⟩ => by
    cases v with
    | nil => exact h.elim
    | cons a b =>
      obtain ⟨y, ys, rfl, r1, r2⟩ := r
      exact ⟨y, ys, rfl, φ, a, σ, S, _, L, R, r1, h, fun σ' S' φ' H' σV' q p m R' L' => ⟨φ', b, σ', S', Q0, L', R', RVs.mono m p _ _ r2, q, k.up p m⟩⟩
def wgTup (n : Nat) (ws : WGs) : WG := fun v σ S E Q => match v with
  | .tup xs => xs.length = n ∧ ws xs σ S E Q
  | _ => False
theorem simG_tup {es : List Expr} {kk : Nat} {ws : WGs} (n : Nat) (hc : X.calm = true) (h : SimGs X G es ws) (hn : (assignEach es X.env).length = n := by rfl) (hst : (assignEach es X.env).findIdx? (·.1) = none := by rfl) : SimG X G (.Tuple es kk pos) (wgTup n ws) :=
  PG.imp (pg_tup hc h hn hst) fun v' σV H Q ⟨φ, v, σ, S, Q0, L, R, r, h, k⟩ => by
    cases v with
    | tup xs =>
      obtain ⟨a, vs, rfl, sa, ra⟩ := r
      exact ⟨a, vs, rfl, sa, by rw [← ra.length]; exact h.1, φ, xs, σ, S, Q0, L, R, ra, h.2, k⟩
    | _ => exact h.elim
def wAsg (w : WE) (g : WG) : WS := fun D E σ S => w σ S E fun v S1 => g v σ S1 E D.nx
theorem sim_asg {tg e : Expr} {w : WE} {g : WG} (he : SimE X G e w) (hg : SimG X G tg g) (hs : swapsWithSole [tg] e pos.line X.env = pure false := by rfl) (hw : swappedStores [tg] e X.env = pure none := by rfl)
    (h1 : (assignEach [tg] X.env).map (·.2) = [assign tg X.env] := by rfl) : SimS X G (.Assign [tg] e pos) (wAsg w g) :=
  (ps_asg he hg hs hw h1).imp fun D σV H ⟨φ, σ, S, D0, L, R, h, k⟩ => ⟨φ, σ, S, _, L, R, h, fun v S1 φ1 H1 x q p1 m1 R1 r1 => ⟨φ1, v, σ, S1, D0.nx, L.mono m1 p1, R1, r1, q, k.nx.up p1 m1⟩⟩
def wSet (i : Nat) (w : WE) : WS := fun D E σ S => w σ S E fun v S1 => D.nx (σ.set i (some v)) S1
theorem sim_set (i : Nat) {x : Str} {e : Expr} {w : WE} {pos' : Pos} (hN : X.N.Nodup) (he : SimE X G e w) (hi : X.N[i]? = some x := by rfl) (hx : L2.Loc X.env.scope x := by first | exact Or.inl rfl | exact Or.inr rfl) (hs : swapsWith e (some (.Name x pos')) pos.line X.env = pure false := by rfl) (hf : X.fn x = true ∨ X.env.scope.names.lookup x = some .local := by first | exact .inl rfl | exact .inr rfl | assumption) :
    SimS X G (.Assign [.Name x pos'] e pos) (wSet i w) :=
  (ps_set (i := i) hN hi hx he hs hf).imp fun D σV H ⟨φ, σ, S, D0, L, R, h, k⟩ => ⟨φ, σ, S, _, L, R, h, fun v S1 φ1 H1 x q p1 m1 R1 r1 => k.nx _ S1 φ1 H1 _ q p1 m1 R1 ((L.mono m1 p1).set i r1)⟩
def wAug (i : Nat) (f : F2) (w : WE) : WS := fun D E σ S => match σ[i]? with
  | some (some x) => w σ S E fun y S1 => f x y S1 fun z S2 => D.nx (σ.set i (some z)) S2
  | _ => False
/-! ### what is stored in a list -/
abbrev FS := PV → PV → PV → Store → (Store → Prop) → Prop
def liftSet (K : PySem.W.Frag) (f : FS) : TSet := fun o' i' v' H Q => ∃ φ S o i v Q0, Rel K φ S H ∧ RV K H φ o o' ∧ RV K H φ i i' ∧ RV K H φ v v' ∧ f o i v S Q0 ∧ ∀ S' H', Q0 S' → Mono H H' → Rel K φ S' H' → Q H'
def sSet : FS := fun o i v S Q => match o with
  | .ref n => match S[n]? with
    | some (.lst xs) => match i with
      | .int k => match ixN xs.length k with
        | some j => Q (S.set n (.lst (xs.set j v)))
        | none => False
      | _ => False
    | some (.dK kvs) => match keyOf i with
      | some k => kvs.length < sizeLine ∧ Q (S.set n (.dK (putP kvs k v)))
      | none => False
    | none => False
  | _ => False
theorem sets (hu : X.A.units + 200 < cLine) : PSet X (liftSet X.K sSet) := by
  intro pins s σ H o i v ov iv u Q I ro ri rv ⟨φ, S, po, pi, pv, Q0, R, ho, hi, hv, h, k⟩
  unfold sSet at h
  split at h
  · rename_i n
    obtain ⟨a, rfl, qa⟩ := ho
    split at h
    · rename_i xs e
      split at h
      · rename_i kk
        split at h
        · rename_i j ej
          cases hi
          obtain ⟨vs, ea, ra⟩ := R.obj n a _ qa e
          rw [ra.length] at ej
          refine set_list pins s σ H _ _ v ov iv u Q I ro ri rv ⟨a, vs, kk, j, rfl, rfl, ea, ej, k _ _ h (.lst ea) (R.put (o := .lst (xs.set j pv)) qa (.lst ea) ⟨vs.set j v, upd_same, RVs.mono (.lst ea) (List.prefix_refl _) _ _ (ra.set hv j)⟩)⟩
        · exact h.elim
      · exact h.elim
    · rename_i kvs e
      split at h
      · rename_i kk ek
        have hk := key_rel hi ek
        subst hk
        obtain ⟨ws, ea, ra⟩ := R.obj n a _ qa e
        cases ro
        refine d_setItem (by omega) I (DPut.k ea (by rw [← ra.length]; exact h.1)) ri rv fun s' I' => ⟨_, I', k _ _ h.2 (.dict ea) (R.put (o := .dK (putP kvs kk pv)) qa (.dict ea) ⟨_, upd_same, RKs.mono (.dict ea) (List.prefix_refl _) (ra.put kk hv)⟩)⟩
      · exact h.elim
    · exact h.elim
  · exact h.elim
def wgSub (wo wi : WE) (f : FS) : WG := fun v σ S E Q => wo σ S E fun o S1 => wi σ S1 E fun i S2 => f o i v S2 fun S3 => Q σ S3
theorem simG_sub {o i : Expr} {wo wi : WE} {f : FS} (hf : PSet X (liftSet X.K f)) (ho : SimE X G o wo) (hi : SimE X G i wi)
    (ha : ∀ v, assign (.Subscript o i pos) X.env v = (do
      let ov ← holding [v] (eval o X.env)
      let iv ← holding [v, ov] (eval i X.env)
      standAt pos
      holding [v, ov, iv] (setItem ov iv v)
      release [v, ov, iv] []) := by intro _; rfl) : SimG X G (.Subscript o i pos) (wgSub wo wi f) :=
  PG.imp (pg_sub ho hi hf ha) fun v' σV H Q ⟨φ, v, σ, S, Q0, L, R, r, h, k⟩ => ⟨φ, σ, S, _, L, R, h, fun ov S1 φ1 H1 x q p1 m1 R1 r1 => ⟨φ1, σ, S1, _, L.mono m1 p1, R1, q, fun iv S2 φ2 H2 y q2 p2 m2 R2 r2 =>
    ⟨φ2, S2, ov, iv, v, _, R2, RV.mono m2 p2 _ _ r1, r2, RV.mono m2 p2 _ _ (RV.mono m1 p1 _ _ r), q2, fun S3 H3 q3 m3 R3 => k σ S3 φ2 H3 σV q3 (p1.trans p2) ((m1.trans m2).trans m3) R3 (((L.mono m1 p1).mono m2 p2).mono m3 (List.prefix_refl _))⟩⟩⟩
/-! ### while -/
def wWhile (c : WT) (b : WS) : WS := fun D E σ S => ∃ W : Nat → Loc → Store → Prop, (∃ m, W m σ S) ∧ ∀ m σ S, W m σ S →
  c σ S E fun bo S1 => if bo = true then ∃ N : Loc → Store → Prop, (∀ σ' S', N σ' S' → ∃ m', m' < m ∧ W m' σ' S') ∧ b { D with nx := N, ct := N, bk := D.nx } E σ S1 else D.nx σ S1
theorem sim_while {c : Expr} {body : List Stmt} {wc : WT} {wb : WS} (hp : PassesOwn (model X.prog X.w) X.A X.env X.xe) (hc : SimT X G c wc) (hb : SimSs X G body wb) : SimS X G (.While c body [] pos) (wWhile wc wb) :=
  (ps_while hp hc hb).imp fun D σV H ⟨φ, σ, S, D0, L, R, h, k⟩ => by
    obtain ⟨W, ⟨m0, w0⟩, st⟩ := h
    refine ⟨fun m σV' H' => ∃ φ' σ' S', φ <+: φ' ∧ Mono H H' ∧ LRel X.K H' φ' σ' σV' ∧ Rel X.K φ' S' H' ∧ W m σ' S', ⟨m0, φ, σ, S, List.prefix_refl _, .refl _, L, R, w0⟩, ?_⟩
    rintro m σV' H' ⟨φ', σ', S', p, mo, L', R', hw⟩
    refine ⟨φ', σ', S', _, L', R', st m σ' S' hw, fun bo S1 φ1 H1 q p1 m1 R1 => ?_⟩
    cases bo with
    | true =>
      obtain ⟨N, hN, hb⟩ := q
      refine ⟨fun σ2V H2 => ∃ φ2 σ2 S2, φ1 <+: φ2 ∧ Mono H1 H2 ∧ LRel X.K H2 φ2 σ2 σ2V ∧ Rel X.K φ2 S2 H2 ∧ N σ2 S2, ?_, ?_⟩
      · rintro σ2V H2 ⟨φ2, σ2, S2, p2, m2, L2, R2, hn⟩
        obtain ⟨m', hm, hw'⟩ := hN σ2 S2 hn
        exact ⟨m', hm, φ2, σ2, S2, (p.trans p1).trans p2, (mo.trans m1).trans m2, L2, R2, hw'⟩
      · exact ⟨φ1, σ', S1, _, L'.mono m1 p1, R1, hb, ⟨fun σ2 S2 φ2 H2 σ2V q p2 m2 R2 L2 => ⟨φ2, σ2, S2, p2, m2, L2, R2, q⟩, k.rt.up (p.trans p1) (mo.trans m1), k.nx.up (p.trans p1) (mo.trans m1), fun σ2 S2 φ2 H2 σ2V q p2 m2 R2 L2 => ⟨φ2, σ2, S2, p2, m2, L2, R2, q⟩⟩⟩
    | false => exact k.nx σ' S1 φ1 H1 σV' q (p.trans p1) (mo.trans m1) R1 (L'.mono m1 p1)
/-! ### what is walked -/
structure PIt where
  xs : List PV
  chk : Store → Prop
structure ItR (K : PySem.W.Frag) (φ0 : List Addr) (H0 : Hp) (J : It) (it : PIt) : Prop where
  go : ∀ φ H S, φ0 <+: φ → Mono H0 H → Rel K φ S H → it.chk S → ∀ (i : Nat) x, it.xs[i]? = some x → J.go i H ∧ ∀ y H', J.yld i H y H' → ∃ φ', φ <+: φ' ∧ Mono H H' ∧ Rel K φ' S H' ∧ RV K H' φ' x y
  stop : ∀ φ H S, φ0 <+: φ → Mono H0 H → Rel K φ S H → it.chk S → ∀ i : Nat, it.xs.length ≤ i → J.stop i H
abbrev WI := Loc → Store → EK → (PIt → Store → Prop) → Prop
def KI (K : PySem.W.Frag) (φ : List Addr) (H : Hp) (Q0 : PIt → Store → Prop) (R : It → Hp → Prop) : Prop := ∀ it S' φ' H' J, Q0 it S' → φ <+: φ' → Mono H H' → Rel K φ' S' H' → ItR K φ' H' J it → R J H'
def liftI (K : PySem.W.Frag) (G : EK) (w : WI) : TI := fun σV H R => ∃ φ σ S Q0, LRel K H φ σ σV ∧ Rel K φ S H ∧ w σ S G Q0 ∧ KI K φ H Q0 R
def SimI (X : Cx) (G : EK) (tg iter : Expr) (w : WI) : Prop := PI X tg iter (liftI X.K G w)
theorem PI.imp {tg e : Expr} {t t' : TI} (h : PI X tg e t) (i : ∀ σ H Q, t' σ H Q → t σ H Q) : PI X tg e t' := fun pins s σ H R I q => h pins s σ H R I (i σ H R q)
/-- a list, a tuple or a text -/
def iAny (K : PySem.W.Frag) (tl : TE) : TI := fun σ H R => tl σ H fun x H1 => (∃ a, x = .ref a ∧ (∃ xs, SqL K H1 a xs) ∧ R (Itl K a) H1) ∨ (∃ a, x = .ref a ∧ (∃ xs, SqT K H1 a xs) ∧ R (Itt K a) H1) ∨ ∃ z, x = .str z ∧ R (Its z) H1
theorem pi_any {tg l : Expr} {tl : TE} (hl : PE X l tl) : PI X tg l (iAny X.K tl) := by
  intro pins s σ H R I h
  refine thn (hl pins s σ H _ I h) fun v s1 ⟨x, H1, I1, r1, q1⟩ => ?_
  rcases q1 with ⟨a, e, ⟨xs, hq⟩, q⟩ | ⟨a, e, ⟨xs, hq⟩, q⟩ | ⟨z, rfl, q⟩
  · subst e
    cases r1
    obtain ⟨its, rv, p, hz⟩ := I1.list hq
    refine wpAny_pyIter_list p.isList ?_
    refine ⟨s1.heap.objs.size, [s1.heap.objs.size], _, _, H1, rfl, I1.kept (t' := s1.toks) fun b o e => Heap.get?_push_of_some _ e, turn_list a _, ⟨_, Heap.get?_push_size _ rfl, rfl, rfl⟩, fun b hb => ?_, q⟩
    have e : b = s1.heap.objs.size := by simpa using hb
    subst e
    exact I1.fpOk (Nat.le_refl _) (I1.hok.fresh (Nat.le_refl _))
  · subst e
    cases r1
    obtain ⟨its, rv, p, hz⟩ := I1.tuple hq
    refine wpAny_pyIter_tuple (show s1.heap.IsTuple a its.toArray from p) ?_
    refine ⟨s1.heap.objs.size, [s1.heap.objs.size], _, _, H1, rfl, I1.kept (t' := s1.toks) fun b o e => Heap.get?_push_of_some _ e, turn_tuple a _, ⟨_, Heap.get?_push_size _ rfl, rfl, rfl⟩, fun b hb => ?_, q⟩
    have e : b = s1.heap.objs.size := by simpa using hb
    subst e
    exact I1.fpOk (Nat.le_refl _) (I1.hok.fresh (Nat.le_refl _))
  · obtain ⟨t, rfl⟩ := r1
    refine wpAny_pyIter_strU ?_
    refine ⟨s1.heap.objs.size, [s1.heap.objs.size], _, _, H1, rfl, I1.kept (t' := s1.toks) fun b o e => Heap.get?_push_of_some _ e, turn_str _ z t, ⟨Nat.zero_le _, _, Heap.get?_push_size _ rfl, rfl, rfl⟩, fun b hb => ?_, q⟩
    obtain rfl := List.mem_singleton.mp hb
    exact I1.fpOk (Nat.le_refl _) I1.fresh
def chr1 (c : Nat) : PV := .str ⟨#[c]⟩
def wiAny (w : WE) : WI := fun σ S E Q => w σ S E fun x S1 => match x with
  | .ref n => match seqOf S1 n with
    | some xs => Q ⟨xs, fun S => seqOf S n = some xs⟩ S1
    | none => False
  | .tup xs => Q ⟨xs, fun _ => True⟩ S1
  | .frl xs => Q ⟨xs, fun _ => True⟩ S1
  | .str z => Q ⟨z.cps.toList.map chr1, fun _ => True⟩ S1
  | _ => False
theorem itr_list {K : PySem.W.Frag} {φ : List Addr} {H : Hp} {n : Nat} {a : Addr} {xs : List PV} (qa : φ[n]? = some a) : ItR K φ H (Itl K a) ⟨xs, fun S => seqOf S n = some xs⟩ where
  go := fun φ1 H1 S1 p m R e i x hx => by
    obtain ⟨vs, sa, ra⟩ := R.seq (pre_get p qa) e
    obtain ⟨y, ey, ry⟩ := ra.get hx
    refine ⟨⟨vs, y, sa, ey⟩, fun y' H' ⟨e1, e2⟩ => ?_⟩
    subst e1
    have := e2 vs sa
    rw [ey] at this
    cases this
    exact ⟨φ1, List.prefix_refl _, .refl _, R, ry⟩
  stop := fun φ1 H1 S1 p m R e i hi => by
    obtain ⟨vs, sa, ra⟩ := R.seq (pre_get p qa) e
    exact ⟨vs, sa, by rw [← ra.length]; exact hi⟩
theorem itr_tup {K : PySem.W.Frag} {φ : List Addr} {H : Hp} {a : Addr} {xs : List PV} {vs : List V} (sa : SqT K H a vs) (ra : RVs K H φ xs vs) : ItR K φ H (Itt K a) ⟨xs, fun _ => True⟩ where
  go := fun φ1 H1 S1 p m R e i x hx => by
    have sa1 := m.sqT sa
    obtain ⟨y, ey, ry⟩ := (RVs.mono m p _ _ ra).get hx
    refine ⟨⟨vs, y, sa1, ey⟩, fun y' H' ⟨e1, e2⟩ => ?_⟩
    subst e1
    have := e2 vs sa1
    rw [ey] at this
    cases this
    exact ⟨φ1, List.prefix_refl _, .refl _, R, ry⟩
  stop := fun φ1 H1 S1 p m R e i hi => ⟨vs, m.sqT sa, by rw [← ra.length]; exact hi⟩
theorem itr_frl {K : PySem.W.Frag} {φ : List Addr} {H : Hp} {a : Addr} {xs : List PV} {vs : List V} (sa : SqF K H a vs) (ra : RVs K H φ xs vs) : ItR K φ H (Itl K a) ⟨xs, fun _ => True⟩ where
  go := fun φ1 H1 S1 p m R e i x hx => by
    have sa1 := (m.sqF sa).sq
    obtain ⟨y, ey, ry⟩ := (RVs.mono m p _ _ ra).get hx
    refine ⟨⟨vs, y, sa1, ey⟩, fun y' H' ⟨e1, e2⟩ => ?_⟩
    subst e1
    have := e2 vs sa1
    rw [ey] at this
    cases this
    exact ⟨φ1, List.prefix_refl _, .refl _, R, ry⟩
  stop := fun φ1 H1 S1 p m R e i hi => ⟨vs, (m.sqF sa).sq, by rw [← ra.length]; exact hi⟩
theorem itr_str {K : PySem.W.Frag} {φ : List Addr} {H : Hp} {z : Str} : ItR K φ H (Its z) ⟨z.cps.toList.map chr1, fun _ => True⟩ where
  go := fun φ1 H1 S1 p m R e i x hx => by
    have hx' : (z.cps.toList.map chr1)[i]? = some x := hx
    rw [List.getElem?_map] at hx'
    obtain ⟨c, hc, rfl⟩ := Option.map_eq_some_iff.mp hx'
    have hc' : z.cps[i]? = some c := by simpa using hc
    refine ⟨(Array.getElem?_eq_some_iff.mp hc').1, fun y' H' ⟨e1, c', e2, e3⟩ => ?_⟩
    subst e1
    rw [hc'] at e2
    cases e2
    exact ⟨φ1, List.prefix_refl _, .refl _, R, e3⟩
  stop := fun φ1 H1 S1 p m R e i hi => by
    have : (z.cps.toList.map chr1).length ≤ i := hi
    show z.cps.size ≤ i
    simpa using this
theorem simI_any {tg l : Expr} {w : WE} (hl : SimE X G l w) : SimI X G tg l (wiAny w) :=
  PI.imp (pi_any hl) fun σV H Q ⟨φ, σ, S, Q0, L, R, h, k⟩ => ⟨φ, σ, S, _, L, R, h, fun v S1 φ1 H1 x q p1 m1 R1 r1 => by
    split at q
    · rename_i n
      split at q
      · rename_i xs e
        obtain ⟨a, rfl, qa⟩ := r1
        obtain ⟨vs, sa, ra⟩ := R1.seq qa e
        exact .inl ⟨a, rfl, ⟨vs, sa⟩, k _ S1 φ1 H1 _ q p1 m1 R1 (itr_list qa)⟩
      · exact q.elim
    · rename_i xs
      obtain ⟨a, vs, rfl, sa, ra⟩ := r1
      exact .inr (.inl ⟨a, rfl, ⟨vs, sa⟩, k _ S1 φ1 H1 _ q p1 m1 R1 (itr_tup sa ra)⟩)
    · rename_i xs
      obtain ⟨a, vs, rfl, sa, ra⟩ := r1
      exact .inl ⟨a, rfl, ⟨vs, sa.sq⟩, k _ S1 φ1 H1 _ q p1 m1 R1 (itr_frl sa ra)⟩
    · rename_i z
      cases r1
      exact .inr (.inr ⟨z, rfl, k _ S1 φ1 H1 _ q p1 m1 R1 itr_str⟩)
    · exact q.elim⟩
/-- range(n) -/
def rngP (lo : Int) (n : Nat) : List PV := (List.range n).map fun i => .int (lo + (i : Nat))
def wiRange (wa : WA) : WI := fun σ S E Q => wa σ S E fun xs S1 => match xs with
  | [.int j] => (-(2 ^ 62) ≤ j ∧ j < 2 ^ 62) ∧ Q ⟨rngP 0 j.toNat, fun _ => True⟩ S1
  | _ => False
theorem itr_range {K : PySem.W.Frag} {φ : List Addr} {H : Hp} {lo : Int} {n : Nat} : ItR K φ H (Itr lo n) ⟨rngP lo n, fun _ => True⟩ where
  go := fun φ1 H1 S1 p m R e i x hx => by
    have hx' : (rngP lo n)[i]? = some x := hx
    unfold rngP at hx'
    rw [List.getElem?_map] at hx'
    obtain ⟨c, hc, rfl⟩ := Option.map_eq_some_iff.mp hx'
    obtain ⟨hl, rfl⟩ := List.getElem?_eq_some_iff.mp hc
    rw [List.getElem_range]
    refine ⟨by show i < n; simpa using hl, fun y' H' ⟨e1, e2⟩ => ?_⟩
    subst e1
    exact ⟨φ1, List.prefix_refl _, .refl _, R, e2⟩
  stop := fun φ1 H1 S1 p m R e i hi => by
    have : (rngP lo n).length ≤ i := hi
    unfold rngP at this
    show n ≤ i
    simpa using this
theorem simI_range {tg a : Expr} {wa : WA} {p : Pos} (hm : X.mg "range" = none) (ha : SimA X G [a] wa) (hg : Gl X "range" := by rfl) (hs : starEach [a] X.env = [(false, eval a X.env)] := by rfl) : SimI X G tg (.Call (.Name "range" p) [a] [] pos) (wiRange wa) :=
  PI.imp (pi_range1 hg hm ha hs) fun σV H Q ⟨φ, σ, S, Q0, L, R, h, k⟩ => ⟨φ, σ, S, _, L, R, h, fun v S1 φ1 H1 x q p1 m1 R1 r1 => by
    split at q
    · rename_i j
      obtain ⟨y, rfl, r⟩ := one_rel r1
      cases r
      exact ⟨j, rfl, q.1.1, q.1.2, k _ S1 φ1 H1 _ q.2 p1 m1 R1 itr_range⟩
    · exact q.elim⟩
/-! ### for -/
def forGo (chk : Store → Prop) (g : WG) (wb : WS) (D : PEnds) (E : EK) : List PV → Loc → Store → Prop
  | [], σ, S => chk S ∧ D.nx σ S
  | x :: r, σ, S => chk S ∧ ∃ N : Loc → Store → Prop, (∀ σ' S', N σ' S' → forGo chk g wb D E r σ' S') ∧ g x σ S E fun σ2 S2 => wb { nx := N, rt := D.rt, ct := N, bk := D.nx } E σ2 S2
def wFor (wi : WI) (g : WG) (wb : WS) : WS := fun D E σ S => wi σ S E fun it S1 => forGo it.chk g wb D E it.xs σ S1
theorem sim_for {tg iter : Expr} {body : List Stmt} {wi : WI} {g : WG} {wb : WS} (hp : PassesOwn (model X.prog X.w) X.A X.env X.xe) (hc : X.calm = true) (hi : SimI X G tg iter wi) (hg : SimG X G tg g) (hb : SimSs X G body wb) (hs : ∀ x, foldedSetIterable iter X.env x = pure x := by intro _; rfl) : SimS X G (.For tg iter body [] pos) (wFor wi g wb) :=
  (ps_for hp hc hi hg hb hs).imp fun D σV H ⟨φ, σ, S, D0, L, R, h, k⟩ => ⟨φ, σ, S, _, L, R, h, fun it S1 φ1 H1 J q p1 m1 R1 hj => by
    refine ⟨fun i m σV' H' => m = it.xs.length - i ∧ i ≤ it.xs.length ∧ ∃ φ' σ' S', φ1 <+: φ' ∧ Mono H1 H' ∧ LRel X.K H' φ' σ' σV' ∧ Rel X.K φ' S' H' ∧ forGo it.chk g wb D0 G (it.xs.drop i) σ' S', ⟨it.xs.length, by simp, Nat.zero_le _, φ1, σ, S1, List.prefix_refl _, .refl _, L.mono m1 p1, R1, by simpa using q⟩, ?_⟩
    rintro i m σV' H' ⟨rfl, hi, φ', σ', S', p', m', L', R', hf⟩
    by_cases hlt : i < it.xs.length
    · rw [List.drop_eq_getElem_cons hlt] at hf
      obtain ⟨hch, N, hN, hb⟩ := hf
      obtain ⟨jg, jy⟩ := hj.go φ' H' S' p' m' R' hch i _ (List.getElem?_eq_getElem hlt)
      refine .inr ⟨jg, fun σ2V H2 => ∃ φ2 σ2 S2, φ' <+: φ2 ∧ Mono H' H2 ∧ LRel X.K H2 φ2 σ2 σ2V ∧ Rel X.K φ2 S2 H2 ∧ N σ2 S2, ?_, ?_⟩
      · rintro σ2V H2 ⟨φ2, σ2, S2, p2, m2, L2, R2, hn⟩
        exact ⟨it.xs.length - (i + 1), by omega, rfl, hlt, φ2, σ2, S2, p'.trans p2, m'.trans m2, L2, R2, hN σ2 S2 hn⟩
      · intro y H2 hy
        obtain ⟨φ2, p2, m2, R2, r2⟩ := jy y H2 hy
        refine ⟨φ2, _, σ', S', _, L'.mono m2 p2, R2, r2, hb, fun σ3 S3 φ3 H3 σ3V q3 p3 m3 R3 L3 => ?_⟩
        refine ⟨φ3, σ3, S3, _, L3, R3, q3, ⟨?_, k.rt.up (((p1.trans p').trans p2).trans p3) (((m1.trans m').trans m2).trans m3), k.nx.up (((p1.trans p').trans p2).trans p3) (((m1.trans m').trans m2).trans m3), ?_⟩⟩
        · exact fun σ4 S4 φ4 H4 σ4V q4 p4 m4 R4 L4 => ⟨φ4, σ4, S4, (p2.trans p3).trans p4, (m2.trans m3).trans m4, L4, R4, q4⟩
        · exact fun σ4 S4 φ4 H4 σ4V q4 p4 m4 R4 L4 => ⟨φ4, σ4, S4, (p2.trans p3).trans p4, (m2.trans m3).trans m4, L4, R4, q4⟩
    · have e : i = it.xs.length := by omega
      subst e
      rw [List.drop_length] at hf
      exact .inl ⟨hj.stop φ' H' S' p' m' R' hf.1 _ (Nat.le_refl _), k.nx σ' S' φ' H' σV' hf.2 (p1.trans p') (m1.trans m') R' L'⟩⟩
/-! ### comprehensions -/
def innerP (ix : List (Option Nat)) (σ : Loc) : Loc := ix.map fun o => match o with
  | none => none
  | some j => match σ[j]? with
    | some v => v
    | none => none
abbrev NoX : EK := fun _ _ => False
def compGo (chk : Store → Prop) (g : WG) (wc : WT) (we : WE) (Q : VC) : List PV → List PV → Loc → Store → Prop
  | [], ys, _, S => chk S ∧ Q (.ref S.length) (S ++ [.lst ys])
  | x :: r, ys, σ, S => chk S ∧ ∃ N : List PV → Loc → Store → Prop, (∀ ys' σ' S', N ys' σ' S' → compGo chk g wc we Q r ys' σ' S') ∧ g x σ S NoX fun σ2 S2 => wc σ2 S2 NoX fun b S3 => if b = true then we σ2 S3 NoX (fun y S4 => N (ys ++ [y]) σ2 S4) else N ys σ2 S3
def wtTrue : WT := fun _ S _ Q => Q true S
def wComp (wi : WI) (ix : List (Option Nat)) (g : WG) (wc : WT) (we : WE) : WE := fun σ S E Q => wi σ S E fun it S1 => it.xs.length ≤ sizeLine ∧ compGo it.chk g wc we Q it.xs [] (innerP ix σ) S1
theorem inner_rel {K : PySem.W.Frag} {H : Hp} {φ : List Addr} {σ : Loc} {σV : St} (ix : List (Option Nat)) (L : LRel K H φ σ σV) : LRel K H φ (innerP ix σ) (innerSt ix σV) := by
  refine ⟨by simp [innerP, innerSt], fun i v e => ?_⟩
  unfold innerP at e
  rw [List.getElem?_map] at e
  obtain ⟨o, ho, e'⟩ := Option.map_eq_some_iff.mp e
  cases o with
  | none => cases e'
  | some j =>
    dsimp only at e'
    cases hj : σ[j]? with
    | none => rw [hj] at e'; cases e'
    | some w =>
      rw [hj] at e'
      dsimp only at e'
      subst e'
      obtain ⟨x, hx, r⟩ := L.at' j v hj
      refine ⟨x, ?_, r⟩
      unfold innerSt
      rw [List.getElem?_map, ho]
      simp [hx]
end
end Ev

namespace Ev
open PySem L2 PySem.Spec PyProof.Rows
section
variable {X : Cx} {G : EK} {pos : Pos}
theorem sim_comp {tg iter elt : Expr} {scope : Scope} {wi : WI} {g : WG} {we : WE} (N' : List Str) (ix : List (Option Nat)) (hc : X.calm = true) (co : CompOk X scope N' ix) (hi : SimI X G tg iter wi) (hg : ∀ cl C s H fp, SimG (X.comp scope N' cl C s H fp) NoX tg g) (he : ∀ cl C s H fp, SimE (X.comp scope N' cl C s H fp) NoX elt we)
    (hs : ∀ x, foldedSetIterable iter X.env x = pure x := by intro _; rfl) : SimE X G (.ListComp elt [⟨tg, iter, [], 0⟩] scope pos) (wComp wi ix g wtTrue we) :=
  (pe_comp (g := liftG X.K NoX g) (te := liftE X.K NoX we) hc co hi hg he hs).imp fun σV H Q ⟨φ, σ, S, Q0, L, R, h, k⟩ => ⟨φ, σ, S, _, L, R, h, fun it S1 φ1 H1 J ⟨hz, q⟩ p1 m1 R1 hj => by
    refine ⟨fun i ys σV' H' => ∃ φ' σ' S' pys, φ1 <+: φ' ∧ Mono H1 H' ∧ LRel X.K H' φ' σ' σV' ∧ Rel X.K φ' S' H' ∧ RVs X.K H' φ' pys ys ∧ compGo it.chk g wtTrue we Q0 (it.xs.drop i) pys σ' S', it.xs.length, hz, ⟨φ1, _, S1, [], List.prefix_refl _, .refl _, inner_rel ix (L.mono m1 p1), R1, rfl, by simpa using q⟩, ?_⟩
    rintro i ys σV' H' hi ⟨φ', σ', S', pys, p', m', L', R', rys, hf⟩
    by_cases hlt : i < it.xs.length
    · rw [List.drop_eq_getElem_cons hlt] at hf
      obtain ⟨hch, N, hN, hb⟩ := hf
      obtain ⟨jg, jy⟩ := hj.go φ' H' S' p' m' R' hch i _ (List.getElem?_eq_getElem hlt)
      refine .inr ⟨hlt, jg, fun y H2 hy => ?_⟩
      obtain ⟨φ2, p2, m2, R2, r2⟩ := jy y H2 hy
      refine ⟨φ2, _, σ', S', _, L'.mono m2 p2, R2, r2, hb, fun σ3 S3 φ3 H3 σ3V q3 p3 m3 R3 L3 => ?_⟩
      have hw : we σ3 S3 NoX (fun y S4 => N (pys ++ [y]) σ3 S4) := q3
      refine ⟨φ3, σ3, S3, _, L3, R3, hw, fun z S4 φ4 H4 z' q4 p4 m4 R4 r4 => ?_⟩
      exact ⟨φ4, σ3, S4, pys ++ [z], ((p'.trans p2).trans p3).trans p4, ((m'.trans m2).trans m3).trans m4, L3.mono m4 p4, R4, (RVs.mono ((m2.trans m3).trans m4) ((p2.trans p3).trans p4) _ _ rys).append (.one r4), hN _ _ _ q4⟩
    · have e : i = it.xs.length := by omega
      subst e
      rw [List.drop_length] at hf
      exact .inl ⟨hj.stop φ' H' S' p' m' R' hf.1 _ (Nat.le_refl _), (k.up (p1.trans p') (m1.trans m')).lst hf.2 R' rys⟩⟩
/-! ### zip -/
def sqOf (x : PV) (S : Store) : Option (Bool × List PV) := match x with
  | .tup xs => some (true, xs)
  | .frl xs => some (false, xs)
  | .ref n => (lstOf S n).map fun xs => (false, xs)
  | _ => none
def zipP (xs ys : List PV) : List PV := (xs.zip ys).map fun p => .tup [p.1, p.2]
def wiZip (wa : WA) : WI := fun σ S E Q => wa σ S E fun vs S1 => match vs with
  | [x, y] => match sqOf x S1, sqOf y S1 with
    | some (tp, xs), some (tq, ys) => Q ⟨zipP xs ys, fun S => sqOf x S = some (tp, xs) ∧ sqOf y S = some (tq, ys)⟩ S1
    | _, _ => False
  | _ => False
end
/-! ### defs and calls -/
abbrev Den := List PV → Store → EK → VC → Prop
def spLift (K : PySem.W.Frag) (sp : Den) : Sp := fun vs H Q _ => ∃ φ args S Q0, RVs K H φ args vs ∧ Rel K φ S H ∧ sp args S NoX Q0 ∧ KE K φ H Q0 Q
def wCall (sp : Den) (wa : WA) : WE := fun σ S E Q => wa σ S E fun xs S1 => sp xs S1 E Q
theorem sim_call {X : Cx} {pos : Pos} {k : Nat} {f : Addr} {fd : FuncData} {ps : List Str} {sp : Den} {x : Str} {p : Pos} {e : Expr} {es : List Expr} {wa : WA} (C : Cal X.prog X.w X.K X.mg X.base k x ps (spLift X.K sp) f fd) (hr : Room k X.A) (ha : SimA X NoX (e :: es) wa) (hg : Gl X x := by rfl)
    (hdb : (x == ("__debug__" : Str)) = false := by decide) (he : starEach (e :: es) X.env = (false, eval e X.env) :: starEach es X.env := by rfl) (hpl : (backTo pos (starEach es X.env)).any (·.1) = false := by rfl) :
    SimE X NoX (.Call (.Name x p) (e :: es) [] pos) (wCall sp wa) :=
  (pe_fn C hr hg ha hdb he hpl).imp fun σV H Q ⟨φ, σ, S, Q0, L, R, h, k⟩ => ⟨φ, σ, S, _, L, R, h, fun v S1 φ1 H1 x q p1 m1 R1 r1 => ⟨φ1, v, S1, Q0, by rw [List.append_nil]; exact r1, R1, q, k.up p1 m1⟩⟩
def fnP (np nl : Nat) (w : WS) : Den := fun args S E Q => args.length = np ∧ w { nx := fun _ S' => Q .non S', rt := Q } E (args.map some ++ List.replicate (nl - np) none) S
theorem start_rel {K : PySem.W.Frag} {H : Hp} {φ : List Addr} {args : List PV} {vs : List V} (N : List Str) (r : RVs K H φ args vs) : LRel K H φ (args.map some ++ List.replicate (N.length - args.length) none) (L2.start N vs) := by
  refine ⟨by unfold L2.start; simp [r.length], fun i v e => ?_⟩
  by_cases hi : i < args.length
  · rw [List.getElem?_append_left (by simpa using hi), List.getElem?_map] at e
    obtain ⟨u, hu, e'⟩ := Option.map_eq_some_iff.mp e
    cases e'
    obtain ⟨x, hx, rx⟩ := r.get hu
    refine ⟨x, ?_, rx⟩
    unfold L2.start
    rw [List.getElem?_append_left (by simpa [← r.length] using hi), List.getElem?_map, hx]
    rfl
  · rw [List.getElem?_append_right (by simpa using hi), List.getElem?_replicate] at e
    split at e <;> cases e
theorem fn_sim {P : Program} {w : World} {K : PySem.W.Frag} {mg : Str → Option Value} {base : Heap} {x qual : Str} {st : Stmt} {f : Addr} {fd : FuncData} {N ps : List Str} {k : Nat} {wb : WS} (F : Fun K x qual st f fd) (Sc : FnScope N ps (defScope st))
    (sim : ∀ (cdv : Value) (A : Around) (outer : List Env) (s : Shared) (H : Hp) (E : XK), Room k (A.deeper (envOfC qual (defScope st) s.heap.objs.size f cdv)) → SimSs (cxOf CX0 P w K mg base N qual (defScope st) f cdv A outer s H E).nox NoX (defBody st) wb) :
    FnOk P w K mg base CX0 (k + 1) f fd ps (spLift K (fnP ps.length N.length wb)) := by
  refine F.ok Sc (fun vs H Q E h => ?_) (fun cdv A outer s H vs Q E hr h => ?_)
  · obtain ⟨φ, args, S, Q0, r, _, ⟨h, _⟩, _⟩ := h
    rw [← r.length, h]
  · obtain ⟨φ, args, S, Q0, r, R, ⟨hl, h⟩, kk⟩ := h
    refine ⟨_, sim cdv A outer s H E hr, φ, _, S, _, ?_, R, h, ⟨fun σ' S' φ' H' σV' q p m R' L' => kk _ S' φ' H' _ q p m R' rfl, kk, fun _ _ _ _ _ q => q.elim, fun _ _ _ _ _ q => q.elim⟩⟩
    have := start_rel N r
    rw [hl] at this
    exact this
theorem fn_no {P : Program} {w : World} {K : PySem.W.Frag} {mg : Str → Option Value} {base : Heap} {k : Nat} {f : Addr} {fd : FuncData} {ps : List Str} : FnOk P w K mg base CX0 k f fd ps (spLift K fun _ _ _ _ => False) :=
  ⟨fun vs H Q E ⟨_, _, _, _, _, _, h, _⟩ => h.elim, fun A outer s H args us vs Q E _ _ _ _ ⟨_, _, _, _, _, _, h, _⟩ => h.elim⟩
/-- the law: of every script it tells True -/
def LawP (sp : Den) : Prop := ∀ ns : List Int, ns.length ≤ 63 → sp [.frl (ns.map .int)] [] NoX fun v _ => v = .bl true
theorem law_sp {K : PySem.W.Frag} {sp : Den} (h : LawP sp) : ∀ (H : Hp) (a : Addr) (ns : List Int), ns.length ≤ 63 → Only H → SqL K H a (ns.map V.int) → spLift K sp [.ref a] H (fun v _ => v = .bl true) fun _ _ _ => False := by
  intro H a ns hl hO hS
  refine ⟨[], [.frl (ns.map .int)], [], _, ⟨_, _, rfl, ⟨a, _, rfl, ?_, RVs.of_ints ns⟩, rfl⟩, ⟨rfl, by simp, fun n a o e => by simp at e⟩, h ns hl, fun v S' φ' H' x q p m R r => ?_⟩
  · rcases hS with hS | hS
    · rcases hS with z | ⟨o, z⟩
      · rcases hO a with w | ⟨o, xs, w⟩
        · rw [z] at w; cases w
        · rw [z] at w; cases w
      · exact .inl ⟨o, z⟩
    · exact .inr hS
  · subst q
    exact r
end Ev

namespace L2
open PySem PySem.Spec PyProof.Rows
/-! ### del xs[lo:hi] -/
section
variable {prog : Program} {w : World} {A : Around} {E : Value → Shared → Prop} {s : Shared}
end
end L2
namespace Ev
open PySem L2
section
variable {X : Cx} {G : EK} {pos : Pos}
/-! ### del xs[lo:hi] -/
def wDelSl (w : WE) (wl wh : WO) : WS := fun D E σ S => w σ S E fun x S1 => wl σ S1 E fun lo S2 => wh σ S2 E fun hi S3 => match x with
  | .ref n => match lstOf S3 n with
    | some xs => HT.sIx xs.length 0 lo ≤ HT.sIx xs.length xs.length hi ∧ D.nx σ (S3.set n (.lst (xs.take (HT.sIx xs.length 0 lo) ++ xs.drop (HT.sIx xs.length xs.length hi))))
    | none => False
  | _ => False
/-! ### chains -/
def wChain (f g : F2) (wa wb wc : WE) : WE := fun σ S E Q => wa σ S E fun x S1 => wb σ S1 E fun y S2 => f x y S2 fun z S3 => match z with
  | .bl c => if c = true then wc σ S3 E fun u S4 => g y u S4 Q else Q (.bl false) S3
  | _ => False
/-! ### dict displays -/
abbrev WD := Loc → Store → EK → (List (Key × PV) → Store → Prop) → Prop
def KD (K : PySem.W.Frag) (φ : List Addr) (H : Hp) (Q0 : List (Key × PV) → Store → Prop) (Q : List (V × V) → Hp → Prop) : Prop := ∀ kvs S' φ' H' ws, Q0 kvs S' → φ <+: φ' → Mono H H' → Rel K φ' S' H' → RKs K H' φ' kvs ws → Q (ws.map fun kv => (kV kv.1, kv.2)) H'
def liftD (K : PySem.W.Frag) (G : EK) (w : WD) (σV : St) (H : Hp) (Q : List (V × V) → Hp → Prop) : Prop := ∃ φ σ S Q0, LRel K H φ σ σV ∧ Rel K φ S H ∧ w σ S G Q0 ∧ KD K φ H Q0 Q
def SimD (X : Cx) (G : EK) (pos : Pos) (ks : List (Option Expr)) (vs : List Expr) (w : WD) : Prop := ∃ trs, PPs X pos ks vs trs ∧ ∀ σV H Q, liftD X.K G w σV H Q → tPairs trs σV H Q
def wdNil : WD := fun _ S _ Q => Q [] S
def wdCons (wk wv : WE) (w : WD) : WD := fun σ S E Q => wk σ S E fun k S1 => wv σ S1 E fun v S2 => match keyOf k with
  | some kk => w σ S2 E fun kvs S3 => Q ((kk, v) :: kvs) S3
  | none => False
theorem simD_nil : SimD X G pos [] [] wdNil := ⟨[], pps_nil, fun σV H Q ⟨φ, σ, S, Q0, L, R, h, k⟩ => k [] S φ H [] h (List.prefix_refl _) (.refl _) R .nil⟩
theorem simD_cons {k v : Expr} {ks : List (Option Expr)} {vs : List Expr} {wk wv : WE} {w : WD} (hk : SimE X G k wk) (hv : SimE X G v wv) (hr : SimD X G pos ks vs w) : SimD X G pos (some k :: ks) (v :: vs) (wdCons wk wv w) := by
  obtain ⟨trs, hp, hi⟩ := hr
  refine ⟨_, pps_cons hk hv hp, fun σV H Q ⟨φ, σ, S, Q0, L, R, h, kk⟩ => ?_⟩
  refine ⟨φ, σ, S, _, L, R, h, fun pk S1 φ1 H1 x q p1 m1 R1 r1 => ⟨φ1, σ, S1, _, L.mono m1 p1, R1, q, fun pv S2 φ2 H2 y q2 p2 m2 R2 r2 => ?_⟩⟩
  refine hi _ _ _ ?_
  split at q2
  · rename_i key ek
    refine ⟨φ2, σ, S2, _, (L.mono m1 p1).mono m2 p2, R2, q2, fun kvs S3 φ3 H3 ws q3 p3 m3 R3 r3 => ?_⟩
    have := kk ((key, pv) :: kvs) S3 φ3 H3 ((key, y) :: ws) q3 ((p1.trans p2).trans p3) ((m1.trans m2).trans m3) R3 (.cons ⟨rfl, RV.mono m3 p3 _ _ r2⟩ r3)
    rw [key_rel r1 ek]
    exact this
  · exact q2.elim
def mergeP (kvs more : List (Key × PV)) : List (Key × PV) := more.foldl (fun acc kv => putP acc kv.1 kv.2) kvs
theorem RKs.merge {K : PySem.W.Frag} {H : Hp} {φ : List Addr} {more : List (Key × PV)} {rs : List (Key × V)} (r : RKs K H φ more rs) : ∀ {kvs : List (Key × PV)} {vs : List (Key × V)}, RKs K H φ kvs vs → RKs K H φ (mergeP kvs more) (mergeK vs rs) := by
  unfold RKs at r
  induction r with
  | nil => intro kvs vs q; exact q
  | @cons p q ps qs h t ih =>
    intro kvs vs r0
    have e : RKs K H φ (putP kvs p.1 p.2) (putK vs q.1 q.2) := by
      have := r0.put p.1 h.2
      rw [← h.1]; exact this
    exact ih e
def wDisp (w : WD) : WE := fun σ S E Q => w σ (S ++ [.dK []]) E fun kvs S1 => (S1[S.length]? = some (.dK []) ∧ kvs.length ≤ 15) ∧ Q (.ref S.length) (S1.set S.length (.dK (mergeP [] kvs)))
theorem sim_disp {keys : List (Option Expr)} {values : List Expr} {w : WD} (h : SimD X G pos keys values w) (hall : keys.all (·.isSome) = true := by rfl) (hl : keys.length = values.length := by rfl) (h0 : keys ≠ [] := by simp) (h15 : keys.length ≤ 15 := by decide) : SimE X G (.Dict keys values pos) (wDisp w) := by
  obtain ⟨trs, hp, hi⟩ := h
  refine (pe_disp hp hall hl h0 h15).imp fun σV H Q ⟨φ, σ, S, Q0, L, R, h, k⟩ => ?_
  intro p hp
  refine hi _ _ _ ?_
  have R1 : Rel X.K (φ ++ [p]) (S ++ [.dK []]) (upd H p (.dK [])) := R.new (o := .dK []) hp ⟨[], upd_same, .nil⟩
  refine ⟨φ ++ [p], σ, _, _, L.mono (.new _ hp) (List.prefix_append _ _), R1, h, fun kvs S' φ' H' ws q p' m' R' r' => ?_⟩
  obtain ⟨⟨e, hl⟩, q⟩ := q
  have ep : φ'[S.length]? = some p := pre_get p' (by rw [← R.len]; simp)
  obtain ⟨vs, ev, rv⟩ := R'.obj _ _ _ ep e
  have : vs = [] := List.length_eq_zero_iff.mp (by rw [← RKs.length rv]; rfl)
  subst this
  refine ⟨ev, ws, rfl, by rw [← RKs.length r']; exact hl, ?_⟩
  refine k _ _ φ' _ _ q ((List.prefix_append _ _).trans p') (((Mono.new _ hp).trans m').trans (.dict ev)) (R'.put (o := .dK (mergeP [] kvs)) ep (.dict ev) ⟨_, upd_same, ?_⟩) ⟨p, rfl, ep⟩
  exact RKs.mono (.dict ev) (List.prefix_refl _) (RKs.merge r' .nil)
end
end Ev
namespace Ev
open PySem L2
section
variable {X : Cx} {G : EK} {pos : Pos}
end
end Ev

/-! reasoning over the meanings -/
namespace My
open PySem L2 Ev
/-! ### the store -/
/-- all that stood in S stands in S', but what is named in D -/
def Ex (D : List Nat) (S S' : Store) : Prop := S.length ≤ S'.length ∧ ∀ i, i < S.length → i ∉ D → S'[i]? = S[i]?
theorem Ex.refl (D : List Nat) (S : Store) : Ex D S S := ⟨Nat.le_refl _, fun _ _ _ => rfl⟩
theorem Ex.trans {D : List Nat} {S S1 S2 : Store} (a : Ex D S S1) (b : Ex D S1 S2) : Ex D S S2 := ⟨Nat.le_trans a.1 b.1, fun i h n => (b.2 i (Nat.lt_of_lt_of_le h a.1) n).trans (a.2 i h n)⟩
theorem Ex.weak {D D' : List Nat} {S S' : Store} (a : Ex D S S') (h : ∀ i ∈ D, i ∈ D') : Ex D' S S' := ⟨a.1, fun i l n => a.2 i l fun z => n (h i z)⟩
theorem Ex.nil {D : List Nat} {S S' : Store} (a : Ex [] S S') : Ex D S S' := a.weak fun i h => by cases h
theorem Ex.app {D : List Nat} {S S' : Store} (a : Ex D S S') (xs : List SO) : Ex D S (S' ++ xs) := ⟨by rw [List.length_append]; exact Nat.le_trans a.1 (Nat.le_add_right _ _), fun i h n => by rw [List.getElem?_append_left (Nat.lt_of_lt_of_le h a.1)]; exact a.2 i h n⟩
theorem Ex.set {D : List Nat} {S S' : Store} (a : Ex D S S') {i : Nat} {o : SO} (hi : i ∈ D ∨ S.length ≤ i) : Ex D S (S'.set i o) := ⟨by rw [List.length_set]; exact a.1, fun j h n => by
  rw [List.getElem?_set_ne]
  · exact a.2 j h n
  · rintro rfl
    rcases hi with z | z
    · exact n z
    · omega⟩
theorem Ex.get {D : List Nat} {S S' : Store} (a : Ex D S S') {i : Nat} {o : SO} (e : S[i]? = some o) (n : i ∉ D) : S'[i]? = some o := by
  rw [a.2 i (List.getElem?_eq_some_iff.mp e).1 n]; exact e
theorem Ex.new (D : List Nat) (S : Store) (xs : List SO) : Ex D S (S ++ xs) := (Ex.refl D S).app xs
theorem at_new (S : Store) (o : SO) : (S ++ [o])[S.length]? = some o := by simp
theorem at_old {S : Store} {i : Nat} {o : SO} (e : S[i]? = some o) (xs : List SO) : (S ++ xs)[i]? = some o := by
  rw [List.getElem?_append_left (List.getElem?_eq_some_iff.mp e).1]; exact e
theorem at_set {S : Store} {i : Nat} {o : SO} (u : SO) (e : S[i]? = some o) : (S.set i u)[i]? = some u := List.getElem?_set_self (List.getElem?_eq_some_iff.mp e).1
theorem at_ne {S : Store} {i j : Nat} {o : SO} (u : SO) (e : S[i]? = some o) (h : j ≠ i) : (S.set j u)[i]? = some o := by rw [List.getElem?_set_ne h]; exact e
theorem lt_of_at {S : Store} {i : Nat} {o : SO} (e : S[i]? = some o) : i < S.length := (List.getElem?_eq_some_iff.mp e).1
theorem lst_at {S : Store} {n : Nat} {xs : List PV} (e : S[n]? = some (.lst xs)) : lstOf S n = some xs := by unfold lstOf; rw [e]
theorem seq_at {S : Store} {n : Nat} {xs : List PV} (e : S[n]? = some (.lst xs)) : seqOf S n = some xs := by unfold seqOf; rw [e]
theorem seq_new (S : Store) (xs : List PV) : seqOf (S ++ [.lst xs]) S.length = some xs := seq_at (at_new _ _)
theorem lst_new (S : Store) (xs : List PV) : lstOf (S ++ [.lst xs]) S.length = some xs := lst_at (at_new _ _)
/-! ### statements one by one -/
theorem seqI {a b : WS} {D : PEnds} {E : EK} {σ : Ev.Loc} {S : Store} (h : ∀ K : Ev.Loc → Store → Prop, (∀ σ S, b D E σ S → K σ S) → a { D with nx := K } E σ S) : wSeq a b D E σ S := h _ fun _ _ z => z
/-- a loop by an invariant over what is still to come -/
theorem forI {chk : Store → Prop} {g : WG} {wb : WS} {D : PEnds} {E : EK} (P : List PV → Ev.Loc → Store → Prop) (hn : ∀ σ S, P [] σ S → chk S ∧ D.nx σ S)
    (hc : ∀ x r σ S, P (x :: r) σ S → ∀ N : Ev.Loc → Store → Prop, (∀ σ S, P r σ S → N σ S) → chk S ∧ g x σ S E fun σ2 S2 => wb { nx := N, rt := D.rt, ct := N, bk := D.nx } E σ2 S2) : ∀ (xs : List PV) (σ : Ev.Loc) (S : Store), P xs σ S → forGo chk g wb D E xs σ S
  | [], σ, S, h => hn σ S h
  | x :: r, σ, S, h => ⟨(hc x r σ S h (P r) fun _ _ z => z).1, P r, fun σ' S' q => forI P hn hc r σ' S' q, (hc x r σ S h (P r) fun _ _ z => z).2⟩
theorem compI {chk : Store → Prop} {g : WG} {wc : WT} {we : WE} {Q : VC} (P : List PV → List PV → Ev.Loc → Store → Prop) (hn : ∀ ys σ S, P [] ys σ S → chk S ∧ Q (.ref S.length) (S ++ [.lst ys]))
    (hc : ∀ x r ys σ S, P (x :: r) ys σ S → ∀ N : List PV → Ev.Loc → Store → Prop, (∀ ys σ S, P r ys σ S → N ys σ S) → chk S ∧ g x σ S NoX fun σ2 S2 => wc σ2 S2 NoX fun b S3 => if b = true then we σ2 S3 NoX (fun y S4 => N (ys ++ [y]) σ2 S4) else N ys σ2 S3) : ∀ (xs ys : List PV) (σ : Ev.Loc) (S : Store), P xs ys σ S → compGo chk g wc we Q xs ys σ S
  | [], ys, σ, S, h => hn ys σ S h
  | x :: r, ys, σ, S, h => ⟨(hc x r ys σ S h (P r) fun _ _ _ z => z).1, P r, fun ys' σ' S' q => compI P hn hc r ys' σ' S' q, (hc x r ys σ S h (P r) fun _ _ _ z => z).2⟩
theorem whileI {c : WT} {b : WS} {D : PEnds} {E : EK} {σ : Ev.Loc} {S : Store} (P : Nat → Ev.Loc → Store → Prop) (m : Nat) (h0 : P m σ S)
    (hs : ∀ m σ S, P m σ S → ∀ T F : Ev.Loc → Store → Prop, (∀ S1, (∀ N : Ev.Loc → Store → Prop, (∀ m' σ' S', m' < m → P m' σ' S' → N σ' S') → b { D with nx := N, ct := N, bk := D.nx } E σ S1) → T σ S1) → (∀ S1, D.nx σ S1 → F σ S1) → c σ S E fun bo S1 => if bo = true then T σ S1 else F σ S1) : wWhile c b D E σ S := by
  refine ⟨P, ⟨m, h0⟩, fun m σ S p => ?_⟩
  exact hs m σ S p (fun σ S1 => ∃ N : Ev.Loc → Store → Prop, (∀ σ' S', N σ' S' → ∃ m', m' < m ∧ P m' σ' S') ∧ b { D with nx := N, ct := N, bk := D.nx } E σ S1) D.nx (fun S1 h => ⟨fun σ' S' => ∃ m', m' < m ∧ P m' σ' S', fun σ' S' n => n, h _ fun m' σ' S' a b => ⟨m', a, b⟩⟩) fun S1 h => h
/-! ### small facts that are met at each step -/
theorem kc_list : ("list" ∈ kindsC) = True := by simp [kindsC]
theorem kc_tuple : ("tuple" ∈ kindsC) = True := by simp [kindsC]
theorem kc_str : ("str" ∈ kindsC) = True := by simp [kindsC]
theorem kc_int : ("int" ∈ kindsC) = True := by simp [kindsC]
theorem kc_bool : ("bool" ∈ kindsC) = True := by simp [kindsC]
theorem kc_dict : ("dict" ∈ kindsC) = True := by simp [kindsC]
theorem it_NoneType_list : isT "NoneType" "list" = false := rfl
theorem it_NoneType_tuple : isT "NoneType" "tuple" = false := rfl
theorem it_NoneType_str : isT "NoneType" "str" = false := rfl
theorem it_NoneType_int : isT "NoneType" "int" = false := rfl
theorem it_NoneType_bool : isT "NoneType" "bool" = false := rfl
theorem it_NoneType_dict : isT "NoneType" "dict" = false := rfl
theorem it_bool_list : isT "bool" "list" = false := rfl
theorem it_bool_tuple : isT "bool" "tuple" = false := rfl
theorem it_bool_str : isT "bool" "str" = false := rfl
theorem it_bool_int : isT "bool" "int" = true := rfl
theorem it_bool_bool : isT "bool" "bool" = true := rfl
theorem it_bool_dict : isT "bool" "dict" = false := rfl
theorem it_int_list : isT "int" "list" = false := rfl
theorem it_int_tuple : isT "int" "tuple" = false := rfl
theorem it_int_str : isT "int" "str" = false := rfl
theorem it_int_int : isT "int" "int" = true := rfl
theorem it_int_bool : isT "int" "bool" = false := rfl
theorem it_int_dict : isT "int" "dict" = false := rfl
theorem it_str_list : isT "str" "list" = false := rfl
theorem it_str_tuple : isT "str" "tuple" = false := rfl
theorem it_str_str : isT "str" "str" = true := rfl
theorem it_str_int : isT "str" "int" = false := rfl
theorem it_str_bool : isT "str" "bool" = false := rfl
theorem it_str_dict : isT "str" "dict" = false := rfl
theorem it_tuple_list : isT "tuple" "list" = false := rfl
theorem it_tuple_tuple : isT "tuple" "tuple" = true := rfl
theorem it_tuple_str : isT "tuple" "str" = false := rfl
theorem it_tuple_int : isT "tuple" "int" = false := rfl
theorem it_tuple_bool : isT "tuple" "bool" = false := rfl
theorem it_tuple_dict : isT "tuple" "dict" = false := rfl
theorem it_list_list : isT "list" "list" = true := rfl
theorem it_list_tuple : isT "list" "tuple" = false := rfl
theorem it_list_str : isT "list" "str" = false := rfl
theorem it_list_int : isT "list" "int" = false := rfl
theorem it_list_bool : isT "list" "bool" = false := rfl
theorem it_list_dict : isT "list" "dict" = false := rfl
theorem it_dict_list : isT "dict" "list" = false := rfl
theorem it_dict_tuple : isT "dict" "tuple" = false := rfl
theorem it_dict_str : isT "dict" "str" = false := rfl
theorem it_dict_int : isT "dict" "int" = false := rfl
theorem it_dict_bool : isT "dict" "bool" = false := rfl
theorem it_dict_dict : isT "dict" "dict" = true := rfl
theorem nrf_non : nrf .non = true := rfl
theorem nrf_bl (b : Bool) : nrf (.bl b) = true := rfl
theorem nrf_int (b : Int) : nrf (.int b) = true := rfl
theorem nrf_str (b : Str) : nrf (.str b) = true := rfl
theorem nrf_tup (b : List PV) : nrf (.tup b) = nrfs b := by simp only [nrf]
theorem eqB_ii (a b : Int) : eqB (.int a) (.int b) = decide (a = b) := by simp only [eqB]; exact Bool.beq_eq_decide_eq a b
theorem eqB_bb (a b : Bool) : eqB (.bl a) (.bl b) = decide (a = b) := by simp only [eqB]; exact Bool.beq_eq_decide_eq a b
theorem eqB_ss (a b : Str) : eqB (.str a) (.str b) = decide (a = b) := by
  simp only [eqB]
  by_cases h : a = b
  · subst h; simp
  · rw [decide_eq_false h]; exact beq_eq_false_iff_ne.mpr h
theorem eqB_st (a : Str) (b : List PV) : eqB (.str a) (.tup b) = false := by simp only [eqB]
theorem eqB_ts (a : List PV) (b : Str) : eqB (.tup a) (.str b) = false := by simp only [eqB]
theorem eqB_tt (a b : List PV) : eqB (.tup a) (.tup b) = eqBs a b := by simp only [eqB]
theorem eqB_is (a : Int) (b : Str) : eqB (.int a) (.str b) = false := by simp only [eqB]
theorem eqB_si (a : Str) (b : Int) : eqB (.str a) (.int b) = false := by simp only [eqB]
theorem okEq_str (a : Str) : okEq (.str a) = True := by simp [okEq, nrf, dep]
theorem okEq_int (a : Int) : okEq (.int a) = True := by simp [okEq, nrf, dep]
theorem okEqs_strs (l : List Str) : okEqs (l.map PV.str) := by
  refine ⟨?_, ?_⟩
  · induction l with
    | nil => rfl
    | cons a r ih => simp only [List.map_cons, nrfs, nrf, ih, Bool.and_self]
  · induction l with
    | nil => simp [deps]
    | cons a r ih => simp only [List.map_cons, deps, dep]; omega
theorem okEqs_nil : okEqs [] = True := by simp [okEqs, nrfs, deps]
/-! ### == and in, by what is met -/
theorem cEq_ii (a b : Int) (S : Store) (Q : VC) : cEq (.int a) (.int b) S Q = (Q (.bl (decide (a = b))) S) := by simp only [cEq, cEqG, nrf, eqB_ii, xor_f, xor_t, true_and, and_self]
theorem cEq_is (a : Int) (b : Str) (S : Store) (Q : VC) : cEq (.int a) (.str b) S Q = (Q (.bl false) S) := by simp only [cEq, cEqG, nrf, eqB, xor_f, xor_t, true_and, and_true, Bool.not_false]
theorem cEq_it (a : Int) (b : List PV) (S : Store) (Q : VC) : cEq (.int a) (.tup b) S Q = (nrfs b = true ∧ Q (.bl false) S) := by simp only [cEq, cEqG, nrf, eqB, xor_f, xor_t, true_and, and_true, Bool.not_false]
theorem cEq_si (a : Str) (b : Int) (S : Store) (Q : VC) : cEq (.str a) (.int b) S Q = (Q (.bl false) S) := by simp only [cEq, cEqG, nrf, eqB, xor_f, xor_t, true_and, and_true, Bool.not_false]
theorem cEq_ss (a b : Str) (S : Store) (Q : VC) : cEq (.str a) (.str b) S Q = (Q (.bl (decide (a = b))) S) := by simp only [cEq, cEqG, nrf, eqB_ss, xor_f, xor_t, true_and, and_self]
theorem cEq_st (a : Str) (b : List PV) (S : Store) (Q : VC) : cEq (.str a) (.tup b) S Q = (nrfs b = true ∧ Q (.bl false) S) := by simp only [cEq, cEqG, nrf, eqB, xor_f, xor_t, true_and, and_true, Bool.not_false]
theorem cEq_bb (a b : Bool) (S : Store) (Q : VC) : cEq (.bl a) (.bl b) S Q = (Q (.bl (decide (a = b))) S) := by simp only [cEq, cEqG, nrf, eqB_bb, xor_f, xor_t, true_and, and_self]
theorem cEq_ti (a : List PV) (b : Int) (S : Store) (Q : VC) : cEq (.tup a) (.int b) S Q = (nrfs a = true ∧ Q (.bl false) S) := by simp only [cEq, cEqG, nrf, eqB, xor_f, xor_t, true_and, and_true, Bool.not_false]
theorem cEq_ts (a : List PV) (b : Str) (S : Store) (Q : VC) : cEq (.tup a) (.str b) S Q = (nrfs a = true ∧ Q (.bl false) S) := by simp only [cEq, cEqG, nrf, eqB, xor_f, xor_t, true_and, and_true, Bool.not_false]
theorem cEq_tt (a b : List PV) (S : Store) (Q : VC) : cEq (.tup a) (.tup b) S Q = ((okEq (.tup a) ∧ okEq (.tup b)) ∧ Q (.bl (eqBs a b)) S) := by simp only [cEq, cEqG, xor_f, xor_t]
theorem cEq_rr (m n : Nat) (S : Store) (Q : VC) : cEq (.ref m) (.ref n) S Q = (match seqOf S m, seqOf S n with
    | some xs, some ys => (okEqs xs ∧ okEqs ys) ∧ Q (.bl (eqBs xs ys)) S
    | _, _ => False) := by simp only [cEq, cEqG, xor_f, xor_t]; try rfl
theorem cNe_ii (a b : Int) (S : Store) (Q : VC) : cNe (.int a) (.int b) S Q = (Q (.bl (!decide (a = b))) S) := by simp only [cNe, cEqG, nrf, eqB_ii, xor_f, xor_t, true_and, and_self]
theorem cNe_is (a : Int) (b : Str) (S : Store) (Q : VC) : cNe (.int a) (.str b) S Q = (Q (.bl true) S) := by simp only [cNe, cEqG, nrf, eqB, xor_f, xor_t, true_and, and_true, Bool.not_false]
theorem cNe_it (a : Int) (b : List PV) (S : Store) (Q : VC) : cNe (.int a) (.tup b) S Q = (nrfs b = true ∧ Q (.bl true) S) := by simp only [cNe, cEqG, nrf, eqB, xor_f, xor_t, true_and, and_true, Bool.not_false]
theorem cNe_si (a : Str) (b : Int) (S : Store) (Q : VC) : cNe (.str a) (.int b) S Q = (Q (.bl true) S) := by simp only [cNe, cEqG, nrf, eqB, xor_f, xor_t, true_and, and_true, Bool.not_false]
theorem cNe_ss (a b : Str) (S : Store) (Q : VC) : cNe (.str a) (.str b) S Q = (Q (.bl (!decide (a = b))) S) := by simp only [cNe, cEqG, nrf, eqB_ss, xor_f, xor_t, true_and, and_self]
theorem cNe_st (a : Str) (b : List PV) (S : Store) (Q : VC) : cNe (.str a) (.tup b) S Q = (nrfs b = true ∧ Q (.bl true) S) := by simp only [cNe, cEqG, nrf, eqB, xor_f, xor_t, true_and, and_true, Bool.not_false]
theorem cNe_bb (a b : Bool) (S : Store) (Q : VC) : cNe (.bl a) (.bl b) S Q = (Q (.bl (!decide (a = b))) S) := by simp only [cNe, cEqG, nrf, eqB_bb, xor_f, xor_t, true_and, and_self]
theorem cNe_ti (a : List PV) (b : Int) (S : Store) (Q : VC) : cNe (.tup a) (.int b) S Q = (nrfs a = true ∧ Q (.bl true) S) := by simp only [cNe, cEqG, nrf, eqB, xor_f, xor_t, true_and, and_true, Bool.not_false]
theorem cNe_ts (a : List PV) (b : Str) (S : Store) (Q : VC) : cNe (.tup a) (.str b) S Q = (nrfs a = true ∧ Q (.bl true) S) := by simp only [cNe, cEqG, nrf, eqB, xor_f, xor_t, true_and, and_true, Bool.not_false]
theorem cNe_tt (a b : List PV) (S : Store) (Q : VC) : cNe (.tup a) (.tup b) S Q = ((okEq (.tup a) ∧ okEq (.tup b)) ∧ Q (.bl (!eqBs a b)) S) := by simp only [cNe, cEqG, xor_f, xor_t]
theorem cNe_rr (m n : Nat) (S : Store) (Q : VC) : cNe (.ref m) (.ref n) S Q = (match seqOf S m, seqOf S n with
    | some xs, some ys => (okEqs xs ∧ okEqs ys) ∧ Q (.bl (!eqBs xs ys)) S
    | _, _ => False) := by simp only [cNe, cEqG, xor_f, xor_t]; try rfl
theorem cIn_ss (a b : Str) (S : Store) (Q : VC) : cIn (.str a) (.str b) S Q = (Q (.bl (inS a b)) S) := by simp only [cIn, cInG, xor_f, xor_t]
theorem cIn_t (x : PV) (b : List PV) (S : Store) (Q : VC) : cIn x (.tup b) S Q = ((okEq x ∧ okEqs b) ∧ Q (.bl (b.any fun y => eqB y x)) S) := by cases x <;> simp only [cIn, cInG, xor_f, xor_t]
theorem cIn_r (x : PV) (n : Nat) (S : Store) (Q : VC) : cIn x (.ref n) S Q = (match seqOf S n with
    | some ys => (okEq x ∧ okEqs ys) ∧ Q (.bl (ys.any fun y => eqB y x)) S
    | none => False) := by cases x <;> (simp only [cIn, cInG, xor_f, xor_t]; try rfl)
theorem cNotIn_ss (a b : Str) (S : Store) (Q : VC) : cNotIn (.str a) (.str b) S Q = (Q (.bl (!inS a b)) S) := by simp only [cNotIn, cInG, xor_f, xor_t]
theorem cNotIn_t (x : PV) (b : List PV) (S : Store) (Q : VC) : cNotIn x (.tup b) S Q = ((okEq x ∧ okEqs b) ∧ Q (.bl (!b.any fun y => eqB y x)) S) := by cases x <;> simp only [cNotIn, cInG, xor_f, xor_t]
theorem cNotIn_r (x : PV) (n : Nat) (S : Store) (Q : VC) : cNotIn x (.ref n) S Q = (match seqOf S n with
    | some ys => (okEq x ∧ okEqs ys) ∧ Q (.bl (!ys.any fun y => eqB y x)) S
    | none => False) := by cases x <;> (simp only [cNotIn, cInG, xor_f, xor_t]; try rfl)
theorem big {n : Nat} (h : n ≤ 1000000) : n ≤ sizeLine := Nat.le_trans h (by decide)
theorem bigl {n : Nat} (h : n ≤ 1000000) : n < sizeLine := Nat.lt_of_le_of_lt h (by decide)
end My

namespace Ev
open PySem PySem.Spec PyProof.Rows L2
section
variable {X : Cx} {G : EK} {pos : Pos}
/-! ### max of a list, the count of a set -/
end
end Ev

namespace Ev
open PySem PySem.Spec PyProof.Rows L2
section
variable {X : Cx} {G : EK} {pos : Pos}
/-! ### reversed(a list) -/
/-! ### index in a list of whole numbers -/
end
end Ev

namespace Ev
open PySem PySem.Spec PyProof.Rows L2
section
variable {X : Cx} {G : EK} {pos : Pos}
/-! ### a, b, c = a list -/
def wgLst (n : Nat) (ws : WGs) : WG := fun v σ S E Q => match v with
  | .ref m => match lstOf S m with
    | some xs => xs.length = n ∧ ws xs σ S E Q
    | none => False
  | _ => False
/-! ### xs[::-1] of a list -/
def wRev1 (w : WE) : WE := fun σ S E Q => w σ S E fun x S1 => match x with
  | .ref n => match lstOf S1 n with
    | some xs => Q (.ref S1.length) (S1 ++ [.lst xs.reverse])
    | none => False
  | _ => False
/-! ### products of any size -/
def bMulI : F2 := bI IntMulOk fun i j => .int (i * j)
end
end Ev

namespace My
open PySem L2 Ev
/-- _law_deck -/
def w__law_deck_1929 : WS :=
  (wSeq (wSet 1 (wBin bAdd (wSl (wVar 0) wNoPart (wPart (wC (.int 63)))) (wLst (wCons (wC (.int 0)) wNil))))
  (wSeq (wSet 2 (wBin cEq (wBin bMod (wBin bIx (wVar 1) (wC (.int 0))) (wC (.int 2))) (wC (.int 1))))
  (wSeq (wAsg (wBin bFdiv (wBin bIx (wVar 1) (wC (.int 0))) (wC (.int 2))) (wgSub (wVar 1) (wC (.int 0)) sSet))
  (wRet (wDisp (wdCons (wC (.str (Str.ofString "cells"))) (wVar 1) (wdCons (wC (.str (Str.ofString "left"))) (wC (.int 12)) (wdCons (wC (.str (Str.ofString "at"))) (wC (.int 0)) (wdCons (wC (.str (Str.ofString "seed"))) (wBin bAdd (wC (.int 1)) (wBin bMod (wCB fSum (wCons (wVar 1) wNil)) (wC (.int 2147483646)))) (wdCons (wC (.str (Str.ofString "mixed"))) (wVar 2) wdNil))))))))))

/-- _law_next -/
def w__law_next_2686 : WS :=
  (wSeq (wSet 1 (wBin bIx (wVar 0) (wC (.str (Str.ofString "cells")))))
  (wSeq (wIfS (wTru (wBin bIx (wVar 0) (wC (.str (Str.ofString "mixed")))))
  (wSeq (wAsg (wBin bAdd (wBin bIx (wVar 0) (wC (.str (Str.ofString "at")))) (wC (.int 1))) (wgSub (wVar 0) (wC (.str (Str.ofString "at"))) sSet))
  (wSeq (wSet 2 (wBin bIx (wVar 1) (wBin bMod (wBin bIx (wVar 0) (wC (.str (Str.ofString "at")))) (wCB fLen (wCons (wVar 1) wNil)))))
  (wSeq (wAsg (wBin bMod (wBin bAdd (wBin bAdd (wBin bMul (wBin bIx (wVar 0) (wC (.str (Str.ofString "seed")))) (wC (.int 48271))) (wVar 2)) (wBin bIx (wVar 0) (wC (.str (Str.ofString "at"))))) (wC (.int 2147483647))) (wgSub (wVar 0) (wC (.str (Str.ofString "seed"))) sSet))
  (wSeq (wSet 3 (wBin bMod (wBin bAdd (wBin bMul (wBin bIx (wVar 0) (wC (.str (Str.ofString "seed")))) (wBin bIx (wVar 0) (wC (.str (Str.ofString "seed"))))) (wBin bMul (wC (.int 7919)) (wBin bIx (wVar 0) (wC (.str (Str.ofString "at")))))) (wC (.int 2147483629))))
  (wRet (wBin bMod (wBin bMul (wVar 3) (wBin bAdd (wVar 3) (wC (.int 69621)))) (wC (.int 999999999989))))))))
  wNext)
  (wSeq (wSet 3 (wBin bMod (wBin bIx (wVar 1) (wC (.int 0))) (wBin bPow (wC (.int 10)) (wC (.int 12)))))
  (wSeq (wAsg (wBin bFdiv (wBin bIx (wVar 1) (wC (.int 0))) (wBin bPow (wC (.int 10)) (wC (.int 12)))) (wgSub (wVar 1) (wC (.int 0)) sSet))
  (wSeq (wAsg (wBin bSub (wBin bIx (wVar 0) (wC (.str (Str.ofString "left")))) (wC (.int 1))) (wgSub (wVar 0) (wC (.str (Str.ofString "left"))) sSet))
  (wSeq (wIfS (wAnd (wTest (wBin cEq (wBin bIx (wVar 0) (wC (.str (Str.ofString "left")))) (wC (.int 0)))) (wTest (wBin cGt (wCB fLen (wCons (wVar 1) wNil)) (wC (.int 1)))))
  (wSeq (wDrop (wBM "list" mPopAt (wVar 1) (wCons (wC (.int 0)) wNil)))
  (wAsg (wC (.int 12)) (wgSub (wVar 0) (wC (.str (Str.ofString "left"))) sSet)))
  wNext)
  (wRet (wVar 3))))))))

/-- _law_spelled -/
def w__law_spelled_70ad : WS :=
  (wSeq (wSet 2 (wC (.str (Str.ofString ""))))
  (wSeq (wFor (wiRange (wCons (wVar 1) wNil)) (wgName 3) (wSeq (wSet 2 (wBin bAdd (wVar 2) (wBin bIx (wC (.str (Str.ofString "abcdefghijklmnopqrstuvwxyz"))) (wBin bMod (wVar 0) (wC (.int 26))))))
  (wSet 0 (wBin bFdiv (wVar 0) (wC (.int 26))))))
  (wRet (wVar 2))))

/-- _law_word -/
def w__law_word_e7ab (sp_law_next : Den) (sp_law_spelled : Den) : WS :=
  (wSeq (wSet 2 (wCall sp_law_next (wCons (wVar 0) wNil)))
  (wSeq (wSet 3 (wCall sp_law_next (wCons (wVar 0) wNil)))
  (wSeq (wSet 4 (wBin bAdd (wC (.int 1)) (wBin bMod (wVar 2) (wC (.int 8)))))
  (wSeq (wSet 5 (wCall sp_law_spelled (wCons (wVar 3) (wCons (wVar 4) wNil))))
  (wSeq (wIfS (wAnd (wTest (wBin cNe (wVar 1) (wLst wNil))) (wTest (wBin cEq (wBin bMod (wBin bFdiv (wVar 2) (wC (.int 8))) (wC (.int 2))) (wC (.int 1)))))
  (wSeq (wSet 6 (wBin bMod (wBin bFdiv (wVar 2) (wC (.int 16))) (wCB fLen (wCons (wBin bIx (wVar 1) (wC (.int 0))) wNil))))
  (wSet 5 (wBin bAdd (wBin bAdd (wSl (wBin bIx (wVar 1) (wC (.int 0))) wNoPart (wPart (wVar 6))) (wBin bIx (wVar 5) (wC (.int 0)))) (wSl (wBin bIx (wVar 1) (wC (.int 0))) (wPart (wBin bAdd (wVar 6) (wC (.int 1)))) wNoPart))))
  wNext)
  (wSeq (wWhile (wOr (wTest (wBin cIn (wVar 5) (wVar 1))) (wTest (wBin cEq (wVar 5) (wC (.str (Str.ofString "any")))))) (wSeq (wSet 3 (wBin bAdd (wVar 3) (wC (.int 1))))
  (wSeq (wSet 4 (wBin bAdd (wBin bMod (wVar 4) (wC (.int 8))) (wC (.int 1))))
  (wSet 5 (wCall sp_law_spelled (wCons (wVar 3) (wCons (wVar 4) wNil)))))))
  (wRet (wVar 5))))))))

/-- _law_words -/
def w__law_words_3282 (sp_law_word : Den) : WS :=
  (wSeq (wSet 2 (wLst wNil))
  (wSeq (wFor (wiRange (wCons (wVar 1) wNil)) (wgName 3) (wDrop (wBM "list" mAppend (wVar 2) (wCons (wCall sp_law_word (wCons (wVar 0) (wCons (wVar 2) wNil))) wNil))))
  (wRet (wVar 2))))

local macro_rules | `(tactic| simp!) => `(tactic| simp only [wSet, wAsg, wgName, wgSub, wgTup, wgCons, wgNil, sSet, wIfS, wTest, wTru, truK, wAnd, wOr, wNot, wAndV, wOrV, wNotV, wIf, wNeg, wBin, wVar, wC, wCB, wCons, wNil, wTup, wLst, wRet, wRetN, wDrop, wCall, wBM, wBM0, wSl, bSl, wPart, wNoPart, wNext, wPass, wCont, wBreak, wNever, wFor, wiAny, wiRange, wiZip, wComp, wtTrue, innerP, wAug, bIAdd, bAdd, bI, bSub, bFdiv, bMod, bPow, bMul, cLt, cLe, cGt, cGe, cEq_ii, cEq_is, cEq_it, cEq_si, cEq_ss, cEq_st, cEq_bb, cEq_ti, cEq_ts, cEq_tt, cEq_rr, cNe_ii, cNe_is, cNe_it, cNe_si, cNe_ss, cNe_st, cNe_bb, cNe_ti, cNe_ts, cNe_tt, cNe_rr, cIn_ss, cIn_t, cIn_r, cNotIn_ss, cNotIn_t, cNotIn_r, cIs, cIsNot, isNon, bIx, keyOf, fLen, fIsi, tyP, fSum, fAll, fList, fTuple, fInt, fStr, fMax, mAppend, mPop, mPopAt, mClear, mExtend, mJoin, mIndex, wJoined, wjNil, wjStr, wjVal, wDisp, wdCons, wdNil, wDelSl, wChain, List.getElem?_cons_zero, List.getElem?_cons_succ, List.set_cons_zero, List.set_cons_succ, List.map_cons, List.map_nil, List.replicate, List.cons_append, List.nil_append, List.length_cons, List.length_nil, xor_f, xor_t, seq_new, lst_new, true_and, if_true, Bool.false_eq_true, if_false, Bool.not_true, Bool.not_false, kc_list, kc_tuple, kc_str, kc_int, kc_bool, kc_dict, it_NoneType_list, it_NoneType_tuple, it_NoneType_str, it_NoneType_int, it_NoneType_bool, it_NoneType_dict, it_bool_list, it_bool_tuple, it_bool_str, it_bool_int, it_bool_bool, it_bool_dict, it_int_list, it_int_tuple, it_int_str, it_int_int, it_int_bool, it_int_dict, it_str_list, it_str_tuple, it_str_str, it_str_int, it_str_bool, it_str_dict, it_tuple_list, it_tuple_tuple, it_tuple_str, it_tuple_int, it_tuple_bool, it_tuple_dict, it_list_list, it_list_tuple, it_list_str, it_list_int, it_list_bool, it_list_dict, it_dict_list, it_dict_tuple, it_dict_str, it_dict_int, it_dict_bool, it_dict_dict, nrf_non, nrf_bl, nrf_int, nrf_str, nrf_tup, eqB_ii, eqB_bb, eqB_ss, eqB_st, eqB_ts, eqB_tt, eqB_is, eqB_si, okEq_str, okEq_int, okEqs_nil, decide_eq_true_eq, and_self, and_true, decide_true, decide_false, not_true_eq_false, not_false_eq_true, Int.cast_ofNat_Int, Int.reduceEq, Int.reduceNeg, Nat.reduceSub, Nat.sub_self, Bool.not_eq_true', decide_eq_false_iff_not, Nat.reduceAdd])
local macro_rules | `(tactic| simp! [$xs,*]) => `(tactic| simp only [wSet, wAsg, wgName, wgSub, wgTup, wgCons, wgNil, sSet, wIfS, wTest, wTru, truK, wAnd, wOr, wNot, wAndV, wOrV, wNotV, wIf, wNeg, wBin, wVar, wC, wCB, wCons, wNil, wTup, wLst, wRet, wRetN, wDrop, wCall, wBM, wBM0, wSl, bSl, wPart, wNoPart, wNext, wPass, wCont, wBreak, wNever, wFor, wiAny, wiRange, wiZip, wComp, wtTrue, innerP, wAug, bIAdd, bAdd, bI, bSub, bFdiv, bMod, bPow, bMul, cLt, cLe, cGt, cGe, cEq_ii, cEq_is, cEq_it, cEq_si, cEq_ss, cEq_st, cEq_bb, cEq_ti, cEq_ts, cEq_tt, cEq_rr, cNe_ii, cNe_is, cNe_it, cNe_si, cNe_ss, cNe_st, cNe_bb, cNe_ti, cNe_ts, cNe_tt, cNe_rr, cIn_ss, cIn_t, cIn_r, cNotIn_ss, cNotIn_t, cNotIn_r, cIs, cIsNot, isNon, bIx, keyOf, fLen, fIsi, tyP, fSum, fAll, fList, fTuple, fInt, fStr, fMax, mAppend, mPop, mPopAt, mClear, mExtend, mJoin, mIndex, wJoined, wjNil, wjStr, wjVal, wDisp, wdCons, wdNil, wDelSl, wChain, List.getElem?_cons_zero, List.getElem?_cons_succ, List.set_cons_zero, List.set_cons_succ, List.map_cons, List.map_nil, List.replicate, List.cons_append, List.nil_append, List.length_cons, List.length_nil, xor_f, xor_t, seq_new, lst_new, true_and, if_true, Bool.false_eq_true, if_false, Bool.not_true, Bool.not_false, kc_list, kc_tuple, kc_str, kc_int, kc_bool, kc_dict, it_NoneType_list, it_NoneType_tuple, it_NoneType_str, it_NoneType_int, it_NoneType_bool, it_NoneType_dict, it_bool_list, it_bool_tuple, it_bool_str, it_bool_int, it_bool_bool, it_bool_dict, it_int_list, it_int_tuple, it_int_str, it_int_int, it_int_bool, it_int_dict, it_str_list, it_str_tuple, it_str_str, it_str_int, it_str_bool, it_str_dict, it_tuple_list, it_tuple_tuple, it_tuple_str, it_tuple_int, it_tuple_bool, it_tuple_dict, it_list_list, it_list_tuple, it_list_str, it_list_int, it_list_bool, it_list_dict, it_dict_list, it_dict_tuple, it_dict_str, it_dict_int, it_dict_bool, it_dict_dict, nrf_non, nrf_bl, nrf_int, nrf_str, nrf_tup, eqB_ii, eqB_bb, eqB_ss, eqB_st, eqB_ts, eqB_tt, eqB_is, eqB_si, okEq_str, okEq_int, okEqs_nil, decide_eq_true_eq, and_self, and_true, decide_true, decide_false, not_true_eq_false, not_false_eq_true, Int.cast_ofNat_Int, Int.reduceEq, Int.reduceNeg, Nat.reduceSub, Nat.sub_self, Bool.not_eq_true', decide_eq_false_iff_not, Nat.reduceAdd, $xs,*])
/-! ### texts by their signs -/
def mk (l : List Nat) : Str := ⟨l.toArray⟩
theorem mk_list (l : List Nat) : (mk l).cps.toList = l := rfl
theorem mk_len (l : List Nat) : (mk l).length = l.length := by simp [mk, Str.length]
theorem mk_app (a b : List Nat) : mk a ++ mk b = mk (a ++ b) := by
  apply str_ext
  rw [app_list, mk_list, mk_list, mk_list]
theorem mk_inj {a b : List Nat} (h : mk a = mk b) : a = b := by rw [← mk_list a, h, mk_list]
theorem len_list (z : Str) : z.cps.toList.length = z.length := by simp [Str.length]
theorem empty_mk : Str.ofString "" = mk [] := by decide +kernel
theorem chr_mk (c : Nat) : (⟨#[c]⟩ : Str) = mk [c] := rfl
/-! ### is_name -/
def isL (c : Nat) : Bool := inS ⟨#[c]⟩ (Str.ofString "abcdefghijklmnopqrstuvwxyz")
def nameB (z : Str) : Bool := !decide (z.length = 0) && !decide (8 < z.length) && z.cps.toList.all isL
/-! ### pieces -/
/-! ### many_names -/
/-! ### kinds -/
inductive Kd where
  | a (s : Str) | p (f t : Kd)
def Kd.pv : Kd → PV
  | .a s => .str s
  | .p f t => .tup [f.pv, t.pv]
def Kd.lv : Kd → Nat
  | .a _ => 1
  | .p f t => f.lv + t.lv
/-- names throughout -/
def Kd.ok : Kd → Prop
  | .a s => nameB s = true
  | .p f t => f.ok ∧ t.ok
theorem nameB_len {s : Str} (h : nameB s = true) : 1 ≤ s.length ∧ s.length ≤ 8 ∧ s.cps.toList.all isL = true := by
  unfold nameB at h
  simp only [Bool.and_eq_true, Bool.not_eq_true', decide_eq_false_iff_not] at h
  exact ⟨by omega, by omega, h.2⟩
/-! ### _law_kind_text -/
/-! ### show_kind -/
/-! ### read_kind -/
theorem okEqs2 (a b : Str) : okEqs [.str a, .str b] := okEqs_strs [a, b]
/-! the loop of read_kind -/
structure ReadAt (S0 : Store) (z : Str) (np ns : Nat) (pcs : List Str) (st : List Kd) (σ : Ev.Loc) (S : Store) : Prop where
  loc : ∃ j, σ = [some (.str z), some (.ref np), some (.ref ns), j]
  pcs : S[np]? = some (.lst (pcs.map PV.str))
  stk : S[ns]? = some (.lst (st.map Kd.pv))
  ext : Ex [] S0 S
section
variable {spc spi : Den} {S0 : Store} {z : Str} {np ns : Nat} {pcs : List Str} {D : PEnds} {E : EK}
end

/-! ### _law_same -/
/-! ### the deck -/
def deckD (c : Nat) (l a s : Int) (m : Bool) : List (Key × PV) := [(.inr (Str.ofString "cells"), .ref c), (.inr (Str.ofString "left"), .int l), (.inr (Str.ofString "at"), .int a), (.inr (Str.ofString "seed"), .int s), (.inr (Str.ofString "mixed"), .bl m)]
theorem dk_cells (c : Nat) (l a s : Int) (m : Bool) : valP (deckD c l a s m) (.inr (Str.ofString "cells")) = some (.ref c) := rfl
theorem dk_left (c : Nat) (l a s : Int) (m : Bool) : valP (deckD c l a s m) (.inr (Str.ofString "left")) = some (.int l) := rfl
theorem dk_at (c : Nat) (l a s : Int) (m : Bool) : valP (deckD c l a s m) (.inr (Str.ofString "at")) = some (.int a) := rfl
theorem dk_seed (c : Nat) (l a s : Int) (m : Bool) : valP (deckD c l a s m) (.inr (Str.ofString "seed")) = some (.int s) := rfl
theorem dk_mixed (c : Nat) (l a s : Int) (m : Bool) : valP (deckD c l a s m) (.inr (Str.ofString "mixed")) = some (.bl m) := rfl
theorem dp_left (c : Nat) (l a s : Int) (m : Bool) (x : Int) : putP (deckD c l a s m) (.inr (Str.ofString "left")) (.int x) = deckD c x a s m := rfl
theorem dp_at (c : Nat) (l a s : Int) (m : Bool) (x : Int) : putP (deckD c l a s m) (.inr (Str.ofString "at")) (.int x) = deckD c l x s m := rfl
theorem dp_seed (c : Nat) (l a s : Int) (m : Bool) (x : Int) : putP (deckD c l a s m) (.inr (Str.ofString "seed")) (.int x) = deckD c l a x m := rfl
theorem dk_len (c : Nat) (l a s : Int) (m : Bool) : (deckD c l a s m).length < sizeLine := bigl (by show 5 ≤ 1000000; decide)
structure Deck (d c : Nat) (S : Store) : Prop where
  is : ∃ (l a s : Int) (m : Bool) (x : Int) (xs : List Int), S[d]? = some (.dK (deckD c l a s m)) ∧ S[c]? = some (.lst ((x :: xs).map PV.int)) ∧ xs.length ≤ 100 ∧ 0 ≤ s ∧ s < 2147483647
  ne : d ≠ c
theorem Deck.ex {d c : Nat} {S S' : Store} (h : Deck d c S) {D : List Nat} (e : Ex D S S') (h1 : d ∉ D) (h2 : c ∉ D) : Deck d c S' := by
  obtain ⟨⟨l, a, s, m, x, xs, g1, g2, r⟩, ne⟩ := h
  exact ⟨⟨l, a, s, m, x, xs, e.get g1 h1, e.get g2 h2, r⟩, ne⟩
def NextD (sp : Den) : Prop := ∀ (d c : Nat) (S : Store) (E : EK) (Q : VC), Deck d c S → (∀ (n : Int) S', 0 ≤ n → n < 1000000000000 → Deck d c S' → Ex [d, c] S S' → Q (.int n) S') → sp [.ref d] S E Q
theorem ixN_zero (n : Nat) : ixN (n + 1) 0 = some 0 := by
  unfold ixN
  rw [if_pos (by decide), if_pos (by omega)]
  rfl
theorem atI_zero (x : PV) (xs : List PV) : atI (x :: xs) 0 = some x := by
  unfold atI ixN
  simp only [List.length_cons]
  rw [if_pos (by decide), if_pos (by omega)]
  rfl
theorem atI_mod {xs : List Int} {i : Int} (h : xs ≠ []) : ∃ y, atI (xs.map PV.int) (i % (xs.length : Int)) = some (.int y) := by
  have hp : 0 < xs.length := List.length_pos_iff.mpr h
  have h0 : 0 ≤ i % (xs.length : Int) := Int.emod_nonneg _ (by omega)
  have h1 : i % (xs.length : Int) < xs.length := Int.emod_lt_of_pos _ (by omega)
  unfold atI ixN
  rw [List.length_map, if_pos h0, if_pos h1]
  have : (i % (xs.length : Int)).toNat < xs.length := by omega
  exact ⟨xs[(i % (xs.length : Int)).toNat], by simp [this]⟩
theorem cmul_r {i j : Int} (h : -(2 ^ 64) < j) (h' : j < 2 ^ 64) : CMul i j := .inr ⟨h, h'⟩
theorem cmul_l {i j : Int} (h : -(2 ^ 64) < i) (h' : i < 2 ^ 64) : CMul i j := .inl ⟨h, h'⟩
theorem next_ok : NextD (fnP 1 4 w__law_next_2686) := by
  intro d c S E Q ⟨⟨l, a, s, m, x, xs, g1, g2, hl, s0, s1⟩, ne⟩ h
  refine ⟨rfl, ?_⟩
  unfold w__law_next_2686
  refine seqI fun K hK => ?_
  simp! [g1, dk_cells]
  refine hK _ _ ?_
  refine seqI fun K hK => ?_
  simp! [g1, dk_mixed]
  refine ite2 (fun hm => ?_) (fun hm => ?_)
  · refine seqI fun K2 hK2 => ?_
    simp! [g1, dk_at, dp_at]
    refine ⟨dk_len _ _ _ _ _, hK2 _ _ ?_⟩
    have a1 := at_set (.dK (deckD c l (a + 1) s m)) g1
    have b1 := at_ne (j := d) (.dK (deckD c l (a + 1) s m)) g2 ne
    refine seqI fun K2 hK2 => ?_
    obtain ⟨y, hy⟩ := atI_mod (xs := x :: xs) (i := a + 1) (by simp)
    simp! [a1, b1, dk_at, seq_at b1, List.length_map]
    simp only [List.map_cons, List.length_cons] at hy
    rw [show ((xs.length + 1 : Nat) : Int) = ((xs.length : Int) + 1) by omega] at hy ⊢
    refine ⟨by omega, ?_⟩
    rw [hy]
    refine hK2 _ _ ?_
    refine seqI fun K2 hK2 => ?_
    simp! [a1, dk_at, dk_seed, dp_seed]
    refine ⟨cmul_r (by decide) (by decide), by decide, dk_len _ _ _ _ _, hK2 _ _ ?_⟩
    have s2 : ∀ z : Int, 0 ≤ z % 2147483647 ∧ z % 2147483647 < 2147483647 := fun z => ⟨Int.emod_nonneg _ (by decide), Int.emod_lt_of_pos _ (by decide)⟩
    obtain ⟨t0, t1⟩ := s2 (s * 48271 + y + (a + 1))
    generalize hs' : (s * 48271 + y + (a + 1)) % 2147483647 = s' at t0 t1 ⊢
    have a2 := at_set (.dK (deckD c l (a + 1) s' m)) a1
    have b2 := at_ne (j := d) (.dK (deckD c l (a + 1) s' m)) b1 ne
    refine seqI fun K2 hK2 => ?_
    simp! [a2, dk_at, dk_seed]
    refine ⟨cmul_r (by omega) (by omega), cmul_l (by decide) (by decide), by decide, hK2 _ _ ?_⟩
    have n0 : 0 ≤ (s' * s' + 7919 * (a + 1)) % 2147483629 := Int.emod_nonneg _ (by decide)
    have n1 : (s' * s' + 7919 * (a + 1)) % 2147483629 < 2147483629 := Int.emod_lt_of_pos _ (by decide)
    generalize (s' * s' + 7919 * (a + 1)) % 2147483629 = nn at n0 n1 ⊢
    simp!
    refine ⟨cmul_r (by omega) (by omega), by decide, ?_⟩
    refine h _ _ (Int.emod_nonneg _ (by decide)) (Int.lt_trans (Int.emod_lt_of_pos _ (by decide)) (by decide)) ⟨⟨l, a + 1, s', m, x, xs, a2, b2, hl, t0, t1⟩, ne⟩ (((Ex.refl _ _).set (.inl (by simp))).set (.inl (by simp)))
  · refine hK _ _ ?_
    refine seqI fun K hK => ?_
    simp! [g2, atI_zero]
    refine ⟨⟨by decide, by decide, by decide⟩, by decide, hK _ _ ?_⟩
    rw [show ((10 : Int) ^ (12 : Int).toNat) = 1000000000000 by decide]
    refine seqI fun K hK => ?_
    simp only [List.map_cons] at g2
    simp! [g2, atI_zero, ixN_zero]
    rw [show ((10 : Int) ^ (12 : Int).toNat) = 1000000000000 by decide]
    refine ⟨⟨by decide, by decide, by decide⟩, ⟨by decide, by decide⟩, hK _ _ ?_⟩
    have b1 := at_set (.lst (PV.int (x / 1000000000000) :: xs.map PV.int)) g2
    have a1 := at_ne (j := c) (.lst (PV.int (x / 1000000000000) :: xs.map PV.int)) g1 (Ne.symm ne)
    refine seqI fun K hK => ?_
    simp! [a1, dk_left, dp_left]
    refine ⟨dk_len _ _ _ _ _, hK _ _ ?_⟩
    have a2 := at_set (.dK (deckD c (l - 1) a s m)) a1
    have b2 := at_ne (j := d) (.dK (deckD c (l - 1) a s m)) b1 ne
    have n0 : 0 ≤ x % 1000000000000 := Int.emod_nonneg _ (by decide)
    have n1 : x % 1000000000000 < 1000000000000 := Int.emod_lt_of_pos _ (by decide)
    have exx : Ex [d, c] S ((S.set c (.lst (PV.int (x / 1000000000000) :: xs.map PV.int))).set d (.dK (deckD c (l - 1) a s m))) := ((Ex.refl _ _).set (.inl (by simp))).set (.inl (by simp))
    refine seqI fun K hK => ?_
    simp! [a2, dk_left, seq_at b2, List.length_map]
    have fin0 : K [some (.ref d), some (.ref c), none, some (.int (x % 1000000000000))] ((S.set c (.lst (PV.int (x / 1000000000000) :: xs.map PV.int))).set d (.dK (deckD c (l - 1) a s m))) := by
      refine hK _ _ ?_
      simp!
      exact h _ _ n0 n1 ⟨⟨l - 1, a, s, m, x / 1000000000000, xs, a2, b2, hl, s0, s1⟩, ne⟩ exx
    refine ite2 (fun z => ite2 (fun z2 => ?_) (fun z2 => fin0)) (fun z => fin0)
    refine seqI fun K2 hK2 => ?_
    simp! [b2, lst_at b2, ixN_zero, List.eraseIdx_zero, List.tail_cons]
    refine ⟨⟨by decide, by decide⟩, hK2 _ _ ?_⟩
    have b3 := at_set (.lst (xs.map PV.int)) b2
    have a3 := at_ne (j := c) (.lst (xs.map PV.int)) a2 (Ne.symm ne)
    simp! [a3, dp_left]
    refine ⟨dk_len _ _ _ _ _, hK _ _ ?_⟩
    simp!
    obtain ⟨x', xs', rfl⟩ : ∃ x' xs', xs = x' :: xs' := by
      cases xs with
      | nil => simp at z2
      | cons a b => exact ⟨a, b, rfl⟩
    refine h _ _ n0 n1 ⟨⟨12, a, s, m, x', xs', at_set _ a3, at_ne _ b3 ne, by simp at hl; omega, s0, s1⟩, ne⟩ ((exx.set (.inl (by simp))).set (.inl (by simp)))

/-! ### _law_deck -/
def DeckD (sp : Den) : Prop := ∀ (ns : List Int) (S : Store) (E : EK) (Q : VC), ns.length ≤ 63 → (∀ d c S', Deck d c S' → Ex [] S S' → S.length ≤ c → S.length ≤ d → Q (.ref d) S') → sp [.frl (ns.map .int)] S E Q
theorem cut63 (ns : List Int) (h : ns.length ≤ 63) : cutP (ns.map PV.int) none (some 63) = ns.map PV.int := by
  unfold cutP
  have : HT.sIx (ns.map PV.int).length (ns.map PV.int).length (some 63) = (ns.map PV.int).length := by
    rw [show (63 : Int) = ((63 : Nat) : Int) from rfl, HT.sIx_nat, List.length_map]
    omega
  rw [this, HT.sIx_none, List.drop_zero, Nat.sub_zero, List.take_length]
theorem deck_ok : DeckD (fnP 1 3 w__law_deck_1929) := by
  intro ns S E Q hl h
  refine ⟨rfl, ?_⟩
  unfold w__law_deck_1929
  refine seqI fun K hK => ?_
  obtain ⟨x, xs, hxs, hxl⟩ : ∃ x xs, ns ++ [0] = x :: xs ∧ xs.length ≤ 100 := by
    cases ns with
    | nil => exact ⟨0, [], rfl, by simp⟩
    | cons a r => exact ⟨a, r ++ [0], rfl, by simp at hl ⊢; omega⟩
  have e0 : (S ++ [SO.lst (ns.map PV.int)])[S.length]? = some (.lst (ns.map PV.int)) := at_new _ _
  have e1 := at_old e0 [SO.lst [PV.int 0]]
  have e2 := at_new (S ++ [SO.lst (ns.map PV.int)]) (.lst [PV.int 0])
  simp! [cut63 ns hl, lst_at e1]
  refine ⟨big (by decide), ⟨by rw [List.length_map]; exact big (by omega), hK _ _ ?_⟩⟩
  have ecat : ns.map PV.int ++ [PV.int 0] = (x :: xs).map PV.int := by rw [← hxs]; simp
  rw [ecat]
  generalize hS3 : S ++ [SO.lst (ns.map PV.int)] ++ [SO.lst [PV.int 0]] = S3
  have hx3 : Ex [] S S3 := by rw [← hS3]; exact (Ex.new _ _ _).app _
  have g := at_new S3 (.lst ((x :: xs).map PV.int))
  refine seqI fun K hK => ?_
  simp only [List.map_cons] at g
  simp! [g, atI_zero]
  refine ⟨by decide, hK _ _ ?_⟩
  refine seqI fun K hK => ?_
  simp! [g, atI_zero, ixN_zero]
  refine ⟨⟨by decide, by decide⟩, hK _ _ ?_⟩
  have g2 := at_set (.lst (PV.int (x / 2) :: xs.map PV.int)) g
  have hx4 : Ex [] S ((S3 ++ [SO.lst (PV.int x :: xs.map PV.int)]).set S3.length (.lst (PV.int (x / 2) :: xs.map PV.int))) := (hx3.app _).set (.inr hx3.1)
  generalize hS4 : (S3 ++ [SO.lst (PV.int x :: xs.map PV.int)]).set S3.length (.lst (PV.int (x / 2) :: xs.map PV.int)) = S4 at g2 hx4 ⊢
  have g3 := at_old g2 [SO.dK []]
  have eI : intsOf (PV.int (x / 2) :: xs.map PV.int) = some ((x / 2) :: xs) := intsOf_map ((x / 2) :: xs)
  simp! [seq_at g3, Option.bind_some, eI]
  refine ⟨by decide, ⟨at_new _ _, by decide⟩, ?_⟩
  have em : ∀ (b : Bool) (s : Int), mergeP [] [(Sum.inr (Str.ofString "cells"), PV.ref S3.length), (Sum.inr (Str.ofString "left"), PV.int 12), (Sum.inr (Str.ofString "at"), PV.int 0), (Sum.inr (Str.ofString "seed"), PV.int s), (Sum.inr (Str.ofString "mixed"), PV.bl b)] = deckD S3.length 12 0 s b := fun b s => rfl
  rw [em]
  have hlt : S3.length < S4.length := lt_of_at g2
  have n0 : 0 ≤ ((x / 2) :: xs).sum % 2147483646 := Int.emod_nonneg _ (by decide)
  have n1 : ((x / 2) :: xs).sum % 2147483646 < 2147483646 := Int.emod_lt_of_pos _ (by decide)
  refine h S4.length S3.length _ ⟨⟨12, 0, _, _, x / 2, xs, at_set _ (at_new S4 (SO.dK [])), at_ne _ g3 (by omega), hxl, ?_, ?_⟩, by omega⟩ ((hx4.app _).set (.inr hx4.1)) hx3.1 hx4.1
  · generalize ((x / 2) :: xs).sum % 2147483646 = y at n0 n1 ⊢; omega
  · generalize ((x / 2) :: xs).sum % 2147483646 = y at n0 n1 ⊢; omega
/-! ### _law_spelled -/
def spl : Int → Nat → List Nat
  | _, 0 => []
  | n, k + 1 => (97 + (n % 26).toNat) :: spl (n / 26) k
theorem spl_len : ∀ (k : Nat) (n : Int), (spl n k).length = k
  | 0, _ => rfl
  | k + 1, n => by rw [spl, List.length_cons, spl_len k]
def SpelledD (sp : Den) : Prop := ∀ (n : Int) (k : Nat) (S : Store) (E : EK) (Q : VC), k ≤ 8 → Q (.str (mk (spl n k))) S → sp [.int n, .int k] S E Q
theorem rng_len (lo : Int) (n : Nat) : (rngP lo n).length = n := by simp [rngP]
theorem spelled_ok : SpelledD (fnP 2 4 w__law_spelled_70ad) := by
  intro n k S E Q hk h
  refine ⟨rfl, ?_⟩
  unfold w__law_spelled_70ad
  refine seqI fun K hK => ?_
  simp!
  refine hK _ _ ?_
  refine seqI fun K hK => ?_
  simp!
  refine ⟨⟨by omega, by omega⟩, ?_⟩
  rw [Int.toNat_natCast]
  refine forI (fun rest σ S1 => ∃ (num : Int) (w : List Nat) (j : Option PV), σ = [some (.int num), some (.int k), some (.str (mk w)), j] ∧ S1 = S ∧ w ++ spl num rest.length = spl n k) ?_ ?_ _ _ _ ⟨n, [], none, by rw [empty_mk], rfl, by rw [rng_len]; rfl⟩
  · rintro σ S1 ⟨num, w, j, rfl, rfl, hw⟩
    refine ⟨trivial, hK _ _ ?_⟩
    simp!
    rw [List.length_nil, spl, List.append_nil] at hw
    rw [hw]
    exact h
  · rintro x r σ S1 ⟨num, w, j, rfl, rfl, hw⟩ N hN
    rw [List.length_cons, spl] at hw
    refine ⟨trivial, ?_⟩
    have hwl : w.length ≤ 8 := by
      have := congrArg List.length hw
      rw [List.length_append, spl_len] at this
      omega
    have m0 : 0 ≤ num % 26 := Int.emod_nonneg _ (by decide)
    have m1 : num % 26 < 26 := Int.emod_lt_of_pos _ (by decide)
    simp!
    refine seqI fun K2 hK2 => ?_
    simp! [letters_at m0 m1]
    refine ⟨by decide, letters_len, ?_⟩
    rw [chr_mk, mk_app, mk_len, mk_len]
    refine ⟨big (by simp; omega), hK2 _ _ ?_⟩
    simp!
    refine ⟨⟨by decide, by decide⟩, hN _ _ ⟨num / 26, w ++ [97 + (num % 26).toNat], _, rfl, rfl, by rw [← hw]; simp⟩⟩
theorem isL_low : ∀ m : Nat, m < 26 → isL (97 + m) = true := by decide +kernel
theorem spl_isL : ∀ (k : Nat) (n : Int), (spl n k).all isL = true
  | 0, _ => rfl
  | k + 1, n => by
    have m0 : 0 ≤ n % 26 := Int.emod_nonneg _ (by decide)
    have m1 : n % 26 < 26 := Int.emod_lt_of_pos _ (by decide)
    rw [spl, List.all_cons, spl_isL k, Bool.and_true]
    exact isL_low _ (by omega)
theorem nameB_mk {l : List Nat} (h1 : 1 ≤ l.length) (h8 : l.length ≤ 8) (h : l.all isL = true) : nameB (mk l) = true := by
  unfold nameB
  rw [mk_len, mk_list, h, decide_eq_false (by omega), decide_eq_false (by omega)]
  rfl
/-! some word of the row is none of these -/
theorem nodup_le {α : Type} [DecidableEq α] : ∀ {l F : List α}, l.Nodup → (∀ x ∈ l, x ∈ F) → l.length ≤ F.length
  | [], _, _, _ => Nat.zero_le _
  | a :: l, F, nd, h => by
    obtain ⟨h1, h2⟩ := List.nodup_cons.mp nd
    have ha : a ∈ F := h a (by simp)
    have := nodup_le (l := l) (F := F.erase a) h2 fun x hx => (List.mem_erase_of_ne (by rintro rfl; exact h1 hx)).mpr (h x (List.mem_cons_of_mem _ hx))
    rw [List.length_erase_of_mem ha] at this
    have : 0 < F.length := List.length_pos_of_mem ha
    simp only [List.length_cons]
    omega
theorem spl_ne {n m : Int} (h : spl n 8 = spl m 8) (h1 : 0 < n - m) (h2 : n - m ≤ 104) : False := by
  simp only [spl, List.cons.injEq] at h
  obtain ⟨a, b, -⟩ := h
  have a' : n % 26 = m % 26 := by have := Int.emod_nonneg n (show (26 : Int) ≠ 0 by decide); have := Int.emod_nonneg m (show (26 : Int) ≠ 0 by decide); omega
  have b' : n / 26 % 26 = m / 26 % 26 := by have := Int.emod_nonneg (n / 26) (show (26 : Int) ≠ 0 by decide); have := Int.emod_nonneg (m / 26) (show (26 : Int) ≠ 0 by decide); omega
  clear a b
  omega
theorem row_free (n : Int) (F : List Str) (hF : F.length ≤ 13) : ∃ j : Nat, j ≤ 13 ∧ mk (spl (n + 8 * j) 8) ∉ F := by
  refine Classical.byContradiction fun hc => ?_
  have hall : ∀ j : Nat, j ≤ 13 → mk (spl (n + 8 * j) 8) ∈ F := fun j hj => Classical.byContradiction fun hz => hc ⟨j, hj, hz⟩
  have nd : ((List.range 14).map fun j : Nat => mk (spl (n + 8 * j) 8)).Nodup := by
    refine List.pairwise_map.mpr (List.Pairwise.imp_of_mem ?_ (List.nodup_range (n := 14)))
    intro a b ha hb hab e
    have e := mk_inj e
    rw [List.mem_range] at ha hb
    refine hab ?_
    rcases Nat.lt_trichotomy a b with z | z | z
    · exact (spl_ne e.symm (by omega) (by omega)).elim
    · exact z
    · exact (spl_ne e (by omega) (by omega)).elim
  have := nodup_le nd (F := F) fun x hx => by
    obtain ⟨j, hj, rfl⟩ := List.mem_map.mp hx
    rw [List.mem_range] at hj
    exact hall j (by omega)
  rw [List.length_map, List.length_range] at this
  omega

/-! ### _law_word -/
def sAny : Str := Str.ofString "any"
/-- the size k turns on -/
def szn (k i : Nat) : Nat := (k - 1 + i) % 8 + 1
theorem szn_step (k i : Nat) : szn (szn k 1) i = szn k (i + 1) := by unfold szn; omega
def Bad (ws : List Str) (w : Str) : Prop := w ∈ ws ∨ w = sAny
/-- after i + 1 turns more there is a good word -/
def GoodAt (ws : List Str) (num : Int) (k i : Nat) : Prop := ¬ Bad ws (mk (spl (num + (i : Nat)) (szn k i)))
theorem good_some (ws : List Str) (num : Int) (k : Nat) (h : ws.length ≤ 12) : ∃ i : Nat, GoodAt ws num k (i + 1) := by
  have h1 : ∃ r : Nat, r < 8 ∧ szn k (r + 1) = 8 := ⟨(15 - (k - 1) % 8 - 1) % 8, by omega, by unfold szn; omega⟩
  obtain ⟨r, hr, hs⟩ := h1
  obtain ⟨j, hj, hf⟩ := row_free (num + ((r + 1 : Nat) : Int)) (sAny :: ws) (by simp; omega)
  refine ⟨r + 8 * j, ?_⟩
  have e1 : szn k (r + 8 * j + 1) = 8 := by unfold szn at hs ⊢; omega
  have e2 : num + ((r + 8 * j + 1 : Nat) : Int) = num + ((r + 1 : Nat) : Int) + 8 * j := by omega
  unfold GoodAt Bad
  rw [e1, e2]
  rintro (z | z)
  · exact hf (List.mem_cons_of_mem _ z)
  · exact hf (by rw [z]; exact List.mem_cons_self)
def WordD (sp : Den) : Prop := ∀ (d c n : Nat) (ws : List Str) (S : Store) (E : EK) (Q : VC), Deck d c S → S[n]? = some (.lst (ws.map PV.str)) → ws.length ≤ 12 → (∀ w ∈ ws, nameB w = true) → n ≠ d → n ≠ c →
  (∀ w S', nameB w = true → w ∉ ws → w ≠ sAny → Deck d c S' → Ex [d, c] S S' → Q (.str w) S') → sp [.ref d, .ref n] S E Q
theorem sl_take (z : Str) (k : Nat) (h : k ≤ z.length) : Txt.slice z none (some (k : Int)) = mk (z.cps.toList.take k) := by
  apply str_ext
  rw [slice_list, mk_list, HT.sIx_none, HT.sIx_nat, List.drop_zero, Nat.sub_zero, Nat.min_eq_left h]
theorem sl_drop (z : Str) (k : Nat) (h : k ≤ z.length) : Txt.slice z (some (k : Int)) none = mk (z.cps.toList.drop k) := by
  apply str_ext
  rw [slice_list, mk_list, HT.sIx_none, HT.sIx_nat, Nat.min_eq_left h, List.take_of_length_le]
  rw [List.length_drop, len_list]
  exact Nat.le_refl _
theorem eqBs_nil (ws : List Str) : eqBs (ws.map PV.str) [] = ws.isEmpty := by cases ws <;> simp [eqBs]
theorem any_eq (ws : List Str) (w : Str) : ((ws.map PV.str).any fun y => eqB y (.str w)) = decide (w ∈ ws) := by
  rw [List.any_map, Bool.eq_iff_iff, List.any_eq_true, decide_eq_true_eq]
  constructor
  · rintro ⟨x, hx, e⟩
    have e' : eqB (.str x) (.str w) = true := e
    rw [eqB_ss, decide_eq_true_eq] at e'
    rw [← e']; exact hx
  · intro h
    exact ⟨w, h, by show eqB (.str w) (.str w) = true; rw [eqB_ss]; simp⟩
theorem all_take {p : Nat → Bool} {l : List Nat} (k : Nat) (h : l.all p = true) : (l.take k).all p = true := List.all_eq_true.mpr fun x hx => List.all_eq_true.mp h x (List.mem_of_mem_take hx)
theorem all_drop {p : Nat → Bool} {l : List Nat} (k : Nat) (h : l.all p = true) : (l.drop k).all p = true := List.all_eq_true.mpr fun x hx => List.all_eq_true.mp h x (List.mem_of_mem_drop hx)
theorem word_ok {spn sps : Den} (hn : NextD spn) (hs : SpelledD sps) : WordD (fnP 2 7 (w__law_word_e7ab spn sps)) := by
  intro d c n ws S E Q hd hw hl hna nd nc h
  refine ⟨rfl, ?_⟩
  unfold w__law_word_e7ab
  refine seqI fun K hK => ?_
  simp!
  refine hn d c _ _ _ hd fun way S1 w0 w1 hd1 hx1 => hK _ _ ?_
  refine seqI fun K hK => ?_
  simp!
  refine hn d c _ _ _ hd1 fun num S2 n0 n1 hd2 hx2 => hK _ _ ?_
  have hx12 := hx1.trans hx2
  have hw2 : S2[n]? = some (.lst (ws.map PV.str)) := hx12.get hw (by simp; exact ⟨nd, nc⟩)
  obtain ⟨k, hk, hk1, hk8⟩ : ∃ k : Nat, 1 + way % 8 = (k : Int) ∧ 1 ≤ k ∧ k ≤ 8 := ⟨(1 + way % 8).toNat, by omega, by omega, by omega⟩
  refine seqI fun K hK => ?_
  simp!
  refine ⟨by decide, hK _ _ ?_⟩
  rw [hk]
  refine seqI fun K hK => ?_
  simp!
  refine hs num k _ _ _ hk8 (hK _ _ ?_)
  have spn1 : nameB (mk (spl num k)) = true := nameB_mk (by rw [spl_len]; exact hk1) (by rw [spl_len]; exact hk8) (spl_isL _ _)
  -- behind the first word
  have rest : ∀ (w : Str) (S' : Store) (j : Option PV), nameB w = true → Ex [] S2 S' → wSeq (wWhile (wOr (wTest (wBin cIn (wVar 5) (wVar 1))) (wTest (wBin cEq (wVar 5) (wC (.str (Str.ofString "any")))))) (wSeq (wSet 3 (wBin bAdd (wVar 3) (wC (.int 1))))
      (wSeq (wSet 4 (wBin bAdd (wBin bMod (wVar 4) (wC (.int 8))) (wC (.int 1))))
      (wSet 5 (wCall sps (wCons (wVar 3) (wCons (wVar 4) wNil)))))))
      (wRet (wVar 5)) { nx := fun _ S' => Q .non S', rt := Q } E [some (.ref d), some (.ref n), some (.int way), some (.int num), some (.int (k : Nat)), some (.str w), j] S' := by
    intro w S' j hwn hx'
    refine seqI fun K hK => ?_
    obtain ⟨i0, hi0⟩ := good_some ws num k hl
    refine whileI (fun m σ S3 => ∃ (nu : Int) (kk : Nat) (ww : Str), σ = [some (.ref d), some (.ref n), some (.int way), some (.int nu), some (.int (kk : Nat)), some (.str ww), j] ∧ S3 = S' ∧ 1 ≤ kk ∧ kk ≤ 8 ∧ nameB ww = true ∧ ((m = 0 ∧ ¬ Bad ws ww) ∨ ∃ i, m = i + 1 ∧ GoodAt ws nu kk (i + 1))) (i0 + 1) ⟨num, k, w, rfl, rfl, hk1, hk8, hwn, .inr ⟨i0, rfl, hi0⟩⟩ ?_
    rintro m σ S3 ⟨nu, kk, ww, rfl, rfl, k1, k8, nw, hm⟩ T F hT hF
    have hw3 := hx'.get hw2 (by simp)
    simp! [seq_at hw3, any_eq]
    refine ⟨okEqs_strs ws, ?_⟩
    have bad : Bad ws ww → T [some (.ref d), some (.ref n), some (.int way), some (.int nu), some (.int (kk : Nat)), some (.str ww), j] S3 := fun hb => by
      obtain ⟨i, rfl, hg⟩ : ∃ i, m = i + 1 ∧ GoodAt ws nu kk (i + 1) := by
        rcases hm with ⟨_, z⟩ | z
        · exact absurd hb z
        · exact z
      refine hT _ fun N hN => ?_
      refine seqI fun K2 hK2 => ?_
      simp!
      refine hK2 _ _ ?_
      refine seqI fun K2 hK2 => ?_
      simp!
      refine ⟨by decide, hK2 _ _ ?_⟩
      have ek : ((kk : Nat) : Int) % 8 + 1 = ((szn kk 1 : Nat) : Int) := by unfold szn; omega
      have hz1 : 1 ≤ szn kk 1 := by unfold szn; omega
      have hz8 : szn kk 1 ≤ 8 := by unfold szn; omega
      rw [ek]
      simp!
      refine hs (nu + 1) (szn kk 1) _ _ _ hz8 ?_
      refine hN i _ _ (by omega) ⟨nu + 1, szn kk 1, mk (spl (nu + 1) (szn kk 1)), rfl, rfl, hz1, hz8, nameB_mk (by rw [spl_len]; exact hz1) (by rw [spl_len]; exact hz8) (spl_isL _ _), ?_⟩
      cases i with
      | zero => exact .inl ⟨rfl, hg⟩
      | succ i =>
        refine .inr ⟨i, rfl, ?_⟩
        unfold GoodAt at hg ⊢
        rw [szn_step, show nu + 1 + ((i + 1 : Nat) : Int) = nu + ((i + 1 + 1 : Nat) : Int) by omega]
        exact hg
    refine ite2 (fun z => bad (.inl z)) (fun z => ite2 (fun z2 => bad (.inr z2)) (fun z2 => ?_))
    refine hF _ (hK _ _ ?_)
    simp!
    have hx3 : Ex [d, c] S S3 := hx12.trans hx'.nil
    exact h ww S3 nw z z2 (hd2.ex hx' (by simp) (by simp)) hx3
  refine seqI fun K hK => ?_
  have g1 := at_old hw2 [SO.lst []]
  have hx3 : Ex [] S2 (S2 ++ [SO.lst []]) := Ex.new _ _ _
  simp! [seq_at g1, eqBs_nil]
  refine ⟨big (by decide), okEqs_strs ws, ite2 (fun z => ?_) (fun z => hK _ _ (rest _ _ _ spn1 hx3))⟩
  refine ⟨by decide, by decide, ite2 (fun z2 => ?_) (fun z2 => hK _ _ (rest _ _ _ spn1 hx3))⟩
  obtain ⟨v, vs, rfl⟩ : ∃ v vs, ws = v :: vs := by
    cases ws with
    | nil => simp at z
    | cons a b => exact ⟨a, b, rfl⟩
  have hv := nameB_len (hna v (by simp))
  simp only [List.map_cons] at g1
  refine seqI fun K2 hK2 => ?_
  simp! [g1, atI_zero]
  refine ⟨⟨by decide, by decide⟩, big (by omega), by omega, hK2 _ _ ?_⟩
  obtain ⟨at', hat, hat1⟩ : ∃ a : Nat, way / 16 % (v.length : Int) = (a : Int) ∧ a < v.length := ⟨(way / 16 % (v.length : Int)).toNat, by have := Int.emod_nonneg (way / 16) (show (v.length : Int) ≠ 0 by omega); omega, by have := Int.emod_lt_of_pos (way / 16) (show (0 : Int) < v.length by omega); have := Int.emod_nonneg (way / 16) (show (v.length : Int) ≠ 0 by omega); omega⟩
  rw [hat]
  obtain ⟨c0, cs, hc0⟩ : ∃ c0 cs, spl num k = c0 :: cs := by
    obtain ⟨k', rfl⟩ : ∃ k', k = k' + 1 := ⟨k - 1, by omega⟩
    exact ⟨_, _, rfl⟩
  have hc0' : atI (mk (spl num k)).cps.toList 0 = some c0 := by
    rw [mk_list, hc0]
    unfold atI
    rw [List.length_cons, ixN_zero]
    rfl
  have hcl : isL c0 = true := by
    have := spl_isL k num
    rw [hc0, List.all_cons, Bool.and_eq_true] at this
    exact this.1
  simp! [g1, atI_zero, hc0']
  rw [show ((at' : Nat) : Int) + 1 = ((at' + 1 : Nat) : Int) by omega, sl_take v at' (by omega), sl_drop v (at' + 1) (by omega), chr_mk]
  have hvl := len_list v
  refine ⟨big (by omega), big (by rw [mk_len, spl_len]; omega), big (by rw [mk_len, mk_len]; simp; omega), big (by omega), ?_⟩
  rw [mk_app, mk_app, mk_len, mk_len]
  refine ⟨big (by simp only [List.length_append, List.length_take, List.length_drop, List.length_singleton]; omega), hK _ _ (rest _ _ _ ?_ hx3)⟩
  refine nameB_mk ?_ ?_ ?_
  · simp only [List.length_append, List.length_take, List.length_drop, List.length_singleton]; omega
  · simp only [List.length_append, List.length_take, List.length_drop, List.length_singleton]; omega
  · simp only [List.all_append, all_take _ hv.2.2, all_drop _ hv.2.2, List.all_cons, List.all_nil, hcl, Bool.and_self]

def WordsD (sp : Den) : Prop := ∀ (d c m : Nat) (S : Store) (E : EK) (Q : VC), Deck d c S → m ≤ 12 →
  (∀ (n : Nat) (ws : List Str) S', S'[n]? = some (.lst (ws.map PV.str)) → ws.length = m → (∀ w ∈ ws, nameB w = true) → S.length ≤ n → Deck d c S' → Ex [d, c] S S' → Q (.ref n) S') → sp [.ref d, .int m] S E Q
theorem words_ok {spw : Den} (hw : WordD spw) : WordsD (fnP 2 4 (w__law_words_3282 spw)) := by
  intro d c m S E Q hd hm h
  refine ⟨rfl, ?_⟩
  unfold w__law_words_3282
  refine seqI fun K hK => ?_
  simp!
  refine ⟨big (by decide), hK _ _ ?_⟩
  refine seqI fun K hK => ?_
  simp!
  refine ⟨⟨by omega, by omega⟩, ?_⟩
  rw [Int.toNat_natCast]
  have hdl : d < S.length := by obtain ⟨⟨_, _, _, _, _, _, g, _⟩, _⟩ := hd; exact lt_of_at g
  have hcl : c < S.length := by obtain ⟨⟨_, _, _, _, _, _, _, g, _⟩, _⟩ := hd; exact lt_of_at g
  refine forI (fun rest σ S1 => ∃ (ws : List Str) (j : Option PV), σ = [some (.ref d), some (.int m), some (.ref S.length), j] ∧ S1[S.length]? = some (.lst (ws.map PV.str)) ∧ ws.length + rest.length = m ∧ (∀ w ∈ ws, nameB w = true) ∧ Deck d c S1 ∧ Ex [d, c] S S1) ?_ ?_ _ _ _ ⟨[], none, rfl, at_new _ _, by rw [rng_len]; simp, by simp, hd.ex (Ex.new [] _ _) (by simp) (by simp), Ex.new _ _ _⟩
  · rintro σ S1 ⟨ws, j, rfl, hs, hl, hn, hd1, hx⟩
    refine ⟨trivial, hK _ _ ?_⟩
    simp!
    exact h _ ws _ hs (by simpa using hl) hn (Nat.le_refl _) hd1 hx
  · rintro x r σ S1 ⟨ws, j, rfl, hs, hl, hn, hd1, hx⟩ N hN
    rw [List.length_cons] at hl
    refine ⟨trivial, ?_⟩
    simp! [hs]
    refine hw d c S.length ws _ _ _ hd1 hs (by omega) hn (by omega) (by omega) fun w S2 nw _ _ hd2 hx2 => ?_
    have hs2 : S2[S.length]? = some (.lst (ws.map PV.str)) := hx2.get hs (by simp; omega)
    simp! [lst_at hs2]
    refine ⟨by rw [List.length_map]; exact bigl (by omega), hN _ _ ⟨ws ++ [w], _, rfl, ?_, ?_, ?_, hd2.ex (D := [S.length]) ((Ex.refl _ _).set (.inl (by simp))) (by simp; omega) (by simp; omega), (hx.trans hx2).set (.inr (Nat.le_refl _))⟩⟩
    · rw [at_set _ hs2]; simp
    · simp; omega
    · intro y hy
      rcases List.mem_append.mp hy with z | z
      · exact hn y z
      · simp at z; subst z; exact nw
theorem atI_nat' {α : Type} (xs : List α) (j : Nat) (h : j < xs.length) : atI xs (j : Int) = some xs[j] := by
  unfold atI ixN
  rw [if_pos (by omega), if_pos (by omega)]
  simp [h]
/-! an index by what is met -/
theorem ix_t (xs : List PV) (i : Int) (S : Store) (Q : VC) : bIx (.tup xs) (.int i) S Q = match atI xs i with
    | some v => Q v S
    | none => False := rfl
theorem ix_s (z : Str) (i : Int) (S : Store) (Q : VC) : bIx (.str z) (.int i) S Q = (z.length ≤ sizeLine ∧ match atI z.cps.toList i with
    | some c => Q (.str ⟨#[c]⟩) S
    | none => False) := rfl
theorem ix_f (xs : List PV) (i : Int) (S : Store) (Q : VC) : bIx (.frl xs) (.int i) S Q = match atI xs i with
    | some v => Q v S
    | none => False := rfl
theorem ix_r (n : Nat) (y : PV) (S : Store) (Q : VC) : bIx (.ref n) y S Q = match S[n]? with
    | some (.lst xs) => match y with
      | .int i => match atI xs i with
        | some v => Q v S
        | none => False
      | _ => False
    | some (.dK kvs) => match keyOf y with
      | some k => match valP kvs k with
        | some v => Q v S
        | none => False
      | none => False
    | none => False := rfl
local macro_rules | `(tactic| dsimp!) => `(tactic| simp only [wSet, wAsg, wgName, wgSub, wgTup, wgCons, wgNil, sSet, wIfS, wTest, wTru, truK, wAnd, wOr, wNot, wAndV, wOrV, wNotV, wIf, wNeg, wBin, wVar, wC, wCB, wCons, wNil, wTup, wLst, wRet, wRetN, wDrop, wCall, wBM, wBM0, wSl, bSl, wPart, wNoPart, wNext, wPass, wCont, wBreak, wNever, wFor, wiAny, wiRange, wiZip, wComp, wtTrue, innerP, wAug, bIAdd, bAdd, bI, bSub, bFdiv, bMod, bPow, bMul, cLt, cLe, cGt, cGe, cEq_ii, cEq_is, cEq_it, cEq_si, cEq_ss, cEq_st, cEq_bb, cEq_ti, cEq_ts, cEq_tt, cEq_rr, cNe_ii, cNe_is, cNe_it, cNe_si, cNe_ss, cNe_st, cNe_bb, cNe_ti, cNe_ts, cNe_tt, cNe_rr, cIn_ss, cIn_t, cIn_r, cNotIn_ss, cNotIn_t, cNotIn_r, cIs, cIsNot, isNon, wgLst, wRev1, bMulI, ix_t, ix_s, ix_f, ix_r, at_new, keyOf, fLen, fIsi, tyP, fSum, fAll, fList, fTuple, fInt, fStr, fMax, mAppend, mPop, mPopAt, mClear, mExtend, mJoin, mIndex, wJoined, wjNil, wjStr, wjVal, wDisp, wdCons, wdNil, wDelSl, wChain, List.getElem?_cons_zero, List.getElem?_cons_succ, List.set_cons_zero, List.set_cons_succ, List.map_cons, List.map_nil, List.replicate, List.cons_append, List.nil_append, List.length_cons, List.length_nil, xor_f, xor_t, seq_new, lst_new, true_and, if_true, Bool.false_eq_true, if_false, Bool.not_true, Bool.not_false, kc_list, kc_tuple, kc_str, kc_int, kc_bool, kc_dict, it_NoneType_list, it_NoneType_tuple, it_NoneType_str, it_NoneType_int, it_NoneType_bool, it_NoneType_dict, it_bool_list, it_bool_tuple, it_bool_str, it_bool_int, it_bool_bool, it_bool_dict, it_int_list, it_int_tuple, it_int_str, it_int_int, it_int_bool, it_int_dict, it_str_list, it_str_tuple, it_str_str, it_str_int, it_str_bool, it_str_dict, it_tuple_list, it_tuple_tuple, it_tuple_str, it_tuple_int, it_tuple_bool, it_tuple_dict, it_list_list, it_list_tuple, it_list_str, it_list_int, it_list_bool, it_list_dict, it_dict_list, it_dict_tuple, it_dict_str, it_dict_int, it_dict_bool, it_dict_dict, nrf_non, nrf_bl, nrf_int, nrf_str, nrf_tup, eqB_ii, eqB_bb, eqB_ss, eqB_st, eqB_ts, eqB_tt, eqB_is, eqB_si, okEq_str, okEq_int, okEqs_nil, decide_eq_true_eq, and_self, and_true, decide_true, decide_false, not_true_eq_false, not_false_eq_true, Int.cast_ofNat_Int, Int.reduceEq, Int.reduceNeg, Nat.reduceSub, Nat.sub_self, Bool.not_eq_true', decide_eq_false_iff_not, Nat.reduceAdd])
local macro_rules | `(tactic| dsimp! [$xs,*]) => `(tactic| simp only [wSet, wAsg, wgName, wgSub, wgTup, wgCons, wgNil, sSet, wIfS, wTest, wTru, truK, wAnd, wOr, wNot, wAndV, wOrV, wNotV, wIf, wNeg, wBin, wVar, wC, wCB, wCons, wNil, wTup, wLst, wRet, wRetN, wDrop, wCall, wBM, wBM0, wSl, bSl, wPart, wNoPart, wNext, wPass, wCont, wBreak, wNever, wFor, wiAny, wiRange, wiZip, wComp, wtTrue, innerP, wAug, bIAdd, bAdd, bI, bSub, bFdiv, bMod, bPow, bMul, cLt, cLe, cGt, cGe, cEq_ii, cEq_is, cEq_it, cEq_si, cEq_ss, cEq_st, cEq_bb, cEq_ti, cEq_ts, cEq_tt, cEq_rr, cNe_ii, cNe_is, cNe_it, cNe_si, cNe_ss, cNe_st, cNe_bb, cNe_ti, cNe_ts, cNe_tt, cNe_rr, cIn_ss, cIn_t, cIn_r, cNotIn_ss, cNotIn_t, cNotIn_r, cIs, cIsNot, isNon, wgLst, wRev1, bMulI, ix_t, ix_s, ix_f, ix_r, at_new, keyOf, fLen, fIsi, tyP, fSum, fAll, fList, fTuple, fInt, fStr, fMax, mAppend, mPop, mPopAt, mClear, mExtend, mJoin, mIndex, wJoined, wjNil, wjStr, wjVal, wDisp, wdCons, wdNil, wDelSl, wChain, List.getElem?_cons_zero, List.getElem?_cons_succ, List.set_cons_zero, List.set_cons_succ, List.map_cons, List.map_nil, List.replicate, List.cons_append, List.nil_append, List.length_cons, List.length_nil, xor_f, xor_t, seq_new, lst_new, true_and, if_true, Bool.false_eq_true, if_false, Bool.not_true, Bool.not_false, kc_list, kc_tuple, kc_str, kc_int, kc_bool, kc_dict, it_NoneType_list, it_NoneType_tuple, it_NoneType_str, it_NoneType_int, it_NoneType_bool, it_NoneType_dict, it_bool_list, it_bool_tuple, it_bool_str, it_bool_int, it_bool_bool, it_bool_dict, it_int_list, it_int_tuple, it_int_str, it_int_int, it_int_bool, it_int_dict, it_str_list, it_str_tuple, it_str_str, it_str_int, it_str_bool, it_str_dict, it_tuple_list, it_tuple_tuple, it_tuple_str, it_tuple_int, it_tuple_bool, it_tuple_dict, it_list_list, it_list_tuple, it_list_str, it_list_int, it_list_bool, it_list_dict, it_dict_list, it_dict_tuple, it_dict_str, it_dict_int, it_dict_bool, it_dict_dict, nrf_non, nrf_bl, nrf_int, nrf_str, nrf_tup, eqB_ii, eqB_bb, eqB_ss, eqB_st, eqB_ts, eqB_tt, eqB_is, eqB_si, okEq_str, okEq_int, okEqs_nil, decide_eq_true_eq, and_self, and_true, decide_true, decide_false, not_true_eq_false, not_false_eq_true, Int.cast_ofNat_Int, Int.reduceEq, Int.reduceNeg, Nat.reduceSub, Nat.sub_self, Bool.not_eq_true', decide_eq_false_iff_not, Nat.reduceAdd, $xs,*])
/-! ### forms -/
inductive Fm where
  | b (s : Str) | n (l : Bool) (x y : Fm)
deriving DecidableEq
def sSl : Bool → Str
  | false => Str.ofString "/"
  | true => Str.ofString "\\"
def Fm.pv : Fm → PV
  | .b s => .tup [.str (Str.ofString "basic"), .str s]
  | .n l x y => .tup [.str (sSl l), x.pv, y.pv]
def Fm.dp : Fm → Nat
  | .b _ => 1
  | .n _ x y => max x.dp y.dp + 1
def Fm.lv : Fm → Nat
  | .b _ => 1
  | .n _ x y => x.lv + y.lv
def Fm.ov (ws : List Str) : Fm → Prop
  | .b s => s ∈ ws
  | .n _ x y => x.ov ws ∧ y.ov ws
theorem Fm.lv_pos : ∀ f : Fm, 1 ≤ f.lv
  | .b _ => Nat.le_refl _
  | .n _ x y => Nat.le_trans (Fm.lv_pos x) (Nat.le_add_right _ _)
theorem nrf_fm : ∀ f : Fm, nrf f.pv = true
  | .b _ => rfl
  | .n _ x y => by simp only [Fm.pv, nrf, nrfs, nrf_fm x, nrf_fm y, Bool.and_self]
theorem dep_fm : ∀ f : Fm, dep f.pv = f.dp
  | .b _ => rfl
  | .n _ x y => by simp only [Fm.pv, dep, deps, dep_fm x, dep_fm y, Fm.dp]; omega
theorem fb0 (s : Str) (S : Store) (Q : VC) : bIx (Fm.b s).pv (.int 0) S Q = Q (.str (Str.ofString "basic")) S := rfl
theorem fn0 (l : Bool) (x y : Fm) (S : Store) (Q : VC) : bIx (Fm.n l x y).pv (.int 0) S Q = Q (.str (sSl l)) S := rfl
theorem fn1 (l : Bool) (x y : Fm) (S : Store) (Q : VC) : bIx (Fm.n l x y).pv (.int 1) S Q = Q x.pv S := rfl
theorem fn2 (l : Bool) (x y : Fm) (S : Store) (Q : VC) : bIx (Fm.n l x y).pv (.int 2) S Q = Q y.pv S := rfl
theorem sl_ff : (sSl false = Str.ofString "/") = True := by simp only [sSl]
theorem sl_fb : (sSl false = Str.ofString "\\") = False := by simp only [eq_iff_iff, iff_false]; decide +kernel
theorem sl_tt : (sSl true = Str.ofString "\\") = True := by simp only [sSl]
theorem sl_tb : (sSl true = Str.ofString "/") = False := by simp only [eq_iff_iff, iff_false]; decide +kernel
theorem sl_basic (l : Bool) : (sSl l = Str.ofString "basic") = False := by cases l <;> (simp only [eq_iff_iff, iff_false]; decide +kernel)
theorem ba_f : (Str.ofString "basic" = Str.ofString "/") = False := by simp only [eq_iff_iff, iff_false]; decide +kernel
theorem ba_b : (Str.ofString "basic" = Str.ofString "\\") = False := by simp only [eq_iff_iff, iff_false]; decide +kernel
mutual
theorem eqB_self : ∀ x : PV, nrf x = true → eqB x x = true
  | .non, _ => rfl
  | .bl b, _ => by simp [eqB]
  | .int i, _ => by simp [eqB]
  | .str s, _ => by rw [eqB_ss]; simp
  | .tup xs, h => by rw [eqB_tt]; exact eqBs_self xs (by rw [nrf_tup] at h; exact h)
theorem eqBs_self : ∀ xs : List PV, nrfs xs = true → eqBs xs xs = true
  | [], _ => rfl
  | x :: xs, h => by
    simp only [nrfs, Bool.and_eq_true] at h
    simp only [eqBs, eqB_self x h.1, eqBs_self xs h.2, Bool.and_self]
end
/-! ### take -/
/-! ### form -/
theorem atI_emod {ws : List Str} {i : Int} (h : ws ≠ []) : ∃ y, y ∈ ws ∧ atI (ws.map PV.str) (i % (ws.length : Int)) = some (.str y) := by
  have hp : 0 < ws.length := List.length_pos_iff.mpr h
  have h0 : 0 ≤ i % (ws.length : Int) := Int.emod_nonneg _ (by omega)
  have h1 : i % (ws.length : Int) < ws.length := Int.emod_lt_of_pos _ (by omega)
  unfold atI ixN
  rw [List.length_map, if_pos h0, if_pos h1]
  have : (i % (ws.length : Int)).toNat < ws.length := by omega
  exact ⟨ws[(i % (ws.length : Int)).toNat], List.getElem_mem _, by simp [this]⟩
theorem at2 {a b : PV} (i : Int) : atI [a, b] (i % 2) = some (if i % 2 = 0 then a else b) := by
  have h0 : 0 ≤ i % 2 := Int.emod_nonneg _ (by decide)
  have h1 : i % 2 < 2 := Int.emod_lt_of_pos _ (by decide)
  rcases (show i % 2 = 0 ∨ i % 2 = 1 by omega) with z | z
  · rw [z]; rfl
  · rw [z]; rfl
theorem two_sl (i : Int) (x y : Fm) : PV.tup [if i % 2 = 0 then PV.str (Str.ofString "/") else PV.str (Str.ofString "\\"), x.pv, y.pv] = (Fm.n (!decide (i % 2 = 0)) x y).pv := by
  by_cases z : i % 2 = 0
  · rw [if_pos z, decide_eq_true z]; rfl
  · rw [if_neg z, decide_eq_false z]; rfl
/-! ### names: words of letters by their numbers -/
def lt (m : Nat) : Str := mk [97 + m]
def tx (w : List Nat) : Str := mk (w.map (97 + ·))
def ro (w : List Nat) (i : Nat) : List Nat := match w with
  | [] => []
  | a :: r => (a + i) % 26 :: r
/-! ### what the rules make -/
def mdL (a b : Fm) : Option (Str × Fm) := match a with
  | .n false x y => if y = b then some (Str.ofString ">", x) else match b with
    | .n false y' z => if y = y' then some (Str.ofString ">>", .n false x z) else none
    | _ => none
  | _ => none
def mdR (a b : Fm) : Option (Str × Fm) := match b with
  | .n true x y => if y = a then some (Str.ofString "<", x) else match a with
    | .n true y' z => if y = y' then some (Str.ofString "<<", .n true x z) else none
    | _ => none
  | _ => none
def md (a b : Fm) : Option (Str × Fm) := (mdL a b).or (mdR a b)
theorem Fm.ne_in {l : Bool} {x y : Fm} : x ≠ .n l x y := by
  intro h
  have := congrArg Fm.lv h
  simp only [Fm.lv] at this
  have := Fm.lv_pos y
  omega
/-! ### same, two, other -/
theorem Fm.dp_pos (f : Fm) : 1 ≤ f.dp := by cases f <;> simp [Fm.dp]
set_option maxHeartbeats 1000000
/-! ### kinds of forms -/
def Fm.kd : Fm → PV
  | .b s => .str s
  | .n _ x y => .tup [y.kd, x.kd]
def jnP (z : Fm) (f g : PV) : PV := .tup [.str (Str.ofString "fn"), z.kd, .tup [.str (Str.ofString "of"), f, .tup [.str (Str.ofString "of"), g, .tup [.str (Str.ofString "bound"), .int 0]]]]
def ofP (f g : PV) : PV := .tup [.str (Str.ofString "of"), f, g]
structure MeantD (sp : Den) (d : Nat) : Prop where
  a : ∀ (l r f g : PV) (S : Store) (E : EK) (Q : VC), Q (ofP f g) S → sp [.str (Str.ofString ">"), l, r, f, g] S E Q
  b : ∀ (l r f g : PV) (S : Store) (E : EK) (Q : VC), Q (ofP g f) S → sp [.str (Str.ofString "<"), l, r, f, g] S E Q
  c : ∀ (l : PV) (x z : Fm) (s : Bool) (f g : PV) (S : Store) (E : EK) (Q : VC), z.dp ≤ d → Q (jnP z f g) S → sp [.str (Str.ofString ">>"), l, (Fm.n s x z).pv, f, g] S E Q
  d : ∀ (r : PV) (x z : Fm) (s : Bool) (f g : PV) (S : Store) (E : EK) (Q : VC), z.dp ≤ d → Q (jnP z g f) S → sp [.str (Str.ofString "<<"), (Fm.n s x z).pv, r, f, g] S E Q
/-! ### term -/
/-! ### made of the four -/
theorem md1 (x y : Fm) : md (.n false x y) y = some (Str.ofString ">", x) := by simp [md, mdL]
theorem mdL_no {x y : Fm} : mdL y (.n true x y) = none := by
  unfold mdL
  split
  · rename_i u v
    rw [if_neg]
    intro z
    have := congrArg Fm.lv z
    simp only [Fm.lv] at this
    have := u.lv_pos
    have := x.lv_pos
    omega
  · rfl
theorem md2 (x y : Fm) : md y (.n true x y) = some (Str.ofString "<", x) := by simp [md, mdL_no, mdR]
theorem md3 (x y z : Fm) : md (.n false x y) (.n false y z) = some (Str.ofString ">>", .n false x z) := by
  have h : ¬ y = .n false y z := Fm.ne_in
  simp only [md, mdL, mdR, if_neg h, if_true, Option.or_none]
theorem md4 (x y z : Fm) : md (.n true y z) (.n true x y) = some (Str.ofString "<<", .n true x z) := by
  have h : ¬ y = .n true y z := Fm.ne_in
  simp only [md, mdL, mdR, if_neg h, if_true, Option.none_or]
theorem cNe_self {xs : List PV} (h : okEq (.tup xs)) (S : Store) (Q : VC) : cNe (.tup xs) (.tup xs) S Q = Q (.bl false) S := by
  have := eqB_self _ h.1
  rw [eqB_tt] at this
  rw [cNe_tt, this]
  simp only [h, and_self, true_and, Bool.not_true]

/-- _law_wide -/
def w__law_wide_d829 (sp_law_wide : Den) : WS :=
  (wSeq (wIfS (wTest (wBin cEq (wBin bIx (wVar 0) (wC (.int 0))) (wC (.str (Str.ofString "basic")))))
  (wRet (wC (.int 1)))
  wNext)
  (wRet (wBin bAdd (wCall sp_law_wide (wCons (wBin bIx (wVar 0) (wC (.int 1))) wNil)) (wCall sp_law_wide (wCons (wBin bIx (wVar 0) (wC (.int 2))) wNil)))))

/-- _law_other -/
def w__law_other_a5e2 (sp_law_next : Den) (sp_law_wide : Den) : WS :=
  (wSeq (wSet 3 (wCall sp_law_next (wCons (wVar 0) wNil)))
  (wSeq (wSet 4 (wTup (wCons (wC (.str (Str.ofString "basic"))) (wCons (wBin bIx (wVar 1) (wBin bMod (wVar 3) (wCB fLen (wCons (wVar 1) wNil)))) wNil))))
  (wSeq (wIfS (wOr (wTest (wBin cGt (wBin bMod (wBin bFdiv (wVar 3) (wC (.int 3))) (wC (.int 4))) (wC (.int 0)))) (wTest (wBin cGt (wCall sp_law_wide (wCons (wVar 2) wNil)) (wC (.int 3)))))
  (wRet (wVar 4))
  wNext)
  (wRet (wTup (wCons (wBin bIx (wLst (wCons (wC (.str (Str.ofString "/"))) (wCons (wC (.str (Str.ofString "\\"))) wNil))) (wBin bMod (wBin bFdiv (wVar 3) (wC (.int 12))) (wC (.int 2)))) (wCons (wVar 4) (wCons (wTup (wCons (wC (.str (Str.ofString "basic"))) (wCons (wBin bIx (wVar 1) (wBin bMod (wBin bFdiv (wVar 3) (wC (.int 24))) (wCB fLen (wCons (wVar 1) wNil)))) wNil))) wNil))))))))

/-- _law_drawn_form -/
def w__law_drawn_form_6081 (sp_law_next : Den) (sp_law_other : Den) : WS :=
  (wSeq (wSet 2 (wTup (wCons (wC (.str (Str.ofString "basic"))) (wCons (wBin bIx (wVar 1) (wBin bMod (wCall sp_law_next (wCons (wVar 0) wNil)) (wCB fLen (wCons (wVar 1) wNil)))) wNil))))
  (wSeq (wSet 3 (wCall sp_law_other (wCons (wVar 0) (wCons (wVar 1) (wCons (wVar 2) wNil)))))
  (wSeq (wSet 4 (wBin bMod (wCall sp_law_next (wCons (wVar 0) wNil)) (wC (.int 6))))
  (wSeq (wIfS (wTest (wBin cLt (wVar 4) (wC (.int 2))))
  (wRet (wVar 2))
  wNext)
  (wRet (wTup (wCons (wBin bIx (wLst (wCons (wC (.str (Str.ofString "/"))) (wCons (wC (.str (Str.ofString "\\"))) wNil))) (wBin bMod (wVar 4) (wC (.int 2)))) (wCons (wVar 2) (wCons (wVar 3) wNil)))))))))

/-- _law_tree -/
def w__law_tree_6b41 (sp_law_next : Den) (sp_law_other : Den) (sp_law_wide : Den) (sp_law_tree : Den) : WS :=
  (wSeq (wIfS (wTest (wBin cLt (wVar 4) (wC (.int 2))))
  (wRet (wTup (wCons (wC (.str (Str.ofString "word"))) (wCons (wVar 3) (wCons (wVar 2) wNil)))))
  wNext)
  (wSeq (wSet 5 (wBin bAdd (wC (.int 1)) (wBin bMod (wCall sp_law_next (wCons (wVar 0) wNil)) (wBin bSub (wVar 4) (wC (.int 1))))))
  (wSeq (wSet 6 (wCall sp_law_next (wCons (wVar 0) wNil)))
  (wSeq (wSet 7 (wCall sp_law_other (wCons (wVar 0) (wCons (wVar 1) (wCons (wVar 2) wNil)))))
  (wSeq (wSet 8 (wC (.str (Str.ofString ">"))))
  (wSeq (wSet 9 (wTup (wCons (wTup (wCons (wC (.str (Str.ofString "/"))) (wCons (wVar 2) (wCons (wVar 7) wNil)))) (wCons (wVar 7) wNil))))
  (wSeq (wIfS (wTest (wBin cEq (wBin bMod (wVar 6) (wC (.int 2))) (wC (.int 1))))
  (wSeq (wSet 8 (wC (.str (Str.ofString "<"))))
  (wSet 9 (wTup (wCons (wVar 7) (wCons (wTup (wCons (wC (.str (Str.ofString "\\"))) (wCons (wVar 2) (wCons (wVar 7) wNil)))) wNil)))))
  wNext)
  (wSeq (wIfS (wAnd (wTest (wBin cEq (wBin bIx (wVar 2) (wC (.int 0))) (wC (.str (Str.ofString "/"))))) (wOr (wTest (wBin cGt (wBin bMod (wVar 6) (wC (.int 8))) (wC (.int 1)))) (wTest (wBin cGt (wCall sp_law_wide (wCons (wVar 2) wNil)) (wC (.int 4))))))
  (wSeq (wSet 8 (wC (.str (Str.ofString ">>"))))
  (wSet 9 (wTup (wCons (wTup (wCons (wC (.str (Str.ofString "/"))) (wCons (wBin bIx (wVar 2) (wC (.int 1))) (wCons (wVar 7) wNil)))) (wCons (wTup (wCons (wC (.str (Str.ofString "/"))) (wCons (wVar 7) (wCons (wBin bIx (wVar 2) (wC (.int 2))) wNil)))) wNil)))))
  wNext)
  (wSeq (wIfS (wAnd (wTest (wBin cEq (wBin bIx (wVar 2) (wC (.int 0))) (wC (.str (Str.ofString "\\"))))) (wOr (wTest (wBin cGt (wBin bMod (wVar 6) (wC (.int 8))) (wC (.int 1)))) (wTest (wBin cGt (wCall sp_law_wide (wCons (wVar 2) wNil)) (wC (.int 4))))))
  (wSeq (wSet 8 (wC (.str (Str.ofString "<<"))))
  (wSet 9 (wTup (wCons (wTup (wCons (wC (.str (Str.ofString "\\"))) (wCons (wVar 7) (wCons (wBin bIx (wVar 2) (wC (.int 2))) wNil)))) (wCons (wTup (wCons (wC (.str (Str.ofString "\\"))) (wCons (wBin bIx (wVar 2) (wC (.int 1))) (wCons (wVar 7) wNil)))) wNil)))))
  wNext)
  (wSeq (wSet 10 (wCall sp_law_tree (wCons (wVar 0) (wCons (wVar 1) (wCons (wBin bIx (wVar 9) (wC (.int 0))) (wCons (wVar 3) (wCons (wVar 5) wNil)))))))
  (wRet (wTup (wCons (wVar 8) (wCons (wVar 10) (wCons (wCall sp_law_tree (wCons (wVar 0) (wCons (wVar 1) (wCons (wBin bIx (wVar 9) (wC (.int 1))) (wCons (wBin bAdd (wVar 3) (wVar 5)) (wCons (wBin bSub (wVar 4) (wVar 5)) wNil)))))) wNil)))))))))))))))

/-- _law_chain -/
def w__law_chain_5eaf (sp_law_next : Den) (sp_law_tree : Den) (sp_law_chain : Den) : WS :=
  (wSeq (wIfS (wOr (wTest (wBin cLt (wVar 4) (wC (.int 3)))) (wOr (wTest (wBin cEq (wBin bIx (wVar 2) (wC (.int 0))) (wC (.str (Str.ofString "basic"))))) (wTest (wBin cEq (wBin bMod (wCall sp_law_next (wCons (wVar 0) wNil)) (wC (.int 4))) (wC (.int 0))))))
  (wRet (wCall sp_law_tree (wCons (wVar 0) (wCons (wVar 1) (wCons (wVar 2) (wCons (wVar 3) (wCons (wVar 4) wNil)))))))
  wNext)
  (wSeq (wSet 5 (wTup (wCons (wC (.str (Str.ofString "basic"))) (wCons (wBin bIx (wVar 1) (wBin bMod (wCall sp_law_next (wCons (wVar 0) wNil)) (wCB fLen (wCons (wVar 1) wNil)))) wNil))))
  (wSeq (wSet 6 (wBin bAdd (wC (.int 1)) (wBin bMod (wCall sp_law_next (wCons (wVar 0) wNil)) (wBin bSub (wVar 4) (wC (.int 1))))))
  (wSeq (wSet 7 (wC (.str (Str.ofString ">>"))))
  (wSeq (wSet 8 (wTup (wCons (wTup (wCons (wC (.str (Str.ofString "/"))) (wCons (wBin bIx (wVar 2) (wC (.int 1))) (wCons (wVar 5) wNil)))) (wCons (wTup (wCons (wC (.str (Str.ofString "/"))) (wCons (wVar 5) (wCons (wBin bIx (wVar 2) (wC (.int 2))) wNil)))) wNil))))
  (wSeq (wIfS (wTest (wBin cEq (wBin bIx (wVar 2) (wC (.int 0))) (wC (.str (Str.ofString "\\")))))
  (wSeq (wSet 7 (wC (.str (Str.ofString "<<"))))
  (wSet 8 (wTup (wCons (wTup (wCons (wC (.str (Str.ofString "\\"))) (wCons (wVar 5) (wCons (wBin bIx (wVar 2) (wC (.int 2))) wNil)))) (wCons (wTup (wCons (wC (.str (Str.ofString "\\"))) (wCons (wBin bIx (wVar 2) (wC (.int 1))) (wCons (wVar 5) wNil)))) wNil)))))
  wNext)
  (wSeq (wSet 9 (wCall sp_law_chain (wCons (wVar 0) (wCons (wVar 1) (wCons (wBin bIx (wVar 8) (wC (.int 0))) (wCons (wVar 3) (wCons (wVar 6) wNil)))))))
  (wRet (wTup (wCons (wVar 7) (wCons (wVar 9) (wCons (wCall sp_law_chain (wCons (wVar 0) (wCons (wVar 1) (wCons (wBin bIx (wVar 8) (wC (.int 1))) (wCons (wBin bAdd (wVar 3) (wVar 6)) (wCons (wBin bSub (wVar 4) (wVar 6)) wNil)))))) wNil))))))))))))

/-- _law_turned_once -/
def w__law_turned_once_36d4 (sp_law_turned_once : Den) : WS :=
  (wSeq (wIfS (wTest (wBin cEq (wBin bIx (wVar 0) (wC (.int 0))) (wC (.str (Str.ofString "word")))))
  (wRet (wLst wNil))
  wNext)
  (wSeq (wAsg (wVar 0) (wgTup 3 (wgCons (wgName 1) (wgCons (wgName 2) (wgCons (wgName 3) wgNil)))))
  (wSeq (wSet 4 (wLst wNil))
  (wSeq (wIfS (wAnd (wTest (wBin cIn (wVar 1) (wTup (wCons (wC (.str (Str.ofString ">"))) (wCons (wC (.str (Str.ofString ">>"))) wNil))))) (wTest (wBin cEq (wBin bIx (wVar 2) (wC (.int 0))) (wC (.str (Str.ofString ">>"))))))
  (wDrop (wBM "list" mAppend (wVar 4) (wCons (wTup (wCons (wVar 1) (wCons (wBin bIx (wVar 2) (wC (.int 1))) (wCons (wTup (wCons (wVar 1) (wCons (wBin bIx (wVar 2) (wC (.int 2))) (wCons (wVar 3) wNil)))) wNil)))) wNil)))
  wNext)
  (wSeq (wIfS (wAnd (wTest (wBin cIn (wVar 1) (wTup (wCons (wC (.str (Str.ofString "<"))) (wCons (wC (.str (Str.ofString "<<"))) wNil))))) (wTest (wBin cEq (wBin bIx (wVar 3) (wC (.int 0))) (wC (.str (Str.ofString "<<"))))))
  (wDrop (wBM "list" mAppend (wVar 4) (wCons (wTup (wCons (wVar 1) (wCons (wTup (wCons (wVar 1) (wCons (wVar 2) (wCons (wBin bIx (wVar 3) (wC (.int 1))) wNil)))) (wCons (wBin bIx (wVar 3) (wC (.int 2))) wNil)))) wNil)))
  wNext)
  (wSeq (wSet 4 (wBin bAdd (wVar 4) (wComp (wiAny (wCall sp_law_turned_once (wCons (wVar 2) wNil))) [none, some 1, some 3] (wgName 0) wtTrue (wTup (wCons (wVar 1) (wCons (wVar 0) (wCons (wVar 2) wNil)))))))
  (wRet (wBin bAdd (wVar 4) (wComp (wiAny (wCall sp_law_turned_once (wCons (wVar 3) wNil))) [none, some 1, some 2] (wgName 0) wtTrue (wTup (wCons (wVar 1) (wCons (wVar 2) (wCons (wVar 0) wNil)))))))))))))

/-- turned_at_top -/
def w_turned_at_top_0eb4 : WS :=
  (wSeq (wIfS (wTest (wBin cEq (wBin bIx (wVar 0) (wC (.int 0))) (wC (.str (Str.ofString "word")))))
  (wRet (wC .non))
  wNext)
  (wSeq (wAsg (wVar 0) (wgTup 3 (wgCons (wgName 1) (wgCons (wgName 2) (wgCons (wgName 3) wgNil)))))
  (wSeq (wIfS (wAnd (wTest (wBin cIn (wVar 1) (wTup (wCons (wC (.str (Str.ofString ">"))) (wCons (wC (.str (Str.ofString ">>"))) wNil))))) (wTest (wBin cEq (wBin bIx (wVar 2) (wC (.int 0))) (wC (.str (Str.ofString ">>"))))))
  (wRet (wTup (wCons (wVar 1) (wCons (wBin bIx (wVar 2) (wC (.int 1))) (wCons (wTup (wCons (wVar 1) (wCons (wBin bIx (wVar 2) (wC (.int 2))) (wCons (wVar 3) wNil)))) wNil)))))
  wNext)
  (wSeq (wIfS (wAnd (wTest (wBin cIn (wVar 1) (wTup (wCons (wC (.str (Str.ofString "<"))) (wCons (wC (.str (Str.ofString "<<"))) wNil))))) (wTest (wBin cEq (wBin bIx (wVar 3) (wC (.int 0))) (wC (.str (Str.ofString "<<"))))))
  (wRet (wTup (wCons (wVar 1) (wCons (wTup (wCons (wVar 1) (wCons (wVar 2) (wCons (wBin bIx (wVar 3) (wC (.int 1))) wNil)))) (wCons (wBin bIx (wVar 3) (wC (.int 2))) wNil)))))
  wNext)
  (wRet (wC .non))))))

/-- turned -/
def w_turned_b602 (spturned_at_top : Den) (spturned : Den) : WS :=
  (wSeq (wSet 1 (wCall spturned_at_top (wCons (wVar 0) wNil)))
  (wSeq (wIfS (wOr (wTest (wBin cIsNot (wVar 1) (wC .non))) (wTest (wBin cEq (wBin bIx (wVar 0) (wC (.int 0))) (wC (.str (Str.ofString "word"))))))
  (wRet (wVar 1))
  wNext)
  (wSeq (wAsg (wVar 0) (wgTup 3 (wgCons (wgName 2) (wgCons (wgName 3) (wgCons (wgName 4) wgNil)))))
  (wSeq (wSet 1 (wCall spturned (wCons (wVar 3) wNil)))
  (wSeq (wIfS (wTest (wBin cIsNot (wVar 1) (wC .non)))
  (wRet (wTup (wCons (wVar 2) (wCons (wVar 1) (wCons (wVar 4) wNil)))))
  wNext)
  (wSeq (wSet 1 (wCall spturned (wCons (wVar 4) wNil)))
  (wSeq (wIfS (wTest (wBin cIsNot (wVar 1) (wC .non)))
  (wRet (wTup (wCons (wVar 2) (wCons (wVar 3) (wCons (wVar 1) wNil)))))
  wNext)
  (wRet (wC .non)))))))))

/-- is_plain -/
def w_is_plain_f095 (spturned : Den) : WS :=
  (wRet (wBin cIs (wCall spturned (wCons (wVar 0) wNil)) (wC .non)))

set_option maxHeartbeats 1000000
/-! ### readings -/
inductive Sg where
  | a | b | c | d
deriving DecidableEq
def Sg.st : Sg → Str
  | .a => Str.ofString ">"
  | .b => Str.ofString "<"
  | .c => Str.ofString ">>"
  | .d => Str.ofString "<<"
inductive Rd where
  | w (i : Int) (f : Fm) | n (s : Sg) (l r : Rd)
deriving DecidableEq
def sWord : Str := Str.ofString "word"
def Rd.pv : Rd → PV
  | .w i f => .tup [.str sWord, .int i, f.pv]
  | .n s l r => .tup [.str s.st, l.pv, r.pv]
def Rd.lv : Rd → Nat
  | .w _ _ => 1
  | .n _ l r => l.lv + r.lv
def Rd.fd : Rd → Nat
  | .w _ f => f.dp
  | .n _ l r => max l.fd r.fd
/-- from a to b, of the form g -/
def Rd.is : Rd → Int → Int → Fm → Prop
  | .w i f, a, b, g => i = a ∧ b = a + 1 ∧ f = g
  | .n s l r, a, b, g => ∃ k x y, l.is a k x ∧ r.is k b y ∧ md x y = some (s.st, g)
theorem Rd.lv_pos : ∀ r : Rd, 1 ≤ r.lv
  | .w _ _ => Nat.le_refl _
  | .n _ l r => Nat.le_trans (Rd.lv_pos l) (Nat.le_add_right _ _)
theorem nrf_rd : ∀ r : Rd, nrf r.pv = true
  | .w i f => by simp only [Rd.pv, nrf, nrfs, nrf_fm, Bool.and_self]
  | .n s l r => by simp only [Rd.pv, nrf, nrfs, nrf_rd l, nrf_rd r, Bool.and_self]
theorem dep_rd : ∀ r : Rd, dep r.pv ≤ r.lv + r.fd
  | .w i f => by simp only [Rd.pv, dep, deps, dep_fm, Rd.lv, Rd.fd]; omega
  | .n s l r => by have := dep_rd l; have := dep_rd r; have := l.lv_pos; have := r.lv_pos; simp only [Rd.pv, dep, deps, Rd.lv, Rd.fd]; omega
theorem okEq_rd {r : Rd} (h : r.lv + r.fd ≤ 190) : okEq r.pv := ⟨nrf_rd r, Nat.le_trans (dep_rd r) h⟩
theorem st_word (s : Sg) : (s.st = sWord) = False := by cases s <;> (simp only [eq_iff_iff, iff_false]; decide +kernel)
theorem st_inj {s t : Sg} : s.st = t.st ↔ s = t := by
  refine ⟨fun h => ?_, fun h => by rw [h]⟩
  cases s <;> cases t <;> first | rfl | (exfalso; revert h; decide +kernel)
theorem rn1 (s : Sg) (l r : Rd) (S : Store) (Q : VC) : bIx (Rd.n s l r).pv (.int 1) S Q = Q l.pv S := rfl
theorem rn2 (s : Sg) (l r : Rd) (S : Store) (Q : VC) : bIx (Rd.n s l r).pv (.int 2) S Q = Q r.pv S := rfl
/-! ### wide, other, drawn form -/
theorem wide_ok {T : Nat → Den} (hT : ∀ n, T (n + 1) = fnP 1 1 (w__law_wide_d829 (T n))) : ∀ (n : Nat) (f : Fm), f.dp ≤ n → ∀ (S : Store) (E : EK) (Q : VC), Q (.int (f.lv : Nat)) S → T n [f.pv] S E Q
  | 0, f, hd, S, E, Q, h => by have := f.dp_pos; omega
  | n + 1, .b s, hd, S, E, Q, h => by
    rw [hT]
    refine ⟨rfl, ?_⟩
    unfold w__law_wide_d829
    dsimp! [wSeq, fb0]
    exact h
  | n + 1, .n l x y, hd, S, E, Q, h => by
    simp only [Fm.dp] at hd
    rw [hT]
    refine ⟨rfl, ?_⟩
    unfold w__law_wide_d829
    dsimp! [wSeq, fn0, fn1, fn2, sl_basic]
    refine wide_ok hT n x (by omega) _ _ _ ?_
    refine wide_ok hT n y (by omega) _ _ _ ?_
    dsimp!
    simp only [Fm.lv, Int.natCast_add] at h
    exact h
def WideD (sp : Den) (d : Nat) : Prop := ∀ (f : Fm), f.dp ≤ d → ∀ (S : Store) (E : EK) (Q : VC), Q (.int (f.lv : Nat)) S → sp [f.pv] S E Q
def OthD (sp : Den) (dd : Nat) : Prop := ∀ (d c b : Nat) (ws : List Str) (f : Fm) (S : Store) (E : EK) (Q : VC), Deck d c S → S[b]? = some (.lst (ws.map PV.str)) → ws ≠ [] → b ≠ d → b ≠ c → f.dp ≤ dd →
  (∀ (o : Fm) S', o.dp ≤ 2 → o.ov ws → Deck d c S' → Ex [d, c] S S' → Q o.pv S') → sp [.ref d, .ref b, f.pv] S E Q
theorem basic_pv (s : Str) : PV.tup [.str (Str.ofString "basic"), .str s] = (Fm.b s).pv := rfl
theorem oth_ok {spn spw : Den} {dd : Nat} (hn : NextD spn) (hw : WideD spw dd) : OthD (fnP 3 5 (w__law_other_a5e2 spn spw)) dd := by
  intro d c b ws f S E Q hd hb hne nd nc hf h
  refine ⟨rfl, ?_⟩
  unfold w__law_other_a5e2
  have p2 : 2 ≤ sizeLine := big (by decide)
  have p3 : 3 ≤ sizeLine := big (by decide)
  have hpos : 0 < (ws.length : Int) := by have := List.length_pos_iff.mpr hne; omega
  refine seqI fun K hK => ?_
  dsimp!
  refine hn d c _ _ _ hd fun way S1 w0 w1 hd1 hx1 => hK _ _ ?_
  have hb1 := hx1.get hb (by simp; exact ⟨nd, nc⟩)
  obtain ⟨y, hy, hya⟩ := atI_emod (i := way) hne
  obtain ⟨z, hz, hza⟩ := atI_emod (i := way / 24) hne
  refine seqI fun K hK => ?_
  dsimp! [hb1, seq_at hb1, List.length_map, hya]
  refine ⟨hpos, p2, hK _ _ ?_⟩
  have d1 := h (.b y) S1 (by simp [Fm.dp]) hy hd1 hx1
  dsimp! [wSeq, hb1, seq_at hb1, List.length_map, hza]
  refine ⟨⟨by decide, by decide⟩, by decide, ite2 (fun _ => d1) (fun _ => ?_)⟩
  refine hw f hf _ _ _ ?_
  dsimp!
  refine ite2 (fun _ => d1) (fun _ => ?_)
  have hb2 := at_old hb1 [SO.lst [PV.str (Str.ofString "/"), PV.str (Str.ofString "\\")]]
  dsimp! [at2, hb2, seq_at hb2, List.length_map, hza]
  refine ⟨p2, ⟨by decide, by decide⟩, by decide, ⟨by decide, by decide⟩, hpos, p2, p3, ?_⟩
  rw [basic_pv, basic_pv, two_sl]
  exact h _ _ (by simp [Fm.dp]) ⟨hy, hz⟩ (hd1.ex (Ex.new [] _ _) (by simp) (by simp)) (hx1.app _)
def DrawnD (sp : Den) : Prop := ∀ (d c b : Nat) (ws : List Str) (S : Store) (E : EK) (Q : VC), Deck d c S → S[b]? = some (.lst (ws.map PV.str)) → ws ≠ [] → b ≠ d → b ≠ c →
  (∀ (o : Fm) S', o.dp ≤ 3 → o.ov ws → Deck d c S' → Ex [d, c] S S' → Q o.pv S') → sp [.ref d, .ref b] S E Q
theorem drawn_ok {spn spo : Den} {dd : Nat} (hn : NextD spn) (ho : OthD spo dd) (h1 : 1 ≤ dd) : DrawnD (fnP 2 5 (w__law_drawn_form_6081 spn spo)) := by
  intro d c b ws S E Q hd hb hne nd nc h
  refine ⟨rfl, ?_⟩
  unfold w__law_drawn_form_6081
  have p2 : 2 ≤ sizeLine := big (by decide)
  have p3 : 3 ≤ sizeLine := big (by decide)
  have hpos : 0 < (ws.length : Int) := by have := List.length_pos_iff.mpr hne; omega
  refine seqI fun K hK => ?_
  dsimp! [hb]
  refine hn d c _ _ _ hd fun n1 S1 w0 w1 hd1 hx1 => ?_
  have hb1 := hx1.get hb (by simp; exact ⟨nd, nc⟩)
  obtain ⟨y, hy, hya⟩ := atI_emod (i := n1) hne
  dsimp! [hb1, seq_at hb1, List.length_map, hya]
  refine ⟨hpos, p2, hK _ _ ?_⟩
  rw [basic_pv]
  clear hK
  refine seqI fun K hK => ?_
  dsimp!
  refine ho d c b ws _ _ _ _ hd1 hb1 hne nd nc (by simp only [Fm.dp]; omega) fun o S2 ho2 hov hd2 hx2 => hK _ _ ?_
  clear hK
  refine seqI fun K hK => ?_
  dsimp!
  refine hn d c _ _ _ hd2 fun n2 S3 n20 n21 hd3 hx3 => ?_
  dsimp!
  refine ⟨by decide, hK _ _ ?_⟩
  clear hK
  dsimp! [wSeq, at2]
  refine ite2 (fun _ => h (.b y) S3 (by simp [Fm.dp]) hy hd3 (hx1.trans (hx2.trans hx3))) (fun _ => ⟨p2, by decide, p3, ?_⟩)
  rw [two_sl]
  exact h _ _ (by simp only [Fm.dp]; omega) ⟨hy, hov⟩ (hd3.ex (Ex.new [] _ _) (by simp) (by simp)) ((hx1.trans (hx2.trans hx3)).app _)

set_option maxHeartbeats 1000000
theorem rdn_pv (s : Sg) (l r : Rd) : PV.tup [.str s.st, l.pv, r.pv] = (Rd.n s l r).pv := rfl
def TreeD (sp : Den) (m : Nat) : Prop := ∀ (d c b : Nat) (ws : List Str) (f : Fm) (p : Int) (S : Store) (E : EK) (Q : VC), Deck d c S → S[b]? = some (.lst (ws.map PV.str)) → ws ≠ [] → b ≠ d → b ≠ c → max f.dp 2 + m ≤ 15 → f.ov ws →
  (∀ (r : Rd) S', r.lv = m → r.fd ≤ max f.dp 2 + m → r.is p (p + (m : Nat)) f → Deck d c S' → Ex [d, c] S S' → Q r.pv S') → sp [.ref d, .ref b, f.pv, .int p, .int (m : Nat)] S E Q
theorem pairs0 (x y : PV) (S : Store) (Q : VC) : bIx (.tup [x, y]) (.int 0) S Q = Q x S := rfl
theorem pairs1 (x y : PV) (S : Store) (Q : VC) : bIx (.tup [x, y]) (.int 1) S Q = Q y S := rfl
theorem tree_ok {T N O W : Nat → Den} (hT : ∀ n, T (n + 1) = fnP 5 11 (w__law_tree_6b41 (N n) (O n) (W n) (T n))) (hN : ∀ n, 20 ≤ n → NextD (N n)) (hO : ∀ n, 20 ≤ n → OthD (O n) 18) (hW : ∀ n, 20 ≤ n → WideD (W n) 18) : ∀ (n m : Nat), m + 20 ≤ n → 1 ≤ m → TreeD (T n) m
  | 0, m, hn, hm => by omega
  | n + 1, m, hn, hm => by
    intro d c b ws f p S E Q hd hb hne nd nc hg hov h
    rw [hT]
    refine ⟨rfl, ?_⟩
    unfold w__law_tree_6b41
    have p2 : 2 ≤ sizeLine := big (by decide)
    have p3 : 3 ≤ sizeLine := big (by decide)
    refine seqI fun K hK => ?_
    dsimp!
    refine ite2 (fun z => ⟨p3, ?_⟩) (fun z => hK _ _ ?_)
    · obtain rfl : m = 1 := by omega
      exact h (.w p f) S rfl (by simp only [Rd.fd]; omega) ⟨rfl, rfl, rfl⟩ hd (Ex.refl _ _)
    clear hK
    have hmm : (0 : Int) < (m : Int) - 1 := by omega
    refine seqI fun K hK => ?_
    dsimp!
    refine hN n (by omega) d c _ _ _ hd fun n1 S1 _ _ hd1 hx1 => ?_
    dsimp!
    obtain ⟨k, hk, hk1, hk2⟩ : ∃ k : Nat, 1 + n1 % ((m : Int) - 1) = (k : Int) ∧ 1 ≤ k ∧ k < m := by
      have a := Int.emod_nonneg n1 (show (m : Int) - 1 ≠ 0 by omega)
      have b := Int.emod_lt_of_pos n1 hmm
      exact ⟨(1 + n1 % ((m : Int) - 1)).toNat, by omega, by omega, by omega⟩
    refine ⟨hmm, hK _ _ ?_⟩
    rw [hk]
    clear hK
    refine seqI fun K hK => ?_
    dsimp!
    refine hN n (by omega) d c _ _ _ hd1 fun n2 S2 _ _ hd2 hx2 => hK _ _ ?_
    clear hK
    have hb2 := (hx1.trans hx2).get hb (by simp; exact ⟨nd, nc⟩)
    refine seqI fun K hK => ?_
    dsimp!
    refine hO n (by omega) d c b ws f _ _ _ hd2 hb2 hne nd nc (by omega) fun o S3 ho hoo hd3 hx3 => hK _ _ ?_
    clear hK
    have hb3 := hx3.get hb2 (by simp; exact ⟨nd, nc⟩)
    have hx123 := (hx1.trans hx2).trans hx3
    clear hx1 hx2 hx3 hd1 hd2 hb2
    generalize hgd : max f.dp 2 = g at hg h
    have hfg : f.dp ≤ g := by omega
    have hog : o.dp ≤ g := by omega
    -- the last part
    have last : ∀ (s : Sg) (x y : Fm), md x y = some (s.st, f) → x.dp ≤ g + 1 → y.dp ≤ g + 1 → x.ov ws → y.ov ws → (wSeq (wSet 10 (wCall (T n) (wCons (wVar 0) (wCons (wVar 1) (wCons (wBin bIx (wVar 9) (wC (.int 0))) (wCons (wVar 3) (wCons (wVar 5) wNil)))))))
  (wRet (wTup (wCons (wVar 8) (wCons (wVar 10) (wCons (wCall (T n) (wCons (wVar 0) (wCons (wVar 1) (wCons (wBin bIx (wVar 9) (wC (.int 1))) (wCons (wBin bAdd (wVar 3) (wVar 5)) (wCons (wBin bSub (wVar 4) (wVar 5)) wNil)))))) wNil)))))) { nx := fun _ S' => Q .non S', rt := Q } E [some (.ref d), some (.ref b), some f.pv, some (.int p), some (.int (m : Nat)), some (.int (k : Nat)), some (.int n2), some o.pv, some (.str s.st), some (.tup [x.pv, y.pv]), none] S3 := by
      intro s x y hmd hx hy hxo hyo
      refine seqI fun K hK => ?_
      dsimp! [pairs0]
      refine tree_ok hT hN hO hW n k (by omega) hk1 d c b ws x p S3 _ _ hd3 hb3 hne nd nc (by omega) hxo fun l S4 hl1 hl2 hl3 hd4 hx4 => hK _ _ ?_
      have hb4 := hx4.get hb3 (by simp; exact ⟨nd, nc⟩)
      dsimp! [pairs1]
      rw [show (m : Int) - (k : Int) = ((m - k : Nat) : Int) by omega]
      refine tree_ok hT hN hO hW n (m - k) (by omega) (by omega) d c b ws y (p + k) S4 _ _ hd4 hb4 hne nd nc (by omega) hyo fun r S5 hr1 hr2 hr3 hd5 hx5 => ?_
      refine ⟨p3, ?_⟩
      rw [rdn_pv]
      refine h (.n s l r) S5 (by simp only [Rd.lv]; omega) (by simp only [Rd.fd]; omega) ⟨_, x, y, hl3, ?_, hmd⟩ hd5 (hx123.trans (hx4.trans hx5))
      rw [show p + (m : Int) = p + (k : Int) + ((m - k : Nat) : Int) by omega]
      exact hr3
    have third : ∀ (s : Sg) (x y : Fm), md x y = some (s.st, f) → x.dp ≤ g + 1 → y.dp ≤ g + 1 → x.ov ws → y.ov ws → (wSeq (wIfS (wAnd (wTest (wBin cEq (wBin bIx (wVar 2) (wC (.int 0))) (wC (.str (Str.ofString "\\"))))) (wOr (wTest (wBin cGt (wBin bMod (wVar 6) (wC (.int 8))) (wC (.int 1)))) (wTest (wBin cGt (wCall (W n) (wCons (wVar 2) wNil)) (wC (.int 4))))))
  (wSeq (wSet 8 (wC (.str (Str.ofString "<<"))))
  (wSet 9 (wTup (wCons (wTup (wCons (wC (.str (Str.ofString "\\"))) (wCons (wVar 7) (wCons (wBin bIx (wVar 2) (wC (.int 2))) wNil)))) (wCons (wTup (wCons (wC (.str (Str.ofString "\\"))) (wCons (wBin bIx (wVar 2) (wC (.int 1))) (wCons (wVar 7) wNil)))) wNil)))))
  wNext)
  (wSeq (wSet 10 (wCall (T n) (wCons (wVar 0) (wCons (wVar 1) (wCons (wBin bIx (wVar 9) (wC (.int 0))) (wCons (wVar 3) (wCons (wVar 5) wNil)))))))
  (wRet (wTup (wCons (wVar 8) (wCons (wVar 10) (wCons (wCall (T n) (wCons (wVar 0) (wCons (wVar 1) (wCons (wBin bIx (wVar 9) (wC (.int 1))) (wCons (wBin bAdd (wVar 3) (wVar 5)) (wCons (wBin bSub (wVar 4) (wVar 5)) wNil)))))) wNil))))))) { nx := fun _ S' => Q .non S', rt := Q } E [some (.ref d), some (.ref b), some f.pv, some (.int p), some (.int (m : Nat)), some (.int (k : Nat)), some (.int n2), some o.pv, some (.str s.st), some (.tup [x.pv, y.pv]), none] S3 := by
      intro s x y hmd hx hy hxo hyo
      refine seqI fun K hK => ?_
      have l0 := hK _ _ (last s x y hmd hx hy hxo hyo)
      cases f with
      | b t => dsimp! [fb0, ba_b]; exact l0
      | n l u v =>
        simp only [Fm.dp] at hfg
        cases l with
        | false => dsimp! [fn0, sl_fb]; exact l0
        | true =>
          have l1 := hK _ _ (last .d (.n true o v) (.n true u o) (md4 u o v) (by simp only [Fm.dp]; omega) (by simp only [Fm.dp]; omega) ⟨hoo, hov.2⟩ ⟨hov.1, hoo⟩)
          dsimp! [wSeq, fn0, fn1, fn2, sl_tt]
          refine ⟨by decide, ite2 (fun _ => ⟨p3, p3, p2, l1⟩) (fun _ => ?_)⟩
          refine hW n (by omega) _ (by simp only [Fm.dp]; omega) _ _ _ ?_
          dsimp!
          exact ite2 (fun _ => ⟨p3, p3, p2, l1⟩) (fun _ => l0)
    refine seqI fun K hK => ?_
    dsimp!
    refine hK _ _ ?_
    clear hK
    refine seqI fun K hK => ?_
    dsimp!
    refine ⟨p3, p2, hK _ _ ?_⟩
    clear hK
    have second : ∀ (s : Sg) (x y : Fm), md x y = some (s.st, f) → x.dp ≤ g + 1 → y.dp ≤ g + 1 → x.ov ws → y.ov ws → (wSeq (wIfS (wAnd (wTest (wBin cEq (wBin bIx (wVar 2) (wC (.int 0))) (wC (.str (Str.ofString "/"))))) (wOr (wTest (wBin cGt (wBin bMod (wVar 6) (wC (.int 8))) (wC (.int 1)))) (wTest (wBin cGt (wCall (W n) (wCons (wVar 2) wNil)) (wC (.int 4))))))
  (wSeq (wSet 8 (wC (.str (Str.ofString ">>"))))
  (wSet 9 (wTup (wCons (wTup (wCons (wC (.str (Str.ofString "/"))) (wCons (wBin bIx (wVar 2) (wC (.int 1))) (wCons (wVar 7) wNil)))) (wCons (wTup (wCons (wC (.str (Str.ofString "/"))) (wCons (wVar 7) (wCons (wBin bIx (wVar 2) (wC (.int 2))) wNil)))) wNil)))))
  wNext)
  (wSeq (wIfS (wAnd (wTest (wBin cEq (wBin bIx (wVar 2) (wC (.int 0))) (wC (.str (Str.ofString "\\"))))) (wOr (wTest (wBin cGt (wBin bMod (wVar 6) (wC (.int 8))) (wC (.int 1)))) (wTest (wBin cGt (wCall (W n) (wCons (wVar 2) wNil)) (wC (.int 4))))))
  (wSeq (wSet 8 (wC (.str (Str.ofString "<<"))))
  (wSet 9 (wTup (wCons (wTup (wCons (wC (.str (Str.ofString "\\"))) (wCons (wVar 7) (wCons (wBin bIx (wVar 2) (wC (.int 2))) wNil)))) (wCons (wTup (wCons (wC (.str (Str.ofString "\\"))) (wCons (wBin bIx (wVar 2) (wC (.int 1))) (wCons (wVar 7) wNil)))) wNil)))))
  wNext)
  (wSeq (wSet 10 (wCall (T n) (wCons (wVar 0) (wCons (wVar 1) (wCons (wBin bIx (wVar 9) (wC (.int 0))) (wCons (wVar 3) (wCons (wVar 5) wNil)))))))
  (wRet (wTup (wCons (wVar 8) (wCons (wVar 10) (wCons (wCall (T n) (wCons (wVar 0) (wCons (wVar 1) (wCons (wBin bIx (wVar 9) (wC (.int 1))) (wCons (wBin bAdd (wVar 3) (wVar 5)) (wCons (wBin bSub (wVar 4) (wVar 5)) wNil)))))) wNil)))))))) { nx := fun _ S' => Q .non S', rt := Q } E [some (.ref d), some (.ref b), some f.pv, some (.int p), some (.int (m : Nat)), some (.int (k : Nat)), some (.int n2), some o.pv, some (.str s.st), some (.tup [x.pv, y.pv]), none] S3 := by
      intro s x y hmd hx hy hxo hyo
      refine seqI fun K hK => ?_
      have l0 := hK _ _ (third s x y hmd hx hy hxo hyo)
      cases f with
      | b t => dsimp! [fb0, ba_f]; exact l0
      | n l u v =>
        simp only [Fm.dp] at hfg
        cases l with
        | true => dsimp! [fn0, sl_tb]; exact l0
        | false =>
          have l1 := hK _ _ (third .c (.n false u o) (.n false o v) (md3 u o v) (by simp only [Fm.dp]; omega) (by simp only [Fm.dp]; omega) ⟨hov.1, hoo⟩ ⟨hoo, hov.2⟩)
          dsimp! [wSeq, fn0, fn1, fn2, sl_ff]
          refine ⟨by decide, ite2 (fun _ => ⟨p3, p3, p2, l1⟩) (fun _ => ?_)⟩
          refine hW n (by omega) _ (by simp only [Fm.dp]; omega) _ _ _ ?_
          dsimp!
          exact ite2 (fun _ => ⟨p3, p3, p2, l1⟩) (fun _ => l0)
    refine seqI fun K hK => ?_
    dsimp! [wSeq]
    refine ⟨by decide, ite2 (fun _ => ⟨p3, p2, hK _ _ ?_⟩) (fun _ => hK _ _ ?_)⟩
    · exact second .b o (.n true f o) (md2 f o) (by omega) (by simp only [Fm.dp]; omega) hoo ⟨hov, hoo⟩
    · exact second .a (.n false f o) o (md1 f o) (by simp only [Fm.dp]; omega) (by omega) ⟨hov, hoo⟩ hoo

set_option maxHeartbeats 1000000
theorem chain_ok {C N T : Nat → Den} (hC : ∀ n, C (n + 1) = fnP 5 10 (w__law_chain_5eaf (N n) (T n) (C n))) (hN : ∀ n, 20 ≤ n → NextD (N n)) (hT : ∀ n m, m + 20 ≤ n → 1 ≤ m → TreeD (T n) m) : ∀ (n m : Nat), m + 21 ≤ n → 1 ≤ m → TreeD (C n) m
  | 0, m, hn, hm => by omega
  | n + 1, m, hn, hm => by
    intro d c b ws f p S E Q hd hb hne nd nc hg hov h
    rw [hC]
    refine ⟨rfl, ?_⟩
    unfold w__law_chain_5eaf
    have p2 : 2 ≤ sizeLine := big (by decide)
    have p3 : 3 ≤ sizeLine := big (by decide)
    have tr := hT n m (by omega) hm d c b ws f p
    refine seqI fun K hK => ?_
    dsimp!
    refine ite2 (fun z => tr S E Q hd hb hne nd nc hg hov h) (fun z => ?_)
    cases f with
    | b t =>
      dsimp! [fb0]
      exact tr S E Q hd hb hne nd nc hg hov h
    | n l u v =>
      have hgg := hg
      simp only [Fm.dp] at hg
      dsimp! [fn0, sl_basic]
      refine hN n (by omega) d c _ _ _ hd fun n1 S1 _ _ hd1 hx1 => ?_
      have hb1 := hx1.get hb (by simp; exact ⟨nd, nc⟩)
      dsimp!
      refine ⟨by decide, ite2 (fun _ => tr S1 E Q hd1 hb1 hne nd nc hgg hov fun r S' a1 a2 a3 a4 a5 => h r S' a1 a2 a3 a4 (hx1.trans a5)) (fun _ => hK _ _ ?_)⟩
      clear hK
      have hpos : 0 < (ws.length : Int) := by have := List.length_pos_iff.mpr hne; omega
      refine seqI fun K hK => ?_
      dsimp! [hb1]
      refine hN n (by omega) d c _ _ _ hd1 fun n2 S2 _ _ hd2 hx2 => ?_
      have hb2 := hx2.get hb1 (by simp; exact ⟨nd, nc⟩)
      obtain ⟨y, hy, hya⟩ := atI_emod (i := n2) hne
      dsimp! [hb2, seq_at hb2, List.length_map, hya]
      refine ⟨hpos, p2, hK _ _ ?_⟩
      rw [basic_pv]
      clear hK
      have hmm : (0 : Int) < (m : Int) - 1 := by omega
      refine seqI fun K hK => ?_
      dsimp!
      refine hN n (by omega) d c _ _ _ hd2 fun n3 S3 _ _ hd3 hx3 => ?_
      dsimp!
      obtain ⟨k, hk, hk1, hk2⟩ : ∃ k : Nat, 1 + n3 % ((m : Int) - 1) = (k : Int) ∧ 1 ≤ k ∧ k < m := by
        have a := Int.emod_nonneg n3 (show (m : Int) - 1 ≠ 0 by omega)
        have b := Int.emod_lt_of_pos n3 hmm
        exact ⟨(1 + n3 % ((m : Int) - 1)).toNat, by omega, by omega, by omega⟩
      refine ⟨hmm, hK _ _ ?_⟩
      rw [hk]
      clear hK
      have hb3 := hx3.get hb2 (by simp; exact ⟨nd, nc⟩)
      have hx123 := (hx1.trans hx2).trans hx3
      clear hx1 hx2 hx3 hd1 hd2 hb1 hb2
      generalize hgd : max (Fm.n l u v).dp 2 = g at hgg h
      simp only [Fm.dp] at hgd
      have last : ∀ (s : Sg) (x z : Fm), md x z = some (s.st, .n l u v) → x.dp ≤ g → z.dp ≤ g → x.ov ws → z.ov ws → (wSeq (wSet 9 (wCall (C n) (wCons (wVar 0) (wCons (wVar 1) (wCons (wBin bIx (wVar 8) (wC (.int 0))) (wCons (wVar 3) (wCons (wVar 6) wNil)))))))
  (wRet (wTup (wCons (wVar 7) (wCons (wVar 9) (wCons (wCall (C n) (wCons (wVar 0) (wCons (wVar 1) (wCons (wBin bIx (wVar 8) (wC (.int 1))) (wCons (wBin bAdd (wVar 3) (wVar 6)) (wCons (wBin bSub (wVar 4) (wVar 6)) wNil)))))) wNil)))))) { nx := fun _ S' => Q .non S', rt := Q } E [some (.ref d), some (.ref b), some (Fm.n l u v).pv, some (.int p), some (.int (m : Nat)), some (Fm.b y).pv, some (.int (k : Nat)), some (.str s.st), some (.tup [x.pv, z.pv]), none] S3 := by
        intro s x z hmd hx hz hxo hzo
        refine seqI fun K hK => ?_
        dsimp! [pairs0]
        refine chain_ok hC hN hT n k (by omega) hk1 d c b ws x p S3 _ _ hd3 hb3 hne nd nc (by omega) hxo fun a S4 hl1 hl2 hl3 hd4 hx4 => hK _ _ ?_
        have hb4 := hx4.get hb3 (by simp; exact ⟨nd, nc⟩)
        dsimp! [pairs1]
        rw [show (m : Int) - (k : Int) = ((m - k : Nat) : Int) by omega]
        refine chain_ok hC hN hT n (m - k) (by omega) (by omega) d c b ws z (p + k) S4 _ _ hd4 hb4 hne nd nc (by omega) hzo fun r S5 hr1 hr2 hr3 hd5 hx5 => ?_
        refine ⟨p3, ?_⟩
        rw [rdn_pv]
        refine h (.n s a r) S5 (by simp only [Rd.lv]; omega) (by simp only [Rd.fd]; omega) ⟨_, x, z, hl3, ?_, hmd⟩ hd5 (hx123.trans (hx4.trans hx5))
        rw [show p + (m : Int) = p + (k : Int) + ((m - k : Nat) : Int) by omega]
        exact hr3
      refine seqI fun K hK => ?_
      dsimp!
      refine hK _ _ ?_
      clear hK
      refine seqI fun K hK => ?_
      dsimp! [fn1, fn2]
      refine ⟨p3, p3, p2, hK _ _ ?_⟩
      clear hK
      refine seqI fun K hK => ?_
      cases l with
      | false =>
        dsimp! [fn0, sl_fb]
        exact hK _ _ (last .c (.n false u (.b y)) (.n false (.b y) v) (md3 u (.b y) v) (by simp only [Fm.dp]; omega) (by simp only [Fm.dp]; omega) ⟨hov.1, hy⟩ ⟨hy, hov.2⟩)
      | true =>
        dsimp! [wSeq, fn0, fn1, fn2, sl_tt]
        exact ⟨p3, p3, p2, hK _ _ (last .d (.n true (.b y) v) (.n true u (.b y)) (md4 u (.b y) v) (by simp only [Fm.dp]; omega) (by simp only [Fm.dp]; omega) ⟨hy, hov.2⟩ ⟨hov.1, hy⟩)⟩
/-! ### turning -/
def Rd.top : Rd → Option Rd
  | .n .a (.n .c x y) z => some (.n .a x (.n .a y z))
  | .n .c (.n .c x y) z => some (.n .c x (.n .c y z))
  | .n .b x (.n .d y z) => some (.n .b (.n .b x y) z)
  | .n .d x (.n .d y z) => some (.n .d (.n .d x y) z)
  | _ => none
def Rd.once : Rd → List Rd
  | .w _ _ => []
  | .n s l r => (Rd.top (.n s l r)).toList ++ l.once.map (fun x => .n s x r) ++ r.once.map (fun x => .n s l x)
def Rd.tn : Rd → Option Rd
  | .w _ _ => none
  | .n s l r => match Rd.top (.n s l r) with
    | some t => some t
    | none => match l.tn with
      | some t => some (.n s t r)
      | none => match r.tn with
        | some t => some (.n s l t)
        | none => none
theorem tn_once : ∀ r : Rd, (∀ t, r.tn = some t → t ∈ r.once) ∧ (r.tn = none → r.once = [])
  | .w _ _ => ⟨fun _ h => (by cases h), fun _ => rfl⟩
  | .n s l r => by
    obtain ⟨l1, l2⟩ := tn_once l
    obtain ⟨r1, r2⟩ := tn_once r
    unfold Rd.tn Rd.once
    cases e : Rd.top (.n s l r) with
    | some t => exact ⟨fun u h => by cases h; simp, fun h => by cases h⟩
    | none =>
      cases el : l.tn with
      | some t => exact ⟨fun u h => by cases h; simp [l1 t el], fun h => by cases h⟩
      | none =>
        cases er : r.tn with
        | some t => exact ⟨fun u h => by cases h; simp [r1 t er], fun h => by cases h⟩
        | none => exact ⟨fun u h => (by cases h), fun _ => (by simp [l2 el, r2 er])⟩
/-- the sum of words -/
def Rd.ms : Rd → Nat
  | .w _ _ => 0
  | .n s l r => l.ms + r.ms + match s with
    | .a => l.lv
    | .c => l.lv
    | .b => r.lv
    | .d => r.lv
theorem top_ms {r t : Rd} (h : r.top = some t) : t.ms < r.ms ∧ t.lv = r.lv ∧ t.fd = r.fd := by
  unfold Rd.top at h
  split at h
  all_goals first
    | (cases h; done)
    | (rename_i x y z; have := x.lv_pos; have := y.lv_pos; have := z.lv_pos; simp only [Option.some.injEq] at h; subst h; simp only [Rd.ms, Rd.lv, Rd.fd]; omega)
theorem once_ms : ∀ {r t : Rd}, t ∈ r.once → t.ms < r.ms ∧ t.lv = r.lv ∧ t.fd = r.fd
  | .w _ _, t, h => by cases h
  | .n s l r, t, h => by
    unfold Rd.once at h
    simp only [List.mem_append, List.mem_map, Option.mem_toList] at h
    rcases h with (h | ⟨u, hu, rfl⟩) | ⟨u, hu, rfl⟩
    · exact top_ms h
    · obtain ⟨a, b, c⟩ := once_ms hu
      refine ⟨?_, by simp only [Rd.lv, b], by simp only [Rd.fd, c]⟩
      cases s <;> simp only [Rd.ms, b] <;> omega
    · obtain ⟨a, b, c⟩ := once_ms hu
      refine ⟨?_, by simp only [Rd.lv, b], by simp only [Rd.fd, c]⟩
      cases s <;> simp only [Rd.ms, b] <;> omega
theorem once_len : ∀ r : Rd, r.once.length + 1 ≤ r.lv + r.lv
  | .w _ _ => by simp [Rd.once, Rd.lv]
  | .n s l r => by
    have h1 := once_len l
    have h2 := once_len r
    have : (Rd.top (.n s l r)).toList.length ≤ 1 := by cases Rd.top (.n s l r) <;> simp
    simp only [Rd.once, Rd.lv, List.length_append, List.length_map]
    omega
theorem ms_lv : ∀ r : Rd, r.ms ≤ r.lv * r.lv
  | .w _ _ => by simp [Rd.ms]
  | .n s l r => by
    have h1 := ms_lv l
    have h2 := ms_lv r
    have e : (l.lv + r.lv) * (l.lv + r.lv) = l.lv * l.lv + r.lv * r.lv + 2 * (l.lv * r.lv) := by rw [Nat.mul_add, Nat.add_mul, Nat.add_mul, Nat.mul_comm r.lv l.lv]; omega
    have hl : l.lv ≤ l.lv * r.lv := Nat.le_mul_of_pos_right _ r.lv_pos
    have hr : r.lv ≤ l.lv * r.lv := Nat.le_mul_of_pos_left _ l.lv_pos
    simp only [Rd.ms, Rd.lv, e]
    cases s <;> simp only <;> omega

set_option maxHeartbeats 1000000
theorem set_new (S : Store) (o u : SO) : List.set (S ++ [o]) S.length u = S ++ [u] := by
  rw [List.set_append_right _ _ (Nat.le_refl _), Nat.sub_self]; rfl
def Rd.hd : Rd → Str
  | .w _ _ => sWord
  | .n s _ _ => s.st
theorem rd0 (r : Rd) (S : Store) (Q : VC) : bIx r.pv (.int 0) S Q = Q (.str r.hd) S := by cases r <;> rfl
def Sg.ac : Sg → Bool
  | .a => true
  | .c => true
  | _ => false
def Rd.isS (t : Sg) : Rd → Bool
  | .n s _ _ => decide (s = t)
  | _ => false
theorem isS_of {t : Sg} {r : Rd} (h : r.isS t = true) : ∃ x y, r = .n t x y := by
  cases r with
  | w i f => cases h
  | n s x y => exact ⟨x, y, by rw [show s = t from of_decide_eq_true h]⟩
theorem hd_c (r : Rd) : (r.hd = Str.ofString ">>") = (r.isS .c = true) := by
  cases r with
  | w i f => simp only [Rd.hd, Rd.isS, eq_iff_iff, Bool.false_eq_true, iff_false]; decide +kernel
  | n s x y => simp only [Rd.hd, Rd.isS, eq_iff_iff, decide_eq_true_eq]; exact st_inj (t := .c)
theorem hd_d (r : Rd) : (r.hd = Str.ofString "<<") = (r.isS .d = true) := by
  cases r with
  | w i f => simp only [Rd.hd, Rd.isS, eq_iff_iff, Bool.false_eq_true, iff_false]; decide +kernel
  | n s x y => simp only [Rd.hd, Rd.isS, eq_iff_iff, decide_eq_true_eq]; exact st_inj (t := .d)
theorem hd_w (s : Sg) (x y : Rd) : ((Rd.n s x y).hd = Str.ofString "word") = False := st_word s
theorem hd_w' (i : Int) (f : Fm) : ((Rd.w i f).hd = Str.ofString "word") = True := by simp only [Rd.hd, sWord]
theorem any_ac (s : Sg) : ([PV.str (Str.ofString ">"), PV.str (Str.ofString ">>")].any fun y => eqB y (.str s.st)) = s.ac := by
  simp only [List.any_cons, List.any_nil, eqB_ss, Bool.or_false]
  cases s <;> decide +kernel
theorem any_bd (s : Sg) : ([PV.str (Str.ofString "<"), PV.str (Str.ofString "<<")].any fun y => eqB y (.str s.st)) = !s.ac := by
  simp only [List.any_cons, List.any_nil, eqB_ss, Bool.or_false]
  cases s <;> decide +kernel
theorem top_c {s : Sg} {x y r : Rd} (h : s.ac = true) : Rd.top (.n s (.n .c x y) r) = some (.n s x (.n s y r)) := by cases s <;> first | rfl | (cases h; done)
theorem top_d {s : Sg} {l y z : Rd} (h : s.ac = false) : Rd.top (.n s l (.n .d y z)) = some (.n s (.n s l y) z) := by cases s <;> first | rfl | (cases h; done)
theorem top_no {s : Sg} {l r : Rd} (h1 : s.ac = true → l.isS .c = false) (h2 : s.ac = false → r.isS .d = false) : Rd.top (.n s l r) = none := by
  unfold Rd.top
  split
  · rename_i e; cases e; cases h1 rfl
  · rename_i e; cases e; cases h1 rfl
  · rename_i e; cases e; cases h2 rfl
  · rename_i e; cases e; cases h2 rfl
  · rfl
def optP : Option Rd → PV
  | none => .non
  | some t => t.pv
theorem rn_tup (s : Sg) (l r : Rd) : (Rd.n s l r).pv = .tup [.str s.st, l.pv, r.pv] := rfl
theorem wgt3 (ws : WGs) (s : Sg) (l r : Rd) (σ : Ev.Loc) (S : Store) (E : EK) (Q : Ev.Loc → Store → Prop) : (wgTup 3 ws (Rd.n s l r).pv σ S E Q) = ws [.str s.st, l.pv, r.pv] σ S E Q := by
  rw [rn_tup]
  show (([PV.str s.st, l.pv, r.pv].length = 3) ∧ _) = _
  simp
def TopD (sp : Den) : Prop := ∀ (r : Rd) (S : Store) (E : EK) (Q : VC), Q (optP r.top) S → sp [r.pv] S E Q
theorem ok2 (a b : Str) : okEqs [.str a, .str b] := okEqs2 a b
theorem ctop_ok : TopD (fnP 1 4 w_turned_at_top_0eb4) := by
  intro r S E Q h
  refine ⟨rfl, ?_⟩
  unfold w_turned_at_top_0eb4
  have p2 : 2 ≤ sizeLine := big (by decide)
  have p3 : 3 ≤ sizeLine := big (by decide)
  cases r with
  | w i f =>
    dsimp! [wSeq, rd0, hd_w']
    exact h
  | n s l r =>
    refine seqI fun K hK => ?_
    dsimp! [rd0, hd_w]
    refine hK _ _ ?_
    clear hK
    refine seqI fun K hK => ?_
    simp only [wAsg, wVar, wgt3, List.getElem?_cons_zero, List.map_cons, List.map_nil, List.cons_append, List.nil_append]
    dsimp!
    refine hK _ _ ?_
    clear hK
    dsimp! [wSeq, any_ac, any_bd, rd0, hd_c, hd_d, ok2]
    cases hs : s.ac with
    | true =>
      refine ⟨p2, ?_⟩
      simp only [if_true]
      cases hl : l.isS .c with
      | true =>
        obtain ⟨x, y, rfl⟩ := isS_of hl
        rw [top_c hs] at h
        simp only [if_true]
        dsimp! [rn1, rn2]
        exact ⟨p3, p3, h⟩
      | false =>
        rw [top_no (fun _ => hl) (fun z => by rw [hs] at z; cases z)] at h
        dsimp!
        exact ⟨p2, h⟩
    | false =>
      refine ⟨p2, ?_⟩
      dsimp!
      refine ⟨p2, ?_⟩
      cases hr : r.isS .d with
      | true =>
        obtain ⟨y, z, rfl⟩ := isS_of hr
        rw [top_d hs] at h
        simp only [if_true]
        dsimp! [rn1, rn2]
        exact ⟨p3, p3, h⟩
      | false =>
        rw [top_no (fun z => by rw [hs] at z; cases z) (fun _ => hr)] at h
        dsimp!
        exact h

set_option maxHeartbeats 1000000
theorem nn_rd (r : Rd) : isNon r.pv = false := by cases r <;> rfl
theorem opt_non (o : Option Rd) : isNon (optP o) = o.isNone := by cases o with
  | none => rfl
  | some t => exact nn_rd t
theorem cIsNot_non (x : PV) (S : Store) (Q : VC) : cIsNot x .non S Q = Q (.bl (!isNon x)) S := by cases x <;> rfl
def TnD (sp : Den) (n : Nat) : Prop := ∀ (r : Rd), r.lv ≤ n → ∀ (S : Store) (E : EK) (Q : VC), Q (optP r.tn) S → sp [r.pv] S E Q
theorem turned_ok {T A : Nat → Den} (hT : ∀ n, T (n + 1) = fnP 1 5 (w_turned_b602 (A n) (T n))) (hA : ∀ n, TopD (A (n + 1))) : ∀ (n : Nat), TnD (T (n + 1)) n
  | 0 => fun r hr => by have := r.lv_pos; omega
  | n + 1 => by
    intro r hr S E Q h
    rw [hT]
    refine ⟨rfl, ?_⟩
    unfold w_turned_b602
    have p3 : 3 ≤ sizeLine := big (by decide)
    cases r with
    | w i f =>
      refine seqI fun K hK => ?_
      dsimp!
      refine hA n _ _ _ _ (hK _ _ ?_)
      clear hK
      simp only [cIsNot_non, wSeq, wIfS, wOr, wTest, wBin, wVar, wC, List.set_cons_zero, List.set_cons_succ, List.map_cons, List.map_nil, List.cons_append, List.nil_append, List.replicate, List.getElem?_cons_zero, List.getElem?_cons_succ, Nat.reduceSub]
      dsimp! [show (Rd.w i f).top = none from rfl, optP, rd0, hd_w', isNon]
      exact h
    | n s l r =>
      simp only [Rd.lv] at hr
      have := l.lv_pos
      have := r.lv_pos
      refine seqI fun K hK => ?_
      dsimp!
      refine hA n _ _ _ _ (hK _ _ ?_)
      clear hK
      refine seqI fun K hK => ?_
      simp only [wIfS, wOr, wTest, wBin, wVar, wC, List.set_cons_zero, List.set_cons_succ, List.map_cons, List.map_nil, List.cons_append, List.nil_append, List.replicate, List.getElem?_cons_zero, List.getElem?_cons_succ, Nat.reduceSub, cIsNot_non, opt_non]
      unfold Rd.tn at h
      cases e : Rd.top (.n s l r) with
      | some t =>
        rw [e] at h
        dsimp!
        exact h
      | none =>
        rw [e] at h
        dsimp! [Option.isNone_none, rd0, hd_w]
        refine hK _ _ ?_
        clear hK
        refine seqI fun K hK => ?_
        simp only [wAsg, wVar, wgt3, List.getElem?_cons_zero]
        dsimp!
        refine hK _ _ ?_
        clear hK
        refine seqI fun K hK => ?_
        dsimp!
        refine turned_ok hT hA n l (by omega) _ _ _ (hK _ _ ?_)
        clear hK
        refine seqI fun K hK => ?_
        simp only [wIfS, wTest, wBin, wVar, wC, List.getElem?_cons_zero, List.getElem?_cons_succ, cIsNot_non, opt_non]
        cases el : l.tn with
        | some t =>
          rw [el] at h
          dsimp! [Option.isNone_some, optP]
          exact ⟨p3, h⟩
        | none =>
          rw [el] at h
          dsimp! [Option.isNone_none]
          refine hK _ _ ?_
          clear hK
          refine seqI fun K hK => ?_
          dsimp!
          refine turned_ok hT hA n r (by omega) _ _ _ (hK _ _ ?_)
          clear hK
          refine seqI fun K hK => ?_
          simp only [wIfS, wTest, wBin, wVar, wC, List.getElem?_cons_zero, List.getElem?_cons_succ, cIsNot_non, opt_non]
          cases er : r.tn with
          | some t =>
            rw [er] at h
            dsimp! [Option.isNone_some, optP]
            exact ⟨p3, h⟩
          | none =>
            rw [er] at h
            dsimp! [Option.isNone_none]
            refine hK _ _ ?_
            dsimp!
            exact h
def PlainD (sp : Den) (n : Nat) : Prop := ∀ (r : Rd), r.lv ≤ n → ∀ (S : Store) (E : EK) (Q : VC), Q (.bl r.tn.isNone) S → sp [r.pv] S E Q
theorem plain_ok {spt : Den} {n : Nat} (ht : TnD spt n) : PlainD (fnP 1 1 (w_is_plain_f095 spt)) n := by
  intro r hr S E Q h
  refine ⟨rfl, ?_⟩
  unfold w_is_plain_f095
  dsimp!
  refine ht r hr _ _ _ ?_
  have e := opt_non r.tn
  unfold isNon at e
  rw [e]
  exact h
/-! ### all that come by one turn -/
def OnceD (sp : Den) (n : Nat) : Prop := ∀ (r : Rd), r.lv ≤ n → ∀ (S : Store) (E : EK) (Q : VC), (∀ (q : Nat) S', S.length ≤ q → S'[q]? = some (.lst (r.once.map Rd.pv)) → Ex [] S S' → Q (.ref q) S') → sp [r.pv] S E Q
theorem map_comp {g : WG} {we : WE} {Q : VC} {q : Nat} {ts : List Rd} (f : Rd → Rd) (τ : Option PV → Ev.Loc) (hg : ∀ (j : Option PV) (x : Rd) (S : Store) (N : Ev.Loc → Store → Prop), N (τ (some x.pv)) S → g x.pv (τ j) S NoX N) (he : ∀ (x : Rd) (S : Store) (N : VC), N (f x).pv S → we (τ (some x.pv)) S NoX N)
    (S : Store) (h : ∀ (S' : Store), Ex [] S S' → S'.length = S.length → Q (.ref S'.length) (S' ++ [.lst ((ts.map f).map Rd.pv)])) (hq : S[q]? = some (.lst (ts.map Rd.pv))) (j0 : Option PV) : compGo (fun S => seqOf S q = some (ts.map Rd.pv)) g wtTrue we Q (ts.map Rd.pv) [] (τ j0) S := by
  refine compI (fun rest ys σ S1 => S1 = S ∧ (∃ j, σ = τ j) ∧ ∃ done cs, ts = done ++ cs ∧ rest = cs.map Rd.pv ∧ ys = (done.map f).map Rd.pv) ?_ ?_ _ _ _ _ ⟨rfl, ⟨j0, rfl⟩, [], ts, rfl, rfl, rfl⟩
  · rintro ys σ S1 ⟨rfl, -, done, cs, e1, e2, rfl⟩
    have : cs = [] := by
      cases cs with
      | nil => rfl
      | cons a b => simp at e2
    subst this
    rw [List.append_nil] at e1
    subst e1
    exact ⟨seq_at hq, h S1 (Ex.refl _ _) rfl⟩
  · rintro x r ys σ S1 ⟨rfl, ⟨j, rfl⟩, done, cs, e1, e2, rfl⟩ N hN
    cases cs with
    | nil => simp at e2
    | cons c cs =>
      simp only [List.map_cons, List.cons.injEq] at e2
      obtain ⟨rfl, rfl⟩ := e2
      refine ⟨seq_at hq, hg _ _ _ _ ?_⟩
      simp only [wtTrue, if_true]
      exact he _ _ _ (hN _ _ _ ⟨rfl, ⟨_, rfl⟩, done ++ [c], cs, by simp [e1], rfl, by simp⟩)
theorem once_ok {T : Nat → Den} (hT : ∀ n, T (n + 1) = fnP 1 5 (w__law_turned_once_36d4 (T n))) : ∀ (n : Nat), n ≤ 1000 → OnceD (T (n + 1)) n
  | 0, _ => fun r hr => by have := r.lv_pos; omega
  | n + 1, hn => by
    intro r hr S E Q h
    rw [hT]
    refine ⟨rfl, ?_⟩
    unfold w__law_turned_once_36d4
    have p2 : 2 ≤ sizeLine := big (by decide)
    have p3 : 3 ≤ sizeLine := big (by decide)
    have p0 : 0 ≤ sizeLine := big (by decide)
    cases r with
    | w i f =>
      dsimp! [wSeq, rd0, hd_w']
      exact ⟨p0, h _ _ (Nat.le_refl _) (at_new _ _) (Ex.new _ _ _)⟩
    | n s l r =>
      have ol := once_len l
      have or' := once_len r
      simp only [Rd.lv] at hr
      have := l.lv_pos
      have := r.lv_pos
      refine seqI fun K hK => ?_
      dsimp! [rd0, hd_w]
      refine hK _ _ ?_
      clear hK
      refine seqI fun K hK => ?_
      simp only [wAsg, wVar, wgt3, List.getElem?_cons_zero, List.map_cons, List.map_nil, List.cons_append, List.nil_append]
      dsimp!
      refine hK _ _ ?_
      clear hK
      refine seqI fun K hK => ?_
      dsimp!
      refine ⟨p0, hK _ _ ?_⟩
      clear hK
      -- behind both tests: the list holds the one turned at the top, if there is one
      have rest : ∀ S1 : Store, S1[S.length]? = some (.lst ((Rd.top (.n s l r)).toList.map Rd.pv)) → Ex [] S S1 → (wSeq (wSet 4 (wBin bAdd (wVar 4) (wComp (wiAny (wCall (T (n + 1)) (wCons (wVar 2) wNil))) [none, some 1, some 3] (wgName 0) wtTrue (wTup (wCons (wVar 1) (wCons (wVar 0) (wCons (wVar 2) wNil)))))))
  (wRet (wBin bAdd (wVar 4) (wComp (wiAny (wCall (T (n + 1)) (wCons (wVar 3) wNil))) [none, some 1, some 2] (wgName 0) wtTrue (wTup (wCons (wVar 1) (wCons (wVar 2) (wCons (wVar 0) wNil)))))))) { nx := fun _ S' => Q .non S', rt := Q } E [some (Rd.n s l r).pv, some (.str s.st), some l.pv, some r.pv, some (.ref S.length)] S1 := by
        intro S1 h1 hx1
        have tl : (Rd.top (.n s l r)).toList.length ≤ 1 := by cases Rd.top (.n s l r) <;> simp
        refine seqI fun K hK => ?_
        dsimp!
        refine once_ok hT n (by omega) l (by omega) _ _ _ fun q S2 hq0 hq hx2 => ?_
        dsimp! [seq_at hq]
        refine ⟨by rw [List.length_map]; exact big (by omega), ?_⟩
        refine map_comp (fun x => .n s x r) (fun j => [j, some (.str s.st), some r.pv]) (fun j x S N hN => ?_) (fun x S N hN => ?_) S2 (fun S' hx' _ => ?_) hq none
        · dsimp!
          exact hN
        · dsimp!
          exact ⟨p3, hN⟩
        have a1 := at_old ((hx2.trans hx').get h1 (by simp)) [SO.lst ((l.once.map fun x => Rd.n s x r).map Rd.pv)]
        dsimp! [lst_at a1]
        refine ⟨by simp only [List.length_map]; exact big (by omega), hK _ _ ?_⟩
        clear hK
        rw [← List.map_append]
        have hx3 : Ex [] S (S' ++ [SO.lst ((l.once.map fun x => Rd.n s x r).map Rd.pv)] ++ [SO.lst (((Rd.top (.n s l r)).toList ++ l.once.map fun x => Rd.n s x r).map Rd.pv)]) := (((hx1.trans hx2).trans hx').app _).app _
        have a2 := at_new (S' ++ [SO.lst ((l.once.map fun x => Rd.n s x r).map Rd.pv)]) (SO.lst (((Rd.top (.n s l r)).toList ++ l.once.map fun x => Rd.n s x r).map Rd.pv))
        generalize S' ++ [SO.lst ((l.once.map fun x => Rd.n s x r).map Rd.pv)] ++ [SO.lst (((Rd.top (.n s l r)).toList ++ l.once.map fun x => Rd.n s x r).map Rd.pv)] = S3 at hx3 a2 ⊢
        generalize (S' ++ [SO.lst ((l.once.map fun x => Rd.n s x r).map Rd.pv)]).length = m at a2 ⊢
        dsimp!
        refine once_ok hT n (by omega) r (by omega) _ _ _ fun q S4 hq0 hq hx4 => ?_
        dsimp! [seq_at hq]
        refine ⟨by rw [List.length_map]; exact big (by omega), ?_⟩
        refine map_comp (fun x => .n s l x) (fun j => [j, some (.str s.st), some l.pv]) (fun j x S N hN => ?_) (fun x S N hN => ?_) S4 (fun S' hx' _ => ?_) hq none
        · dsimp!
          exact hN
        · dsimp!
          exact ⟨p3, hN⟩
        have a3 := at_old ((hx4.trans hx').get a2 (by simp)) [SO.lst ((r.once.map fun x => Rd.n s l x).map Rd.pv)]
        dsimp! [lst_at a3]
        refine ⟨by simp only [List.length_map, List.length_append]; exact big (by omega), ?_⟩
        rw [← List.map_append]
        have hx5 := ((hx3.trans hx4).trans hx').app [SO.lst ((r.once.map fun x => Rd.n s l x).map Rd.pv)]
        exact h _ _ hx5.1 (at_new _ _) (hx5.app _)
      have n0 := at_new S (SO.lst [])
      cases hs : s.ac with
      | true =>
        refine seqI fun K hK => ?_
        dsimp! [any_ac, rd0, hd_c, ok2, hs]
        refine ⟨p2, ?_⟩
        cases hl : l.isS .c with
        | true =>
          obtain ⟨x, y, rfl⟩ := isS_of hl
          dsimp! [rn1, rn2]
          refine ⟨p3, p3, bigl (by decide), hK _ _ ?_⟩
          rw [set_new]
          clear hK
          refine seqI fun K hK => ?_
          dsimp! [any_bd, hs, ok2]
          refine ⟨p2, hK _ _ (rest _ ?_ (Ex.new _ _ _))⟩
          rw [top_c hs]
          exact at_new _ _
        | false =>
          dsimp!
          refine hK _ _ ?_
          clear hK
          refine seqI fun K hK => ?_
          dsimp! [any_bd, hs, ok2]
          refine ⟨p2, hK _ _ (rest _ ?_ (Ex.new _ _ _))⟩
          rw [top_no (fun _ => hl) (fun z => by rw [hs] at z; cases z)]
          exact at_new _ _
      | false =>
        refine seqI fun K hK => ?_
        dsimp! [any_ac, ok2, hs]
        refine ⟨p2, hK _ _ ?_⟩
        clear hK
        refine seqI fun K hK => ?_
        dsimp! [any_bd, rd0, hd_d, ok2, hs]
        refine ⟨p2, ?_⟩
        cases hr : r.isS .d with
        | true =>
          obtain ⟨y, z, rfl⟩ := isS_of hr
          dsimp! [rn1, rn2]
          refine ⟨p3, p3, bigl (by decide), hK _ _ (rest _ ?_ ?_)⟩
          · rw [set_new, top_d hs]
            exact at_new _ _
          · rw [set_new]
            exact Ex.new _ _ _
        | false =>
          dsimp!
          refine hK _ _ (rest _ ?_ (Ex.new _ _ _))
          rw [top_no (fun z => by rw [hs] at z; cases z) (fun _ => hr)]
          exact at_new _ _

set_option maxHeartbeats 1000000
def Rd.wi : Rd → List Rd
  | .w i f => [.w i f]
  | .n s l r => .n s l r :: (l.wi ++ r.wi)
theorem eqBs_rnil (ts : List Rd) : eqBs (ts.map Rd.pv) [] = ts.isEmpty := by cases ts <;> simp [eqBs]
theorem okEqs_rds {ts : List Rd} (h : ∀ t ∈ ts, t.lv + t.fd ≤ 190) : okEqs (ts.map Rd.pv) := by
  refine ⟨?_, ?_⟩
  · induction ts with
    | nil => rfl
    | cons a r ih => simp only [List.map_cons, nrfs, nrf_rd, ih fun t ht => h t (List.mem_cons_of_mem _ ht), Bool.and_self]
  · induction ts with
    | nil => simp [deps]
    | cons a r ih =>
      have h1 := ih fun t ht => h t (List.mem_cons_of_mem _ ht)
      have h2 := h a (by simp)
      have h3 := dep_rd a
      simp only [List.map_cons, deps]
      omega
theorem tn_empty (r : Rd) : r.tn.isNone = r.once.isEmpty := by
  obtain ⟨h1, h2⟩ := tn_once r
  cases e : r.tn with
  | none => rw [h2 e]; rfl
  | some t =>
    have := h1 t e
    cases e2 : r.once with
    | nil => rw [e2] at this; cases this
    | cons a b => rfl

/-- turns -/
def w_turns_45c8 (spturned : Den) : WS :=
  (wSeq (wSet 1 (wLst (wCons (wVar 0) wNil)))
  (wSeq (wSet 2 (wCall spturned (wCons (wVar 0) wNil)))
  (wSeq (wWhile (wTest (wBin cIsNot (wVar 2) (wC .non))) (wSeq (wDrop (wBM "list" mAppend (wVar 1) (wCons (wVar 2) wNil)))
  (wSet 2 (wCall spturned (wCons (wVar 2) wNil)))))
  (wRet (wVar 1)))))

set_option maxHeartbeats 1000000
/-! ### the turns, one behind the other -/
def Chn : List Rd → Prop
  | [] => False
  | [r] => r.tn = none
  | r :: t :: l => r.tn = some t ∧ Chn (t :: l)
theorem tn_ms {r t : Rd} (h : r.tn = some t) : t.ms < r.ms ∧ t.lv = r.lv ∧ t.fd = r.fd := once_ms ((tn_once r).1 t h)
theorem chn_ex : ∀ (n : Nat) (r : Rd), r.ms ≤ n → ∃ l, Chn (r :: l) ∧ l.length ≤ n
  | n, r, h => by
    cases e : r.tn with
    | none => exact ⟨[], e, Nat.zero_le _⟩
    | some t =>
      have := tn_ms e
      cases n with
      | zero => omega
      | succ n =>
        obtain ⟨l, h1, h2⟩ := chn_ex n t (by omega)
        exact ⟨t :: l, ⟨e, h1⟩, by simp; omega⟩
theorem chn_at : ∀ {done : List Rd} {t : Rd} {rest : List Rd}, Chn (done ++ t :: rest) → t.tn = rest.head?
  | [], t, [], h => h
  | [], t, u :: rest, h => h.1
  | [a], t, rest, h => chn_at (done := []) h.2
  | a :: b :: done, t, rest, h => chn_at (done := b :: done) h.2
theorem chn_mem : ∀ {l : List Rd} {r t : Rd}, Chn (r :: l) → t ∈ r :: l → t.lv = r.lv ∧ t.fd = r.fd
  | [], r, t, h, ht => by simp at ht; subst ht; exact ⟨rfl, rfl⟩
  | u :: l, r, t, h, ht => by
    rcases List.mem_cons.mp ht with rfl | z
    · exact ⟨rfl, rfl⟩
    · have := tn_ms h.1
      have := chn_mem h.2 z
      omega
theorem chn_last : ∀ {l : List Rd} {r : Rd}, Chn (r :: l) → ((r :: l).getLast (by simp)).tn = none
  | [], r, h => h
  | u :: l, r, h => by rw [List.getLast_cons (by simp)]; exact chn_last h.2
theorem chn_uniq : ∀ {l m : List Rd} {r : Rd}, Chn (r :: l) → Chn (r :: m) → l = m
  | [], [], _, _, _ => rfl
  | [], u :: m, r, h1, h2 => by have a : r.tn = none := h1; rw [h2.1] at a; cases a
  | u :: l, [], r, h1, h2 => by have a : r.tn = none := h2; rw [h1.1] at a; cases a
  | u :: l, v :: m, r, h1, h2 => by
    have e : u = v := by have := h1.1; rw [h2.1] at this; cases this; rfl
    subst e
    rw [chn_uniq h1.2 h2.2]
def TurnsD (sp : Den) (n : Nat) : Prop := ∀ (r : Rd) (l : List Rd), Chn (r :: l) → r.lv ≤ n → r.lv ≤ 100 → ∀ (S : Store) (E : EK) (Q : VC), (∀ (q : Nat) S', S.length ≤ q → S'[q]? = some (.lst ((r :: l).map Rd.pv)) → Ex [] S S' → Q (.ref q) S') → sp [r.pv] S E Q
theorem chn_len {l : List Rd} {r : Rd} (h : Chn (r :: l)) : l.length ≤ r.lv * r.lv := by
  obtain ⟨m, h1, h2⟩ := chn_ex r.ms r (Nat.le_refl _)
  rw [chn_uniq h h1]
  exact Nat.le_trans h2 (ms_lv r)
theorem turns_ok {spt : Den} {n : Nat} (ht : TnD spt n) : TurnsD (fnP 1 3 (w_turns_45c8 spt)) n := by
  intro r l hch hr h100 S E Q h
  refine ⟨rfl, ?_⟩
  unfold w_turns_45c8
  have hlen : l.length ≤ 10000 := Nat.le_trans (chn_len hch) (Nat.mul_le_mul h100 h100)
  refine seqI fun K hK => ?_
  dsimp!
  refine ⟨big (by decide), hK _ _ ?_⟩
  clear hK
  refine seqI fun K hK => ?_
  dsimp!
  refine ht r hr _ _ _ (hK _ _ ?_)
  clear hK
  refine seqI fun K hK => ?_
  refine whileI (fun m σ S1 => ∃ (done rest : List Rd), r :: l = done ++ rest ∧ m = rest.length ∧ done ≠ [] ∧ S1[S.length]? = some (.lst (done.map Rd.pv)) ∧ Ex [] S S1 ∧ σ = [some r.pv, some (.ref S.length), some (optP rest.head?)]) l.length ⟨[r], l, rfl, rfl, by simp, at_new _ _, Ex.new _ _ _, by rw [chn_at (done := []) hch]⟩ ?_
  rintro m σ S1 ⟨done, rest, e, rfl, hne, h1, hx, rfl⟩ T F hT hF
  simp only [wTest, wBin, wVar, wC, List.getElem?_cons_zero, List.getElem?_cons_succ, cIsNot_non, opt_non]
  cases rest with
  | nil =>
    dsimp! [List.head?_nil, Option.isNone_none]
    refine hF _ (hK _ _ ?_)
    rw [List.append_nil] at e
    subst e
    dsimp!
    exact h _ _ (Nat.le_refl _) h1 hx
  | cons t rest =>
    dsimp! [List.head?_cons, Option.isNone_some]
    refine hT _ fun N hN => ?_
    have hl : (r :: l).length = done.length + (rest.length + 1) := by rw [e]; simp
    simp only [List.length_cons] at hl
    dsimp! [wSeq, optP, h1, lst_at h1]
    refine ⟨by rw [List.length_map]; exact bigl (by omega), ?_⟩
    have tm : t ∈ r :: l := by rw [e]; simp
    refine ht t (by have := chn_mem hch tm; omega) _ _ _ ?_
    refine hN rest.length _ _ (by simp) ⟨done ++ [t], rest, by rw [e]; simp, rfl, by simp, ?_, hx.set (.inr (Nat.le_refl _)), ?_⟩
    · rw [at_set _ h1]; simp
    · rw [chn_at (done := done) (t := t) (rest := rest) (by rw [← e]; exact hch)]
/-! ### the same, by all that is in it -/
/-- law -/
def w_law_e1bc (sp_law_deck : Den) (sp_law_words : Den) (sp_law_next : Den) (sp_law_drawn_form : Den) (sp_law_chain : Den) (spturns : Den) (spis_plain : Den) (sp_law_turned_once : Den) : WS :=
  (wSeq (wSet 1 (wCall sp_law_deck (wCons (wVar 0) wNil)))
  (wSeq (wSet 2 (wCall sp_law_words (wCons (wVar 1) (wCons (wBin bAdd (wC (.int 2)) (wBin bMod (wCall sp_law_next (wCons (wVar 1) wNil)) (wC (.int 2)))) wNil))))
  (wSeq (wSet 3 (wCall sp_law_drawn_form (wCons (wVar 1) (wCons (wVar 2) wNil))))
  (wSeq (wSet 4 (wCall sp_law_chain (wCons (wVar 1) (wCons (wVar 2) (wCons (wVar 3) (wCons (wC (.int 0)) (wCons (wBin bAdd (wC (.int 1)) (wBin bMod (wCall sp_law_next (wCons (wVar 1) wNil)) (wC (.int 9)))) wNil)))))))
  (wSeq (wSet 5 (wBin bIx (wCall spturns (wCons (wVar 4) wNil)) (wNeg (wC (.int 1)))))
  (wSeq (wIfS (wTest (wBin cIsNot (wCall spis_plain (wCons (wVar 5) wNil)) (wC (.bl true))))
  (wRet (wC (.bl false)))
  wNext)
  (wSeq (wFor (wiRange (wCons (wC (.int 3)) wNil)) (wgName 6) (wSeq (wSet 7 (wVar 4))
  (wSeq (wSet 8 (wCall sp_law_turned_once (wCons (wVar 7) wNil)))
  (wSeq (wWhile (wTest (wBin cNe (wVar 8) (wLst wNil))) (wSeq (wSet 7 (wBin bIx (wVar 8) (wBin bMod (wCall sp_law_next (wCons (wVar 1) wNil)) (wCB fLen (wCons (wVar 8) wNil)))))
  (wSeq (wIfS (wTest (wBin cNe (wBin bIx (wCall spturns (wCons (wVar 7) wNil)) (wNeg (wC (.int 1)))) (wVar 5)))
  (wRet (wC (.bl false)))
  wNext)
  (wSet 8 (wCall sp_law_turned_once (wCons (wVar 7) wNil))))))
  (wIfS (wTest (wBin cNe (wVar 7) (wVar 5)))
  (wRet (wC (.bl false)))
  wNext)))))
  (wRet (wC (.bl true))))))))))

set_option maxHeartbeats 1000000
/-! ### the one plain reading -/
def Rd.ap (s : Sg) : Rd → Rd → Rd
  | .n .c u v, z => .n s u (Rd.ap s v z)
  | x, z => .n s x z
def Rd.pa (s : Sg) : Rd → Rd → Rd
  | x, .n .d y z => .n s (Rd.pa s x y) z
  | x, z => .n s x z
def Rd.nf : Rd → Rd
  | .w i f => .w i f
  | .n s l r => if s.ac = true then Rd.ap s l.nf r.nf else Rd.pa s l.nf r.nf
theorem ap_no {s : Sg} {x z : Rd} (h : x.isS .c = false) : Rd.ap s x z = .n s x z := by
  unfold Rd.ap
  split
  · cases h
  · rfl
theorem pa_no {s : Sg} {x z : Rd} (h : z.isS .d = false) : Rd.pa s x z = .n s x z := by
  unfold Rd.pa
  split
  · cases h
  · rfl
theorem ap_as (s : Sg) : ∀ (x y z : Rd), Rd.ap s (Rd.ap .c x y) z = Rd.ap s x (Rd.ap s y z) := by
  intro x
  induction x with
  | w i f => intro y z; rfl
  | n t u v ihu ihv =>
    intro y z
    by_cases ht : t = .c
    · subst ht
      simp only [Rd.ap]
      rw [ihv]
    · have h : (Rd.n t u v).isS .c = false := decide_eq_false ht
      rw [ap_no h, ap_no h]
      rfl
theorem pa_as (s : Sg) : ∀ (z x y : Rd), Rd.pa s x (Rd.pa .d y z) = Rd.pa s (Rd.pa s x y) z := by
  intro z
  induction z with
  | w i f => intro x y; rfl
  | n t u v ihu ihv =>
    intro x y
    by_cases ht : t = .d
    · subst ht
      simp only [Rd.pa]
      rw [ihu]
    · have h : (Rd.n t u v).isS .d = false := decide_eq_false ht
      rw [pa_no h, pa_no h]
      rfl
theorem nf_top {r t : Rd} (h : r.top = some t) : t.nf = r.nf := by
  unfold Rd.top at h
  split at h
  · cases h; simp only [Rd.nf, Sg.ac, if_true, ap_as]
  · cases h; simp only [Rd.nf, Sg.ac, if_true, ap_as]
  · cases h; simp only [Rd.nf, Sg.ac, Bool.false_eq_true, if_false, pa_as]
  · cases h; simp only [Rd.nf, Sg.ac, Bool.false_eq_true, if_false, pa_as]
  · cases h
theorem nf_once : ∀ {r t : Rd}, t ∈ r.once → t.nf = r.nf
  | .w _ _, t, h => by cases h
  | .n s l r, t, h => by
    unfold Rd.once at h
    simp only [List.mem_append, List.mem_map, Option.mem_toList] at h
    rcases h with (h | ⟨u, hu, rfl⟩) | ⟨u, hu, rfl⟩
    · exact nf_top h
    · simp only [Rd.nf, nf_once hu]
    · simp only [Rd.nf, nf_once hu]
theorem nf_plain : ∀ {r : Rd}, r.once = [] → r.nf = r
  | .w _ _, _ => rfl
  | .n s l r, h => by
    unfold Rd.once at h
    simp only [List.append_eq_nil_iff, List.map_eq_nil_iff] at h
    obtain ⟨⟨h1, h2⟩, h3⟩ := h
    have e : Rd.top (.n s l r) = none := by
      cases e : Rd.top (.n s l r) with
      | none => rfl
      | some t => rw [e] at h1; cases h1
    rw [Rd.nf, nf_plain h2, nf_plain h3]
    cases hs : s.ac with
    | true =>
      cases hl : l.isS .c with
      | false => simp only [if_true, ap_no hl]
      | true =>
        obtain ⟨x, y, rfl⟩ := isS_of hl
        rw [top_c hs] at e
        cases e
    | false =>
      cases hr : r.isS .d with
      | false => simp only [Bool.false_eq_true, if_false, pa_no hr]
      | true =>
        obtain ⟨x, y, rfl⟩ := isS_of hr
        rw [top_d hs] at e
        cases e
theorem chn_nf : ∀ {l : List Rd} {r : Rd}, Chn (r :: l) → (r :: l).getLast (by simp) = r.nf
  | [], r, h => by
    have : r.tn = none := h
    rw [nf_plain ((tn_once r).2 this)]; rfl
  | u :: l, r, h => by
    rw [List.getLast_cons (by simp), chn_nf h.2, nf_once ((tn_once r).1 u h.1)]
theorem atI_last {α : Type} (f : α → PV) (l : List α) (h : l ≠ []) : atI (l.map f) (-1) = some (f (l.getLast h)) := by
  have hp : 0 < l.length := List.length_pos_iff.mpr h
  unfold atI ixN
  rw [List.length_map, if_neg (by decide)]
  have e : (-1 + (l.length : Int)).toNat = l.length - 1 := by omega
  simp only [show -(l.length : Int) ≤ -1 by omega, if_true, e]
  have : l.length - 1 < l.length := by omega
  simp [this, List.getLast_eq_getElem]

section
open PySem L2 Ev PySem.Spec PyProof.Rows
def top (i : Nat) : Stmt := PySem.Challenge.pw_slashwise_k73_whole_any_turns.main.body.getD i (.Pass ⟨0, 0, 0, 0⟩)
abbrev s_law_deck : Stmt := top 6
theorem sc_law_deck : FnScope ["_law_script", "_law_cells", "_law_mixed"] ["_law_script"] (defScope s_law_deck) := ⟨rfl, rfl, rfl, by decide +kernel, rfl, by decide +kernel, by decide +kernel⟩
abbrev s_law_next : Stmt := top 7
theorem sc_law_next : FnScope ["_law_deck_here", "_law_cells", "_law_cell", "_law_number"] ["_law_deck_here"] (defScope s_law_next) := ⟨rfl, rfl, rfl, by decide +kernel, rfl, by decide +kernel, by decide +kernel⟩
abbrev s_law_spelled : Stmt := top 8
theorem sc_law_spelled : FnScope ["_law_number", "_law_size", "_law_word_here", "_law_k"] ["_law_number", "_law_size"] (defScope s_law_spelled) := ⟨rfl, rfl, rfl, by decide +kernel, rfl, by decide +kernel, by decide +kernel⟩
abbrev s_law_word : Stmt := top 9
theorem sc_law_word : FnScope ["_law_deck_here", "_law_words_here", "_law_way", "_law_number", "_law_size", "_law_word_here", "_law_at"] ["_law_deck_here", "_law_words_here"] (defScope s_law_word) := ⟨rfl, rfl, rfl, by decide +kernel, rfl, by decide +kernel, by decide +kernel⟩
abbrev s_law_words : Stmt := top 10
theorem sc_law_words : FnScope ["_law_deck_here", "_law_many", "_law_words_here", "_law_k"] ["_law_deck_here", "_law_many"] (defScope s_law_words) := ⟨rfl, rfl, rfl, by decide +kernel, rfl, by decide +kernel, by decide +kernel⟩
abbrev s_law_wide : Stmt := top 11
theorem sc_law_wide : FnScope ["_law_form"] ["_law_form"] (defScope s_law_wide) := ⟨rfl, rfl, rfl, by decide +kernel, rfl, by decide +kernel, by decide +kernel⟩
abbrev s_law_other : Stmt := top 12
theorem sc_law_other : FnScope ["_law_deck_here", "_law_basics", "_law_form", "_law_way", "_law_one"] ["_law_deck_here", "_law_basics", "_law_form"] (defScope s_law_other) := ⟨rfl, rfl, rfl, by decide +kernel, rfl, by decide +kernel, by decide +kernel⟩
abbrev s_law_drawn_form : Stmt := top 14
theorem sc_law_drawn_form : FnScope ["_law_deck_here", "_law_basics", "_law_one", "_law_other_here", "_law_way"] ["_law_deck_here", "_law_basics"] (defScope s_law_drawn_form) := ⟨rfl, rfl, rfl, by decide +kernel, rfl, by decide +kernel, by decide +kernel⟩
abbrev s_law_tree : Stmt := top 13
theorem sc_law_tree : FnScope ["_law_deck_here", "_law_basics", "_law_form", "_law_at", "_law_many", "_law_cut", "_law_way", "_law_other_here", "_law_sign", "_law_some", "_law_left"] ["_law_deck_here", "_law_basics", "_law_form", "_law_at", "_law_many"] (defScope s_law_tree) := ⟨rfl, rfl, rfl, by decide +kernel, rfl, by decide +kernel, by decide +kernel⟩
abbrev s_law_chain : Stmt := top 15
theorem sc_law_chain : FnScope ["_law_deck_here", "_law_basics", "_law_form", "_law_at", "_law_many", "_law_one", "_law_cut", "_law_sign", "_law_some", "_law_left"] ["_law_deck_here", "_law_basics", "_law_form", "_law_at", "_law_many"] (defScope s_law_chain) := ⟨rfl, rfl, rfl, by decide +kernel, rfl, by decide +kernel, by decide +kernel⟩
abbrev sturned_at_top : Stmt := top 1
theorem scturned_at_top : FnScope ["reading", "sign", "left", "right"] ["reading"] (defScope sturned_at_top) := ⟨rfl, rfl, rfl, by decide +kernel, rfl, by decide +kernel, by decide +kernel⟩
abbrev sturned : Stmt := top 2
theorem scturned : FnScope ["reading", "told", "sign", "left", "right"] ["reading"] (defScope sturned) := ⟨rfl, rfl, rfl, by decide +kernel, rfl, by decide +kernel, by decide +kernel⟩
abbrev sturns : Stmt := top 4
theorem scturns : FnScope ["reading", "told", "behind"] ["reading"] (defScope sturns) := ⟨rfl, rfl, rfl, by decide +kernel, rfl, by decide +kernel, by decide +kernel⟩
abbrev sis_plain : Stmt := top 3
theorem scis_plain : FnScope ["reading"] ["reading"] (defScope sis_plain) := ⟨rfl, rfl, rfl, by decide +kernel, rfl, by decide +kernel, by decide +kernel⟩
abbrev s_law_turned_once : Stmt := top 16
theorem sc_law_turned_once : FnScope ["_law_reading", "_law_sign", "_law_left", "_law_right", "_law_found"] ["_law_reading"] (defScope s_law_turned_once) := ⟨rfl, rfl, rfl, by decide +kernel, rfl, by decide +kernel, by decide +kernel⟩
abbrev slaw : Stmt := top 17
theorem sclaw : FnScope ["_law_script", "_law_deck_here", "_law_basics", "_law_form", "_law_reading", "_law_due", "_law_k", "_law_one", "_law_left"] ["_law_script"] (defScope slaw) := ⟨rfl, rfl, rfl, by decide +kernel, rfl, by decide +kernel, by decide +kernel⟩
theorem sim_law_deck {P : Program} {w : World} {K : PySem.W.Frag} {mg : Str → Option Value} {base : Heap} {f : Addr} {k : Nat} (z_sum : mg "sum" = none) {cdv : Value} {A : Around} {outer : List Env} {s : Shared} {H : Hp} {E : XK} (hr : Room k (A.deeper (envOfC "_law_deck" (defScope s_law_deck) s.heap.objs.size f cdv))) :
    SimSs (cxOf CX0 P w K mg base ["_law_script", "_law_cells", "_law_mixed"] "_law_deck" (defScope s_law_deck) f cdv A outer s H E).nox NoX (defBody s_law_deck) (w__law_deck_1929) := by
  have hu : (A.deeper (envOfC "_law_deck" (defScope s_law_deck) s.heap.objs.size f cdv)).units + 200 < cLine := by have := hr.un; omega
  unfold w__law_deck_1929
  exact (sims_cons (sim_set 1 sc_law_deck.nd (sim_bin ops_add (sim_slice (sim_var 0) simO_none (simO_some sim_int)) (sim_lst (simA_cons sim_int simA_nil))))
  (sims_cons (sim_set 2 sc_law_deck.nd (sim_cmp (ops_eq hu) (sim_bin ops_mod (sim_ix hu (sim_var 1) sim_int) sim_int) sim_int (nomark _)))
  (sims_cons (sim_asg (sim_bin ops_fdiv (sim_ix hu (sim_var 1) sim_int) sim_int) (simG_sub (sets hu) (sim_var 1) sim_int))
  (sims_one (sim_ret (sim_disp (simD_cons sim_str (sim_var 1) (simD_cons sim_str sim_int (simD_cons sim_str sim_int (simD_cons sim_str (sim_bin ops_add sim_int (sim_bin ops_mod (sim_callB (calls_sum rfl) z_sum L2.boot_sum (simA_cons (sim_var 1) simA_nil)) sim_int)) (simD_cons sim_str (sim_var 2) simD_nil)))))))))))
theorem sim_law_next {P : Program} {w : World} {K : PySem.W.Frag} {mg : Str → Option Value} {base : Heap} {f : Addr} {k : Nat} (z_len : mg "len" = none) {cdv : Value} {A : Around} {outer : List Env} {s : Shared} {H : Hp} {E : XK} (hr : Room k (A.deeper (envOfC "_law_next" (defScope s_law_next) s.heap.objs.size f cdv))) :
    SimSs (cxOf CX0 P w K mg base ["_law_deck_here", "_law_cells", "_law_cell", "_law_number"] "_law_next" (defScope s_law_next) f cdv A outer s H E).nox NoX (defBody s_law_next) (w__law_next_2686) := by
  have hu : (A.deeper (envOfC "_law_next" (defScope s_law_next) s.heap.objs.size f cdv)).units + 200 < cLine := by have := hr.un; omega
  unfold w__law_next_2686
  exact (sims_cons (sim_set 1 sc_law_next.nd (sim_ix hu (sim_var 0) sim_str))
  (sims_cons (sim_if (simT_tru (sim_ix hu (sim_var 0) sim_str)) (sims_cons (sim_asg (sim_bin ops_add (sim_ix hu (sim_var 0) sim_str) sim_int) (simG_sub (sets hu) (sim_var 0) sim_str))
  (sims_cons (sim_set 2 sc_law_next.nd (sim_ix hu (sim_var 1) (sim_bin ops_mod (sim_ix hu (sim_var 0) sim_str) (sim_callB calls_len z_len PySem.boot_len (simA_cons (sim_var 1) simA_nil)))))
  (sims_cons (sim_asg (sim_bin ops_mod (sim_bin ops_add (sim_bin ops_add (sim_bin ops_mul (sim_ix hu (sim_var 0) sim_str) sim_int) (sim_var 2)) (sim_ix hu (sim_var 0) sim_str)) sim_int) (simG_sub (sets hu) (sim_var 0) sim_str))
  (sims_cons (sim_set 3 sc_law_next.nd (sim_bin ops_mod (sim_bin ops_add (sim_bin ops_mul (sim_ix hu (sim_var 0) sim_str) (sim_ix hu (sim_var 0) sim_str)) (sim_bin ops_mul sim_int (sim_ix hu (sim_var 0) sim_str))) sim_int))
  (sims_one (sim_ret (sim_bin ops_mod (sim_bin ops_mul (sim_var 3) (sim_bin ops_add (sim_var 3) sim_int)) sim_int))))))) sims_nil)
  (sims_cons (sim_set 3 sc_law_next.nd (sim_bin ops_mod (sim_ix hu (sim_var 1) sim_int) (sim_bin ops_pow sim_int sim_int)))
  (sims_cons (sim_asg (sim_bin ops_fdiv (sim_ix hu (sim_var 1) sim_int) (sim_bin ops_pow sim_int sim_int)) (simG_sub (sets hu) (sim_var 1) sim_int))
  (sims_cons (sim_asg (sim_bin ops_sub (sim_ix hu (sim_var 0) sim_str) sim_int) (simG_sub (sets hu) (sim_var 0) sim_str))
  (sims_cons (sim_if (SimW.t (simW_and (simT_cmp (ops_eq hu) (sim_ix hu (sim_var 0) sim_str) sim_int (nomark _)) (simW_and1 (simT_cmp ops_gt (sim_callB calls_len z_len PySem.boot_len (simA_cons (sim_var 1) simA_nil)) sim_int (nomark _))))) (sims_cons (sim_expr (sim_bm PySem.F.plainAttrs_list PySem.F.slot_list_pop PySem.F.type_list_pop mts_popAt (sim_var 1) (simA_cons sim_int simA_nil)))
  (sims_one (sim_asg sim_int (simG_sub (sets hu) (sim_var 0) sim_str)))) sims_nil)
  (sims_one (sim_ret (sim_var 3)))))))))
theorem sim_law_spelled {P : Program} {w : World} {K : PySem.W.Frag} {mg : Str → Option Value} {base : Heap} {f : Addr} {k : Nat} (z_range : mg "range" = none) {cdv : Value} {A : Around} {outer : List Env} {s : Shared} {H : Hp} {E : XK} (hr : Room k (A.deeper (envOfC "_law_spelled" (defScope s_law_spelled) s.heap.objs.size f cdv))) :
    SimSs (cxOf CX0 P w K mg base ["_law_number", "_law_size", "_law_word_here", "_law_k"] "_law_spelled" (defScope s_law_spelled) f cdv A outer s H E).nox NoX (defBody s_law_spelled) (w__law_spelled_70ad) := by
  have hu : (A.deeper (envOfC "_law_spelled" (defScope s_law_spelled) s.heap.objs.size f cdv)).units + 200 < cLine := by have := hr.un; omega
  unfold w__law_spelled_70ad
  exact (sims_cons (sim_set 2 sc_law_spelled.nd sim_str)
  (sims_cons (sim_for PassesOwn.never rfl (simI_range z_range (simA_cons (sim_var 1) simA_nil)) (simG_name (i := 3) sc_law_spelled.nd) (sims_cons (sim_set 2 sc_law_spelled.nd (sim_bin ops_add (sim_var 2) (sim_ix hu sim_str (sim_bin ops_mod (sim_var 0) sim_int))))
  (sims_one (sim_set 0 sc_law_spelled.nd (sim_bin ops_fdiv (sim_var 0) sim_int)))))
  (sims_one (sim_ret (sim_var 2)))))
theorem sim_law_word {P : Program} {w : World} {K : PySem.W.Frag} {mg : Str → Option Value} {base : Heap} {f : Addr} {k : Nat} {sp_law_next : Den} {f_law_next : Addr} {fd_law_next : FuncData} {sp_law_spelled : Den} {f_law_spelled : Addr} {fd_law_spelled : FuncData} (z_len : mg "len" = none) (C_law_next : Cal P w K mg base k "_law_next" ["_law_deck_here"] (spLift K sp_law_next) f_law_next fd_law_next) (C_law_spelled : Cal P w K mg base k "_law_spelled" ["_law_number", "_law_size"] (spLift K sp_law_spelled) f_law_spelled fd_law_spelled) {cdv : Value} {A : Around} {outer : List Env} {s : Shared} {H : Hp} {E : XK} (hr : Room k (A.deeper (envOfC "_law_word" (defScope s_law_word) s.heap.objs.size f cdv))) :
    SimSs (cxOf CX0 P w K mg base ["_law_deck_here", "_law_words_here", "_law_way", "_law_number", "_law_size", "_law_word_here", "_law_at"] "_law_word" (defScope s_law_word) f cdv A outer s H E).nox NoX (defBody s_law_word) (w__law_word_e7ab sp_law_next sp_law_spelled) := by
  have hu : (A.deeper (envOfC "_law_word" (defScope s_law_word) s.heap.objs.size f cdv)).units + 200 < cLine := by have := hr.un; omega
  unfold w__law_word_e7ab
  exact (sims_cons (sim_set 2 sc_law_word.nd (sim_call C_law_next hr (simA_cons (sim_var 0) simA_nil)))
  (sims_cons (sim_set 3 sc_law_word.nd (sim_call C_law_next hr (simA_cons (sim_var 0) simA_nil)))
  (sims_cons (sim_set 4 sc_law_word.nd (sim_bin ops_add sim_int (sim_bin ops_mod (sim_var 2) sim_int)))
  (sims_cons (sim_set 5 sc_law_word.nd (sim_call C_law_spelled hr (simA_cons (sim_var 3) (simA_cons (sim_var 4) simA_nil))))
  (sims_cons (sim_if (SimW.t (simW_and (simT_cmp (ops_ne hu) (sim_var 1) (sim_lst simA_nil) (nomark _)) (simW_and1 (simT_cmp (ops_eq hu) (sim_bin ops_mod (sim_bin ops_fdiv (sim_var 2) sim_int) sim_int) sim_int (nomark _))))) (sims_cons (sim_set 6 sc_law_word.nd (sim_bin ops_mod (sim_bin ops_fdiv (sim_var 2) sim_int) (sim_callB calls_len z_len PySem.boot_len (simA_cons (sim_ix hu (sim_var 1) sim_int) simA_nil))))
  (sims_one (sim_set 5 sc_law_word.nd (sim_bin ops_add (sim_bin ops_add (sim_slice (sim_ix hu (sim_var 1) sim_int) simO_none (simO_some (sim_var 6))) (sim_ix hu (sim_var 5) sim_int)) (sim_slice (sim_ix hu (sim_var 1) sim_int) (simO_some (sim_bin ops_add (sim_var 6) sim_int)) simO_none))))) sims_nil)
  (sims_cons (sim_while PassesOwn.never (SimW.t (simW_or (simT_cmp (ops_in hu) (sim_var 5) (sim_var 1) (by with_unfolding_all rfl)) (simW_or1 (simT_cmp (ops_eq hu) (sim_var 5) sim_str (nomark _))))) (sims_cons (sim_set 3 sc_law_word.nd (sim_bin ops_add (sim_var 3) sim_int))
  (sims_cons (sim_set 4 sc_law_word.nd (sim_bin ops_add (sim_bin ops_mod (sim_var 4) sim_int) sim_int))
  (sims_one (sim_set 5 sc_law_word.nd (sim_call C_law_spelled hr (simA_cons (sim_var 3) (simA_cons (sim_var 4) simA_nil))))))))
  (sims_one (sim_ret (sim_var 5)))))))))
theorem sim_law_words {P : Program} {w : World} {K : PySem.W.Frag} {mg : Str → Option Value} {base : Heap} {f : Addr} {k : Nat} {sp_law_word : Den} {f_law_word : Addr} {fd_law_word : FuncData} (z_range : mg "range" = none) (C_law_word : Cal P w K mg base k "_law_word" ["_law_deck_here", "_law_words_here"] (spLift K sp_law_word) f_law_word fd_law_word) {cdv : Value} {A : Around} {outer : List Env} {s : Shared} {H : Hp} {E : XK} (hr : Room k (A.deeper (envOfC "_law_words" (defScope s_law_words) s.heap.objs.size f cdv))) :
    SimSs (cxOf CX0 P w K mg base ["_law_deck_here", "_law_many", "_law_words_here", "_law_k"] "_law_words" (defScope s_law_words) f cdv A outer s H E).nox NoX (defBody s_law_words) (w__law_words_3282 sp_law_word) := by
  have hu : (A.deeper (envOfC "_law_words" (defScope s_law_words) s.heap.objs.size f cdv)).units + 200 < cLine := by have := hr.un; omega
  unfold w__law_words_3282
  exact (sims_cons (sim_set 2 sc_law_words.nd (sim_lst simA_nil))
  (sims_cons (sim_for PassesOwn.never rfl (simI_range z_range (simA_cons (sim_var 1) simA_nil)) (simG_name (i := 3) sc_law_words.nd) (sims_one (sim_expr (sim_bm PySem.F.plainAttrs_list PySem.F.slot_list_append PySem.F.type_list_append mts_append (sim_var 2) (simA_cons (sim_call C_law_word hr (simA_cons (sim_var 0) (simA_cons (sim_var 2) simA_nil))) simA_nil)))))
  (sims_one (sim_ret (sim_var 2)))))
theorem sim_law_wide {P : Program} {w : World} {K : PySem.W.Frag} {mg : Str → Option Value} {base : Heap} {f : Addr} {k : Nat} {sp_law_wide : Den} {f_law_wide : Addr} {fd_law_wide : FuncData} (C_law_wide : Cal P w K mg base k "_law_wide" ["_law_form"] (spLift K sp_law_wide) f_law_wide fd_law_wide) {cdv : Value} {A : Around} {outer : List Env} {s : Shared} {H : Hp} {E : XK} (hr : Room k (A.deeper (envOfC "_law_wide" (defScope s_law_wide) s.heap.objs.size f cdv))) :
    SimSs (cxOf CX0 P w K mg base ["_law_form"] "_law_wide" (defScope s_law_wide) f cdv A outer s H E).nox NoX (defBody s_law_wide) (w__law_wide_d829 sp_law_wide) := by
  have hu : (A.deeper (envOfC "_law_wide" (defScope s_law_wide) s.heap.objs.size f cdv)).units + 200 < cLine := by have := hr.un; omega
  unfold w__law_wide_d829
  exact (sims_cons (sim_if (simT_cmp (ops_eq hu) (sim_ix hu (sim_var 0) sim_int) sim_str (nomark _)) (sims_one (sim_ret sim_int)) sims_nil)
  (sims_one (sim_ret (sim_bin ops_add (sim_call C_law_wide hr (simA_cons (sim_ix hu (sim_var 0) sim_int) simA_nil)) (sim_call C_law_wide hr (simA_cons (sim_ix hu (sim_var 0) sim_int) simA_nil))))))
theorem sim_law_other {P : Program} {w : World} {K : PySem.W.Frag} {mg : Str → Option Value} {base : Heap} {f : Addr} {k : Nat} {sp_law_next : Den} {f_law_next : Addr} {fd_law_next : FuncData} {sp_law_wide : Den} {f_law_wide : Addr} {fd_law_wide : FuncData} (z_len : mg "len" = none) (C_law_next : Cal P w K mg base k "_law_next" ["_law_deck_here"] (spLift K sp_law_next) f_law_next fd_law_next) (C_law_wide : Cal P w K mg base k "_law_wide" ["_law_form"] (spLift K sp_law_wide) f_law_wide fd_law_wide) {cdv : Value} {A : Around} {outer : List Env} {s : Shared} {H : Hp} {E : XK} (hr : Room k (A.deeper (envOfC "_law_other" (defScope s_law_other) s.heap.objs.size f cdv))) :
    SimSs (cxOf CX0 P w K mg base ["_law_deck_here", "_law_basics", "_law_form", "_law_way", "_law_one"] "_law_other" (defScope s_law_other) f cdv A outer s H E).nox NoX (defBody s_law_other) (w__law_other_a5e2 sp_law_next sp_law_wide) := by
  have hu : (A.deeper (envOfC "_law_other" (defScope s_law_other) s.heap.objs.size f cdv)).units + 200 < cLine := by have := hr.un; omega
  unfold w__law_other_a5e2
  exact (sims_cons (sim_set 3 sc_law_other.nd (sim_call C_law_next hr (simA_cons (sim_var 0) simA_nil)))
  (sims_cons (sim_set 4 sc_law_other.nd (sim_tup (simA_cons sim_str (simA_cons (sim_ix hu (sim_var 1) (sim_bin ops_mod (sim_var 3) (sim_callB calls_len z_len PySem.boot_len (simA_cons (sim_var 1) simA_nil)))) simA_nil))))
  (sims_cons (sim_if (SimW.t (simW_or (simT_cmp ops_gt (sim_bin ops_mod (sim_bin ops_fdiv (sim_var 3) sim_int) sim_int) sim_int (nomark _)) (simW_or1 (simT_cmp ops_gt (sim_call C_law_wide hr (simA_cons (sim_var 2) simA_nil)) sim_int (nomark _))))) (sims_one (sim_ret (sim_var 4))) sims_nil)
  (sims_one (sim_ret (sim_tup (simA_cons (sim_ix hu (sim_lst (simA_cons sim_str (simA_cons sim_str simA_nil))) (sim_bin ops_mod (sim_bin ops_fdiv (sim_var 3) sim_int) sim_int)) (simA_cons (sim_var 4) (simA_cons (sim_tup (simA_cons sim_str (simA_cons (sim_ix hu (sim_var 1) (sim_bin ops_mod (sim_bin ops_fdiv (sim_var 3) sim_int) (sim_callB calls_len z_len PySem.boot_len (simA_cons (sim_var 1) simA_nil)))) simA_nil))) simA_nil)))))))))
theorem sim_law_drawn_form {P : Program} {w : World} {K : PySem.W.Frag} {mg : Str → Option Value} {base : Heap} {f : Addr} {k : Nat} {sp_law_next : Den} {f_law_next : Addr} {fd_law_next : FuncData} {sp_law_other : Den} {f_law_other : Addr} {fd_law_other : FuncData} (z_len : mg "len" = none) (C_law_next : Cal P w K mg base k "_law_next" ["_law_deck_here"] (spLift K sp_law_next) f_law_next fd_law_next) (C_law_other : Cal P w K mg base k "_law_other" ["_law_deck_here", "_law_basics", "_law_form"] (spLift K sp_law_other) f_law_other fd_law_other) {cdv : Value} {A : Around} {outer : List Env} {s : Shared} {H : Hp} {E : XK} (hr : Room k (A.deeper (envOfC "_law_drawn_form" (defScope s_law_drawn_form) s.heap.objs.size f cdv))) :
    SimSs (cxOf CX0 P w K mg base ["_law_deck_here", "_law_basics", "_law_one", "_law_other_here", "_law_way"] "_law_drawn_form" (defScope s_law_drawn_form) f cdv A outer s H E).nox NoX (defBody s_law_drawn_form) (w__law_drawn_form_6081 sp_law_next sp_law_other) := by
  have hu : (A.deeper (envOfC "_law_drawn_form" (defScope s_law_drawn_form) s.heap.objs.size f cdv)).units + 200 < cLine := by have := hr.un; omega
  unfold w__law_drawn_form_6081
  exact (sims_cons (sim_set 2 sc_law_drawn_form.nd (sim_tup (simA_cons sim_str (simA_cons (sim_ix hu (sim_var 1) (sim_bin ops_mod (sim_call C_law_next hr (simA_cons (sim_var 0) simA_nil)) (sim_callB calls_len z_len PySem.boot_len (simA_cons (sim_var 1) simA_nil)))) simA_nil))))
  (sims_cons (sim_set 3 sc_law_drawn_form.nd (sim_call C_law_other hr (simA_cons (sim_var 0) (simA_cons (sim_var 1) (simA_cons (sim_var 2) simA_nil)))))
  (sims_cons (sim_set 4 sc_law_drawn_form.nd (sim_bin ops_mod (sim_call C_law_next hr (simA_cons (sim_var 0) simA_nil)) sim_int))
  (sims_cons (sim_if (simT_cmp ops_lt (sim_var 4) sim_int (nomark _)) (sims_one (sim_ret (sim_var 2))) sims_nil)
  (sims_one (sim_ret (sim_tup (simA_cons (sim_ix hu (sim_lst (simA_cons sim_str (simA_cons sim_str simA_nil))) (sim_bin ops_mod (sim_var 4) sim_int)) (simA_cons (sim_var 2) (simA_cons (sim_var 3) simA_nil))))))))))
theorem sim_law_tree {P : Program} {w : World} {K : PySem.W.Frag} {mg : Str → Option Value} {base : Heap} {f : Addr} {k : Nat} {sp_law_next : Den} {f_law_next : Addr} {fd_law_next : FuncData} {sp_law_other : Den} {f_law_other : Addr} {fd_law_other : FuncData} {sp_law_wide : Den} {f_law_wide : Addr} {fd_law_wide : FuncData} {sp_law_tree : Den} {f_law_tree : Addr} {fd_law_tree : FuncData} (C_law_next : Cal P w K mg base k "_law_next" ["_law_deck_here"] (spLift K sp_law_next) f_law_next fd_law_next) (C_law_other : Cal P w K mg base k "_law_other" ["_law_deck_here", "_law_basics", "_law_form"] (spLift K sp_law_other) f_law_other fd_law_other) (C_law_wide : Cal P w K mg base k "_law_wide" ["_law_form"] (spLift K sp_law_wide) f_law_wide fd_law_wide) (C_law_tree : Cal P w K mg base k "_law_tree" ["_law_deck_here", "_law_basics", "_law_form", "_law_at", "_law_many"] (spLift K sp_law_tree) f_law_tree fd_law_tree) {cdv : Value} {A : Around} {outer : List Env} {s : Shared} {H : Hp} {E : XK} (hr : Room k (A.deeper (envOfC "_law_tree" (defScope s_law_tree) s.heap.objs.size f cdv))) :
    SimSs (cxOf CX0 P w K mg base ["_law_deck_here", "_law_basics", "_law_form", "_law_at", "_law_many", "_law_cut", "_law_way", "_law_other_here", "_law_sign", "_law_some", "_law_left"] "_law_tree" (defScope s_law_tree) f cdv A outer s H E).nox NoX (defBody s_law_tree) (w__law_tree_6b41 sp_law_next sp_law_other sp_law_wide sp_law_tree) := by
  have hu : (A.deeper (envOfC "_law_tree" (defScope s_law_tree) s.heap.objs.size f cdv)).units + 200 < cLine := by have := hr.un; omega
  unfold w__law_tree_6b41
  exact (sims_cons (sim_if (simT_cmp ops_lt (sim_var 4) sim_int (nomark _)) (sims_one (sim_ret (sim_tup (simA_cons sim_str (simA_cons (sim_var 3) (simA_cons (sim_var 2) simA_nil)))))) sims_nil)
  (sims_cons (sim_set 5 sc_law_tree.nd (sim_bin ops_add sim_int (sim_bin ops_mod (sim_call C_law_next hr (simA_cons (sim_var 0) simA_nil)) (sim_bin ops_sub (sim_var 4) sim_int))))
  (sims_cons (sim_set 6 sc_law_tree.nd (sim_call C_law_next hr (simA_cons (sim_var 0) simA_nil)))
  (sims_cons (sim_set 7 sc_law_tree.nd (sim_call C_law_other hr (simA_cons (sim_var 0) (simA_cons (sim_var 1) (simA_cons (sim_var 2) simA_nil)))))
  (sims_cons (sim_set 8 sc_law_tree.nd sim_str)
  (sims_cons (sim_set 9 sc_law_tree.nd (sim_tup (simA_cons (sim_tup (simA_cons sim_str (simA_cons (sim_var 2) (simA_cons (sim_var 7) simA_nil)))) (simA_cons (sim_var 7) simA_nil))))
  (sims_cons (sim_if (simT_cmp (ops_eq hu) (sim_bin ops_mod (sim_var 6) sim_int) sim_int (nomark _)) (sims_cons (sim_set 8 sc_law_tree.nd sim_str)
  (sims_one (sim_set 9 sc_law_tree.nd (sim_tup (simA_cons (sim_var 7) (simA_cons (sim_tup (simA_cons sim_str (simA_cons (sim_var 2) (simA_cons (sim_var 7) simA_nil)))) simA_nil)))))) sims_nil)
  (sims_cons (sim_if (SimW.t (simW_and (simT_cmp (ops_eq hu) (sim_ix hu (sim_var 2) sim_int) sim_str (nomark _)) (simW_and1 (SimW.t (simW_or (simT_cmp ops_gt (sim_bin ops_mod (sim_var 6) sim_int) sim_int (nomark _)) (simW_or1 (simT_cmp ops_gt (sim_call C_law_wide hr (simA_cons (sim_var 2) simA_nil)) sim_int (nomark _)))))))) (sims_cons (sim_set 8 sc_law_tree.nd sim_str)
  (sims_one (sim_set 9 sc_law_tree.nd (sim_tup (simA_cons (sim_tup (simA_cons sim_str (simA_cons (sim_ix hu (sim_var 2) sim_int) (simA_cons (sim_var 7) simA_nil)))) (simA_cons (sim_tup (simA_cons sim_str (simA_cons (sim_var 7) (simA_cons (sim_ix hu (sim_var 2) sim_int) simA_nil)))) simA_nil)))))) sims_nil)
  (sims_cons (sim_if (SimW.t (simW_and (simT_cmp (ops_eq hu) (sim_ix hu (sim_var 2) sim_int) sim_str (nomark _)) (simW_and1 (SimW.t (simW_or (simT_cmp ops_gt (sim_bin ops_mod (sim_var 6) sim_int) sim_int (nomark _)) (simW_or1 (simT_cmp ops_gt (sim_call C_law_wide hr (simA_cons (sim_var 2) simA_nil)) sim_int (nomark _)))))))) (sims_cons (sim_set 8 sc_law_tree.nd sim_str)
  (sims_one (sim_set 9 sc_law_tree.nd (sim_tup (simA_cons (sim_tup (simA_cons sim_str (simA_cons (sim_var 7) (simA_cons (sim_ix hu (sim_var 2) sim_int) simA_nil)))) (simA_cons (sim_tup (simA_cons sim_str (simA_cons (sim_ix hu (sim_var 2) sim_int) (simA_cons (sim_var 7) simA_nil)))) simA_nil)))))) sims_nil)
  (sims_cons (sim_set 10 sc_law_tree.nd (sim_call C_law_tree hr (simA_cons (sim_var 0) (simA_cons (sim_var 1) (simA_cons (sim_ix hu (sim_var 9) sim_int) (simA_cons (sim_var 3) (simA_cons (sim_var 5) simA_nil)))))))
  (sims_one (sim_ret (sim_tup (simA_cons (sim_var 8) (simA_cons (sim_var 10) (simA_cons (sim_call C_law_tree hr (simA_cons (sim_var 0) (simA_cons (sim_var 1) (simA_cons (sim_ix hu (sim_var 9) sim_int) (simA_cons (sim_bin ops_add (sim_var 3) (sim_var 5)) (simA_cons (sim_bin ops_sub (sim_var 4) (sim_var 5)) simA_nil)))))) simA_nil))))))))))))))))
theorem sim_law_chain {P : Program} {w : World} {K : PySem.W.Frag} {mg : Str → Option Value} {base : Heap} {f : Addr} {k : Nat} {sp_law_next : Den} {f_law_next : Addr} {fd_law_next : FuncData} {sp_law_tree : Den} {f_law_tree : Addr} {fd_law_tree : FuncData} {sp_law_chain : Den} {f_law_chain : Addr} {fd_law_chain : FuncData} (z_len : mg "len" = none) (C_law_next : Cal P w K mg base k "_law_next" ["_law_deck_here"] (spLift K sp_law_next) f_law_next fd_law_next) (C_law_tree : Cal P w K mg base k "_law_tree" ["_law_deck_here", "_law_basics", "_law_form", "_law_at", "_law_many"] (spLift K sp_law_tree) f_law_tree fd_law_tree) (C_law_chain : Cal P w K mg base k "_law_chain" ["_law_deck_here", "_law_basics", "_law_form", "_law_at", "_law_many"] (spLift K sp_law_chain) f_law_chain fd_law_chain) {cdv : Value} {A : Around} {outer : List Env} {s : Shared} {H : Hp} {E : XK} (hr : Room k (A.deeper (envOfC "_law_chain" (defScope s_law_chain) s.heap.objs.size f cdv))) :
    SimSs (cxOf CX0 P w K mg base ["_law_deck_here", "_law_basics", "_law_form", "_law_at", "_law_many", "_law_one", "_law_cut", "_law_sign", "_law_some", "_law_left"] "_law_chain" (defScope s_law_chain) f cdv A outer s H E).nox NoX (defBody s_law_chain) (w__law_chain_5eaf sp_law_next sp_law_tree sp_law_chain) := by
  have hu : (A.deeper (envOfC "_law_chain" (defScope s_law_chain) s.heap.objs.size f cdv)).units + 200 < cLine := by have := hr.un; omega
  unfold w__law_chain_5eaf
  exact (sims_cons (sim_if (SimW.t (simW_or (simT_cmp ops_lt (sim_var 4) sim_int (nomark _)) (simW_or (simT_cmp (ops_eq hu) (sim_ix hu (sim_var 2) sim_int) sim_str (nomark _)) (simW_or1 (simT_cmp (ops_eq hu) (sim_bin ops_mod (sim_call C_law_next hr (simA_cons (sim_var 0) simA_nil)) sim_int) sim_int (nomark _)))))) (sims_one (sim_ret (sim_call C_law_tree hr (simA_cons (sim_var 0) (simA_cons (sim_var 1) (simA_cons (sim_var 2) (simA_cons (sim_var 3) (simA_cons (sim_var 4) simA_nil)))))))) sims_nil)
  (sims_cons (sim_set 5 sc_law_chain.nd (sim_tup (simA_cons sim_str (simA_cons (sim_ix hu (sim_var 1) (sim_bin ops_mod (sim_call C_law_next hr (simA_cons (sim_var 0) simA_nil)) (sim_callB calls_len z_len PySem.boot_len (simA_cons (sim_var 1) simA_nil)))) simA_nil))))
  (sims_cons (sim_set 6 sc_law_chain.nd (sim_bin ops_add sim_int (sim_bin ops_mod (sim_call C_law_next hr (simA_cons (sim_var 0) simA_nil)) (sim_bin ops_sub (sim_var 4) sim_int))))
  (sims_cons (sim_set 7 sc_law_chain.nd sim_str)
  (sims_cons (sim_set 8 sc_law_chain.nd (sim_tup (simA_cons (sim_tup (simA_cons sim_str (simA_cons (sim_ix hu (sim_var 2) sim_int) (simA_cons (sim_var 5) simA_nil)))) (simA_cons (sim_tup (simA_cons sim_str (simA_cons (sim_var 5) (simA_cons (sim_ix hu (sim_var 2) sim_int) simA_nil)))) simA_nil))))
  (sims_cons (sim_if (simT_cmp (ops_eq hu) (sim_ix hu (sim_var 2) sim_int) sim_str (nomark _)) (sims_cons (sim_set 7 sc_law_chain.nd sim_str)
  (sims_one (sim_set 8 sc_law_chain.nd (sim_tup (simA_cons (sim_tup (simA_cons sim_str (simA_cons (sim_var 5) (simA_cons (sim_ix hu (sim_var 2) sim_int) simA_nil)))) (simA_cons (sim_tup (simA_cons sim_str (simA_cons (sim_ix hu (sim_var 2) sim_int) (simA_cons (sim_var 5) simA_nil)))) simA_nil)))))) sims_nil)
  (sims_cons (sim_set 9 sc_law_chain.nd (sim_call C_law_chain hr (simA_cons (sim_var 0) (simA_cons (sim_var 1) (simA_cons (sim_ix hu (sim_var 8) sim_int) (simA_cons (sim_var 3) (simA_cons (sim_var 6) simA_nil)))))))
  (sims_one (sim_ret (sim_tup (simA_cons (sim_var 7) (simA_cons (sim_var 9) (simA_cons (sim_call C_law_chain hr (simA_cons (sim_var 0) (simA_cons (sim_var 1) (simA_cons (sim_ix hu (sim_var 8) sim_int) (simA_cons (sim_bin ops_add (sim_var 3) (sim_var 6)) (simA_cons (sim_bin ops_sub (sim_var 4) (sim_var 6)) simA_nil)))))) simA_nil)))))))))))))
theorem simturned_at_top {P : Program} {w : World} {K : PySem.W.Frag} {mg : Str → Option Value} {base : Heap} {f : Addr} {k : Nat} {cdv : Value} {A : Around} {outer : List Env} {s : Shared} {H : Hp} {E : XK} (hr : Room k (A.deeper (envOfC "turned_at_top" (defScope sturned_at_top) s.heap.objs.size f cdv))) :
    SimSs (cxOf CX0 P w K mg base ["reading", "sign", "left", "right"] "turned_at_top" (defScope sturned_at_top) f cdv A outer s H E).nox NoX (defBody sturned_at_top) (w_turned_at_top_0eb4) := by
  have hu : (A.deeper (envOfC "turned_at_top" (defScope sturned_at_top) s.heap.objs.size f cdv)).units + 200 < cLine := by have := hr.un; omega
  unfold w_turned_at_top_0eb4
  exact (sims_cons (sim_if (simT_cmp (ops_eq hu) (sim_ix hu (sim_var 0) sim_int) sim_str (nomark _)) (sims_one (sim_ret sim_non)) sims_nil)
  (sims_cons (sim_asg (sim_var 0) (simG_tup 3 rfl (simGs_cons (simG_name (i := 1) scturned_at_top.nd) (simGs_cons (simG_name (i := 2) scturned_at_top.nd) (simGs_cons (simG_name (i := 3) scturned_at_top.nd) simGs_nil)))))
  (sims_cons (sim_if (SimW.t (simW_and (simT_cmp (ops_in hu) (sim_var 1) (sim_tup (simA_cons sim_str (simA_cons sim_str simA_nil))) (by with_unfolding_all rfl)) (simW_and1 (simT_cmp (ops_eq hu) (sim_ix hu (sim_var 2) sim_int) sim_str (nomark _))))) (sims_one (sim_ret (sim_tup (simA_cons (sim_var 1) (simA_cons (sim_ix hu (sim_var 2) sim_int) (simA_cons (sim_tup (simA_cons (sim_var 1) (simA_cons (sim_ix hu (sim_var 2) sim_int) (simA_cons (sim_var 3) simA_nil)))) simA_nil)))))) sims_nil)
  (sims_cons (sim_if (SimW.t (simW_and (simT_cmp (ops_in hu) (sim_var 1) (sim_tup (simA_cons sim_str (simA_cons sim_str simA_nil))) (by with_unfolding_all rfl)) (simW_and1 (simT_cmp (ops_eq hu) (sim_ix hu (sim_var 3) sim_int) sim_str (nomark _))))) (sims_one (sim_ret (sim_tup (simA_cons (sim_var 1) (simA_cons (sim_tup (simA_cons (sim_var 1) (simA_cons (sim_var 2) (simA_cons (sim_ix hu (sim_var 3) sim_int) simA_nil)))) (simA_cons (sim_ix hu (sim_var 3) sim_int) simA_nil)))))) sims_nil)
  (sims_one (sim_ret sim_non))))))
theorem simturned {P : Program} {w : World} {K : PySem.W.Frag} {mg : Str → Option Value} {base : Heap} {f : Addr} {k : Nat} {spturned_at_top : Den} {fturned_at_top : Addr} {fdturned_at_top : FuncData} {spturned : Den} {fturned : Addr} {fdturned : FuncData} (Cturned_at_top : Cal P w K mg base k "turned_at_top" ["reading"] (spLift K spturned_at_top) fturned_at_top fdturned_at_top) (Cturned : Cal P w K mg base k "turned" ["reading"] (spLift K spturned) fturned fdturned) {cdv : Value} {A : Around} {outer : List Env} {s : Shared} {H : Hp} {E : XK} (hr : Room k (A.deeper (envOfC "turned" (defScope sturned) s.heap.objs.size f cdv))) :
    SimSs (cxOf CX0 P w K mg base ["reading", "told", "sign", "left", "right"] "turned" (defScope sturned) f cdv A outer s H E).nox NoX (defBody sturned) (w_turned_b602 spturned_at_top spturned) := by
  have hu : (A.deeper (envOfC "turned" (defScope sturned) s.heap.objs.size f cdv)).units + 200 < cLine := by have := hr.un; omega
  unfold w_turned_b602
  exact (sims_cons (sim_set 1 scturned.nd (sim_call Cturned_at_top hr (simA_cons (sim_var 0) simA_nil)))
  (sims_cons (sim_if (SimW.t (simW_or (simT_cmp ops_isNot (sim_var 1) sim_non (nomark _)) (simW_or1 (simT_cmp (ops_eq hu) (sim_ix hu (sim_var 0) sim_int) sim_str (nomark _))))) (sims_one (sim_ret (sim_var 1))) sims_nil)
  (sims_cons (sim_asg (sim_var 0) (simG_tup 3 rfl (simGs_cons (simG_name (i := 2) scturned.nd) (simGs_cons (simG_name (i := 3) scturned.nd) (simGs_cons (simG_name (i := 4) scturned.nd) simGs_nil)))))
  (sims_cons (sim_set 1 scturned.nd (sim_call Cturned hr (simA_cons (sim_var 3) simA_nil)))
  (sims_cons (sim_if (simT_cmp ops_isNot (sim_var 1) sim_non (nomark _)) (sims_one (sim_ret (sim_tup (simA_cons (sim_var 2) (simA_cons (sim_var 1) (simA_cons (sim_var 4) simA_nil)))))) sims_nil)
  (sims_cons (sim_set 1 scturned.nd (sim_call Cturned hr (simA_cons (sim_var 4) simA_nil)))
  (sims_cons (sim_if (simT_cmp ops_isNot (sim_var 1) sim_non (nomark _)) (sims_one (sim_ret (sim_tup (simA_cons (sim_var 2) (simA_cons (sim_var 3) (simA_cons (sim_var 1) simA_nil)))))) sims_nil)
  (sims_one (sim_ret sim_non)))))))))
theorem simturns {P : Program} {w : World} {K : PySem.W.Frag} {mg : Str → Option Value} {base : Heap} {f : Addr} {k : Nat} {spturned : Den} {fturned : Addr} {fdturned : FuncData} (Cturned : Cal P w K mg base k "turned" ["reading"] (spLift K spturned) fturned fdturned) {cdv : Value} {A : Around} {outer : List Env} {s : Shared} {H : Hp} {E : XK} (hr : Room k (A.deeper (envOfC "turns" (defScope sturns) s.heap.objs.size f cdv))) :
    SimSs (cxOf CX0 P w K mg base ["reading", "told", "behind"] "turns" (defScope sturns) f cdv A outer s H E).nox NoX (defBody sturns) (w_turns_45c8 spturned) := by
  have hu : (A.deeper (envOfC "turns" (defScope sturns) s.heap.objs.size f cdv)).units + 200 < cLine := by have := hr.un; omega
  unfold w_turns_45c8
  exact (sims_cons (sim_set 1 scturns.nd (sim_lst (simA_cons (sim_var 0) simA_nil)))
  (sims_cons (sim_set 2 scturns.nd (sim_call Cturned hr (simA_cons (sim_var 0) simA_nil)))
  (sims_cons (sim_while PassesOwn.never (simT_cmp ops_isNot (sim_var 2) sim_non (nomark _)) (sims_cons (sim_expr (sim_bm PySem.F.plainAttrs_list PySem.F.slot_list_append PySem.F.type_list_append mts_append (sim_var 1) (simA_cons (sim_var 2) simA_nil)))
  (sims_one (sim_set 2 scturns.nd (sim_call Cturned hr (simA_cons (sim_var 2) simA_nil))))))
  (sims_one (sim_ret (sim_var 1))))))
theorem simis_plain {P : Program} {w : World} {K : PySem.W.Frag} {mg : Str → Option Value} {base : Heap} {f : Addr} {k : Nat} {spturned : Den} {fturned : Addr} {fdturned : FuncData} (Cturned : Cal P w K mg base k "turned" ["reading"] (spLift K spturned) fturned fdturned) {cdv : Value} {A : Around} {outer : List Env} {s : Shared} {H : Hp} {E : XK} (hr : Room k (A.deeper (envOfC "is_plain" (defScope sis_plain) s.heap.objs.size f cdv))) :
    SimSs (cxOf CX0 P w K mg base ["reading"] "is_plain" (defScope sis_plain) f cdv A outer s H E).nox NoX (defBody sis_plain) (w_is_plain_f095 spturned) := by
  have hu : (A.deeper (envOfC "is_plain" (defScope sis_plain) s.heap.objs.size f cdv)).units + 200 < cLine := by have := hr.un; omega
  unfold w_is_plain_f095
  exact (sims_one (sim_ret (sim_cmp ops_is (sim_call Cturned hr (simA_cons (sim_var 0) simA_nil)) sim_non (nomark _))))
theorem sim_law_turned_once {P : Program} {w : World} {K : PySem.W.Frag} {mg : Str → Option Value} {base : Heap} {f : Addr} {k : Nat} {sp_law_turned_once : Den} {f_law_turned_once : Addr} {fd_law_turned_once : FuncData} (C_law_turned_once : Cal P w K mg base k "_law_turned_once" ["_law_reading"] (spLift K sp_law_turned_once) f_law_turned_once fd_law_turned_once) {cdv : Value} {A : Around} {outer : List Env} {s : Shared} {H : Hp} {E : XK} (hr : Room k (A.deeper (envOfC "_law_turned_once" (defScope s_law_turned_once) s.heap.objs.size f cdv))) :
    SimSs (cxOf CX0 P w K mg base ["_law_reading", "_law_sign", "_law_left", "_law_right", "_law_found"] "_law_turned_once" (defScope s_law_turned_once) f cdv A outer s H E).nox NoX (defBody s_law_turned_once) (w__law_turned_once_36d4 sp_law_turned_once) := by
  have hu : (A.deeper (envOfC "_law_turned_once" (defScope s_law_turned_once) s.heap.objs.size f cdv)).units + 200 < cLine := by have := hr.un; omega
  unfold w__law_turned_once_36d4
  exact (sims_cons (sim_if (simT_cmp (ops_eq hu) (sim_ix hu (sim_var 0) sim_int) sim_str (nomark _)) (sims_one (sim_ret (sim_lst simA_nil))) sims_nil)
  (sims_cons (sim_asg (sim_var 0) (simG_tup 3 rfl (simGs_cons (simG_name (i := 1) sc_law_turned_once.nd) (simGs_cons (simG_name (i := 2) sc_law_turned_once.nd) (simGs_cons (simG_name (i := 3) sc_law_turned_once.nd) simGs_nil)))))
  (sims_cons (sim_set 4 sc_law_turned_once.nd (sim_lst simA_nil))
  (sims_cons (sim_if (SimW.t (simW_and (simT_cmp (ops_in hu) (sim_var 1) (sim_tup (simA_cons sim_str (simA_cons sim_str simA_nil))) (by with_unfolding_all rfl)) (simW_and1 (simT_cmp (ops_eq hu) (sim_ix hu (sim_var 2) sim_int) sim_str (nomark _))))) (sims_one (sim_expr (sim_bm PySem.F.plainAttrs_list PySem.F.slot_list_append PySem.F.type_list_append mts_append (sim_var 4) (simA_cons (sim_tup (simA_cons (sim_var 1) (simA_cons (sim_ix hu (sim_var 2) sim_int) (simA_cons (sim_tup (simA_cons (sim_var 1) (simA_cons (sim_ix hu (sim_var 2) sim_int) (simA_cons (sim_var 3) simA_nil)))) simA_nil)))) simA_nil)))) sims_nil)
  (sims_cons (sim_if (SimW.t (simW_and (simT_cmp (ops_in hu) (sim_var 1) (sim_tup (simA_cons sim_str (simA_cons sim_str simA_nil))) (by with_unfolding_all rfl)) (simW_and1 (simT_cmp (ops_eq hu) (sim_ix hu (sim_var 3) sim_int) sim_str (nomark _))))) (sims_one (sim_expr (sim_bm PySem.F.plainAttrs_list PySem.F.slot_list_append PySem.F.type_list_append mts_append (sim_var 4) (simA_cons (sim_tup (simA_cons (sim_var 1) (simA_cons (sim_tup (simA_cons (sim_var 1) (simA_cons (sim_var 2) (simA_cons (sim_ix hu (sim_var 3) sim_int) simA_nil)))) (simA_cons (sim_ix hu (sim_var 3) sim_int) simA_nil)))) simA_nil)))) sims_nil)
  (sims_cons (sim_set 4 sc_law_turned_once.nd (sim_bin ops_add (sim_var 4) (sim_comp ["_law_one", "_law_sign", "_law_right"] [none, some 1, some 3] rfl (compOk rfl (by decide +kernel) (by decide +kernel) rfl ⟨⟨rfl, rfl, by first | exact Or.inl rfl | exact Or.inr rfl⟩, ⟨⟨rfl, rfl, by first | exact Or.inl rfl | exact Or.inr rfl⟩, trivial⟩⟩) (simI_any (sim_call C_law_turned_once hr (simA_cons (sim_var 2) simA_nil))) (fun _ _ _ _ _ => (simG_name (i := 0) (show (["_law_one", "_law_sign", "_law_right"] : List Str).Nodup by decide +kernel))) (fun _ _ _ _ _ => (sim_tup (simA_cons (sim_var 1) (simA_cons (sim_var 0) (simA_cons (sim_var 2) simA_nil))))))))
  (sims_one (sim_ret (sim_bin ops_add (sim_var 4) (sim_comp ["_law_one", "_law_sign", "_law_left"] [none, some 1, some 2] rfl (compOk rfl (by decide +kernel) (by decide +kernel) rfl ⟨⟨rfl, rfl, by first | exact Or.inl rfl | exact Or.inr rfl⟩, ⟨⟨rfl, rfl, by first | exact Or.inl rfl | exact Or.inr rfl⟩, trivial⟩⟩) (simI_any (sim_call C_law_turned_once hr (simA_cons (sim_var 3) simA_nil))) (fun _ _ _ _ _ => (simG_name (i := 0) (show (["_law_one", "_law_sign", "_law_left"] : List Str).Nodup by decide +kernel))) (fun _ _ _ _ _ => (sim_tup (simA_cons (sim_var 1) (simA_cons (sim_var 2) (simA_cons (sim_var 0) simA_nil)))))))))))))))
theorem simlaw {P : Program} {w : World} {K : PySem.W.Frag} {mg : Str → Option Value} {base : Heap} {f : Addr} {k : Nat} {sp_law_deck : Den} {f_law_deck : Addr} {fd_law_deck : FuncData} {sp_law_words : Den} {f_law_words : Addr} {fd_law_words : FuncData} {sp_law_next : Den} {f_law_next : Addr} {fd_law_next : FuncData} {sp_law_drawn_form : Den} {f_law_drawn_form : Addr} {fd_law_drawn_form : FuncData} {sp_law_chain : Den} {f_law_chain : Addr} {fd_law_chain : FuncData} {spturns : Den} {fturns : Addr} {fdturns : FuncData} {spis_plain : Den} {fis_plain : Addr} {fdis_plain : FuncData} {sp_law_turned_once : Den} {f_law_turned_once : Addr} {fd_law_turned_once : FuncData} (z_len : mg "len" = none) (z_range : mg "range" = none) (C_law_deck : Cal P w K mg base k "_law_deck" ["_law_script"] (spLift K sp_law_deck) f_law_deck fd_law_deck) (C_law_words : Cal P w K mg base k "_law_words" ["_law_deck_here", "_law_many"] (spLift K sp_law_words) f_law_words fd_law_words) (C_law_next : Cal P w K mg base k "_law_next" ["_law_deck_here"] (spLift K sp_law_next) f_law_next fd_law_next) (C_law_drawn_form : Cal P w K mg base k "_law_drawn_form" ["_law_deck_here", "_law_basics"] (spLift K sp_law_drawn_form) f_law_drawn_form fd_law_drawn_form) (C_law_chain : Cal P w K mg base k "_law_chain" ["_law_deck_here", "_law_basics", "_law_form", "_law_at", "_law_many"] (spLift K sp_law_chain) f_law_chain fd_law_chain) (Cturns : Cal P w K mg base k "turns" ["reading"] (spLift K spturns) fturns fdturns) (Cis_plain : Cal P w K mg base k "is_plain" ["reading"] (spLift K spis_plain) fis_plain fdis_plain) (C_law_turned_once : Cal P w K mg base k "_law_turned_once" ["_law_reading"] (spLift K sp_law_turned_once) f_law_turned_once fd_law_turned_once) {cdv : Value} {A : Around} {outer : List Env} {s : Shared} {H : Hp} {E : XK} (hr : Room k (A.deeper (envOfC "law" (defScope slaw) s.heap.objs.size f cdv))) :
    SimSs (cxOf CX0 P w K mg base ["_law_script", "_law_deck_here", "_law_basics", "_law_form", "_law_reading", "_law_due", "_law_k", "_law_one", "_law_left"] "law" (defScope slaw) f cdv A outer s H E).nox NoX (defBody slaw) (w_law_e1bc sp_law_deck sp_law_words sp_law_next sp_law_drawn_form sp_law_chain spturns spis_plain sp_law_turned_once) := by
  have hu : (A.deeper (envOfC "law" (defScope slaw) s.heap.objs.size f cdv)).units + 200 < cLine := by have := hr.un; omega
  unfold w_law_e1bc
  exact (sims_cons (sim_set 1 sclaw.nd (sim_call C_law_deck hr (simA_cons (sim_var 0) simA_nil)))
  (sims_cons (sim_set 2 sclaw.nd (sim_call C_law_words hr (simA_cons (sim_var 1) (simA_cons (sim_bin ops_add sim_int (sim_bin ops_mod (sim_call C_law_next hr (simA_cons (sim_var 1) simA_nil)) sim_int)) simA_nil))))
  (sims_cons (sim_set 3 sclaw.nd (sim_call C_law_drawn_form hr (simA_cons (sim_var 1) (simA_cons (sim_var 2) simA_nil))))
  (sims_cons (sim_set 4 sclaw.nd (sim_call C_law_chain hr (simA_cons (sim_var 1) (simA_cons (sim_var 2) (simA_cons (sim_var 3) (simA_cons sim_int (simA_cons (sim_bin ops_add sim_int (sim_bin ops_mod (sim_call C_law_next hr (simA_cons (sim_var 1) simA_nil)) sim_int)) simA_nil)))))))
  (sims_cons (sim_set 5 sclaw.nd (sim_ix hu (sim_call Cturns hr (simA_cons (sim_var 4) simA_nil)) (sim_neg sim_int)))
  (sims_cons (sim_if (simT_cmp ops_isNot (sim_call Cis_plain hr (simA_cons (sim_var 5) simA_nil)) sim_bl (nomark _)) (sims_one (sim_ret sim_bl)) sims_nil)
  (sims_cons (sim_for PassesOwn.never rfl (simI_range z_range (simA_cons sim_int simA_nil)) (simG_name (i := 6) sclaw.nd) (sims_cons (sim_set 7 sclaw.nd (sim_var 4))
  (sims_cons (sim_set 8 sclaw.nd (sim_call C_law_turned_once hr (simA_cons (sim_var 7) simA_nil)))
  (sims_cons (sim_while PassesOwn.never (simT_cmp (ops_ne hu) (sim_var 8) (sim_lst simA_nil) (nomark _)) (sims_cons (sim_set 7 sclaw.nd (sim_ix hu (sim_var 8) (sim_bin ops_mod (sim_call C_law_next hr (simA_cons (sim_var 1) simA_nil)) (sim_callB calls_len z_len PySem.boot_len (simA_cons (sim_var 8) simA_nil)))))
  (sims_cons (sim_if (simT_cmp (ops_ne hu) (sim_ix hu (sim_call Cturns hr (simA_cons (sim_var 7) simA_nil)) (sim_neg sim_int)) (sim_var 5) (nomark _)) (sims_one (sim_ret sim_bl)) sims_nil)
  (sims_one (sim_set 8 sclaw.nd (sim_call C_law_turned_once hr (simA_cons (sim_var 7) simA_nil)))))))
  (sims_one (sim_if (simT_cmp (ops_ne hu) (sim_var 7) (sim_var 5) (nomark _)) (sims_one (sim_ret sim_bl)) sims_nil))))))
  (sims_one (sim_ret sim_bl)))))))))
structure Tab where
  d_law_deck : Den
  d_law_next : Den
  d_law_spelled : Den
  d_law_word : Den
  d_law_words : Den
  d_law_wide : Den
  d_law_other : Den
  d_law_drawn_form : Den
  d_law_tree : Den
  d_law_chain : Den
  dturned_at_top : Den
  dturned : Den
  dturns : Den
  dis_plain : Den
  d_law_turned_once : Den
  dlaw : Den
def tabS (t : Tab) : Tab where
  d_law_deck := fnP 1 3 (w__law_deck_1929)
  d_law_next := fnP 1 4 (w__law_next_2686)
  d_law_spelled := fnP 2 4 (w__law_spelled_70ad)
  d_law_word := fnP 2 7 (w__law_word_e7ab t.d_law_next t.d_law_spelled)
  d_law_words := fnP 2 4 (w__law_words_3282 t.d_law_word)
  d_law_wide := fnP 1 1 (w__law_wide_d829 t.d_law_wide)
  d_law_other := fnP 3 5 (w__law_other_a5e2 t.d_law_next t.d_law_wide)
  d_law_drawn_form := fnP 2 5 (w__law_drawn_form_6081 t.d_law_next t.d_law_other)
  d_law_tree := fnP 5 11 (w__law_tree_6b41 t.d_law_next t.d_law_other t.d_law_wide t.d_law_tree)
  d_law_chain := fnP 5 10 (w__law_chain_5eaf t.d_law_next t.d_law_tree t.d_law_chain)
  dturned_at_top := fnP 1 4 (w_turned_at_top_0eb4)
  dturned := fnP 1 5 (w_turned_b602 t.dturned_at_top t.dturned)
  dturns := fnP 1 3 (w_turns_45c8 t.dturned)
  dis_plain := fnP 1 1 (w_is_plain_f095 t.dturned)
  d_law_turned_once := fnP 1 5 (w__law_turned_once_36d4 t.d_law_turned_once)
  dlaw := fnP 1 9 (w_law_e1bc t.d_law_deck t.d_law_words t.d_law_next t.d_law_drawn_form t.d_law_chain t.dturns t.dis_plain t.d_law_turned_once)
def tab : Nat → Tab
  | 0 => ⟨fun _ _ _ _ => False, fun _ _ _ _ => False, fun _ _ _ _ => False, fun _ _ _ _ => False, fun _ _ _ _ => False, fun _ _ _ _ => False, fun _ _ _ _ => False, fun _ _ _ _ => False, fun _ _ _ _ => False, fun _ _ _ _ => False, fun _ _ _ _ => False, fun _ _ _ _ => False, fun _ _ _ _ => False, fun _ _ _ _ => False, fun _ _ _ _ => False, fun _ _ _ _ => False⟩
  | k + 1 => tabS (tab k)
theorem good {P : Program} {w : World} {K : PySem.W.Frag} {mg : Str → Option Value} {base : Heap} {f_law_deck : Addr} {fd_law_deck : FuncData} {f_law_next : Addr} {fd_law_next : FuncData} {f_law_spelled : Addr} {fd_law_spelled : FuncData} {f_law_word : Addr} {fd_law_word : FuncData} {f_law_words : Addr} {fd_law_words : FuncData} {f_law_wide : Addr} {fd_law_wide : FuncData} {f_law_other : Addr} {fd_law_other : FuncData} {f_law_drawn_form : Addr} {fd_law_drawn_form : FuncData} {f_law_tree : Addr} {fd_law_tree : FuncData} {f_law_chain : Addr} {fd_law_chain : FuncData} {fturned_at_top : Addr} {fdturned_at_top : FuncData} {fturned : Addr} {fdturned : FuncData} {fturns : Addr} {fdturns : FuncData} {fis_plain : Addr} {fdis_plain : FuncData} {f_law_turned_once : Addr} {fd_law_turned_once : FuncData} {flaw : Addr} {fdlaw : FuncData} (L_law_deck : Loc2 K mg "_law_deck" s_law_deck ["_law_script"] f_law_deck fd_law_deck) (L_law_next : Loc2 K mg "_law_next" s_law_next ["_law_deck_here"] f_law_next fd_law_next) (L_law_spelled : Loc2 K mg "_law_spelled" s_law_spelled ["_law_number", "_law_size"] f_law_spelled fd_law_spelled) (L_law_word : Loc2 K mg "_law_word" s_law_word ["_law_deck_here", "_law_words_here"] f_law_word fd_law_word) (L_law_words : Loc2 K mg "_law_words" s_law_words ["_law_deck_here", "_law_many"] f_law_words fd_law_words) (L_law_wide : Loc2 K mg "_law_wide" s_law_wide ["_law_form"] f_law_wide fd_law_wide) (L_law_other : Loc2 K mg "_law_other" s_law_other ["_law_deck_here", "_law_basics", "_law_form"] f_law_other fd_law_other) (L_law_drawn_form : Loc2 K mg "_law_drawn_form" s_law_drawn_form ["_law_deck_here", "_law_basics"] f_law_drawn_form fd_law_drawn_form) (L_law_tree : Loc2 K mg "_law_tree" s_law_tree ["_law_deck_here", "_law_basics", "_law_form", "_law_at", "_law_many"] f_law_tree fd_law_tree) (L_law_chain : Loc2 K mg "_law_chain" s_law_chain ["_law_deck_here", "_law_basics", "_law_form", "_law_at", "_law_many"] f_law_chain fd_law_chain) (Lturned_at_top : Loc2 K mg "turned_at_top" sturned_at_top ["reading"] fturned_at_top fdturned_at_top) (Lturned : Loc2 K mg "turned" sturned ["reading"] fturned fdturned) (Lturns : Loc2 K mg "turns" sturns ["reading"] fturns fdturns) (Lis_plain : Loc2 K mg "is_plain" sis_plain ["reading"] fis_plain fdis_plain) (L_law_turned_once : Loc2 K mg "_law_turned_once" s_law_turned_once ["_law_reading"] f_law_turned_once fd_law_turned_once) (Llaw : Loc2 K mg "law" slaw ["_law_script"] flaw fdlaw) (z_len : mg "len" = none) (z_range : mg "range" = none) (z_sum : mg "sum" = none) : ∀ k : Nat,
    Cal P w K mg base k "_law_deck" ["_law_script"] (spLift K (tab k).d_law_deck) f_law_deck fd_law_deck ∧
    Cal P w K mg base k "_law_next" ["_law_deck_here"] (spLift K (tab k).d_law_next) f_law_next fd_law_next ∧
    Cal P w K mg base k "_law_spelled" ["_law_number", "_law_size"] (spLift K (tab k).d_law_spelled) f_law_spelled fd_law_spelled ∧
    Cal P w K mg base k "_law_word" ["_law_deck_here", "_law_words_here"] (spLift K (tab k).d_law_word) f_law_word fd_law_word ∧
    Cal P w K mg base k "_law_words" ["_law_deck_here", "_law_many"] (spLift K (tab k).d_law_words) f_law_words fd_law_words ∧
    Cal P w K mg base k "_law_wide" ["_law_form"] (spLift K (tab k).d_law_wide) f_law_wide fd_law_wide ∧
    Cal P w K mg base k "_law_other" ["_law_deck_here", "_law_basics", "_law_form"] (spLift K (tab k).d_law_other) f_law_other fd_law_other ∧
    Cal P w K mg base k "_law_drawn_form" ["_law_deck_here", "_law_basics"] (spLift K (tab k).d_law_drawn_form) f_law_drawn_form fd_law_drawn_form ∧
    Cal P w K mg base k "_law_tree" ["_law_deck_here", "_law_basics", "_law_form", "_law_at", "_law_many"] (spLift K (tab k).d_law_tree) f_law_tree fd_law_tree ∧
    Cal P w K mg base k "_law_chain" ["_law_deck_here", "_law_basics", "_law_form", "_law_at", "_law_many"] (spLift K (tab k).d_law_chain) f_law_chain fd_law_chain ∧
    Cal P w K mg base k "turned_at_top" ["reading"] (spLift K (tab k).dturned_at_top) fturned_at_top fdturned_at_top ∧
    Cal P w K mg base k "turned" ["reading"] (spLift K (tab k).dturned) fturned fdturned ∧
    Cal P w K mg base k "turns" ["reading"] (spLift K (tab k).dturns) fturns fdturns ∧
    Cal P w K mg base k "is_plain" ["reading"] (spLift K (tab k).dis_plain) fis_plain fdis_plain ∧
    Cal P w K mg base k "_law_turned_once" ["_law_reading"] (spLift K (tab k).d_law_turned_once) f_law_turned_once fd_law_turned_once ∧
    Cal P w K mg base k "law" ["_law_script"] (spLift K (tab k).dlaw) flaw fdlaw
  | 0 => ⟨L_law_deck.cal fn_no, L_law_next.cal fn_no, L_law_spelled.cal fn_no, L_law_word.cal fn_no, L_law_words.cal fn_no, L_law_wide.cal fn_no, L_law_other.cal fn_no, L_law_drawn_form.cal fn_no, L_law_tree.cal fn_no, L_law_chain.cal fn_no, Lturned_at_top.cal fn_no, Lturned.cal fn_no, Lturns.cal fn_no, Lis_plain.cal fn_no, L_law_turned_once.cal fn_no, Llaw.cal fn_no⟩
  | k + 1 => by
    obtain ⟨C_law_deck, C_law_next, C_law_spelled, C_law_word, C_law_words, C_law_wide, C_law_other, C_law_drawn_form, C_law_tree, C_law_chain, Cturned_at_top, Cturned, Cturns, Cis_plain, C_law_turned_once, Claw⟩ := good L_law_deck L_law_next L_law_spelled L_law_word L_law_words L_law_wide L_law_other L_law_drawn_form L_law_tree L_law_chain Lturned_at_top Lturned Lturns Lis_plain L_law_turned_once Llaw z_len z_range z_sum k
    exact ⟨L_law_deck.cal (fn_sim L_law_deck.F sc_law_deck fun _ _ _ _ _ _ hr => sim_law_deck z_sum hr),
      L_law_next.cal (fn_sim L_law_next.F sc_law_next fun _ _ _ _ _ _ hr => sim_law_next z_len hr),
      L_law_spelled.cal (fn_sim L_law_spelled.F sc_law_spelled fun _ _ _ _ _ _ hr => sim_law_spelled z_range hr),
      L_law_word.cal (fn_sim L_law_word.F sc_law_word fun _ _ _ _ _ _ hr => sim_law_word z_len C_law_next C_law_spelled hr),
      L_law_words.cal (fn_sim L_law_words.F sc_law_words fun _ _ _ _ _ _ hr => sim_law_words z_range C_law_word hr),
      L_law_wide.cal (fn_sim L_law_wide.F sc_law_wide fun _ _ _ _ _ _ hr => sim_law_wide C_law_wide hr),
      L_law_other.cal (fn_sim L_law_other.F sc_law_other fun _ _ _ _ _ _ hr => sim_law_other z_len C_law_next C_law_wide hr),
      L_law_drawn_form.cal (fn_sim L_law_drawn_form.F sc_law_drawn_form fun _ _ _ _ _ _ hr => sim_law_drawn_form z_len C_law_next C_law_other hr),
      L_law_tree.cal (fn_sim L_law_tree.F sc_law_tree fun _ _ _ _ _ _ hr => sim_law_tree C_law_next C_law_other C_law_wide C_law_tree hr),
      L_law_chain.cal (fn_sim L_law_chain.F sc_law_chain fun _ _ _ _ _ _ hr => sim_law_chain z_len C_law_next C_law_tree C_law_chain hr),
      Lturned_at_top.cal (fn_sim Lturned_at_top.F scturned_at_top fun _ _ _ _ _ _ hr => simturned_at_top hr),
      Lturned.cal (fn_sim Lturned.F scturned fun _ _ _ _ _ _ hr => simturned Cturned_at_top Cturned hr),
      Lturns.cal (fn_sim Lturns.F scturns fun _ _ _ _ _ _ hr => simturns Cturned hr),
      Lis_plain.cal (fn_sim Lis_plain.F scis_plain fun _ _ _ _ _ _ hr => simis_plain Cturned hr),
      L_law_turned_once.cal (fn_sim L_law_turned_once.F sc_law_turned_once fun _ _ _ _ _ _ hr => sim_law_turned_once C_law_turned_once hr),
      Llaw.cal (fn_sim Llaw.F sclaw fun _ _ _ _ _ _ hr => simlaw z_len z_range C_law_deck C_law_words C_law_next C_law_drawn_form C_law_chain Cturns Cis_plain C_law_turned_once hr)⟩
theorem all_mk {l : PySem.W.OpenLaw} {w : World} {K : PySem.W.Frag} {h : Heap} {mg : Str → Option Value} {fa f0 f1 f2 f3 f4 f5 f6 f7 f8 f9 f10 f11 f12 f13 f14 f15 : Addr} (X : K.In h) (G : h.Ns mainGlobals mg) (hfa : mg "law" = some (.ref fa))
    {od0 an0 od1 an1 od2 an2 od3 an3 od4 an4 od5 an5 od6 an6 od7 an7 od8 an8 od9 an9 od10 an10 od11 an11 od12 an12 od13 an13 od14 an14 od15 an15 : Option Addr} {sl0 sl1 sl2 sl3 sl4 sl5 sl6 sl7 sl8 sl9 sl10 sl11 sl12 sl13 sl14 sl15 : Array (Option Value)} {oc0 kV0 dc0 pm0 cd0 ct0 oc1 kV1 dc1 pm1 cd1 ct1 oc2 kV2 dc2 pm2 cd2 ct2 oc3 kV3 dc3 pm3 cd3 ct3 oc4 kV4 dc4 pm4 cd4 ct4 oc5 kV5 dc5 pm5 cd5 ct5 oc6 kV6 dc6 pm6 cd6 ct6 oc7 kV7 dc7 pm7 cd7 ct7 oc8 kV8 dc8 pm8 cd8 ct8 oc9 kV9 dc9 pm9 cd9 ct9 oc10 kV10 dc10 pm10 cd10 ct10 oc11 kV11 dc11 pm11 cd11 ct11 oc12 kV12 dc12 pm12 cd12 ct12 oc13 kV13 dc13 pm13 cd13 ct13 oc14 kV14 dc14 pm14 cd14 ct14 oc15 kV15 dc15 pm15 cd15 ct15 : Value}
    (a0 : PySem.W.nsIn K mainGlobals "_law_deck" = some (some (.ref f0))) (l0 : K.lookup f0 = some ⟨oc0, od0, .func (PySem.W.fnOf "_law_deck" "_law_deck" (defArgs s_law_deck) (defBody s_law_deck) (defScope s_law_deck) .none kV0 dc0 pm0 an0 cd0 ct0), sl0⟩) (c0 : PySem.W.codeIn K cd0 "_law_deck" = true) (k0 : PySem.W.keepIn K (.ref f0) = true)
    (a1 : PySem.W.nsIn K mainGlobals "_law_next" = some (some (.ref f1))) (l1 : K.lookup f1 = some ⟨oc1, od1, .func (PySem.W.fnOf "_law_next" "_law_next" (defArgs s_law_next) (defBody s_law_next) (defScope s_law_next) .none kV1 dc1 pm1 an1 cd1 ct1), sl1⟩) (c1 : PySem.W.codeIn K cd1 "_law_next" = true) (k1 : PySem.W.keepIn K (.ref f1) = true)
    (a2 : PySem.W.nsIn K mainGlobals "_law_spelled" = some (some (.ref f2))) (l2 : K.lookup f2 = some ⟨oc2, od2, .func (PySem.W.fnOf "_law_spelled" "_law_spelled" (defArgs s_law_spelled) (defBody s_law_spelled) (defScope s_law_spelled) .none kV2 dc2 pm2 an2 cd2 ct2), sl2⟩) (c2 : PySem.W.codeIn K cd2 "_law_spelled" = true) (k2 : PySem.W.keepIn K (.ref f2) = true)
    (a3 : PySem.W.nsIn K mainGlobals "_law_word" = some (some (.ref f3))) (l3 : K.lookup f3 = some ⟨oc3, od3, .func (PySem.W.fnOf "_law_word" "_law_word" (defArgs s_law_word) (defBody s_law_word) (defScope s_law_word) .none kV3 dc3 pm3 an3 cd3 ct3), sl3⟩) (c3 : PySem.W.codeIn K cd3 "_law_word" = true) (k3 : PySem.W.keepIn K (.ref f3) = true)
    (a4 : PySem.W.nsIn K mainGlobals "_law_words" = some (some (.ref f4))) (l4 : K.lookup f4 = some ⟨oc4, od4, .func (PySem.W.fnOf "_law_words" "_law_words" (defArgs s_law_words) (defBody s_law_words) (defScope s_law_words) .none kV4 dc4 pm4 an4 cd4 ct4), sl4⟩) (c4 : PySem.W.codeIn K cd4 "_law_words" = true) (k4 : PySem.W.keepIn K (.ref f4) = true)
    (a5 : PySem.W.nsIn K mainGlobals "_law_wide" = some (some (.ref f5))) (l5 : K.lookup f5 = some ⟨oc5, od5, .func (PySem.W.fnOf "_law_wide" "_law_wide" (defArgs s_law_wide) (defBody s_law_wide) (defScope s_law_wide) .none kV5 dc5 pm5 an5 cd5 ct5), sl5⟩) (c5 : PySem.W.codeIn K cd5 "_law_wide" = true) (k5 : PySem.W.keepIn K (.ref f5) = true)
    (a6 : PySem.W.nsIn K mainGlobals "_law_other" = some (some (.ref f6))) (l6 : K.lookup f6 = some ⟨oc6, od6, .func (PySem.W.fnOf "_law_other" "_law_other" (defArgs s_law_other) (defBody s_law_other) (defScope s_law_other) .none kV6 dc6 pm6 an6 cd6 ct6), sl6⟩) (c6 : PySem.W.codeIn K cd6 "_law_other" = true) (k6 : PySem.W.keepIn K (.ref f6) = true)
    (a7 : PySem.W.nsIn K mainGlobals "_law_drawn_form" = some (some (.ref f7))) (l7 : K.lookup f7 = some ⟨oc7, od7, .func (PySem.W.fnOf "_law_drawn_form" "_law_drawn_form" (defArgs s_law_drawn_form) (defBody s_law_drawn_form) (defScope s_law_drawn_form) .none kV7 dc7 pm7 an7 cd7 ct7), sl7⟩) (c7 : PySem.W.codeIn K cd7 "_law_drawn_form" = true) (k7 : PySem.W.keepIn K (.ref f7) = true)
    (a8 : PySem.W.nsIn K mainGlobals "_law_tree" = some (some (.ref f8))) (l8 : K.lookup f8 = some ⟨oc8, od8, .func (PySem.W.fnOf "_law_tree" "_law_tree" (defArgs s_law_tree) (defBody s_law_tree) (defScope s_law_tree) .none kV8 dc8 pm8 an8 cd8 ct8), sl8⟩) (c8 : PySem.W.codeIn K cd8 "_law_tree" = true) (k8 : PySem.W.keepIn K (.ref f8) = true)
    (a9 : PySem.W.nsIn K mainGlobals "_law_chain" = some (some (.ref f9))) (l9 : K.lookup f9 = some ⟨oc9, od9, .func (PySem.W.fnOf "_law_chain" "_law_chain" (defArgs s_law_chain) (defBody s_law_chain) (defScope s_law_chain) .none kV9 dc9 pm9 an9 cd9 ct9), sl9⟩) (c9 : PySem.W.codeIn K cd9 "_law_chain" = true) (k9 : PySem.W.keepIn K (.ref f9) = true)
    (a10 : PySem.W.nsIn K mainGlobals "turned_at_top" = some (some (.ref f10))) (l10 : K.lookup f10 = some ⟨oc10, od10, .func (PySem.W.fnOf "turned_at_top" "turned_at_top" (defArgs sturned_at_top) (defBody sturned_at_top) (defScope sturned_at_top) .none kV10 dc10 pm10 an10 cd10 ct10), sl10⟩) (c10 : PySem.W.codeIn K cd10 "turned_at_top" = true) (k10 : PySem.W.keepIn K (.ref f10) = true)
    (a11 : PySem.W.nsIn K mainGlobals "turned" = some (some (.ref f11))) (l11 : K.lookup f11 = some ⟨oc11, od11, .func (PySem.W.fnOf "turned" "turned" (defArgs sturned) (defBody sturned) (defScope sturned) .none kV11 dc11 pm11 an11 cd11 ct11), sl11⟩) (c11 : PySem.W.codeIn K cd11 "turned" = true) (k11 : PySem.W.keepIn K (.ref f11) = true)
    (a12 : PySem.W.nsIn K mainGlobals "turns" = some (some (.ref f12))) (l12 : K.lookup f12 = some ⟨oc12, od12, .func (PySem.W.fnOf "turns" "turns" (defArgs sturns) (defBody sturns) (defScope sturns) .none kV12 dc12 pm12 an12 cd12 ct12), sl12⟩) (c12 : PySem.W.codeIn K cd12 "turns" = true) (k12 : PySem.W.keepIn K (.ref f12) = true)
    (a13 : PySem.W.nsIn K mainGlobals "is_plain" = some (some (.ref f13))) (l13 : K.lookup f13 = some ⟨oc13, od13, .func (PySem.W.fnOf "is_plain" "is_plain" (defArgs sis_plain) (defBody sis_plain) (defScope sis_plain) .none kV13 dc13 pm13 an13 cd13 ct13), sl13⟩) (c13 : PySem.W.codeIn K cd13 "is_plain" = true) (k13 : PySem.W.keepIn K (.ref f13) = true)
    (a14 : PySem.W.nsIn K mainGlobals "_law_turned_once" = some (some (.ref f14))) (l14 : K.lookup f14 = some ⟨oc14, od14, .func (PySem.W.fnOf "_law_turned_once" "_law_turned_once" (defArgs s_law_turned_once) (defBody s_law_turned_once) (defScope s_law_turned_once) .none kV14 dc14 pm14 an14 cd14 ct14), sl14⟩) (c14 : PySem.W.codeIn K cd14 "_law_turned_once" = true) (k14 : PySem.W.keepIn K (.ref f14) = true)
    (a15 : PySem.W.nsIn K mainGlobals "law" = some (some (.ref f15))) (l15 : K.lookup f15 = some ⟨oc15, od15, .func (PySem.W.fnOf "law" "law" (defArgs slaw) (defBody slaw) (defScope slaw) .none kV15 dc15 pm15 an15 cd15 ct15), sl15⟩) (c15 : PySem.W.codeIn K cd15 "law" = true) (k15 : PySem.W.keepIn K (.ref f15) = true)
    (z_len : PySem.W.nsIn K mainGlobals "len" = some none)
    (z_range : PySem.W.nsIn K mainGlobals "range" = some none)
    (z_sum : PySem.W.nsIn K mainGlobals "sum" = some none)
    : ∃ fd : FuncData, (∀ (s : Shared) (v : Value), BindsTo s fd ⟨[v], []⟩ [("_law_script", v)]) ∧ ∀ base : Heap, K.In base → base.Ns mainGlobals mg → FnOk l.prog w K mg base CX0 60 fa fd ["_law_script"] (spLift K (tab 60).dlaw) := by
  have e := hfa.symm.trans (PySem.W.mg_of X G a15)
  cases e
  have F0 := fun_mk (st := s_law_deck) l0 c0 k0
  have b0 := F0.binds (ps := ["_law_script"]) fun _ _ _ _ _ _ us hl => match us, hl with | [_], _ => rfl
  have L_law_deck : Loc2 K mg "_law_deck" s_law_deck ["_law_script"] _ _ := ⟨F0, PySem.W.mg_of X G a0, b0⟩
  have F1 := fun_mk (st := s_law_next) l1 c1 k1
  have b1 := F1.binds (ps := ["_law_deck_here"]) fun _ _ _ _ _ _ us hl => match us, hl with | [_], _ => rfl
  have L_law_next : Loc2 K mg "_law_next" s_law_next ["_law_deck_here"] _ _ := ⟨F1, PySem.W.mg_of X G a1, b1⟩
  have F2 := fun_mk (st := s_law_spelled) l2 c2 k2
  have b2 := F2.binds (ps := ["_law_number", "_law_size"]) fun _ _ _ _ _ _ us hl => match us, hl with | [_, _], _ => rfl
  have L_law_spelled : Loc2 K mg "_law_spelled" s_law_spelled ["_law_number", "_law_size"] _ _ := ⟨F2, PySem.W.mg_of X G a2, b2⟩
  have F3 := fun_mk (st := s_law_word) l3 c3 k3
  have b3 := F3.binds (ps := ["_law_deck_here", "_law_words_here"]) fun _ _ _ _ _ _ us hl => match us, hl with | [_, _], _ => rfl
  have L_law_word : Loc2 K mg "_law_word" s_law_word ["_law_deck_here", "_law_words_here"] _ _ := ⟨F3, PySem.W.mg_of X G a3, b3⟩
  have F4 := fun_mk (st := s_law_words) l4 c4 k4
  have b4 := F4.binds (ps := ["_law_deck_here", "_law_many"]) fun _ _ _ _ _ _ us hl => match us, hl with | [_, _], _ => rfl
  have L_law_words : Loc2 K mg "_law_words" s_law_words ["_law_deck_here", "_law_many"] _ _ := ⟨F4, PySem.W.mg_of X G a4, b4⟩
  have F5 := fun_mk (st := s_law_wide) l5 c5 k5
  have b5 := F5.binds (ps := ["_law_form"]) fun _ _ _ _ _ _ us hl => match us, hl with | [_], _ => rfl
  have L_law_wide : Loc2 K mg "_law_wide" s_law_wide ["_law_form"] _ _ := ⟨F5, PySem.W.mg_of X G a5, b5⟩
  have F6 := fun_mk (st := s_law_other) l6 c6 k6
  have b6 := F6.binds (ps := ["_law_deck_here", "_law_basics", "_law_form"]) fun _ _ _ _ _ _ us hl => match us, hl with | [_, _, _], _ => rfl
  have L_law_other : Loc2 K mg "_law_other" s_law_other ["_law_deck_here", "_law_basics", "_law_form"] _ _ := ⟨F6, PySem.W.mg_of X G a6, b6⟩
  have F7 := fun_mk (st := s_law_drawn_form) l7 c7 k7
  have b7 := F7.binds (ps := ["_law_deck_here", "_law_basics"]) fun _ _ _ _ _ _ us hl => match us, hl with | [_, _], _ => rfl
  have L_law_drawn_form : Loc2 K mg "_law_drawn_form" s_law_drawn_form ["_law_deck_here", "_law_basics"] _ _ := ⟨F7, PySem.W.mg_of X G a7, b7⟩
  have F8 := fun_mk (st := s_law_tree) l8 c8 k8
  have b8 := F8.binds (ps := ["_law_deck_here", "_law_basics", "_law_form", "_law_at", "_law_many"]) fun _ _ _ _ _ _ us hl => match us, hl with | [_, _, _, _, _], _ => rfl
  have L_law_tree : Loc2 K mg "_law_tree" s_law_tree ["_law_deck_here", "_law_basics", "_law_form", "_law_at", "_law_many"] _ _ := ⟨F8, PySem.W.mg_of X G a8, b8⟩
  have F9 := fun_mk (st := s_law_chain) l9 c9 k9
  have b9 := F9.binds (ps := ["_law_deck_here", "_law_basics", "_law_form", "_law_at", "_law_many"]) fun _ _ _ _ _ _ us hl => match us, hl with | [_, _, _, _, _], _ => rfl
  have L_law_chain : Loc2 K mg "_law_chain" s_law_chain ["_law_deck_here", "_law_basics", "_law_form", "_law_at", "_law_many"] _ _ := ⟨F9, PySem.W.mg_of X G a9, b9⟩
  have F10 := fun_mk (st := sturned_at_top) l10 c10 k10
  have b10 := F10.binds (ps := ["reading"]) fun _ _ _ _ _ _ us hl => match us, hl with | [_], _ => rfl
  have Lturned_at_top : Loc2 K mg "turned_at_top" sturned_at_top ["reading"] _ _ := ⟨F10, PySem.W.mg_of X G a10, b10⟩
  have F11 := fun_mk (st := sturned) l11 c11 k11
  have b11 := F11.binds (ps := ["reading"]) fun _ _ _ _ _ _ us hl => match us, hl with | [_], _ => rfl
  have Lturned : Loc2 K mg "turned" sturned ["reading"] _ _ := ⟨F11, PySem.W.mg_of X G a11, b11⟩
  have F12 := fun_mk (st := sturns) l12 c12 k12
  have b12 := F12.binds (ps := ["reading"]) fun _ _ _ _ _ _ us hl => match us, hl with | [_], _ => rfl
  have Lturns : Loc2 K mg "turns" sturns ["reading"] _ _ := ⟨F12, PySem.W.mg_of X G a12, b12⟩
  have F13 := fun_mk (st := sis_plain) l13 c13 k13
  have b13 := F13.binds (ps := ["reading"]) fun _ _ _ _ _ _ us hl => match us, hl with | [_], _ => rfl
  have Lis_plain : Loc2 K mg "is_plain" sis_plain ["reading"] _ _ := ⟨F13, PySem.W.mg_of X G a13, b13⟩
  have F14 := fun_mk (st := s_law_turned_once) l14 c14 k14
  have b14 := F14.binds (ps := ["_law_reading"]) fun _ _ _ _ _ _ us hl => match us, hl with | [_], _ => rfl
  have L_law_turned_once : Loc2 K mg "_law_turned_once" s_law_turned_once ["_law_reading"] _ _ := ⟨F14, PySem.W.mg_of X G a14, b14⟩
  have F15 := fun_mk (st := slaw) l15 c15 k15
  have b15 := F15.binds (ps := ["_law_script"]) fun _ _ _ _ _ _ us hl => match us, hl with | [_], _ => rfl
  have Llaw : Loc2 K mg "law" slaw ["_law_script"] _ _ := ⟨F15, PySem.W.mg_of X G a15, b15⟩
  refine ⟨PySem.W.fnOf "law" "law" (defArgs slaw) (defBody slaw) (defScope slaw) .none kV15 dc15 pm15 an15 cd15 ct15, fun s v => .of_eq rfl, fun base _ _ => ?_⟩
  have T := good (P := l.prog) (w := w) (base := base) L_law_deck L_law_next L_law_spelled L_law_word L_law_words L_law_wide L_law_other L_law_drawn_form L_law_tree L_law_chain Lturned_at_top Lturned Lturns Lis_plain L_law_turned_once Llaw (PySem.W.mg_none_of X G z_len) (PySem.W.mg_none_of X G z_range) (PySem.W.mg_none_of X G z_sum) 60
  exact (T.2.2.2.2.2.2.2.2.2.2.2.2.2.2.2).G
theorem walk {l : PySem.W.OpenLaw} {q : Program} {loose : List Str} {XP : (Str → Option Value) → Heap → Prop} {YP : World → Heap → Prop} {d : DefRec} {K : Params → PySem.W.Frag} (hlaw : LawP (tab 60).dlaw) (hn : l.most = some 63) (hdf : d.params.defaults = [])
    (hY : ∀ (w : World) (h : Heap), YP w h → (K w.params).In h)
    (F : ∀ (w : World) (mg : Str → Option Value) (fa : Addr) (h : Heap), (K w.params).In h → h.Ns mainGlobals mg → mg d.name = some (.ref fa) →
      ∃ fd : FuncData, (∀ (s : Shared) (u : Value), BindsTo s fd ⟨[u], []⟩ [("_law_script", u)]) ∧ ∀ base : Heap, (K w.params).In base → base.Ns mainGlobals mg → FnOk l.prog w (K w.params) mg base CX0 60 fa fd ["_law_script"] (spLift (K w.params) (tab 60).dlaw)) :
    PySem.W.WalkO q loose XP YP l.row.toRowW d [] (fun f vs => PySem.call f vs) :=
  L2.walk_of (n := 63) (k := 60) (x := "_law_script") (CX := fun _ => CX0) (sp := fun w => spLift (K w.params) (tab 60).dlaw) hn (by decide) hdf ⟨rfl, by decide, by decide⟩ hY F (fun _ H a ns hl hO hS => law_sp hlaw H a ns hl hO hS) fun _ _ _ _ _ z => z

end
set_option maxHeartbeats 1000000
theorem k_next (n : Nat) : NextD (tab (n + 1)).d_law_next := next_ok
theorem k_spelled (n : Nat) : SpelledD (tab (n + 1)).d_law_spelled := spelled_ok
theorem k_word (n : Nat) : WordD (tab (n + 2)).d_law_word := word_ok (k_next n) (k_spelled n)
theorem k_words (n : Nat) : WordsD (tab (n + 3)).d_law_words := words_ok (k_word n)
theorem k_deck (n : Nat) : DeckD (tab (n + 1)).d_law_deck := deck_ok
theorem k_wide (n : Nat) : WideD (tab n).d_law_wide n := wide_ok (T := fun n => (tab n).d_law_wide) (fun _ => rfl) n
theorem k_oth (n : Nat) : OthD (tab (n + 2)).d_law_other (n + 1) := oth_ok (k_next n) (k_wide (n + 1))
theorem k_drawn (n : Nat) : DrawnD (tab (n + 3)).d_law_drawn_form := drawn_ok (k_next (n + 1)) (k_oth n) (by omega)
theorem up {n k : Nat} (h : k ≤ n) : ∃ m, n = m + k := ⟨n - k, by omega⟩
theorem OthD.le {sp : Den} {a b : Nat} (h : OthD sp a) (hb : b ≤ a) : OthD sp b := fun d c b' ws f S E Q h1 h2 h3 h4 h5 h6 => h d c b' ws f S E Q h1 h2 h3 h4 h5 (Nat.le_trans h6 hb)
theorem k_next' (n : Nat) (h : 20 ≤ n) : NextD (tab n).d_law_next := by obtain ⟨m, rfl⟩ := up h; exact k_next (m + 19)
theorem k_oth' (n : Nat) (h : 20 ≤ n) : OthD (tab n).d_law_other 18 := by obtain ⟨m, rfl⟩ := up h; exact (k_oth (m + 18)).le (by omega)
theorem k_wide' (n : Nat) (h : 20 ≤ n) : WideD (tab n).d_law_wide 18 := fun f hf => k_wide n f (by omega)
theorem k_tree : ∀ n m, m + 20 ≤ n → 1 ≤ m → TreeD (tab n).d_law_tree m := tree_ok (T := fun n => (tab n).d_law_tree) (N := fun n => (tab n).d_law_next) (O := fun n => (tab n).d_law_other) (W := fun n => (tab n).d_law_wide) (fun _ => rfl) k_next' k_oth' k_wide'
theorem k_chain : ∀ n m, m + 21 ≤ n → 1 ≤ m → TreeD (tab n).d_law_chain m := chain_ok (C := fun n => (tab n).d_law_chain) (N := fun n => (tab n).d_law_next) (T := fun n => (tab n).d_law_tree) (fun _ => rfl) k_next' k_tree
theorem k_tn (n : Nat) : TnD (tab (n + 1)).dturned n := turned_ok (T := fun n => (tab n).dturned) (A := fun n => (tab n).dturned_at_top) (fun _ => rfl) (fun _ => ctop_ok) n
theorem k_turns (n : Nat) : TurnsD (tab (n + 2)).dturns n := turns_ok (k_tn n)
theorem k_once (n : Nat) (h : n ≤ 1000) : OnceD (tab (n + 1)).d_law_turned_once n := once_ok (T := fun n => (tab n).d_law_turned_once) (fun _ => rfl) n h
theorem k_plain (n : Nat) : PlainD (tab (n + 2)).dis_plain n := plain_ok (k_tn n)
theorem cNe_rd {r : Rd} (ok : okEq r.pv) (S : Store) (Q : VC) : cNe r.pv r.pv S Q = Q (.bl false) S := by
  obtain ⟨xs, hxs⟩ : ∃ xs, r.pv = .tup xs := by cases r <;> exact ⟨_, rfl⟩
  rw [hxs] at ok ⊢
  exact cNe_self ok S Q
theorem law_ok : LawP (tab 60).dlaw := by
  intro ns hns
  have hdeck := k_deck 58
  have hwords := k_words 56
  have hnext := k_next 58
  have hdrawn := k_drawn 56
  have hchain := k_chain 59
  have honce := k_once 58 (by omega)
  have hturns := k_turns 57
  have hplain := k_plain 57
  show fnP 1 9 (w_law_e1bc (tab 59).d_law_deck (tab 59).d_law_words (tab 59).d_law_next (tab 59).d_law_drawn_form (tab 59).d_law_chain (tab 59).dturns (tab 59).dis_plain (tab 59).d_law_turned_once) _ _ _ _
  generalize (tab 59).d_law_deck = s1, (tab 59).d_law_words = s2, (tab 59).d_law_next = s3, (tab 59).d_law_drawn_form = s4, (tab 59).d_law_chain = s5, (tab 59).dturns = s6, (tab 59).d_law_turned_once = s7, (tab 59).dis_plain = s8 at *
  refine ⟨rfl, ?_⟩
  unfold w_law_e1bc
  refine seqI fun K hK => ?_
  dsimp!
  refine hdeck ns _ _ _ hns fun d c S1 hd hx _ _ => hK _ _ ?_
  clear hK hx
  refine seqI fun K hK => ?_
  dsimp!
  refine hnext d c _ _ _ hd fun n1 S2 n10 n11 hd2 hx2 => ?_
  dsimp!
  refine ⟨by decide, ?_⟩
  obtain ⟨m, hm, hm1, hm2⟩ : ∃ m : Nat, 2 + n1 % 2 = (m : Int) ∧ 2 ≤ m ∧ m ≤ 3 := ⟨(2 + n1 % 2).toNat, by omega, by omega, by omega⟩
  rw [hm]
  refine hwords d c m _ _ _ hd2 (by omega) fun b ws S3 hws hwl hna hb hd3 hx3 => hK _ _ ?_
  clear hK
  have hne : ws ≠ [] := fun z => by rw [z] at hwl; simp at hwl; omega
  have nb : b ≠ d ∧ b ≠ c := by
    obtain ⟨⟨l, a, s, mm, x, xs, g1, g2, -⟩, -⟩ := hd2
    have := lt_of_at g1
    have := lt_of_at g2
    omega
  refine seqI fun K hK => ?_
  dsimp!
  refine hdrawn d c b ws _ _ _ hd3 hws hne nb.1 nb.2 fun f S4 hf hov hd4 hx4 => hK _ _ ?_
  clear hK
  have hws4 := hx4.get hws (by simp; exact nb)
  refine seqI fun K hK => ?_
  dsimp!
  refine hnext d c _ _ _ hd4 fun n2 S5 n20 n21 hd5 hx5 => ?_
  have hws5 := hx5.get hws4 (by simp; exact nb)
  dsimp!
  refine ⟨by decide, ?_⟩
  obtain ⟨k, hk, hk1, hk9⟩ : ∃ k : Nat, 1 + n2 % 9 = (k : Int) ∧ 1 ≤ k ∧ k ≤ 9 := ⟨(1 + n2 % 9).toNat, by omega, by omega, by omega⟩
  rw [hk]
  refine hchain k (by omega) hk1 d c b ws f 0 _ _ _ hd5 hws5 hne nb.1 nb.2 (by omega) hov fun r S6 hrl hrf _ hd6 hx6 => hK _ _ ?_
  clear hK hx2 hx3 hx4 hx5 hx6 hws hws4 hws5 hd hd2 hd3 hd4 hd5
  -- the last one of the turns of what is of this size
  have turn : ∀ (t : Rd) (S : Store) (E : EK) (Q : VC), t.lv ≤ 9 → (∀ (q : Nat) S', (∃ L : List Rd, S'[q]? = some (.lst (L.map Rd.pv)) ∧ atI (L.map Rd.pv) (-1) = some t.nf.pv) → Ex [] S S' → Q (.ref q) S') → s6 [t.pv] S E Q := by
    intro t S E Q ht h
    obtain ⟨l, hch, -⟩ := chn_ex t.ms t (Nat.le_refl _)
    refine hturns t l hch (by omega) (by omega) _ _ _ fun q S' _ hq hx => h q S' ⟨_, hq, ?_⟩ hx
    rw [atI_last _ _ (by simp), chn_nf hch]
  have hnf : r.nf.lv = r.lv ∧ r.nf.fd = r.fd ∧ r.nf.once = [] := by
    obtain ⟨l, hch, -⟩ := chn_ex r.ms r (Nat.le_refl _)
    have h1 := chn_mem hch (List.getLast_mem (by simp))
    have h2 := chn_last hch
    rw [chn_nf hch] at h1 h2
    exact ⟨h1.1, h1.2, (tn_once _).2 h2⟩
  refine seqI fun K hK => ?_
  dsimp!
  refine turn r _ _ _ (by omega) fun q S7 hq hx7 => ?_
  obtain ⟨L, hq, el⟩ := hq
  dsimp! [hq, show (-(1 : Int)) = -1 from rfl, el]
  refine hK _ _ ?_
  clear hK
  have hd7 := hd6.ex hx7 (by simp) (by simp)
  clear hq el hx7 hd6
  refine seqI fun K hK => ?_
  dsimp!
  refine hplain r.nf (by omega) _ _ _ ?_
  rw [tn_empty, hnf.2.2]
  dsimp! [List.isEmpty_nil]
  refine hK _ _ ?_
  clear hK
  refine seqI fun K hK => ?_
  dsimp!
  refine ⟨⟨by decide, by decide⟩, ?_⟩
  refine forI (fun rest σ S8 => Deck d c S8 ∧ ∃ v6 v7 v8 : Option PV, σ = [some (.frl (ns.map .int)), some (.ref d), some (.ref b), some f.pv, some r.pv, some r.nf.pv, v6, v7, v8]) ?_ ?_ _ _ _ ⟨hd7, none, none, none, rfl⟩
  · rintro σ S8 ⟨-, v6, v7, v8, rfl⟩
    refine ⟨trivial, hK _ _ ?_⟩
    dsimp!
  · rintro x rr σ S8 ⟨hd8, v6, v7, v8, rfl⟩ N hN
    refine ⟨trivial, ?_⟩
    dsimp!
    refine seqI fun K2 hK2 => ?_
    dsimp!
    refine hK2 _ _ ?_
    clear hK2
    refine seqI fun K2 hK2 => ?_
    dsimp!
    refine honce r (by omega) _ _ _ fun q S9 hq0 hq hx9 => hK2 _ _ ?_
    clear hK2
    have hd9 := hd8.ex hx9 (by simp) (by simp)
    refine seqI fun K2 hK2 => ?_
    refine whileI (fun m σ S10 => ∃ (t : Rd) (q : Nat), σ = [some (.frl (ns.map .int)), some (.ref d), some (.ref b), some f.pv, some r.pv, some r.nf.pv, some x, some t.pv, some (.ref q)] ∧ t.lv = r.lv ∧ t.fd = r.fd ∧ t.nf = r.nf ∧ S10[q]? = some (.lst (t.once.map Rd.pv)) ∧ Deck d c S10 ∧ m = t.ms ∧ q ≠ d ∧ q ≠ c) r.ms ⟨r, q, rfl, rfl, rfl, rfl, hq, hd9, rfl, ?_⟩ ?_
    · obtain ⟨⟨l, a, s, mm, x, xs, g1, g2, -⟩, -⟩ := hd8
      have := lt_of_at g1
      have := lt_of_at g2
      omega
    rintro m σ S10 ⟨t, q, rfl, t1, t2, t3, hq, hd10, rfl, nq⟩ T F hT hF
    have hq1 := at_old hq [SO.lst []]
    have hd11 := hd10.ex (Ex.new [] S10 [SO.lst []]) (by simp) (by simp)
    dsimp! [seq_at hq1, eqBs_rnil]
    refine ⟨big (by decide), okEqs_rds fun u hu => by have := once_ms hu; omega, ?_⟩
    cases ho : t.once with
    | nil =>
      dsimp! [List.isEmpty_nil]
      refine hF _ (hK2 _ _ ?_)
      have : t = r.nf := by rw [← t3, nf_plain ho]
      have ok := okEq_rd (r := r.nf) (by omega)
      rw [this]
      dsimp! [cNe_rd ok]
      exact hN _ _ ⟨hd11, _, _, _, rfl⟩
    | cons u us =>
      dsimp! [List.isEmpty_cons]
      refine hT _ fun N2 hN2 => ?_
      refine seqI fun K3 hK3 => ?_
      dsimp! [hq1]
      refine hnext d c _ _ _ hd11 fun n3 S12 _ _ hd12 hx12 => ?_
      have hq12 := hx12.get hq1 (by simp; exact nq)
      have hp : (0 : Int) < (t.once.length : Int) := by rw [ho]; simp
      obtain ⟨w, hw, ew⟩ : ∃ w, w ∈ t.once ∧ atI (t.once.map Rd.pv) (n3 % (t.once.length : Int)) = some w.pv := by
        have a0 := Int.emod_nonneg n3 (show (t.once.length : Int) ≠ 0 by omega)
        have a1 := Int.emod_lt_of_pos n3 hp
        obtain ⟨i, hi, hi2⟩ : ∃ i : Nat, n3 % (t.once.length : Int) = (i : Int) ∧ i < t.once.length := ⟨(n3 % (t.once.length : Int)).toNat, by omega, by omega⟩
        refine ⟨t.once[i], List.getElem_mem _, ?_⟩
        rw [hi, atI_nat' _ i (by simpa using hi2)]
        simp
      have wm := once_ms hw
      have wn := nf_once hw
      dsimp! [seq_at hq12, List.length_map, hq12, ew]
      refine ⟨hp, hK3 _ _ ?_⟩
      clear hK3
      refine seqI fun K3 hK3 => ?_
      dsimp!
      refine turn w _ _ _ (by omega) fun q2 S13 hq2 hx13 => ?_
      obtain ⟨L, hq2, el⟩ := hq2
      dsimp! [hq2, show (-(1 : Int)) = -1 from rfl, el]
      rw [show w.nf = r.nf by rw [wn, t3]]
      have ok := okEq_rd (r := r.nf) (by omega)
      dsimp! [cNe_rd ok]
      refine hK3 _ _ ?_
      dsimp!
      refine honce w (by omega) _ _ _ fun q3 S14 hq30 hq3 hx14 => ?_
      have hd13 := hd12.ex hx13 (by simp) (by simp)
      refine hN2 w.ms _ _ wm.1 ⟨w, q3, rfl, by omega, by omega, by rw [wn, t3], hq3, hd13.ex hx14 (by simp) (by simp), rfl, ?_⟩
      obtain ⟨⟨l, a, s, mm, x, xs, g1, g2, -⟩, -⟩ := hd13
      have := lt_of_at g1
      have := lt_of_at g2
      omega

end My
open PySem PySem.W PyProof.Rows
set_option maxRecDepth 100000 in
set_option maxHeartbeats 0 in
theorem PySem.Challenge.cw_slashwise_k73_whole_any_turns_holds : PySem.Challenge.rw_slashwise_k73_whole_any_turns.Holds := by
  w_on; o_law; k_head; (case hw => w_witness2)
  k_fill
  refine My.walk (l := PySem.Challenge.rw_slashwise_k73_whole_any_turns) My.law_ok rfl rfl (fun w h Y => PySem.W.kIn_of Y) ?F
  case F =>
    intro w mg fa h KX G hmg
    refine' My.all_mk KX G hmg ?a0 ?l0 ?c0 ?k0 ?a1 ?l1 ?c1 ?k1 ?a2 ?l2 ?c2 ?k2 ?a3 ?l3 ?c3 ?k3 ?a4 ?l4 ?c4 ?k4 ?a5 ?l5 ?c5 ?k5 ?a6 ?l6 ?c6 ?k6 ?a7 ?l7 ?c7 ?k7 ?a8 ?l8 ?c8 ?k8 ?a9 ?l9 ?c9 ?k9 ?a10 ?l10 ?c10 ?k10 ?a11 ?l11 ?c11 ?k11 ?a12 ?l12 ?c12 ?k12 ?a13 ?l13 ?c13 ?k13 ?a14 ?l14 ?c14 ?k14 ?a15 ?l15 ?c15 ?k15 ?z_len ?z_range ?z_sum
    (case a0 => k_is)
    (case l0 => k_is)
    (case c0 => k_is)
    (case k0 => k_is)
    (case a1 => k_is)
    (case l1 => k_is)
    (case c1 => k_is)
    (case k1 => k_is)
    (case a2 => k_is)
    (case l2 => k_is)
    (case c2 => k_is)
    (case k2 => k_is)
    (case a3 => k_is)
    (case l3 => k_is)
    (case c3 => k_is)
    (case k3 => k_is)
    (case a4 => k_is)
    (case l4 => k_is)
    (case c4 => k_is)
    (case k4 => k_is)
    (case a5 => k_is)
    (case l5 => k_is)
    (case c5 => k_is)
    (case k5 => k_is)
    (case a6 => k_is)
    (case l6 => k_is)
    (case c6 => k_is)
    (case k6 => k_is)
    (case a7 => k_is)
    (case l7 => k_is)
    (case c7 => k_is)
    (case k7 => k_is)
    (case a8 => k_is)
    (case l8 => k_is)
    (case c8 => k_is)
    (case k8 => k_is)
    (case a9 => k_is)
    (case l9 => k_is)
    (case c9 => k_is)
    (case k9 => k_is)
    (case a10 => k_is)
    (case l10 => k_is)
    (case c10 => k_is)
    (case k10 => k_is)
    (case a11 => k_is)
    (case l11 => k_is)
    (case c11 => k_is)
    (case k11 => k_is)
    (case a12 => k_is)
    (case l12 => k_is)
    (case c12 => k_is)
    (case k12 => k_is)
    (case a13 => k_is)
    (case l13 => k_is)
    (case c13 => k_is)
    (case k13 => k_is)
    (case a14 => k_is)
    (case l14 => k_is)
    (case c14 => k_is)
    (case k14 => k_is)
    (case a15 => k_is)
    (case l15 => k_is)
    (case c15 => k_is)
    (case k15 => k_is)
    (case z_len => k_is)
    (case z_range => k_is)
    (case z_sum => k_is)
#print axioms PySem.Challenge.cw_slashwise_k73_whole_any_turns_holds

