import PyProof.Rows.All
import Wide.All
import OpenK.AllK
import Wide.FinOn
import Lean
import PyProof.EqAt
import PyProof.EqKinds
import PyProof.TupleCall
import PySem.Challenge.RW_wishcount_k06_whole_the_best_and_the_cro
set_option Elab.async false
set_option linter.all false
set_option maxRecDepth 100000
/-! THE HAND LAYER, for ints, bools, texts, own classes, LISTS and tuples (index, slices, in, append, pop ..), calls, loops. Paste it whole ahead of your own text; what your proof does not reach may be deleted. -/
namespace L2
open PySem PySem.Spec PyProof.Rows

/-- a key: an int or a str -/
abbrev Key := Sum Int Str
def keyIs : Key → Value → Bool
  | .inl k, v => Value.isInt k v
  | .inr x, v => Value.isStrOf x v
def keyH (w : World) : Key → Int
  | .inl k => hashInt k
  | .inr x => hashStr w x
theorem keyIs_shape : ∀ {k : Key} {v : Value}, keyIs k v = true → (∃ i t, k = Sum.inl i ∧ v = Value.int i t) ∨ (∃ x t, k = Sum.inr x ∧ v = Value.str x t)
  | .inl i, v, h => by
    obtain ⟨t, e⟩ := Value.isInt_shape (k := i) (v := v) h
    exact .inl ⟨i, t, rfl, e⟩
  | .inr x, v, h => by
    obtain ⟨t, e⟩ := Value.isStrOf_shape (x := x) (v := v) h
    exact .inr ⟨x, t, rfl, e⟩
theorem keyIs_int (i : Int) (t : Tok) : keyIs (.inl i) (.int i t) = true := by simp [keyIs, Value.isInt]
theorem keyIs_str (x : Str) (t : Tok) : keyIs (.inr x) (.str x t) = true := by simp [keyIs, Value.isStrOf]
theorem key_ll (a b : Int) : decide ((Sum.inl a : Key) = Sum.inl b) = (a == b) := by
  by_cases e : a = b
  · subst e; simp
  · have h : ¬ (Sum.inl a : Key) = Sum.inl b := fun q => e (Sum.inl.inj q)
    rw [decide_eq_false h]
    exact (beq_eq_false_iff_ne.mpr e).symm
theorem key_rr (a b : Str) : decide ((Sum.inr a : Key) = Sum.inr b) = decide (a = b) := by
  by_cases e : a = b
  · subst e; simp
  · have h : ¬ (Sum.inr a : Key) = Sum.inr b := fun q => e (Sum.inr.inj q)
    rw [decide_eq_false h, decide_eq_false e]
theorem key_lr (a : Int) (b : Str) : decide ((Sum.inl a : Key) = Sum.inr b) = false := decide_eq_false (fun q => nomatch q)
theorem key_rl (a : Str) (b : Int) : decide ((Sum.inr a : Key) = Sum.inl b) = false := decide_eq_false (fun q => nomatch q)

def mixKind (prog : Program) (w : World) : PySem.KeyKind prog w Key where
  is := keyIs
  hash := keyH w
  inj := fun v a b ha hb => by
    rcases keyIs_shape ha with ⟨i, t, rfl, rfl⟩ | ⟨x, t, rfl, rfl⟩
    · rcases keyIs_shape hb with ⟨j, u, rfl, e⟩ | ⟨y, u, rfl, e⟩
      · injection e with e1 _; rw [e1]
      · exact nomatch e
    · rcases keyIs_shape hb with ⟨j, u, rfl, e⟩ | ⟨y, u, rfl, e⟩
      · exact nomatch e
      · injection e with e1 _; rw [e1]
  byValue := fun k v h => by
    rcases keyIs_shape h with ⟨i, t, rfl, rfl⟩ | ⟨x, t, rfl, rfl⟩ <;> rfl
  pyHash := fun hv h => by
    rcases keyIs_shape hv with ⟨i, t, rfl, rfl⟩ | ⟨x, t, rfl, rfl⟩
    · exact wpAny_pyHash_int h
    · exact wpAny_pyHash_str h
  eqBool := fun hu hv h => by
    rcases keyIs_shape hu with ⟨i, t, rfl, rfl⟩ | ⟨x, t, rfl, rfl⟩
    · rcases keyIs_shape hv with ⟨j, u, rfl, rfl⟩ | ⟨y, u, rfl, rfl⟩
      · rw [key_ll] at h; exact wpAny_eqBool_int h
      · rw [key_lr] at h; exact SeqAt.EqAt.int_str i t y u _ _ _ _ h
    · rcases keyIs_shape hv with ⟨j, u, rfl, rfl⟩ | ⟨y, u, rfl, rfl⟩
      · rw [key_rl] at h; exact SeqAt.EqAt.str_int x t j u _ _ _ _ h
      · rw [key_rr] at h; exact wpAny_eqBool_str h
  «strs» := fun k x t v h => by
    rcases keyIs_shape h with ⟨i, u, rfl, e⟩ | ⟨y, u, rfl, e⟩
    · exact nomatch e
    · injection e with e1 _
      subst e1
      cases v <;> rfl

theorem mixKind_is (prog : Program) (w : World) (k : Key) (v : Value) : (mixKind prog w).is k v = keyIs k v := rfl
theorem mixKind_int (prog : Program) (w : World) (i : Int) (t : Tok) : (mixKind prog w).is (.inl i) (.int i t) = true := keyIs_int i t
theorem mixKind_str (prog : Program) (w : World) (x : Str) (t : Tok) : (mixKind prog w).is (.inr x) (.str x t) = true := keyIs_str x t
end L2

namespace L2
open PySem PySem.Spec PyProof.Rows

/-- a value, without the heap -/
inductive V where
  | non | bl (b : Bool) | int (i : Int) | str (x : Str) | byt (b : Array UInt8) | flt (b : UInt64) | ref (a : Addr) | ty (n : String)
  deriving DecidableEq

def RelV : V → Value → Prop
  | .non, u => u = Value.none
  | .bl b, u => u = Value.bool b
  | .int i, u => ∃ t, u = Value.int i t
  | .str x, u => ∃ t, u = Value.str x t
  | .byt b, u => ∃ t, u = Value.bytes b t
  | .flt b, u => ∃ t, u = Value.float b t
  | .ref a, u => u = Value.ref a
  | .ty n, u => u = Value.type n

abbrev Vals : List V → List Value → Prop := Paired RelV
theorem Vals.length {xs : List V} {us : List Value} (r : Vals xs us) : xs.length = us.length := Paired.length r
theorem Vals.get : ∀ {xs : List V} {us : List Value} {i : Nat} {x : V}, Vals xs us → xs[i]? = some x → ∃ u, us[i]? = some u ∧ RelV x u
  | _, _, _, _, .nil, e => by simp at e
  | _, _, 0, _, .cons r _, e => by simp at e; subst e; exact ⟨_, rfl, r⟩
  | _, _, i + 1, x, .cons _ t, e => by
    obtain ⟨u, h1, h2⟩ := Vals.get (i := i) (x := x) t (by simpa using e)
    exact ⟨u, by simpa using h1, h2⟩
theorem Vals.set {x : V} {u : Value} (r : RelV x u) : ∀ {xs : List V} {us : List Value} (i : Nat), Vals xs us → Vals (xs.set i x) (us.set i u)
  | _, _, _, .nil => .nil
  | _, _, 0, .cons _ t => .cons r t
  | _, _, i + 1, .cons q t => .cons q (Vals.set r i t)
theorem Vals.append : ∀ {xs ys : List V} {us ws : List Value}, Vals xs us → Vals ys ws → Vals (xs ++ ys) (us ++ ws)
  | _, _, _, _, .nil, s => s
  | _, _, _, _, .cons r t, s => .cons r (Vals.append t s)
theorem Vals.take : ∀ {xs : List V} {us : List Value} (n : Nat), Vals xs us → Vals (xs.take n) (us.take n)
  | _, _, 0, _ => .nil
  | _, _, _ + 1, .nil => .nil
  | _, _, n + 1, .cons r t => .cons r (Vals.take n t)
theorem Vals.drop : ∀ {xs : List V} {us : List Value} (n : Nat), Vals xs us → Vals (xs.drop n) (us.drop n)
  | _, _, 0, r => r
  | _, _, _ + 1, .nil => .nil
  | _, _, n + 1, .cons _ t => Vals.drop n t
theorem Vals.none_of : ∀ {xs : List V} {us : List Value} {i : Nat}, Vals xs us → xs[i]? = none → us[i]? = none := fun {xs us i} r e => by
  have h1 := r.length
  have h2 : xs.length ≤ i := List.getElem?_eq_none_iff.mp e
  exact List.getElem?_eq_none_iff.mpr (by omega)

def RelO : Option V → Option Value → Prop
  | some v, some u => RelV v u
  | none, none => True
  | _, _ => False
def KV {κ : Type} : List (κ × V) → List (κ × Value) → Prop := Paired fun (p : κ × V) (q : κ × Value) => p.1 = q.1 ∧ RelV p.2 q.2

/-- a key of a dict (00_mix): an int or a text -/
def kV : Key → V
  | .inl i => .int i
  | .inr x => .str x

/-- a tuple without a dict of its own -/
def IsTupD (h : Heap) (a : Addr) (items : Array Value) : Prop := ∃ o, h.get? a = some o ∧ o.cls = .type "tuple" ∧ o.dict = none ∧ ∃ n, o.data = .seq items n
theorem IsTupD.tup {h : Heap} {a : Addr} {items : Array Value} (x : IsTupD h a items) : IsTup h a items := let ⟨o, e, c, _, n, d⟩ := x; ⟨o, e, c, n, d⟩
theorem IsTupD.lt {h : Heap} {a : Addr} {items : Array Value} (x : IsTupD h a items) : a < h.objs.size := let ⟨_, e, _⟩ := x; Heap.lt_size e
theorem IsTupD.new (h : Heap) (items : Array Value) : IsTupD (h.push { cls := .type "tuple", data := .seq items }) h.objs.size items := ⟨_, Heap.get?_push_size _ rfl, rfl, rfl, _, rfl⟩
/-- what stands at a tracked address -/
inductive HO where
  /-- a list -/
  | lst (xs : List V)
  /-- a tuple (never changes) -/
  | tup (xs : List V)
  /-- a dict whose keys are ints and texts; one whose keys are tuples of ints and texts (the empty one is both) -/
  | dK (kvs : List (Key × V)) | dT (kvs : List (List Key × V))
  /-- a set of ints: its members, its size -/
  | set (S : Int → Bool) (n : Nat)
  /-- an instance of the class at C, its dict at dx, its attributes -/
  | ins (C dx : Addr) (fs : List (Str × V))
  /-- the dict of the instance at x -/
  | own (x : Addr)
  /-- the dict of an exception -/
  | xd (fs : List (Str × V))
  /-- a bound method, f of x -/
  | met (f x : Addr)
  /-- a range object lo, lo + 1, .. below hi -/
  | rng (lo hi : Int)
  /-- a thing that is known to the object (the script; a dict while a loop walks it): read, never written while it is so -/
  | frz (o : Obj) (u : HO)
  /-- a code object's table -/
  | tbl (ps : Array Value)
  /-- any other thing, by what is true of its one object (a def of one's own: SetO a S n := HO.ext fun h => ..) -/
  | ext (φ : Heap → Prop)

abbrev Hp := Addr → Option HO
def upd (H : Hp) (a : Addr) (o : HO) : Hp := fun b => if b = a then some o else H b
theorem upd_same {H : Hp} {a : Addr} {o : HO} : upd H a o a = some o := by unfold upd; rw [if_pos rfl]
theorem upd_ne {H : Hp} {a b : Addr} {o : HO} (h : b ≠ a) : upd H a o b = H b := by unfold upd; rw [if_neg h]
theorem upd_upd {H : Hp} {a : Addr} {o u : HO} : upd (upd H a o) a u = upd H a u := by
  funext b; unfold upd; split <;> rfl
/-- two objects of different content stand apart -/
theorem ne_of {H : Hp} {a b : Addr} {o u : HO} (h : H a = some o) (h' : H b = some u) (d : o ≠ u) : a ≠ b := by
  intro e; subst e; rw [h] at h'; exact d (Option.some.inj h')
theorem ne_of_none {H : Hp} {a b : Addr} {o : HO} (h : H a = some o) (h' : H b = none) : a ≠ b := by
  intro e; subst e; rw [h] at h'; cases h'

section
variable (P : Program) (w : World)
def ObjOk (H : Hp) (h : Heap) (a : Addr) : HO → Prop
  | .lst xs => xs.length ≤ sizeLine ∧ ∃ (its : List Value) (n : Nat), Vals xs its ∧ h.get? a = some { cls := .type "list", data := .seq its.toArray n }
  | .tup xs => xs.length ≤ sizeLine ∧ ∃ its : List Value, Vals xs its ∧ IsTupD h a its.toArray
  | .dK kvs => kvs.length ≤ sizeLine ∧ (a == sysModules) = false ∧ ∃ vs, KV kvs vs ∧ h.DictOf (mixKind P w) a vs
  | .dT kvs => kvs.length ≤ sizeLine ∧ (a == sysModules) = false ∧ ∃ xs : List (List Key × Addr × Value),
      Paired (fun (p : List Key × V) (q : List Key × Addr × Value) => p.1 = q.1 ∧ H q.2.1 = some (.tup (p.1.map kV)) ∧ RelV p.2 q.2.2) kvs xs ∧
      ∃ o es ep, h.get? a = some o ∧ o.ExactDict ∧ o.data = .dict es ep ∧ es.toList = xs.map (entryOfKey (tupleKind (mixKind P w))) ∧ (xs.map (·.1)).Nodup
  | .set S n => h.SetOf (intKind P w) a S n
  | .ins C dx fs => H dx = some (.own a) ∧ fs.length ≤ 1000 ∧ dx ≠ a ∧ h.get? a = some (PySem.W.instObj C dx) ∧
      ∃ mA, h.Ns1 dx mA ∧ (∀ f, RelO (fs.lookup f) (mA f)) ∧ PySem.Within mA (fs.map (·.1))
  | .own _ => ∃ o, h.get? a = some o
  | .xd fs => ∃ mA, h.Ns1 a mA ∧ ∀ f, RelO (fs.lookup f) (mA f)
  | .rng lo hi => ∃ t u v, h.get? a = some { cls := .type "range", data := .fields #[.int lo t, .int hi u, .int 1 v] }
  | .frz o u => h.get? a = some o ∧ ObjOk H h a u
  | .tbl ps => h.get? a = some { cls := .none, data := .fields ps }
  | .met f x => h.get? a = some (PySem.W.methodObj (.ref f) (.ref x))
  | .ext φ => φ h ∧ (∃ o, h.get? a = some o) ∧ ∀ h1 h2 : Heap, φ h1 → (∀ o, h1.get? a = some o → h2.get? a = some o) → φ h2
/-- the abstract heap is held -/
def HOk (H : Hp) (h : Heap) : Prop := ∀ a o, H a = some o → ObjOk P w H h a o
end

section
variable {P : Program} {w : World} {H H' : Hp} {h h' : Heap} {a : Addr} {o : HO}
theorem ObjOk.lt (x : ObjOk P w H h a o) : a < h.objs.size := by
  cases o with
  | lst xs => obtain ⟨_, _, _, _, e⟩ := x; exact Heap.lt_size e
  | tup xs => obtain ⟨_, _, _, p⟩ := x; exact p.lt
  | dK kvs => obtain ⟨_, _, _, _, o, _, _, e, _⟩ := x; exact Heap.lt_size e
  | dT kvs => obtain ⟨_, _, _, _, o, _, _, e, _⟩ := x; exact Heap.lt_size e
  | set S n => obtain ⟨o, _, _, _, e, _⟩ := x; exact Heap.lt_size e
  | ins C dx fs => obtain ⟨_, _, _, e, _⟩ := x; exact Heap.lt_size e
  | own y => obtain ⟨_, e⟩ := x; exact Heap.lt_size e
  | xd fs => obtain ⟨_, ⟨_, _, _, e, _⟩, _⟩ := x; exact Heap.lt_size e
  | rng lo hi => obtain ⟨_, _, _, e⟩ := x; exact Heap.lt_size e
  | frz ob u => obtain ⟨e, _⟩ := x; exact Heap.lt_size e
  | tbl ps => exact Heap.lt_size (show h.get? a = some _ from x)
  | met f y => exact Heap.lt_size (show h.get? a = some _ from x)
  | ext φ => obtain ⟨_, ⟨_, e⟩, _⟩ := x; exact Heap.lt_size e
theorem Paired.mapP {α β : Type} {F G : α → β → Prop} : ∀ {l₁ : List α} {l₂ : List β}, Paired F l₁ l₂ → (∀ a b, F a b → G a b) → Paired G l₁ l₂
  | _, _, .nil, _ => .nil
  | _, _, .cons r t, f => .cons (f _ _ r) (Paired.mapP t f)
theorem Paired.imp' {α β : Type} {F G : α → β → Prop} (f : ∀ a b, F a b → G a b) {l₁ : List α} {l₂ : List β} (r : Paired F l₁ l₂) : Paired G l₁ l₂ := Paired.mapP r f
/-- what an object's description leans on: its own object, its own dict, the tuples -/
theorem ObjOk.stay (x : ObjOk P w H h a o) (k : ∀ b u, (b = a ∨ H b = some (.own a)) → h.get? b = some u → h'.get? b = some u)
    (ho : ∀ b, H b = some (.own a) → H' b = some (.own a)) (ht : ∀ b xs, H b = some (.tup xs) → H' b = some (.tup xs)) : ObjOk P w H' h' a o := by
  induction o with
  | lst xs => obtain ⟨z, its, n, r, e⟩ := x; exact ⟨z, its, n, r, k _ _ (.inl rfl) e⟩
  | tup xs => obtain ⟨z, its, r, ob, e, c⟩ := x; exact ⟨z, its, r, ob, k _ _ (.inl rfl) e, c⟩
  | dK kvs => obtain ⟨z, y, vs, r, ob, es, ep, e, c⟩ := x; exact ⟨z, y, vs, r, ob, es, ep, k _ _ (.inl rfl) e, c⟩
  | dT kvs =>
    obtain ⟨z, y, xs, r, ob, es, ep, e, c⟩ := x
    exact ⟨z, y, xs, Paired.mapP r fun p q z => ⟨z.1, ht _ _ z.2.1, z.2.2⟩, ob, es, ep, k _ _ (.inl rfl) e, c⟩
  | set S n => obtain ⟨ob, es, ep, t, e, c⟩ := x; exact ⟨ob, es, ep, t, k _ _ (.inl rfl) e, c⟩
  | ins C dx fs =>
    obtain ⟨d, z, ne, e, mA, ⟨od, es, ep, e2, c⟩, r⟩ := x
    exact ⟨ho _ d, z, ne, k _ _ (.inl rfl) e, mA, ⟨od, es, ep, k _ _ (.inr d) e2, c⟩, r⟩
  | own y => obtain ⟨ob, e⟩ := x; exact ⟨ob, k _ _ (.inl rfl) e⟩
  | xd fs => obtain ⟨mA, ⟨od, es, ep, e, c⟩, r⟩ := x; exact ⟨mA, ⟨od, es, ep, k _ _ (.inl rfl) e, c⟩, r⟩
  | rng lo hi => obtain ⟨t, u, v, e⟩ := x; exact ⟨t, u, v, k _ _ (.inl rfl) e⟩
  | frz ob u ih => obtain ⟨e, q⟩ := x; exact ⟨k _ _ (.inl rfl) e, ih q⟩
  | tbl ps =>
    have e : h.get? a = some { cls := .none, data := .fields ps } := x
    show h'.get? a = some { cls := .none, data := .fields ps }
    exact k a _ (.inl rfl) e
  | met f y =>
    have e : h.get? a = some (PySem.W.methodObj (.ref f) (.ref y)) := x
    show h'.get? a = some (PySem.W.methodObj (.ref f) (.ref y))
    exact k a _ (.inl rfl) e
  | ext φ => obtain ⟨p, ⟨o, e⟩, st⟩ := x; exact ⟨st _ _ p fun o q => k _ _ (.inl rfl) q, ⟨o, k _ _ (.inl rfl) e⟩, st⟩
theorem HOk.lt (x : HOk P w H h) (e : H a = some o) : a < h.objs.size := (x a o e).lt
theorem HOk.fresh (x : HOk P w H h) (e : h.objs.size ≤ a) : H a = none := by
  cases q : H a with
  | none => rfl
  | some u => exact absurd (Nat.lt_of_lt_of_le (x.lt q) e) (Nat.lt_irrefl _)
/-- every object of the heap is kept -/
theorem HOk.kept (x : HOk P w H h) (k : ∀ b u, h.get? b = some u → h'.get? b = some u) : HOk P w H h' := fun a o e =>
  (x a o e).stay (fun b u _ q => k b u q) (fun _ q => q) fun _ _ q => q
/-- a new object is laid and tracked -/
theorem HOk.laid (x : HOk P w H h) (k : ∀ b u, h.get? b = some u → h'.get? b = some u) (hp : h.objs.size ≤ a) (new : ObjOk P w (upd H a o) h' a o) : HOk P w (upd H a o) h' := fun b u e => by
  have hn := x.fresh hp
  by_cases hb : b = a
  · subst hb; rw [upd_same] at e; cases e; exact new
  · rw [upd_ne hb] at e
    exact (x b u e).stay (fun c v _ q => k c v q) (fun c q => by rw [upd_ne (ne_of_none q hn)]; exact q) fun c xs q => by rw [upd_ne (ne_of_none q hn)]; exact q
end

/-- what may be read as u: it is u, or a known u -/
def Rd (H : Hp) (a : Addr) (u : HO) : Prop := H a = some u ∨ ∃ o, H a = some (.frz o u)
theorem Rd.of {H : Hp} {a : Addr} {u : HO} (h : H a = some u) : Rd H a u := .inl h
theorem Rd.ok {P : Program} {w : World} {H : Hp} {h : Heap} {a : Addr} {u : HO} (r : Rd H a u) (x : HOk P w H h) : ObjOk P w H h a u := by
  rcases r with r | ⟨o, r⟩
  · exact x a u r
  · obtain ⟨_, q⟩ := x a _ r
    exact q
/-- what may be written -/
def Mut : Option HO → Prop
  | some (.lst _) => True
  | some (.dK _) => True
  | some (.dT _) => True
  | some (.set _ _) => True
  | some (.ins _ _ _) => True
  | some (.ext _) => True
  | _ => False
section
variable {P : Program} {w : World} {H : Hp} {h h' : Heap} {x e : Addr} {o' : HO}
/-- the object at e is changed: x itself, or the dict of the instance x -/
theorem HOk.write (ok : HOk P w H h) (mu : Mut (H x)) (he : e = x ∨ H e = some (.own x)) (k : ∀ b u, b ≠ e → h.get? b = some u → h'.get? b = some u) (heo : ∃ u, h'.get? e = some u)
    (new : ObjOk P w (upd H x o') h' x o') : HOk P w (upd H x o') h' := fun b u q => by
  have nown : ∀ c y, H c = some (.own y) → c ≠ x := fun c y r z => by subst z; rw [r] at mu; exact mu
  have ntup : ∀ c xs, H c = some (.tup xs) → c ≠ x := fun c xs r z => by subst z; rw [r] at mu; exact mu
  by_cases hb : b = x
  · subst hb; rw [upd_same] at q; cases q; exact new
  · rw [upd_ne hb] at q
    by_cases hbe : b = e
    · have q' : H b = some (.own x) := by
        rcases he with z | z
        · exact absurd (hbe.trans z) hb
        · rw [hbe]; exact z
      rw [q] at q'; cases q'
      obtain ⟨v, hv⟩ := heo
      exact ⟨v, by rw [hbe]; exact hv⟩
    · refine (ok b u q).stay (fun c v hc r => k c v ?_ r) (fun c r => by rw [upd_ne (nown c b r)]; exact r) fun c xs r => by rw [upd_ne (ntup c xs r)]; exact r
      rcases hc with rfl | hc
      · exact hbe
      · rintro rfl
        rcases he with z | z
        · exact nown c b hc z
        · rw [hc] at z; cases z; exact hb rfl
end

/-! ### kept unless tracked; of the frames at fs (the callers') the slots may change (an exception that passes writes there); of the records at ex (iterators) nothing is said -/
structure Un (fs ex : List Addr) (H H' : Hp) (h h' : Heap) : Prop where
  keep : ∀ b o, h.get? b = some o → H b = none → b ∉ fs → b ∉ ex → h'.get? b = some o
  slot : ∀ b o, h.get? b = some o → H b = none → b ∈ fs → b ∉ ex → ∃ sl, h'.get? b = some { o with slots := sl }
  free : ∀ b o, h.get? b = some o → H b = none → b ∉ ex → H' b = none
  there : ∀ b o, h.get? b = some o → b ∉ ex → ∃ o', h'.get? b = some o'
  tups : ∀ b xs, H b = some (.tup xs) → H' b = some (.tup xs)
  frzs : ∀ b o u, H b = some (.frz o u) → H' b = some (.frz o u)
  tbls : ∀ b ps, H b = some (.tbl ps) → ∃ more, H' b = some (.tbl (ps ++ more))
section
variable {fs fs' ex ex' : List Addr} {H H1 H2 : Hp} {h h1 h2 h' : Heap} {a x e : Addr} {o : HO}
theorem Un.any (u : Un fs ex H H1 h h1) {b : Addr} {ob : Obj} (q : h.get? b = some ob) (n : H b = none) (hx : b ∉ ex) : ∃ sl, h1.get? b = some { ob with slots := sl } := by
  by_cases hb : b ∈ fs
  · exact u.slot b ob q n hb hx
  · exact ⟨ob.slots, u.keep b ob q n hb hx⟩
theorem Un.trans (a : Un fs ex H H1 h h1) (b : Un fs ex H1 H2 h1 h2) : Un fs ex H H2 h h2 where
  keep := fun c ob q n hc hx => b.keep c ob (a.keep c ob q n hc hx) (a.free c ob q n hx) hc hx
  slot := fun c ob q n hc hx => by
    obtain ⟨sl, e1⟩ := a.slot c ob q n hc hx
    obtain ⟨sl', e2⟩ := b.slot c _ e1 (a.free c ob q n hx) hc hx
    exact ⟨sl', e2⟩
  free := fun c ob q n hx => by
    obtain ⟨o', e1⟩ := a.there c ob q hx
    exact b.free c o' e1 (a.free c ob q n hx) hx
  there := fun c ob q hx => by
    obtain ⟨o', e1⟩ := a.there c ob q hx
    exact b.there c o' e1 hx
  tups := fun c xs q => b.tups c xs (a.tups c xs q)
  frzs := fun c ob xs q => b.frzs c ob xs (a.frzs c ob xs q)
  tbls := fun c ps q => by
    obtain ⟨m1, e1⟩ := a.tbls c ps q
    obtain ⟨m2, e2⟩ := b.tbls c _ e1
    exact ⟨m1 ++ m2, by rw [e2, Array.append_assoc]⟩
theorem Un.kept (k : ∀ b u, h.get? b = some u → h'.get? b = some u) : Un fs ex H H h h' :=
  ⟨fun b ob q _ _ _ => k b ob q, fun b ob q _ _ _ => ⟨ob.slots, k b ob q⟩, fun _ _ _ n _ => n, fun b ob q _ => ⟨ob, k b ob q⟩, fun _ _ q => q, fun _ _ _ q => q, fun _ ps q => ⟨#[], by rw [q]; simp⟩⟩
theorem Un.refl : Un fs ex H H h h := Un.kept fun _ _ q => q
theorem Un.laid (k : ∀ b u, h.get? b = some u → h'.get? b = some u) (hp : h.objs.size ≤ a) (hn : H a = none) : Un fs ex H (upd H a o) h h' where
  keep := fun b u q _ _ _ => k b u q
  slot := fun b u q _ _ _ => ⟨u.slots, k b u q⟩
  free := fun b u q n _ => by rw [upd_ne (Nat.ne_of_lt (Nat.lt_of_lt_of_le (Heap.lt_size q) hp))]; exact n
  there := fun b u q _ => ⟨u, k b u q⟩
  tups := fun b xs q => by rw [upd_ne (ne_of_none q hn)]; exact q
  frzs := fun b u xs q => by rw [upd_ne (ne_of_none q hn)]; exact q
  tbls := fun b ps q => ⟨#[], by rw [upd_ne (ne_of_none q hn), q]; simp⟩
theorem Un.write (mu : Mut (H x)) (he : e = x ∨ H e = some (.own x)) (k : ∀ b u, b ≠ e → h.get? b = some u → h'.get? b = some u) (heo : ∃ u, h'.get? e = some u) : Un fs ex H (upd H x o) h h' := by
  have hx : ∀ b, H b = none → b ≠ x := fun b n z => by subst z; rw [n] at mu; exact mu
  have hb : ∀ b, H b = none → b ≠ e := fun b n z => by
    subst z
    rcases he with r | r
    · exact hx b n r
    · rw [n] at r; cases r
  have hm : ∀ b u, H b = some u → ¬ Mut (some u) → b ≠ x := fun b u q nm z => by subst z; rw [q] at mu; exact nm mu
  refine ⟨fun b u q n _ _ => k b u (hb b n) q, fun b u q n _ _ => ⟨u.slots, k b u (hb b n) q⟩, fun b u q n _ => by rw [upd_ne (hx b n)]; exact n, fun b u q _ => ?_,
    fun b xs q => by rw [upd_ne (hm b _ q fun z => z)]; exact q, fun b u xs q => by rw [upd_ne (hm b _ q fun z => z)]; exact q, fun b ps q => ⟨#[], by rw [upd_ne (hm b _ q fun z => z), q]; simp⟩⟩
  by_cases hbe : b = e
  · subst hbe; exact heo
  · exact ⟨u, k b u hbe q⟩
theorem Un.mono (u : Un fs ex H H1 h h1) (hs : ∀ b ∈ fs, b ∈ fs') (hx : ∀ b ∈ ex, b ∈ ex') : Un fs' ex' H H1 h h1 :=
  ⟨fun b ob q n hb he => u.keep b ob q n (fun z => hb (hs b z)) fun z => he (hx b z), fun _ _ q n _ he => u.any q n fun z => he (hx _ z), fun b ob q n he => u.free b ob q n fun z => he (hx b z), fun b ob q he => u.there b ob q fun z => he (hx b z), u.tups, u.frzs, u.tbls⟩
end

/-! ### the heap without what is tracked -/
def trk (h : Heap) (H : Hp) : List Addr := (List.range h.objs.size).filter fun a => (H a).isSome
def hidT (h : Heap) (H : Hp) : Heap := PySem.W.hideAll h (trk h H)
theorem hidT_size (h : Heap) (H : Hp) : (hidT h H).objs.size = h.objs.size := PySem.W.hideAll_size _ _
theorem hidT_get {h : Heap} {H : Hp} {b : Addr} {o : Obj} (e : h.get? b = some o) (n : H b = none) : (hidT h H).get? b = some o :=
  PySem.W.hideAll_get _ e fun hm => by
    have q : (H b).isSome = true := (List.mem_filter.mp hm).2
    rw [n] at q; simp at q
theorem of_hidT {h : Heap} {H : Hp} {b : Addr} {o : Obj} (e : (hidT h H).get? b = some o) : h.get? b = some o ∧ H b = none := by
  have e' : h.get? b = some o := PySem.W.of_hideAll (trk h H) e
  refine ⟨e', ?_⟩
  cases q : H b with
  | none => rfl
  | some x =>
    have hm : b ∈ trk h H := List.mem_filter.mpr ⟨List.mem_range.mpr (Heap.lt_size e'), by simp [q]⟩
    have z : (hidT h H).get? b = none := PySem.W.hideAll_none (trk h H) hm
    rw [z] at e; cases e

/-! ### OpenK's ledger, filled with every new object but one -/
def allNews (g h : Heap) (L : Addr) : List (Addr × Obj) := (List.range h.objs.size).filterMap fun a => if a = L ∨ (g.get? a).isSome = true then none else (h.get? a).map fun o => (a, o)
theorem mem_allNews {g h : Heap} {L a : Addr} {o : Obj} (h1 : a ≠ L) (h2 : g.get? a = none) (h3 : h.get? a = some o) : (a, o) ∈ allNews g h L :=
  List.mem_filterMap.mpr ⟨a, List.mem_range.mpr (Heap.lt_size h3), by simp [h1, h2, h3]⟩
theorem of_mem_allNews {g h : Heap} {L : Addr} {p : Addr × Obj} (hp : p ∈ allNews g h L) : p.1 ≠ L ∧ g.get? p.1 = none ∧ h.get? p.1 = some p.2 := by
  obtain ⟨b, _, e⟩ := List.mem_filterMap.mp hp
  split at e
  · cases e
  · rename_i hn
    cases q : h.get? b with
    | none => rw [q] at e; simp at e
    | some u =>
      rw [q] at e
      simp only [Option.map_some, Option.some.injEq] at e
      subst e
      refine ⟨fun z => hn (.inl z), ?_, q⟩
      show g.get? b = none
      cases r : g.get? b with
      | none => rfl
      | some v => exact (hn (.inr (by simp [r]))).elim
def rest (g h : Heap) (L d : Addr) : List (Addr × Obj) := (allNews g h L).filter fun p => decide (p.1 ≠ d)
theorem rest_ne {g h : Heap} {L d : Addr} : ∀ p ∈ rest g h L d, p.1 ≠ d := fun p hp => of_decide_eq_true (List.mem_filter.mp hp).2
theorem mem_rest {g h : Heap} {L d a : Addr} {o : Obj} (h1 : a ≠ L) (h2 : g.get? a = none) (h3 : h.get? a = some o) (h4 : a ≠ d) : (a, o) ∈ rest g h L d :=
  List.mem_filter.mpr ⟨mem_allNews h1 h2 h3, decide_eq_true h4⟩
theorem news_all {g h : Heap} {L : Addr} : News g L h (allNews g h L) := fun p hp => let ⟨a, b, c⟩ := of_mem_allNews hp; ⟨c, a, b⟩
theorem news_at {g h : Heap} {L d : Addr} {o : Obj} (h1 : d ≠ L) (h2 : g.get? d = none) (h3 : h.get? d = some o) : News g L h ((d, o) :: rest g h L d) := fun p hp => by
  rcases List.mem_cons.mp hp with rfl | hp
  · exact ⟨h3, h1, h2⟩
  · exact news_all p (List.mem_filter.mp hp).1
/-- behind a rule that changed d alone: all else but the frame is kept -/
theorem kept_of_news {g h h' : Heap} {L d : Addr} {m : Str → Option Value} (k : ∀ b o, g.get? b = some o → h.get? b = some o) (F : Fr g L h' m) (N : News g L h' (rest g h L d)) :
    ∀ b o, b ≠ L → b ≠ d → h.get? b = some o → h'.get? b = some o := fun b o h1 h2 e => by
  cases q : g.get? b with
  | some u =>
    have := k b u q
    rw [e] at this; cases this
    exact F.keep b _ q
  | none => exact (N (b, o) (mem_rest h1 q e h2)).1
end L2

namespace L2
open PySem PySem.Spec PyProof.Rows

/-- the module's facts, over the base: the heap at the law's entry without what is tracked there -/
structure Mod (K : PySem.W.Frag) (mg : Str → Option Value) (base : Heap) : Prop where
  kin : K.In base
  glob : base.Ns mainGlobals mg
  blt : ∃ mb, base.Ns builtinsNs mb ∧ ∀ x : Str, x ≠ "__name__" → mb x = bootBuiltins x
  nolimit : base.NoLimit

/-- the context: a def's body (or a comprehension's block) running. base: fixed through the whole law; s₀, H₀: the entry; outer: the frames whose slots others may change (a def's callers); stack: all frames that run;
   ex: iterators that were made ahead of the entry and are walked here (a comprehension's); fn: the names whose cells were made at the entry (a def: all; a comprehension's block: its own); calm: not within an except suite; pn: pins that every state bears; xe: what is wanted of an exception that leaves the code -/
structure Cx where
  prog : Program
  w : World
  K : PySem.W.Frag
  mg : Str → Option Value
  base : Heap
  A : Around
  N : List Str
  s₀ : Shared
  H₀ : Hp
  env : Env
  outer : List Env
  stack : List Env
  ex : List Addr
  fn : Str → Bool
  calm : Bool
  pn : List (Addr × Obj)
  xe : Value → Shared → Prop
/-- the callers' frames -/
def frs (l : List Env) : List Addr := l.filterMap (·.frame)
abbrev Cx.fs (X : Cx) : List Addr := frs X.outer

def Vis (sc : Scope) (x : Str) : Prop := sc.names.lookup x = some .local ∨ sc.names.lookup x = some .cell ∨ sc.names.lookup x = some .free
def Loc (sc : Scope) (x : Str) : Prop := sc.names.lookup x = some .local ∨ sc.names.lookup x = some .cell
def Look (env : Env) (h : Heap) (m : Str → Option Value) (x : Str) (u : Value) : Prop :=
  (env.kindOf x = some .local ∧ m x = some u) ∨ ((env.kindOf x = some .cell ∨ env.kindOf x = some .free) ∧ ∃ c, env.cells.lookup x = some c ∧ h.IsCell c (some u))

structure Cx.Ok (X : Cx) : Prop where
  mod : Mod X.K X.mg X.base
  kind : X.env.scope.kind = .function
  glob : X.env.globals = mainGlobals
  blt : X.env.builtins = builtinsNs
  above : X.s₀.heap.objs.size ≤ X.env.locals
  inj : ∀ x y c, X.env.cells.lookup x = some c → X.env.cells.lookup y = some c → x = y
  has : ∀ x, (X.env.kindOf x = some .cell ∨ X.env.kindOf x = some .free) → ∃ c, X.env.cells.lookup x = some c
  cab : ∀ x c, X.fn x = true → X.env.cells.lookup x = some c → X.s₀.heap.objs.size ≤ c
  hd : X.calm = true → X.A.handled = none
  frames : X.A.frames = some X.stack
  stk : X.stack = X.outer ∨ (X.stack = X.env :: X.outer ∧ X.env.frame = some X.env.locals)
  exf : ∀ b ∈ X.ex, b ≠ X.env.locals ∧ ∀ x c, X.env.cells.lookup x = some c → c ≠ b
  bs : ∀ b o, X.base.get? b = some o → X.s₀.heap.get? b = some o ∧ X.H₀ b = none
  bsz : X.base.objs.size ≤ X.s₀.heap.objs.size
  noex : ∀ b o, X.base.get? b = some o → b ∉ X.ex
  exfs : ∀ b ∈ X.ex, b ∉ X.fs
  funs : X.s₀.heap.FunFrames X.base X.outer
  frf : ∀ b ∈ X.fs, X.H₀ b = none

structure Inv (X : Cx) (pins : List (Addr × Obj)) (σ : List (Option V)) (H : Hp) (s : Shared) : Prop where
  ok : X.Ok
  os : s.os = X.s₀.os
  bare : AllBare s.gens
  base : Un X.fs X.ex X.H₀ H X.s₀.heap s.heap
  loc : ∃ m, s.heap.Ns X.env.locals m ∧ ∀ (i : Nat) (x : Str) (v : V), X.N[i]? = some x → σ[i]? = some (some v) → Vis X.env.scope x → ∃ u, RelV v u ∧ Look X.env s.heap m x u
  cell : ∀ x c, X.env.cells.lookup x = some c → ∃ v, s.heap.IsCell c v
  free : H X.env.locals = none
  freeC : ∀ x c, X.env.cells.lookup x = some c → H c = none
  pin : ∀ p ∈ X.pn ++ pins, s.heap.get? p.1 = some p.2 ∧ H p.1 = none ∧ p.1 ≠ X.env.locals ∧ p.1 ∉ X.fs ∧ ∀ v, p.2.data ≠ .cell v
  hok : HOk X.prog X.w H s.heap
  len : σ.length = X.N.length

section
variable {X : Cx} {pins : List (Addr × Obj)} {σ : List (Option V)} {H H' : Hp} {s : Shared} {h' : Heap}

theorem Cx.Ok.nofr (ok : X.Ok) {b : Addr} {o : Obj} (e : X.base.get? b = some o) : b ∉ X.fs := fun hb => by
  have := (ok.funs.mem hb).1
  rw [e] at this; cases this
theorem Inv.bs (I : Inv X pins σ H s) : ∀ b o, X.base.get? b = some o → s.heap.get? b = some o ∧ H b = none := fun b o e =>
  ⟨I.base.keep b o (I.ok.bs b o e).1 (I.ok.bs b o e).2 (I.ok.nofr e) (I.ok.noex b o e), I.base.free b o (I.ok.bs b o e).1 (I.ok.bs b o e).2 (I.ok.noex b o e)⟩
theorem Inv.bk (I : Inv X pins σ H s) : ∀ b o, X.base.get? b = some o → s.heap.get? b = some o := fun b o e => (I.bs b o e).1
theorem Inv.mod (I : Inv X pins σ H s) : Mod X.K X.mg X.base := I.ok.mod
theorem Inv.kIn (I : Inv X pins σ H s) : X.K.In s.heap := I.ok.mod.kin.keeps I.bk
theorem Inv.nolimit (I : Inv X pins σ H s) : s.heap.NoLimit := I.ok.mod.nolimit.keeps I.bk
/-- the frame over the base: for OpenK's rules (K.In X.base is I.mod.kin) -/
theorem Inv.fr (I : Inv X pins σ H s) : ∃ m, Fr X.base X.env.locals s.heap m :=
  let ⟨m, hn, _⟩ := I.loc
  ⟨m, hn, I.bk, Nat.le_trans I.ok.bsz I.ok.above⟩
theorem Inv.lt (I : Inv X pins σ H s) : X.env.locals < s.heap.objs.size := let ⟨_, hn, _⟩ := I.loc; hn.lt
theorem Inv.sz (I : Inv X pins σ H s) : X.s₀.heap.objs.size ≤ s.heap.objs.size := Nat.le_trans I.ok.above (Nat.le_of_lt I.lt)
theorem Inv.nofs (I : Inv X pins σ H s) {a : Addr} (h : s.heap.objs.size ≤ a) : a ∉ X.fs := fun hb => by
  obtain ⟨_, o, ho, _⟩ := I.ok.funs.mem hb
  exact absurd (Nat.lt_of_lt_of_le (Heap.lt_size ho) (Nat.le_trans I.sz h)) (Nat.lt_irrefl _)
theorem Inv.cne (I : Inv X pins σ H s) : ∀ x c, X.env.cells.lookup x = some c → c ≠ X.env.locals := fun x c e z => by
  obtain ⟨v, o, ho, hd⟩ := I.cell x c e
  obtain ⟨m, ⟨o', es, ep, ho', hd', _⟩, _⟩ := I.loc
  rw [z, ho'] at ho; cases ho; rw [hd'] at hd; cases hd
theorem Inv.funs (I : Inv X pins σ H s) : s.heap.FunFrames X.base X.outer := by
  have all : ∀ (l : List Env), (∀ b ∈ frs l, b ∈ X.fs) → X.s₀.heap.FunFrames X.base l → s.heap.FunFrames X.base l := by
    intro l
    induction l with
    | nil => intro _ _; trivial
    | cons env r ih =>
      intro hs hl
      obtain ⟨hk, ⟨L, o, hf, hn, ho, hd⟩, hr⟩ := hl
      have hL : L ∈ X.fs := hs L (by unfold frs; rw [List.filterMap_cons, hf]; exact List.mem_cons_self)
      obtain ⟨sl, e⟩ := I.base.slot L o ho (I.ok.frf L hL) hL fun z => I.ok.exfs L z hL
      exact ⟨hk, ⟨L, _, hf, hn, e, hd⟩, ih (fun b hb => hs b (by unfold frs; rw [List.filterMap_cons, hf]; exact List.mem_cons_of_mem _ hb)) hr⟩
  exact all X.outer (fun _ hb => hb) I.ok.funs

/-- the frames that run, for a call -/
theorem Inv.stack (I : Inv X pins σ H s) : s.heap.FunFrames X.base X.stack := by
  rcases I.ok.stk with e | ⟨e, hf⟩
  · rw [e]; exact I.funs
  · rw [e]
    obtain ⟨m, hn, _⟩ := I.loc
    refine .cons (by rw [I.ok.kind]; decide) hf hn ?_ I.funs
    exact Heap.get?_none_of_le (Nat.le_trans I.ok.bsz I.ok.above)
theorem Inv.stkSub (I : Inv X pins σ H s) : ∀ b ∈ frs X.stack, b ∈ X.env.locals :: X.fs := fun b hb => by
  rcases I.ok.stk with e | ⟨e, hf⟩
  · rw [e] at hb; exact List.mem_cons_of_mem _ hb
  · rw [e] at hb
    unfold frs at hb
    rw [List.filterMap_cons, hf] at hb
    exact hb
theorem Inv.stkFree (I : Inv X pins σ H s) : ∀ b ∈ frs X.stack, H b = none := fun b hb => by
  rcases List.mem_cons.mp (I.stkSub b hb) with e | hb
  · rw [e]; exact I.free
  · obtain ⟨_, o, ho, _⟩ := I.ok.funs.mem hb
    exact I.base.free b o ho (I.ok.frf b hb) fun z => I.ok.exfs b z hb

/-- THE STEP: the untracked objects but the frame and the records at ch are kept (the callers' frames up to slots), the frame's map is kept, the new abstract heap is held -/
theorem Inv.step {g' : Array GenState} {t' : Nat} {d' : Drawn} {ch : List Addr} (I : Inv X pins σ H s)
    (hch : ∀ b ∈ ch, (b ∈ X.ex ∨ X.s₀.heap.objs.size ≤ b) ∧ b ≠ X.env.locals ∧ (∀ x c, X.env.cells.lookup x = some c → c ≠ b) ∧ ∀ p ∈ X.pn ++ pins, p.1 ≠ b)
    (keep : ∀ b o, b ≠ X.env.locals → b ∉ X.fs → b ∉ ch → s.heap.get? b = some o → H b = none → h'.get? b = some o)
    (slot : ∀ b o, b ≠ X.env.locals → b ∈ X.fs → b ∉ ch → s.heap.get? b = some o → H b = none → ∃ sl, h'.get? b = some { o with slots := sl }) (free : ∀ b o, b ∉ ch → s.heap.get? b = some o → H b = none → H' b = none)
    (there : ∀ b o, b ∉ ch → s.heap.get? b = some o → ∃ o', h'.get? b = some o')
    (tups : ∀ b xs, H b = some (.tup xs) → H' b = some (.tup xs)) (frzs : ∀ b o u, H b = some (.frz o u) → H' b = some (.frz o u)) (tbls : ∀ b ps, H b = some (.tbl ps) → ∃ more, H' b = some (.tbl (ps ++ more)))
    (ns : ∀ m, s.heap.Ns X.env.locals m → h'.Ns X.env.locals m) (hok : HOk X.prog X.w H' h') (hg : AllBare g') :
    Inv X pins σ H' { s with heap := h', gens := g', drawn := d', toks := t' } := by
  have neL : ∀ b o, X.s₀.heap.get? b = some o → b ≠ X.env.locals := fun b o e => Nat.ne_of_lt (Nat.lt_of_lt_of_le (Heap.lt_size e) I.ok.above)
  have neC : ∀ b o, X.s₀.heap.get? b = some o → b ∉ X.ex → b ∉ ch := fun b o e hx hb => by
    rcases (hch b hb).1 with z | z
    · exact hx z
    · exact absurd (Nat.lt_of_lt_of_le (Heap.lt_size e) z) (Nat.lt_irrefl _)
  have cellK : ∀ x c, X.env.cells.lookup x = some c → ∀ v, s.heap.IsCell c v → h'.IsCell c v := fun x c e v ⟨o, ho, hd⟩ => by
    have nch : c ∉ ch := fun z => (hch c z).2.2.1 x c e rfl
    by_cases hc : c ∈ X.fs
    · obtain ⟨sl, q⟩ := slot c o (I.cne x c e) hc nch ho (I.freeC x c e)
      exact ⟨_, q, hd⟩
    · exact ⟨o, keep c o (I.cne x c e) hc nch ho (I.freeC x c e), hd⟩
  refine ⟨I.ok, I.os, hg, ⟨fun b o e n hb hx => ?_, fun b o e n hb hx => ?_, fun b o e n hx => ?_, fun b o e hx => ?_, fun b xs e => tups b xs (I.base.tups b xs e), fun b o xs e => frzs b o xs (I.base.frzs b o xs e), fun b ps e => ?_⟩, ?_, fun x c e => ?_, ?_, fun x c e => ?_, fun p hp => ?_, hok, I.len⟩
  · exact keep b o (neL b o e) hb (neC b o e hx) (I.base.keep b o e n hb hx) (I.base.free b o e n hx)
  · obtain ⟨sl, e1⟩ := I.base.slot b o e n hb hx
    obtain ⟨sl', e2⟩ := slot b _ (neL b o e) hb (neC b o e hx) e1 (I.base.free b o e n hx)
    exact ⟨sl', e2⟩
  · obtain ⟨o', e1⟩ := I.base.there b o e hx
    exact free b o' (neC b o e hx) e1 (I.base.free b o e n hx)
  · obtain ⟨o', e1⟩ := I.base.there b o e hx
    exact there b o' (neC b o e hx) e1
  · obtain ⟨m1, e1⟩ := I.base.tbls b ps e
    obtain ⟨m2, e2⟩ := tbls b _ e1
    exact ⟨m1 ++ m2, by rw [e2, Array.append_assoc]⟩
  · obtain ⟨m, hn, hl⟩ := I.loc
    refine ⟨m, ns m hn, fun i x v e1 e2 e3 => ?_⟩
    obtain ⟨u, r, l⟩ := hl i x v e1 e2 e3
    refine ⟨u, r, ?_⟩
    rcases l with l | ⟨k, c, e, z⟩
    · exact .inl l
    · exact .inr ⟨k, c, e, cellK x c e _ z⟩
  · obtain ⟨v, z⟩ := I.cell x c e
    exact ⟨v, cellK x c e v z⟩
  · obtain ⟨m, ⟨o, _, _, ho, _⟩, _⟩ := I.loc
    exact free _ o (fun z => (hch _ z).2.1 rfl) ho I.free
  · obtain ⟨v, o, ho, hd⟩ := I.cell x c e
    exact free c o (fun z => (hch c z).2.2.1 x c e rfl) ho (I.freeC x c e)
  · obtain ⟨e, n, ne, nf, d⟩ := I.pin p hp
    have nch : p.1 ∉ ch := fun z => (hch p.1 z).2.2.2 p hp rfl
    exact ⟨keep p.1 p.2 ne nf nch e n, free p.1 p.2 nch e n, ne, nf, d⟩
/-- .. where the frame's own object is kept too -/
theorem Inv.un {t' : Nat} (I : Inv X pins σ H s) (u : Un X.fs [] H H' s.heap h') (hok : HOk X.prog X.w H' h') : Inv X pins σ H' { s with heap := h', toks := t' } := by
  obtain ⟨m, ⟨o, es, ep, ho, r⟩, _⟩ := id I.loc
  obtain ⟨sl, hL⟩ := u.any ho I.free (by simp)
  exact I.step (g' := s.gens) (d' := s.drawn) (ch := []) (fun _ z => nomatch z) (fun b o _ hb _ e n => u.keep b o e n hb (by simp)) (fun b o _ hb _ e n => u.slot b o e n hb (by simp)) (fun b o _ e n => u.free b o e n (by simp)) (fun b o _ e => u.there b o e (by simp)) u.tups u.frzs u.tbls (fun m' hm => by
    obtain ⟨o', es', ep', ho', r'⟩ := hm
    rw [ho] at ho'; cases ho'
    exact ⟨_, es', ep', hL, r'⟩) hok I.bare
/-- behind a call (or a comprehension's block): the slots of this frame may have changed too, the records at ch may have turned -/
theorem Inv.call {g' : Array GenState} {t' : Nat} {d' : Drawn} {ch : List Addr} (I : Inv X pins σ H s) (u : Un (frs X.stack) ch H H' s.heap h') (hok : HOk X.prog X.w H' h') (hg : AllBare g')
    (hch : ∀ b ∈ ch, (b ∈ X.ex ∨ X.s₀.heap.objs.size ≤ b) ∧ b ≠ X.env.locals ∧ (∀ x c, X.env.cells.lookup x = some c → c ≠ b) ∧ ∀ p ∈ X.pn ++ pins, p.1 ≠ b) :
    Inv X pins σ H' { s with heap := h', gens := g', drawn := d', toks := t' } := by
  obtain ⟨m, ⟨o, es, ep, ho, r⟩, _⟩ := id I.loc
  obtain ⟨sl, hL⟩ := u.any ho I.free fun z => (hch _ z).2.1 rfl
  exact I.step (ch := ch) hch (fun b o hL hb hc e n => u.keep b o e n (fun z => (List.mem_cons.mp (I.stkSub b z)).elim hL hb) hc) (fun b o _ _ hc e n => u.any e n hc) (fun b o hc e n => u.free b o e n hc) (fun b o hc e => u.there b o e hc) u.tups u.frzs u.tbls (fun m' hm => by
    obtain ⟨o', es', ep', ho', r'⟩ := hm
    rw [ho] at ho'; cases ho'
    exact ⟨_, es', ep', hL, r'⟩) hok hg
/-- an untracked record of ours (an iterator) has turned -/
theorem Inv.turned {t' : Nat} {it : Addr} (I : Inv X pins σ H s) (k : ∀ b o, b ≠ it → s.heap.get? b = some o → h'.get? b = some o) (hn : H it = none) (hL : it ≠ X.env.locals)
    (h1 : it ∈ X.ex ∨ X.s₀.heap.objs.size ≤ it) (h2 : ∀ x c, X.env.cells.lookup x = some c → c ≠ it) (h3 : ∀ p ∈ X.pn ++ pins, p.1 ≠ it) : Inv X pins σ H { s with heap := h', toks := t' } := by
  have nit : ∀ b u, H b = some u → b ≠ it := fun b u e z => by rw [z, hn] at e; cases e
  refine I.step (g' := s.gens) (d' := s.drawn) (ch := [it]) (fun b hb => ?_) (fun b o _ _ hc e _ => k b o (fun z => hc (by simp [z])) e) (fun b o _ _ hc e _ => ⟨o.slots, k b o (fun z => hc (by simp [z])) e⟩) (fun _ _ _ _ n => n)
    (fun b o hc e => ⟨o, k b o (fun z => hc (by simp [z])) e⟩) (fun _ _ e => e) (fun _ _ _ e => e) (fun b ps e => ⟨#[], by rw [e]; simp⟩) (fun m hm => ?_) (fun b u e => ?_) I.bare
  · have e : b = it := by simpa using hb
    subst e
    exact ⟨h1, hL, h2, h3⟩
  · obtain ⟨o, es, ep, ho, r⟩ := hm
    exact ⟨o, es, ep, k _ o (Ne.symm hL) ho, r⟩
  · refine (I.hok b u e).stay (fun c v hc q => k c v ?_ q) (fun _ q => q) fun _ _ q => q
    rcases hc with z | z
    · rw [z]; exact nit b u e
    · exact nit c _ z
theorem Inv.tok (I : Inv X pins σ H s) (t : Nat) : Inv X pins σ H { s with toks := t } := I.un (h' := s.heap) (t' := t) Un.refl I.hok
/-- all objects kept -/
theorem Inv.kept {t' : Nat} (I : Inv X pins σ H s) (k : ∀ b u, s.heap.get? b = some u → h'.get? b = some u) : Inv X pins σ H { s with heap := h', toks := t' } := I.un (Un.kept k) (I.hok.kept k)
/-- a new object laid and tracked -/
theorem Inv.laid {a : Addr} {o : HO} {t' : Nat} (I : Inv X pins σ H s) (k : ∀ b u, s.heap.get? b = some u → h'.get? b = some u) (hp : s.heap.objs.size ≤ a) (new : ObjOk X.prog X.w (upd H a o) h' a o) :
    Inv X pins σ (upd H a o) { s with heap := h', toks := t' } := I.un (Un.laid k hp (I.hok.fresh hp)) (I.hok.laid k hp new)
/-- an object written -/
theorem Inv.write {x e : Addr} {o : HO} {t' : Nat} (I : Inv X pins σ H s) (mu : Mut (H x)) (he : e = x ∨ H e = some (.own x)) (k : ∀ b u, b ≠ e → s.heap.get? b = some u → h'.get? b = some u) (heo : ∃ u, h'.get? e = some u)
    (new : ObjOk X.prog X.w (upd H x o) h' x o) : Inv X pins σ (upd H x o) { s with heap := h', toks := t' } := I.un (Un.write mu he k heo) (I.hok.write mu he k heo new)
/-- forgetting slots, pins -/
theorem Inv.weak {σ' : List (Option V)} (I : Inv X pins σ H s) (hl : σ'.length = σ.length) (w : ∀ (i : Nat) v, σ'[i]? = some (some v) → σ[i]? = some (some v)) : Inv X pins σ' H s :=
  ⟨I.ok, I.os, I.bare, I.base, let ⟨m, hn, hl'⟩ := I.loc; ⟨m, hn, fun i x v e1 e2 e3 => hl' i x v e1 (w i v e2) e3⟩, I.cell, I.free, I.freeC, I.pin, I.hok, hl.trans I.len⟩
theorem Inv.pins_of {pins' : List (Addr × Obj)} (I : Inv X pins σ H s) (h : ∀ p ∈ pins', s.heap.get? p.1 = some p.2 ∧ H p.1 = none ∧ p.1 ≠ X.env.locals ∧ p.1 ∉ X.fs ∧ ∀ v, p.2.data ≠ .cell v) : Inv X pins' σ H s :=
  ⟨I.ok, I.os, I.bare, I.base, I.loc, I.cell, I.free, I.freeC, fun p hp => (List.mem_append.mp hp).elim (fun z => I.pin p (List.mem_append_left _ z)) (h p), I.hok, I.len⟩

theorem nodup_ix {N : List Str} (hN : N.Nodup) {i j : Nat} {x : Str} (a : N[i]? = some x) (b : N[j]? = some x) : i = j := by
  obtain ⟨h1, e1⟩ := List.getElem?_eq_some_iff.mp a
  obtain ⟨h2, e2⟩ := List.getElem?_eq_some_iff.mp b
  exact (List.getElem_inj hN).mp (e1.trans e2.symm)

/-- a name is stored; what changed -/
theorem store_ok2 {M : Model} {A : Around} {E : Value → Shared → Prop} {i : Nat} {x : Str} {v : V} {u : Value} {Q : Unit → Shared → Prop} (I : Inv X pins σ H s) (hN : X.N.Nodup) (hi : X.N[i]? = some x) (hx : Loc X.env.scope x) (r : RelV v u)
    (h : ∀ s', Inv X pins (σ.set i (some v)) H s' → (∃ a, Heap.SameBut a s.heap s'.heap ∧ (a = X.env.locals ∨ X.env.cells.lookup x = some a)) → Q () s') (hf : X.fn x = true ∨ X.env.scope.names.lookup x = some .local := by first | exact .inl rfl | exact .inr rfl | assumption) : wpAny M A (storeName X.env x u) Q E s := by
  obtain ⟨m, hn, hl⟩ := id I.loc
  have hcls : (X.env.scope.kind == .class || (X.env.scope.kind == .module && X.env.locals != X.env.globals)) = false := by rw [I.ok.kind]; rfl
  have hiσ : i < σ.length := by rw [I.len]; exact (List.getElem?_eq_some_iff.mp hi).1
  have cne := I.cne
  have tracked : ∀ {a : Addr} {h' : Heap}, (∃ o, s.heap.get? a = some o ∧ H a = none) → Heap.SameBut a s.heap h' → HOk X.prog X.w H h' := fun {a h'} ha hs b ob e => by
    obtain ⟨_, _, hfree⟩ := ha
    refine (I.hok b ob e).stay (fun c w' hc q => (hs.2 c ?_).trans q) (fun _ q => q) fun _ _ q => q
    rintro rfl
    rcases hc with rfl | hc
    · rw [hfree] at e; cases e
    · rw [hfree] at hc; cases hc
  rcases hx with hk | hk
  · refine wpAny_storeName_local hk hn (fun h' hn' hs => ?_) hcls
    obtain ⟨oL, _, _, hoL, _⟩ := id hn
    refine h _ ⟨I.ok, I.os, I.bare, ⟨fun b o e n hb hx => ?_, fun b o e n hb hx => ?_, I.base.free, fun b o e hx => ?_, I.base.tups, I.base.frzs, I.base.tbls⟩, ⟨_, hn', fun j y v' e1 e2 e3 => ?_⟩, fun y c e => ?_, I.free, I.freeC, fun p hp => ?_, tracked ⟨oL, hoL, I.free⟩ hs, by simpa using I.len⟩ ⟨_, hs, .inl rfl⟩
    · exact (hs.2 b (Nat.ne_of_lt (Nat.lt_of_lt_of_le (Heap.lt_size e) I.ok.above))).trans (I.base.keep b o e n hb hx)
    · obtain ⟨sl, e1⟩ := I.base.slot b o e n hb hx
      exact ⟨sl, (hs.2 b (Nat.ne_of_lt (Nat.lt_of_lt_of_le (Heap.lt_size e) I.ok.above))).trans e1⟩
    · obtain ⟨o', e1⟩ := I.base.there b o e hx
      exact ⟨o', (hs.2 b (Nat.ne_of_lt (Nat.lt_of_lt_of_le (Heap.lt_size e) I.ok.above))).trans e1⟩
    · by_cases hj : j = i
      · subst hj
        rw [hi] at e1; cases e1
        rw [List.getElem?_set_self hiσ] at e2
        cases e2
        exact ⟨u, r, .inl ⟨hk, by simp⟩⟩
      · rw [List.getElem?_set_ne (Ne.symm hj)] at e2
        obtain ⟨u', r', q⟩ := hl j y v' e1 e2 e3
        refine ⟨u', r', ?_⟩
        rcases q with ⟨k, e⟩ | ⟨k, c, e, z⟩
        · refine .inl ⟨k, ?_⟩
          have : y ≠ x := fun e => hj (nodup_ix hN e1 (e ▸ hi))
          simp [this, e]
        · exact .inr ⟨k, c, e, z.sameBut hs (cne y c e)⟩
    · obtain ⟨w', z⟩ := I.cell y c e
      exact ⟨w', z.sameBut hs (cne y c e)⟩
    · obtain ⟨e, n, ne, nf, d⟩ := I.pin p hp
      exact ⟨(hs.2 p.1 ne).trans e, n, ne, nf, d⟩
  · have hfn : X.fn x = true := by
      rcases hf with z | z
      · exact z
      · rw [z] at hk; cases hk
    obtain ⟨c, hc⟩ := I.ok.has x (.inl hk)
    obtain ⟨w', z⟩ := I.cell x c hc
    refine wpAny_storeName_cell I.ok.kind hk hc z (fun h' hc' hs => ?_)
    obtain ⟨oc, hoc, hocd⟩ := id z
    refine h { s with heap := h' } ⟨I.ok, I.os, I.bare, ⟨fun b o e n hb hx => ?_, fun b o e n hb hx => ?_, I.base.free, fun b o e hx => ?_, I.base.tups, I.base.frzs, I.base.tbls⟩, ⟨m, hn.sameBut hs (Ne.symm (cne x c hc)), fun j y v' e1 e2 e3 => ?_⟩, fun y c' e => ?_, I.free, I.freeC, fun p hp => ?_, tracked ⟨oc, hoc, I.freeC x c hc⟩ hs, by simpa using I.len⟩ ⟨c, hs, .inr hc⟩
    · exact (hs.2 b (Nat.ne_of_lt (Nat.lt_of_lt_of_le (Heap.lt_size e) (I.ok.cab x c hfn hc)))).trans (I.base.keep b o e n hb hx)
    · obtain ⟨sl, e1⟩ := I.base.slot b o e n hb hx
      exact ⟨sl, (hs.2 b (Nat.ne_of_lt (Nat.lt_of_lt_of_le (Heap.lt_size e) (I.ok.cab x c hfn hc)))).trans e1⟩
    · obtain ⟨o', e1⟩ := I.base.there b o e hx
      exact ⟨o', (hs.2 b (Nat.ne_of_lt (Nat.lt_of_lt_of_le (Heap.lt_size e) (I.ok.cab x c hfn hc)))).trans e1⟩
    · by_cases hj : j = i
      · subst hj
        rw [hi] at e1; cases e1
        rw [List.getElem?_set_self hiσ] at e2
        cases e2
        exact ⟨u, r, .inr ⟨.inl hk, c, hc, hc'⟩⟩
      · rw [List.getElem?_set_ne (Ne.symm hj)] at e2
        obtain ⟨u', r', q⟩ := hl j y v' e1 e2 e3
        refine ⟨u', r', ?_⟩
        rcases q with q | ⟨k, c', e, z'⟩
        · exact .inl q
        · refine .inr ⟨k, c', e, z'.sameBut hs ?_⟩
          rintro rfl
          exact hj (nodup_ix hN e1 (I.ok.inj _ _ _ e hc ▸ hi))
    · by_cases hcc : c' = c
      · subst hcc; exact ⟨_, hc'⟩
      · obtain ⟨w2, z2⟩ := I.cell y c' e
        exact ⟨w2, z2.sameBut hs hcc⟩
    · obtain ⟨e, n, ne, nf, d⟩ := I.pin p hp
      refine ⟨(hs.2 p.1 ?_).trans e, n, ne, nf, d⟩
      intro q
      rw [q, hoc] at e
      have q' : oc = p.2 := Option.some.inj e
      exact d w' (by rw [← q']; exact hocd)
theorem store_ok {M : Model} {A : Around} {E : Value → Shared → Prop} {i : Nat} {x : Str} {v : V} {u : Value} {Q : Unit → Shared → Prop} (I : Inv X pins σ H s) (hN : X.N.Nodup) (hi : X.N[i]? = some x) (hx : Loc X.env.scope x) (r : RelV v u)
    (h : ∀ s', Inv X pins (σ.set i (some v)) H s' → Q () s') (hf : X.fn x = true ∨ X.env.scope.names.lookup x = some .local := by first | exact .inl rfl | exact .inr rfl | assumption) : wpAny M A (storeName X.env x u) Q E s :=
  store_ok2 I hN hi hx r (fun s' I' _ => h s' I') hf
/-- behind a call or a block, the state as it is -/
theorem Inv.call' {s' : Shared} {ch : List Addr} (I : Inv X pins σ H s) (ho : s'.os = s.os) (u : Un (frs X.stack) ch H H' s.heap s'.heap) (hok : HOk X.prog X.w H' s'.heap) (hg : AllBare s'.gens)
    (hch : ∀ b ∈ ch, (b ∈ X.ex ∨ X.s₀.heap.objs.size ≤ b) ∧ b ≠ X.env.locals ∧ (∀ x c, X.env.cells.lookup x = some c → c ≠ b) ∧ ∀ p ∈ X.pn ++ pins, p.1 ≠ b) : Inv X pins σ H' s' := by
  obtain ⟨h', g', d', t', o'⟩ := s'
  have e : o' = s.os := ho
  subst e
  exact I.call (g' := g') (t' := t') (d' := d') u hok hg hch
end

/-! ### the judgements -/
/-- an exception: its class, its own dict's address (where it has one), the abstract heap behind it -/
abbrev XK := Value → Option Addr → Hp → Prop
abbrev St := List (Option V)
abbrev VK := V → Hp → Prop
/-- an expression's reading; a test's; an argument list's -/
abbrev TE := St → Hp → VK → Prop
abbrev TT := St → Hp → (Bool → Hp → Prop) → Prop
abbrev TA := St → Hp → (List V → Hp → Prop) → Prop
/-- what is wanted behind a statement -/
structure Ends where
  nx : St → Hp → Prop
  rt : VK
  bk : St → Hp → Prop := fun _ _ => False
  ct : St → Hp → Prop := fun _ _ => False
abbrev TS := Ends → St → Hp → Prop

def EP (X : Cx) (pins : List (Addr × Obj)) (σ : St) (Q : VK) (u : Value) (s' : Shared) : Prop := ∃ v H', Inv X pins σ H' s' ∧ RelV v u ∧ Q v H'
def TP (X : Cx) (pins : List (Addr × Obj)) (σ : St) (Q : Bool → Hp → Prop) (b : Bool) (s' : Shared) : Prop := ∃ H', Inv X pins σ H' s' ∧ Q b H'
def AP (X : Cx) (pins : List (Addr × Obj)) (σ : St) (Q : List V → Hp → Prop) (us : List Value) (s' : Shared) : Prop := ∃ vs H', Inv X pins σ H' s' ∧ Vals vs us ∧ Q vs H'
def SP (X : Cx) (pins : List (Addr × Obj)) (D : Ends) (f : Flow) (s' : Shared) : Prop :=
  match f with
  | .next => ∃ σ' H', Inv X pins σ' H' s' ∧ D.nx σ' H'
  | .brk => ∃ σ' H', Inv X pins σ' H' s' ∧ D.bk σ' H'
  | .cont => ∃ σ' H', Inv X pins σ' H' s' ∧ D.ct σ' H'
  | .ret u => ∃ v σ' H', Inv X pins σ' H' s' ∧ RelV v u ∧ D.rt v H'

def PE (X : Cx) (e : Expr) (t : TE) : Prop :=
  ∀ (pins : List (Addr × Obj)) (s : Shared) (σ : St) (H : Hp) (Q : VK), Inv X pins σ H s → t σ H Q → wpAny (model X.prog X.w) X.A (eval e X.env) (EP X pins σ Q) X.xe s
def PT (X : Cx) (e : Expr) (t : TT) : Prop :=
  ∀ (pins : List (Addr × Obj)) (s : Shared) (σ : St) (H : Hp) (Q : Bool → Hp → Prop), Inv X pins σ H s → t σ H Q → wpAny (model X.prog X.w) X.A (isTrue e X.env (eval e X.env)) (TP X pins σ Q) X.xe s
/-- a test whatever its 'whole' is (and, or) -/
def PW (X : Cx) (e : Expr) (t : TT) : Prop :=
  ∀ (whole : Sem Value) (pins : List (Addr × Obj)) (s : Shared) (σ : St) (H : Hp) (Q : Bool → Hp → Prop), Inv X pins σ H s → t σ H Q → wpAny (model X.prog X.w) X.A (isTrue e X.env whole) (TP X pins σ Q) X.xe s
theorem PW.pt {X : Cx} {e : Expr} {t : TT} (h : PW X e t) : PT X e t := h _
/-- an argument list (no star), from the left -/
def PA (X : Cx) (es : List Expr) (t : TA) : Prop :=
  ∀ (pos : Pos) (pins : List (Addr × Obj)) (s : Shared) (σ : St) (H : Hp) (Q : List V → Hp → Prop), Inv X pins σ H s → t σ H Q → wpAny (model X.prog X.w) X.A (spliced (backTo pos (starEach es X.env))) (AP X pins σ Q) X.xe s
def PS (X : Cx) (st : Stmt) (t : TS) : Prop :=
  ∀ (pins : List (Addr × Obj)) (s : Shared) (σ : St) (H : Hp) (D : Ends), Inv X pins σ H s → t D σ H → wpAny (model X.prog X.w) X.A (exec st X.env) (SP X pins D) X.xe s
def PSs (X : Cx) (st : List Stmt) (t : TS) : Prop :=
  ∀ (pins : List (Addr × Obj)) (s : Shared) (σ : St) (H : Hp) (D : Ends), Inv X pins σ H s → t D σ H → wpAny (model X.prog X.w) X.A (execs st X.env) (SP X pins D) X.xe s
/-- weaken the end -/
theorem thn {α : Type} {t : Sem α} {Q Q' : α → Shared → Prop} {M : Model} {A : Around} {E : Value → Shared → Prop} {s : Shared} (h : wpAny M A t Q E s) (hQ : ∀ a s, Q a s → Q' a s) : wpAny M A t Q' E s := wpAny_mono h hQ fun _ _ x => x
end L2

namespace L2
open PySem PySem.Spec PyProof.Rows
section
variable {X : Cx}

/-- two expressions in a row -/
theorem bin {a b : Expr} {ta tb : TE} (ha : PE X a ta) (hb : PE X b tb) {pins : List (Addr × Obj)} {s : Shared} {σ : St} {H : Hp} {R : V → V → Hp → Prop} (I : Inv X pins σ H s) (h : ta σ H fun x H1 => tb σ H1 fun y H2 => R x y H2)
    {α : Type} {Q : α → Shared → Prop} {f : Value → Value → Sem α}
    (hf : ∀ v u s2 x y H2, Inv X pins σ H2 s2 → RelV x v → RelV y u → R x y H2 → wpAny (model X.prog X.w) X.A (f v u) Q X.xe s2) :
    wpAny (model X.prog X.w) X.A (eval a X.env) (fun v s₁ => wpAny (model X.prog X.w) X.A (eval b X.env) (fun u s₂ => wpAny (model X.prog X.w) X.A (f v u) Q X.xe s₂) X.xe s₁) X.xe s := by
  refine thn (ha pins s σ H _ I h) fun v s1 ⟨x, H1, I1, r1, q1⟩ => ?_
  refine thn (hb pins s1 σ H1 _ I1 q1) fun u s2 ⟨y, H2, I2, r2, q2⟩ => ?_
  exact hf v u s2 x y H2 I2 r1 r2 q2

/-! ### names and constants -/
def tVar (i : Nat) : TE := fun σ H Q => ∃ v, σ[i]? = some (some v) ∧ Q v H
def tC (v : V) : TE := fun _ H Q => Q v H
theorem pe_var {i : Nat} {x : Str} {pos : Pos} (hN : X.N[i]? = some x) (hv : Vis X.env.scope x) (hd : (x == ("__debug__" : Str)) = false := by decide) (hcd : (x == ("__classdict__" : Str)) = false := by decide) : PE X (.Name x pos) (tVar i) := by
  intro pins s σ H Q I h
  obtain ⟨v, e, h⟩ := h
  obtain ⟨m, hn, hl⟩ := I.loc
  obtain ⟨u, r, l⟩ := hl i x v hN e hv
  have fin : EP X pins σ Q u s := ⟨v, H, I, r, h⟩
  rcases l with ⟨hk, hm⟩ | ⟨hk, c, hc, hcell⟩
  · exact wpAny_Name (wpAny_loadName_local I.ok.kind hk hn hm fin) hd
  · rcases hk with hk | hk
    · exact wpAny_Name (wpAny_loadName_cell I.ok.kind hk hc hcell fin) hd
    · exact wpAny_Name (wpAny_loadName_free I.ok.kind hk hc hcell fin hcd) hd
theorem pe_int {i j pos} : PE X (.Constant (.int i) j pos) (tC (.int i)) := fun _ _ _ H _ I h => wpAny_Constant_int ⟨.int i, H, I.tok _, ⟨_, rfl⟩, h⟩
theorem pe_bl {b j pos} : PE X (.Constant (.bool b) j pos) (tC (.bl b)) := fun _ _ _ H _ I h => Constant_bool ⟨.bl b, H, I, rfl, h⟩
theorem pe_non {j pos} : PE X (.Constant .none j pos) (tC .non) := fun _ _ _ H _ I h => Constant_none ⟨.non, H, I, rfl, h⟩
theorem pe_str {x j pos} : PE X (.Constant (.str x) j pos) (tC (.str x)) := fun _ _ _ H _ I h => Calls.Constant_str ⟨.str x, H, I.tok _, ⟨_, rfl⟩, h⟩

/-- a global name of the def -/
def Gl (X : Cx) (x : Str) : Prop := X.env.kindOf x = some .globalImplicit
theorem ld_glob {E : Value → Shared → Prop} {pins : List (Addr × Obj)} {s : Shared} {σ : St} {H : Hp} {x : Str} {u : Value} {pos : Pos} {Q : Value → Shared → Prop} (I : Inv X pins σ H s) (hg : Gl X x) (hm : X.mg x = some u) (h : Q u s)
    (hd : (x == ("__debug__" : Str)) = false := by decide) : wpAny (model X.prog X.w) X.A (eval (.Name x pos) X.env) Q E s :=
  Calls.Name_function_global I.ok.kind hg (Calls.loadGlobal_global (by rw [I.ok.glob]; exact I.mod.glob.keeps I.bk) hm h) hd
theorem ld_blt {E : Value → Shared → Prop} {pins : List (Addr × Obj)} {s : Shared} {σ : St} {H : Hp} {x : Str} {u : Value} {pos : Pos} {Q : Value → Shared → Prop} (I : Inv X pins σ H s) (hg : Gl X x) (hm : X.mg x = none) (hv : bootBuiltins x = some u) (h : Q u s)
    (hn : x ≠ "__name__" := by decide) (hd : (x == ("__debug__" : Str)) = false := by decide) : wpAny (model X.prog X.w) X.A (eval (.Name x pos) X.env) Q E s := by
  obtain ⟨mb, h1, h2⟩ := I.mod.blt
  exact Calls.Name_function_global I.ok.kind hg (Calls.loadGlobal_builtin (by rw [I.ok.glob]; exact I.mod.glob.keeps I.bk) hm (by rw [I.ok.blt]; exact h1.keeps I.bk) ((h2 x hn).trans hv) h) hd
/-- a module's constant, a class, a function, as a value -/
theorem pe_glob {x : Str} {v : V} {u : Value} {pos : Pos} (hg : Gl X x) (hm : X.mg x = some u) (r : RelV v u) (hd : (x == ("__debug__" : Str)) = false := by decide) : PE X (.Name x pos) (tC v) :=
  fun _ _ _ H _ I h => ld_glob I hg hm ⟨v, H, I, r, h⟩ hd
theorem pe_bltn {x : Str} {v : V} {u : Value} {pos : Pos} (hg : Gl X x) (hm : X.mg x = none) (hv : bootBuiltins x = some u) (r : RelV v u) (hn : x ≠ "__name__" := by decide) (hd : (x == ("__debug__" : Str)) = false := by decide) : PE X (.Name x pos) (tC v) :=
  fun _ _ _ H _ I h => ld_blt I hg hm hv ⟨v, H, I, r, h⟩ hn hd

/-! ### arithmetic -/
/-- two ints -/
def t2I (ta tb : TE) (k : Int → Int → Hp → Prop) : St → Hp → Prop := fun σ H => ta σ H fun x H1 => tb σ H1 fun y H2 => ∃ i j, x = .int i ∧ y = .int j ∧ k i j H2
def tAdd (ta tb : TE) : TE := fun σ H Q => t2I ta tb (fun i j H2 => Q (.int (i + j)) H2) σ H
def tSub (ta tb : TE) : TE := fun σ H Q => t2I ta tb (fun i j H2 => Q (.int (i - j)) H2) σ H
/-- the left factor below 2^64 -/
def tMul (ta tb : TE) : TE := fun σ H Q => t2I ta tb (fun i j H2 => (-(2 ^ 64) < i ∧ i < 2 ^ 64) ∧ Q (.int (i * j)) H2) σ H
variable {a b : Expr} {ta tb : TE} {pos : Pos}
theorem pe_add (ha : PE X a ta) (hb : PE X b tb) : PE X (.BinOp a .Add b pos) (tAdd ta tb) := by
  intro pins s σ H Q I h
  refine wpAny_BinOp (bin ha hb I h fun v u s2 x y H2 I2 rx ry q => ?_)
  obtain ⟨i, j, rfl, rfl, q⟩ := q
  obtain ⟨t, rfl⟩ := rx
  obtain ⟨t', rfl⟩ := ry
  exact add_int ⟨.int _, H2, I2.tok _, ⟨_, rfl⟩, q⟩
theorem pe_sub (ha : PE X a ta) (hb : PE X b tb) : PE X (.BinOp a .Sub b pos) (tSub ta tb) := by
  intro pins s σ H Q I h
  refine wpAny_BinOp (bin ha hb I h fun v u s2 x y H2 I2 rx ry q => ?_)
  obtain ⟨i, j, rfl, rfl, q⟩ := q
  obtain ⟨t, rfl⟩ := rx
  obtain ⟨t', rfl⟩ := ry
  exact sub_int ⟨.int _, H2, I2.tok _, ⟨_, rfl⟩, q⟩
theorem pe_mul (ha : PE X a ta) (hb : PE X b tb) : PE X (.BinOp a .Mult b pos) (tMul ta tb) := by
  intro pins s σ H Q I h
  refine wpAny_BinOp (bin ha hb I h fun v u s2 x y H2 I2 rx ry q => ?_)
  obtain ⟨i, j, rfl, rfl, ⟨q1, q2⟩, q⟩ := q
  obtain ⟨t, rfl⟩ := rx
  obtain ⟨t', rfl⟩ := ry
  exact mul_int ⟨.int _, H2, I2.tok _, ⟨_, rfl⟩, q⟩ (.of_left (intBits_le_64 q1 q2))

/-! ### comparisons -/
def PC (X : Cx) (op : CmpOp) (a b : Expr) (t : TE) : Prop :=
  ∀ (pins : List (Addr × Obj)) (s : Shared) (σ : St) (H : Hp) (Q : VK), Inv X pins σ H s → t σ H Q →
    wpAny (model X.prog X.w) X.A (eval a X.env) (fun v s₁ => wpAny (model X.prog X.w) X.A (eval b X.env) (fun u s₂ => wpAny (model X.prog X.w) X.A (compareOp op v u) (EP X pins σ Q) X.xe s₂) X.xe s₁) X.xe s
theorem nobehind (b : Expr) {op : CmpOp} (h : op ≠ .In) (h2 : op ≠ .NotIn) : behindInMarks op b = false := by
  have e1 : (op == CmpOp.In) = false := by cases op <;> first | rfl | exact absurd rfl h
  have e2 : (op == CmpOp.NotIn) = false := by cases op <;> first | rfl | exact absurd rfl h2
  cases b <;> simp [behindInMarks, e1, e2]
def tCmp (p : Int → Int → Bool) (ta tb : TE) : TE := fun σ H Q => t2I ta tb (fun i j H2 => Q (.bl (p i j)) H2) σ H
abbrev tLt : TE → TE → TE := tCmp fun i j => decide (i < j)
abbrev tLe : TE → TE → TE := tCmp fun i j => decide (i ≤ j)
abbrev tGt : TE → TE → TE := tCmp fun i j => decide (j < i)
abbrev tGe : TE → TE → TE := tCmp fun i j => decide (j ≤ i)
abbrev tEqI : TE → TE → TE := tCmp fun i j => decide (i = j)
abbrev tNeI : TE → TE → TE := tCmp fun i j => !decide (i = j)
/-- a comparison of two ints, by its rule -/
theorem pc_int {op : CmpOp} {p : Int → Int → Bool} (ha : PE X a ta) (hb : PE X b tb)
    (rule : ∀ (i j : Int) (t u : Tok) (Q : Value → Shared → Prop) (s : Shared), Q (.bool (p i j)) s → wpAny (model X.prog X.w) X.A (compareOp op (.int i t) (.int j u)) Q X.xe s) : PC X op a b (tCmp p ta tb) := by
  intro pins s σ H Q I h
  refine bin ha hb I h fun v u s2 x y H2 I2 rx ry q => ?_
  obtain ⟨i, j, rfl, rfl, q⟩ := q
  obtain ⟨t, rfl⟩ := rx
  obtain ⟨t', rfl⟩ := ry
  exact rule i j t t' _ s2 ⟨.bl _, H2, I2, rfl, q⟩
theorem pc_lt (ha : PE X a ta) (hb : PE X b tb) : PC X .Lt a b (tLt ta tb) := pc_int ha hb fun _ _ _ _ _ _ h => lt_int h
theorem pc_le (ha : PE X a ta) (hb : PE X b tb) : PC X .LtE a b (tLe ta tb) := pc_int ha hb fun _ _ _ _ _ _ h => le_int h
theorem pc_gt (ha : PE X a ta) (hb : PE X b tb) : PC X .Gt a b (tGt ta tb) := pc_int ha hb fun _ _ _ _ _ _ h => gt_int h
theorem pc_ge (ha : PE X a ta) (hb : PE X b tb) : PC X .GtE a b (tGe ta tb) := pc_int ha hb fun _ _ _ _ _ _ h => ge_int h
theorem pc_eqI (ha : PE X a ta) (hb : PE X b tb) : PC X .Eq a b (tEqI ta tb) := pc_int ha hb fun _ _ _ _ _ _ h => eq_int (by rw [Bool.beq_eq_decide_eq]; exact h)
theorem pc_neI (ha : PE X a ta) (hb : PE X b tb) : PC X .NotEq a b (tNeI ta tb) := pc_int ha hb fun _ _ _ _ _ _ h => ne_int (by rw [bne, Bool.beq_eq_decide_eq]; exact h)
/-- is None -/
def tIsN (ta : TE) : TE := fun σ H Q => ta σ H fun x H1 => Q (.bl (decide (x = .non))) H1
def tNotN (ta : TE) : TE := fun σ H Q => ta σ H fun x H1 => Q (.bl (!decide (x = .non))) H1
theorem RelV.none_iff {x : V} {v : Value} (r : RelV x v) : (v == Value.none) = decide (x = .non) := by
  cases x with
  | non => cases r; rfl
  | bl _ => cases r; rfl
  | int _ => obtain ⟨t, rfl⟩ := r; rfl
  | str _ => obtain ⟨t, rfl⟩ := r; rfl
  | byt _ => obtain ⟨t, rfl⟩ := r; rfl
  | flt _ => obtain ⟨t, rfl⟩ := r; rfl
  | ref _ => cases r; rfl
  | ty _ => cases r; rfl
theorem pc_isN {j pos'} (ha : PE X a ta) : PC X .Is a (.Constant .none j pos') (tIsN ta) := by
  intro pins s σ H Q I h
  refine thn (ha pins s σ H _ I h) fun v s1 ⟨x, H1, I1, r1, q1⟩ => ?_
  exact Constant_none (is_none_gen ⟨.bl _, H1, I1, by rw [r1.none_iff]; rfl, q1⟩)
theorem pc_notN {j pos'} (ha : PE X a ta) : PC X .IsNot a (.Constant .none j pos') (tNotN ta) := by
  intro pins s σ H Q I h
  refine thn (ha pins s σ H _ I h) fun v s1 ⟨x, H1, I1, r1, q1⟩ => ?_
  exact Constant_none (isnot_none_gen ⟨.bl _, H1, I1, by rw [r1.none_iff]; rfl, q1⟩)
/-- a comparison as a value, as a test -/
def tB (t : TE) : TT := fun σ H Q => t σ H fun x H1 => ∃ c, x = .bl c ∧ Q c H1
theorem pe_cmp {op : CmpOp} {t : TE} (h : PC X op a b t) (h1 : behindInMarks op b = false := by first | exact nobehind _ (by decide) (by decide) | rfl) : PE X (.Compare a [op] [b] pos) t := fun pins s σ H Q I hw => wpAny_Compare1 (h pins s σ H Q I hw) h1
theorem pt_cmp {op : CmpOp} {t : TE} (h : PC X op a b t) (h1 : behindInMarks op b = false := by first | exact nobehind _ (by decide) (by decide) | rfl) : PT X (.Compare a [op] [b] pos) (tB t) := by
  intro pins s σ H Q I hw
  refine wpAny_isTrue_Compare1 (thn (h pins s σ H _ I hw) fun v s1 h1 => thn h1 fun u s2 h2 => thn h2 fun c s3 ⟨x, H1, I1, r1, q1⟩ => ?_) h1
  obtain ⟨d, rfl, q⟩ := q1
  cases r1
  exact wpAny_truthy_bool ⟨H1, I1, q⟩
/-- an expression whose value is a bool, as a test -/
theorem pt_val {e : Expr} {t : TE} (h : PE X e t) (he : ∀ whole, isTrue e X.env whole = (do let v ← whole; standAt e.pos; holding [v] (truthy v)) := by intro _; rfl) : PT X e (tB t) := by
  intro pins s σ H Q I hw
  refine isTrue_plain (thn (h pins s σ H _ I hw) fun v s1 ⟨x, H1, I1, r1, q1⟩ => ?_) (he _)
  obtain ⟨d, rfl, q⟩ := q1
  cases r1
  exact wpAny_truthy_bool ⟨H1, I1, q⟩

/-! ### and, or, not -/
variable {tA tB' : TT} {rest : List Expr}
def tAnd (t u : TT) : TT := fun σ H Q => t σ H fun c H1 => if c = true then u σ H1 Q else Q false H1
def tOr (t u : TT) : TT := fun σ H Q => t σ H fun c H1 => if c = true then Q true H1 else u σ H1 Q
def tNot (t : TT) : TT := fun σ H Q => t σ H fun c H1 => Q (!c) H1
theorem pw_and1 (ha : PT X a tA) : PW X (.BoolOp .And [a] pos) tA := by
  intro wh pins s σ H Q I h
  refine isTrue_and (thn (ha pins s σ H Q I h) fun c s1 e => ?_)
  cases c with
  | true => exact isTrue_and_nil e
  | false => exact e
theorem pw_or1 (ha : PT X a tA) : PW X (.BoolOp .Or [a] pos) tA := by
  intro wh pins s σ H Q I h
  refine isTrue_or (thn (ha pins s σ H Q I h) fun c s1 e => ?_)
  cases c with
  | false => exact isTrue_or_nil e
  | true => exact e
theorem pw_and (ha : PT X a tA) (hb : PW X (.BoolOp .And (b :: rest) pos) tB') : PW X (.BoolOp .And (a :: b :: rest) pos) (tAnd tA tB') := by
  intro wh pins s σ H Q I h
  refine isTrue_and (thn (ha pins s σ H _ I h) fun c s1 ⟨H1, I1, q1⟩ => ?_)
  cases c with
  | true => exact hb wh pins s1 σ H1 Q I1 q1
  | false => exact ⟨H1, I1, q1⟩
theorem pw_or (ha : PT X a tA) (hb : PW X (.BoolOp .Or (b :: rest) pos) tB') : PW X (.BoolOp .Or (a :: b :: rest) pos) (tOr tA tB') := by
  intro wh pins s σ H Q I h
  refine isTrue_or (thn (ha pins s σ H _ I h) fun c s1 ⟨H1, I1, q1⟩ => ?_)
  cases c with
  | true => exact ⟨H1, I1, q1⟩
  | false => exact hb wh pins s1 σ H1 Q I1 q1
theorem pt_not (ha : PT X a tA) : PT X (.UnaryOp .Not a pos) (tNot tA) := by
  intro pins s σ H Q I h
  exact isTrue_not (ha pins s σ H (fun c H1 => Q (!c) H1) I h)
/-- .. as values (bools) -/
def tAndV (ta tb : TE) : TE := fun σ H Q => ta σ H fun x H1 => ∃ c, x = .bl c ∧ if c = true then tb σ H1 Q else Q (.bl false) H1
def tOrV (ta tb : TE) : TE := fun σ H Q => ta σ H fun x H1 => ∃ c, x = .bl c ∧ if c = true then Q (.bl true) H1 else tb σ H1 Q
def tNotV (ta : TE) : TE := fun σ H Q => ta σ H fun x H1 => ∃ c, x = .bl c ∧ Q (.bl (!c)) H1
theorem pe_one {op} {t : TE} (h : PE X a t) : PE X (.BoolOp op [a] pos) t := fun pins s σ H Q I hw => BoolOp_one (h pins s σ H Q I hw)
theorem pe_and (ha : PE X a ta) (hb : PE X (.BoolOp .And (b :: rest) pos) tb) : PE X (.BoolOp .And (a :: b :: rest) pos) (tAndV ta tb) := by
  intro pins s σ H Q I h
  refine BoolOp_and (thn (ha pins s σ H _ I h) fun v s1 ⟨x, H1, I1, r1, q1⟩ => ?_)
  obtain ⟨c, rfl, q1⟩ := q1
  cases r1
  refine wpAny_truthy_bool ?_
  cases c with
  | true => exact hb pins s1 σ H1 Q I1 q1
  | false => exact ⟨.bl false, H1, I1, rfl, q1⟩
theorem pe_or (ha : PE X a ta) (hb : PE X (.BoolOp .Or (b :: rest) pos) tb) : PE X (.BoolOp .Or (a :: b :: rest) pos) (tOrV ta tb) := by
  intro pins s σ H Q I h
  refine BoolOp_or (thn (ha pins s σ H _ I h) fun v s1 ⟨x, H1, I1, r1, q1⟩ => ?_)
  obtain ⟨c, rfl, q1⟩ := q1
  cases r1
  refine wpAny_truthy_bool ?_
  cases c with
  | false => exact hb pins s1 σ H1 Q I1 q1
  | true => exact ⟨.bl true, H1, I1, rfl, q1⟩
theorem pe_not (ha : PE X a ta) : PE X (.UnaryOp .Not a pos) (tNotV ta) := by
  intro pins s σ H Q I h
  refine UnaryOp_ (thn (ha pins s σ H _ I h) fun v s1 ⟨x, H1, I1, r1, q1⟩ => ?_)
  obtain ⟨c, rfl, q1⟩ := q1
  cases r1
  exact not_of (wpAny_truthy_bool ⟨.bl (!c), H1, I1, rfl, q1⟩)
/-- a if t else b -/
def tIf (t : TT) (ta tb : TE) : TE := fun σ H Q => t σ H fun c H1 => if c = true then ta σ H1 Q else tb σ H1 Q
theorem pe_ifExp {c : Expr} (hc : PT X c tA) (ha : PE X a ta) (hb : PE X b tb) : PE X (.IfExp c a b pos) (tIf tA ta tb) := by
  intro pins s σ H Q I h
  refine wpAny_IfExp (thn (hc pins s σ H _ I h) fun d s1 ⟨H1, I1, q1⟩ => ?_)
  cases d with
  | true => exact ha pins s1 σ H1 Q I1 q1
  | false => exact hb pins s1 σ H1 Q I1 q1
end
end L2

namespace L2
open PySem PySem.Spec PyProof.Rows

/-! ### a list, a tuple that is read: tracked, frozen, or an object of the module -/
def SqL (K : PySem.W.Frag) (H : Hp) (a : Addr) (xs : List V) : Prop :=
  Rd H a (.lst xs) ∨
    ∃ (o : Obj) (its : Array Value) (n : Nat), K.lookup a = some o ∧ o.cls = .type "list" ∧ o.dict = none ∧ o.data = .seq its n ∧ its.size ≤ sizeLine ∧ Vals xs its.toList
def SqT (K : PySem.W.Frag) (H : Hp) (a : Addr) (xs : List V) : Prop :=
  Rd H a (.tup xs) ∨
    ∃ (o : Obj) (its : Array Value) (n : Nat), K.lookup a = some o ∧ o.cls = .type "tuple" ∧ o.data = .seq its n ∧ its.size ≤ sizeLine ∧ Vals xs its.toList
def absV : Value → Option V
  | .none => some .non
  | .bool b => some (.bl b)
  | .int i _ => some (.int i)
  | .str x _ => some (.str x)
  | .bytes b _ => some (.byt b)
  | .float b _ => some (.flt b)
  | .ref a => some (.ref a)
  | .type n => some (.ty n)
  | _ => none
theorem RelV.abs {x : V} {u : Value} (r : RelV x u) : absV u = some x := by
  cases x with
  | non => cases r; rfl
  | bl _ => cases r; rfl
  | int _ => obtain ⟨t, rfl⟩ := r; rfl
  | str _ => obtain ⟨t, rfl⟩ := r; rfl
  | byt _ => obtain ⟨t, rfl⟩ := r; rfl
  | flt _ => obtain ⟨t, rfl⟩ := r; rfl
  | ref _ => cases r; rfl
  | ty _ => cases r; rfl
theorem RelV.inj {x y : V} {u : Value} (r : RelV x u) (q : RelV y u) : x = y := Option.some.inj (r.abs.symm.trans q.abs)
theorem Vals.inj : ∀ {xs ys : List V} {us : List Value}, Vals xs us → Vals ys us → xs = ys
  | _, _, _, .nil, .nil => rfl
  | _, _, _, .cons r t, .cons r' t' => by rw [r.inj r', Vals.inj t t']
section
variable {X : Cx} {pins : List (Addr × Obj)} {σ : St} {H : Hp} {s : Shared} {a : Addr} {xs ys : List V}
theorem SqL.of {K : PySem.W.Frag} (h : H a = some (.lst xs)) : SqL K H a xs := .inl (.inl h)
theorem SqT.of {K : PySem.W.Frag} (h : H a = some (.tup xs)) : SqT K H a xs := .inl (.inl h)
theorem Inv.list (I : Inv X pins σ H s) (h : SqL X.K H a xs) : ∃ its : List Value, Vals xs its ∧ PlainL s.heap a its.toArray ∧ xs.length ≤ sizeLine := by
  rcases h with h | ⟨o, its, n, hk, hc, hd, hs, hz, r⟩
  · obtain ⟨z, its, n, r, e⟩ := h.ok I.hok
    exact ⟨its, r, ⟨_, n, e, rfl, rfl, rfl⟩, z⟩
  · refine ⟨its.toList, r, ⟨o, n, I.kIn a o hk, hc, hd, by simpa using hs⟩, ?_⟩
    have e := r.length
    simp only [Array.length_toList] at e
    omega
theorem Inv.tuple (I : Inv X pins σ H s) (h : SqT X.K H a xs) : ∃ its : List Value, Vals xs its ∧ IsTup s.heap a its.toArray ∧ xs.length ≤ sizeLine := by
  rcases h with h | ⟨o, its, n, hk, hc, hs, hz, r⟩
  · obtain ⟨z, its, r, p⟩ := h.ok I.hok
    exact ⟨its, r, p.tup, z⟩
  · refine ⟨its.toList, r, ⟨o, I.kIn a o hk, hc, n, by simpa using hs⟩, ?_⟩
    have e := r.length
    simp only [Array.length_toList] at e
    omega
theorem Inv.list_inj (I : Inv X pins σ H s) (h : SqL X.K H a xs) (h' : SqL X.K H a ys) : xs = ys := by
  obtain ⟨its, r, ⟨o, n, e, _, _, d⟩, _⟩ := I.list h
  obtain ⟨its', r', ⟨o', n', e', _, _, d'⟩, _⟩ := I.list h'
  rw [e] at e'; cases e'
  rw [d] at d'
  injection d' with d1 _
  have : its = its' := by simpa using congrArg Array.toList d1
  subst this
  exact r.inj r'
theorem Inv.tuple_inj (I : Inv X pins σ H s) (h : SqT X.K H a xs) (h' : SqT X.K H a ys) : xs = ys := by
  obtain ⟨its, r, ⟨o, e, _, n, d⟩, _⟩ := I.tuple h
  obtain ⟨its', r', ⟨o', e', _, n', d'⟩, _⟩ := I.tuple h'
  rw [e] at e'; cases e'
  rw [d] at d'
  injection d' with d1 _
  have : its = its' := by simpa using congrArg Array.toList d1
  subst this
  exact r.inj r'
end

/-! ### another wish about exceptions -/
abbrev Cx.wish (X : Cx) (E : Value → Shared → Prop) : Cx := { X with xe := E }
/-- no exception leaves -/
abbrev Cx.nox (X : Cx) : Cx := X.wish fun _ _ => False
theorem Cx.Ok.wish {X : Cx} (ok : X.Ok) (E : Value → Shared → Prop) : (X.wish E).Ok :=
  ⟨ok.mod, ok.kind, ok.glob, ok.blt, ok.above, ok.inj, ok.has, ok.cab, ok.hd, ok.frames, ok.stk, ok.exf, ok.bs, ok.bsz, ok.noex, ok.exfs, ok.funs, ok.frf⟩
theorem Cx.Ok.unwish {X : Cx} {E : Value → Shared → Prop} (ok : (X.wish E).Ok) : X.Ok :=
  ⟨ok.mod, ok.kind, ok.glob, ok.blt, ok.above, ok.inj, ok.has, ok.cab, ok.hd, ok.frames, ok.stk, ok.exf, ok.bs, ok.bsz, ok.noex, ok.exfs, ok.funs, ok.frf⟩
section
variable {X : Cx} {pins : List (Addr × Obj)} {σ : St} {H : Hp} {s : Shared} {E : Value → Shared → Prop}
theorem Inv.wish (I : Inv X pins σ H s) (E : Value → Shared → Prop) : Inv (X.wish E) pins σ H s := ⟨I.ok.wish E, I.os, I.bare, I.base, I.loc, I.cell, I.free, I.freeC, I.pin, I.hok, I.len⟩
theorem Inv.unwish (I : Inv (X.wish E) pins σ H s) : Inv X pins σ H s := ⟨I.ok.unwish, I.os, I.bare, I.base, I.loc, I.cell, I.free, I.freeC, I.pin, I.hok, I.len⟩
theorem SP.unwish {D : Ends} {f : Flow} {s' : Shared} (h : SP (X.wish E) pins D f s') : SP X pins D f s' := by
  cases f with
  | next => obtain ⟨σ', H', I, q⟩ := h; exact ⟨σ', H', I.unwish, q⟩
  | brk => obtain ⟨σ', H', I, q⟩ := h; exact ⟨σ', H', I.unwish, q⟩
  | cont => obtain ⟨σ', H', I, q⟩ := h; exact ⟨σ', H', I.unwish, q⟩
  | ret u => obtain ⟨v, σ', H', I, r, q⟩ := h; exact ⟨v, σ', H', I.unwish, r, q⟩
theorem PE.nox {e : Expr} {t : TE} (h : PE X.nox e t) : PE X e t := fun pins s σ H Q I hw =>
  wpAny_mono (h pins s σ H Q (I.wish _) hw) (fun _ _ ⟨v, H', I', r, q⟩ => ⟨v, H', I'.unwish, r, q⟩) fun _ _ z => False.elim z
theorem PT.nox {e : Expr} {t : TT} (h : PT X.nox e t) : PT X e t := fun pins s σ H Q I hw =>
  wpAny_mono (h pins s σ H Q (I.wish _) hw) (fun _ _ ⟨H', I', q⟩ => ⟨H', I'.unwish, q⟩) fun _ _ z => False.elim z
theorem PSs.nox {st : List Stmt} {t : TS} (h : PSs X.nox st t) : PSs X st t := fun pins s σ H D I hw =>
  wpAny_mono (h pins s σ H D (I.wish _) hw) (fun _ _ q => q.unwish) fun _ _ z => False.elim z
end

/-! ### blocks and small statements -/
section
variable {X : Cx} {st : Stmt} {rest : List Stmt} {t u : TS} {e : Expr} {te : TE} {pos : Pos}
def tNext : TS := fun D σ H => D.nx σ H
def tSeq (t u : TS) : TS := fun D σ H => t { D with nx := u D } σ H
theorem pss_nil : PSs X [] tNext := fun _ _ σ H _ I h => wpAny_execs_nil ⟨σ, H, I, h⟩
theorem pss_cons (h1 : PS X st t) (h2 : PSs X rest u) : PSs X (st :: rest) (tSeq t u) := by
  intro pins s σ H D I h
  refine wpAny_execs_cons (thn (h1 pins s σ H { D with nx := u D } I h) fun f s1 q => ?_)
  cases f with
  | next =>
    obtain ⟨σ', H', I', q⟩ := q
    exact h2 pins s1 σ' H' D I' q
  | ret v => exact q
  | brk => exact q
  | cont => exact q
theorem pss_one (h1 : PS X st t) : PSs X [st] t := by
  intro pins s σ H D I h
  refine wpAny_execs_cons (thn (h1 pins s σ H D I h) fun f s1 q => ?_)
  cases f with
  | next => exact wpAny_execs_nil q
  | ret v => exact q
  | brk => exact q
  | cont => exact q
def tBreak : TS := fun D σ H => D.bk σ H
def tCont : TS := fun D σ H => D.ct σ H
theorem ps_pass : PS X (.Pass pos) tNext := fun _ _ σ H _ I h => wpAny_Pass ⟨σ, H, I, h⟩
theorem ps_break : PS X (.Break pos) tBreak := fun _ _ σ H _ I h => wpAny_Break ⟨σ, H, I, h⟩
theorem ps_continue : PS X (.Continue pos) tCont := fun _ _ σ H _ I h => wpAny_Continue ⟨σ, H, I, h⟩
/-- in a def's body nothing is shown -/
theorem Inv.quiet {pins : List (Addr × Obj)} {σ : St} {H : Hp} {s : Shared} (I : Inv X pins σ H s) : interactive X.env = false := by simp [interactive, I.ok.kind]
/-- a docstring -/
theorem ps_doc {x j pos pos'} : PS X (.Expr (.Constant (.str x) j pos) pos') tNext := fun _ s σ H _ I h => wpAny_Expr (Calls.Constant_str (show SP X _ _ .next { s with toks := s.toks + 1 } from ⟨σ, H, I.tok _, h⟩)) I.quiet
/-- an expression whose value is dropped -/
def tDrop (te : TE) : TS := fun D σ H => te σ H fun _ H1 => D.nx σ H1
theorem ps_expr (he : PE X e te) (hs : swapsWith e none pos.line X.env = pure false := by rfl) : PS X (.Expr e pos) (tDrop te) := by
  intro pins s σ H D I h
  exact wpAny_Expr_any (thn (he pins s σ H _ I h) fun v s1 ⟨x, H1, I1, r1, q1⟩ => ⟨σ, H1, I1, q1⟩) I.quiet hs
def tRet (te : TE) : TS := fun D σ H => te σ H D.rt
theorem ps_ret (he : PE X e te) : PS X (.Return (some e) pos) (tRet te) := by
  intro pins s σ H D I h
  exact wpAny_Return_some (thn (he pins s σ H _ I h) fun v s1 ⟨x, H1, I1, r1, q1⟩ => ⟨x, σ, H1, I1, r1, q1⟩)
def tRetN : TS := fun D _ H => D.rt .non H
theorem ps_retN : PS X (.Return none pos) tRetN := fun _ _ σ H _ I h => wpAny_Return_none ⟨.non, σ, H, I, rfl, h⟩
def tIfS (c : TT) (t u : TS) : TS := fun D σ H => c σ H fun b H1 => if b = true then t D σ H1 else u D σ H1
theorem ps_if {c : Expr} {a b : List Stmt} {tc : TT} (hc : PT X c tc) (ha : PSs X a t) (hb : PSs X b u) : PS X (.If c a b pos) (tIfS tc t u) := by
  intro pins s σ H D I h
  refine wpAny_If (thn (hc pins s σ H _ I h) fun d s1 ⟨H1, I1, q1⟩ => ?_)
  cases d with
  | true => exact ha pins s1 σ H1 D I1 q1
  | false => exact hb pins s1 σ H1 D I1 q1
/-- code that the proof never comes to -/
def tNever : TS := fun _ _ _ => False
theorem ps_never : PS X st tNever := fun _ _ _ _ _ _ h => h.elim
theorem pss_never {sts : List Stmt} : PSs X sts tNever := fun _ _ _ _ _ _ h => h.elim
end

/-! ### targets -/
abbrev TG := V → St → Hp → (St → Hp → Prop) → Prop
abbrev TGs := List V → St → Hp → (St → Hp → Prop) → Prop
def PG (X : Cx) (target : Expr) (t : TG) : Prop :=
  ∀ (pins : List (Addr × Obj)) (s : Shared) (σ : St) (H : Hp) (v : V) (u : Value) (Q : St → Hp → Prop), Inv X pins σ H s → RelV v u → t v σ H Q →
    wpAny (model X.prog X.w) X.A (assign target X.env u) (fun _ s' => ∃ σ' H', Inv X pins σ' H' s' ∧ Q σ' H') X.xe s
/-- several targets, one after another -/
def PGs (X : Cx) (ts : List Expr) (t : TGs) : Prop :=
  ∀ (pins : List (Addr × Obj)) (s : Shared) (σ : St) (H : Hp) (vs : List V) (us : List Value) (Q : St → Hp → Prop), Inv X pins σ H s → Vals vs us → t vs σ H Q →
    wpAny (model X.prog X.w) X.A (assignInOrder ((assignEach ts X.env).map (·.2)) us) (fun _ s' => ∃ σ' H', Inv X pins σ' H' s' ∧ Q σ' H') X.xe s
/-- o[i] = v, by values -/
abbrev TSet := V → V → V → Hp → (Hp → Prop) → Prop
def PSet (X : Cx) (t : TSet) : Prop :=
  ∀ (pins : List (Addr × Obj)) (s : Shared) (σ : St) (H : Hp) (o i v : V) (ov iv u : Value) (Q : Hp → Prop), Inv X pins σ H s → RelV o ov → RelV i iv → RelV v u → t o i v H Q →
    wpAny (model X.prog X.w) X.A (setItem ov iv u) (fun _ s' => ∃ H', Inv X pins σ H' s' ∧ Q H') X.xe s
/-- a op= b, by values -/
abbrev TIp := V → V → Hp → VK → Prop
def PIp (X : Cx) (op : Operator) (t : TIp) : Prop :=
  ∀ (pins : List (Addr × Obj)) (s : Shared) (σ : St) (H : Hp) (x y : V) (v u : Value) (Q : VK), Inv X pins σ H s → RelV x v → RelV y u → t x y H Q →
    wpAny (model X.prog X.w) X.A (inplaceOp op v u) (EP X pins σ Q) X.xe s
section
variable {X : Cx} {pos : Pos}
def gName (i : Nat) : TG := fun v σ H Q => Q (σ.set i (some v)) H
theorem pg_name {i : Nat} {x : Str} (hN : X.N.Nodup) (hi : X.N[i]? = some x) (hx : Loc X.env.scope x) (hf : X.fn x = true ∨ X.env.scope.names.lookup x = some .local := by first | exact .inl rfl | exact .inr rfl | assumption) : PG X (.Name x pos) (gName i) := by
  intro pins s σ H v u Q I r h
  exact wpAny_assign_Name (store_ok I hN hi hx r (fun s' I' => ⟨_, H, I', h⟩) hf)
def gNil : TGs := fun vs σ H Q => vs = [] ∧ Q σ H
def gCons (t : TG) (u : TGs) : TGs := fun vs σ H Q => ∃ v r, vs = v :: r ∧ t v σ H fun σ' H' => u r σ' H' Q
theorem pgs_nil : PGs X [] gNil := by
  intro pins s σ H vs us Q I r h
  obtain ⟨e, h⟩ := h
  subst e
  cases r
  exact assignInOrder_nil ⟨σ, H, I, h⟩
theorem pgs_cons {e : Expr} {es : List Expr} {t : TG} {u : TGs} (h1 : PG X e t) (h2 : PGs X es u)
    (hs : (assignEach (e :: es) X.env).map (·.2) = assign e X.env :: (assignEach es X.env).map (·.2) := by rfl) : PGs X (e :: es) (gCons t u) := by
  intro pins s σ H vs us Q I r h
  obtain ⟨v, vr, e1, h⟩ := h
  subst e1
  cases r with
  | cons r rr =>
    rw [hs]
    refine assignInOrder_cons (thn (h1 pins s σ H _ _ _ I r h) fun _ s1 ⟨σ1, H1, I1, q1⟩ => ?_)
    exact h2 pins s1 σ1 H1 _ _ Q I1 rr q1
/-- (a, b, ..) = a tuple of that length -/
def gTup (K : PySem.W.Frag) (n : Nat) (t : TGs) : TG := fun v σ H Q => ∃ a xs, v = .ref a ∧ SqT K H a xs ∧ xs.length = n ∧ t xs σ H Q
theorem pg_tup {es : List Expr} {k : Nat} {t : TGs} {n : Nat} (hc : X.calm = true) (h : PGs X es t)
    (hn : (assignEach es X.env).length = n := by rfl) (hst : (assignEach es X.env).findIdx? (·.1) = none := by rfl) : PG X (.Tuple es k pos) (gTup X.K n t) := by
  intro pins s σ H v u Q I r hw
  obtain ⟨a, xs, e1, hq, hl, hw⟩ := hw
  subst e1
  cases r
  obtain ⟨its, rv, ht, hz⟩ := I.tuple hq
  refine assign_Tuple_tuple (I.ok.hd hc) ht (by simp [hn, ← hl, rv.length]) hst fun h' hx => ?_
  have I1 : Inv X pins σ H { s with heap := h' } := I.kept (t' := s.toks) fun b o e => hx b o (Nat.ne_of_lt (Heap.lt_size e)) e
  exact h pins _ σ H xs _ Q I1 (by simpa using rv) hw
/-- o[i] = .. -/
def gSub (to ti : TE) (t : TSet) : TG := fun v σ H Q => to σ H fun o H1 => ti σ H1 fun i H2 => t o i v H2 fun H3 => Q σ H3
theorem pg_sub {o i : Expr} {to ti : TE} {t : TSet} (ho : PE X o to) (hi : PE X i ti) (hs : PSet X t)
    (ha : ∀ v, assign (.Subscript o i pos) X.env v = (do
      let ov ← holding [v] (eval o X.env)
      let iv ← holding [v, ov] (eval i X.env)
      standAt pos
      holding [v, ov, iv] (setItem ov iv v)
      release [v, ov, iv] []) := by intro _; rfl) : PG X (.Subscript o i pos) (gSub to ti t) := by
  intro pins s σ H v u Q I r h
  rw [ha]
  refine wpAny_bind (wpAny_holding (thn (ho pins s σ H _ I h) fun ov s1 ⟨x, H1, I1, r1, q1⟩ => ?_))
  refine wpAny_bind (wpAny_holding (thn (hi pins s1 σ H1 _ I1 q1) fun iv s2 ⟨y, H2, I2, r2, q2⟩ => ?_))
  refine wpAny_bind (wpAny_standAt (wpAny_bind (wpAny_holding (thn (hs pins s2 σ H2 x y v ov iv u _ I2 r1 r2 r q2) fun _ s3 ⟨H3, I3, q3⟩ => ?_))))
  exact wpAny_release ⟨σ, H3, I3, q3⟩
/-- target = value -/
def tAsg (te : TE) (g : TG) : TS := fun D σ H => te σ H fun x H1 => g x σ H1 D.nx
theorem ps_asg {tg e : Expr} {te : TE} {g : TG} (he : PE X e te) (hg : PG X tg g) (hs : swapsWithSole [tg] e pos.line X.env = pure false := by rfl) (hw : swappedStores [tg] e X.env = pure none := by rfl)
    (h1 : (assignEach [tg] X.env).map (·.2) = [assign tg X.env] := by rfl) : PS X (.Assign [tg] e pos) (tAsg te g) := by
  intro pins s σ H D I h
  refine wpAny_Assign_stores (thn (he pins s σ H _ I h) fun v s1 ⟨x, H1, I1, r1, q1⟩ => ?_) hs hw
  rw [h1]
  exact thn (hg pins s1 σ H1 x v _ I1 r1 q1) fun _ s2 q => q
/-- name = value -/
theorem ps_set {i : Nat} {x : Str} {e : Expr} {te : TE} {pos' : Pos} (hN : X.N.Nodup) (hi : X.N[i]? = some x) (hx : Loc X.env.scope x) (he : PE X e te) (hs : swapsWith e (some (.Name x pos')) pos.line X.env = pure false := by rfl) (hf : X.fn x = true ∨ X.env.scope.names.lookup x = some .local := by first | exact .inl rfl | exact .inr rfl | assumption) :
    PS X (.Assign [.Name x pos'] e pos) (tAsg te (gName i)) := by
  intro pins s σ H D I h
  refine wpAny_Assign_Name (thn (he pins s σ H _ I h) fun v s1 ⟨y, H1, I1, r1, q1⟩ => ?_) hs
  exact store_ok I1 hN hi hx r1 (fun s2 I2 => ⟨_, H1, I2, q1⟩) hf
/-- a, b = x, y with plain local names: stored from the right; the pair itself is not tracked (the opening rows as in PyProof/Rows/TupAssign.lean:23) -/
def tPar (i j : Nat) (ta : TA) : TS := fun D σ H => ta σ H fun vs H1 => ∃ v w, vs = [v, w] ∧ D.nx ((σ.set i (some v)).set j (some w)) H1
theorem ps_par {i j : Nat} {x y : Str} {a b : Expr} {ta : TA} {px py pt : Pos} {kt k2 pt2} (hc : X.calm = true) (hN : X.N.Nodup) (hi : X.N[i]? = some x) (hj : X.N[j]? = some y) (hij : i ≠ j)
    (hx : X.env.scope.names.lookup x = some .local) (hy : X.env.scope.names.lookup y = some .local) (ha : PA X [a, b] ta)
    (hw : swappedStores [.Tuple [.Name x px, .Name y py] kt pt] (.Tuple [a, b] k2 pt2) X.env = pure (some [x, y]))
    (hs : swapsWithSole [.Tuple [.Name x px, .Name y py] kt pt] (.Tuple [a, b] k2 pt2) pos.line X.env = pure false := by rfl) :
    PS X (.Assign [.Tuple [.Name x px, .Name y py] kt pt] (.Tuple [a, b] k2 pt2) pos) (tPar i j ta) := by
  intro pins s σ H D I h
  rw [exec_Assign_arm]
  refine wpAny_bind (wpAny_standAt ?_)
  rw [hs]
  refine wpAny_bind (wpAny_pure ?_)
  rw [if_neg (by decide)]
  refine wpAny_bind (Tuple_ (thn (ha _ pins s σ H _ I h) fun us s1 ⟨vs, H1, I1, r1, q1⟩ => ?_))
  obtain ⟨v, w, e1, q1⟩ := q1
  subst e1
  obtain ⟨u1, u2, rfl, rv, rw'⟩ : ∃ u1 u2, us = [u1, u2] ∧ RelV v u1 ∧ RelV w u2 := by
    cases r1 with
    | cons p q =>
      cases q with
      | cons p' q' =>
        cases q'
        exact ⟨_, _, rfl, p, p'⟩
  refine wpAny_newObj_type ?_ (by show 2 ≤ sizeLine; decide)
  have I2 : Inv X pins σ H1 { s1 with heap := s1.heap.push { cls := .type "tuple", data := .seq [u1, u2].toArray } } := I1.kept (t' := s1.toks) fun b o e => Heap.get?_push_of_some _ e
  rw [hw]
  refine wpAny_bind (wpAny_pure ?_)
  show wpAny (model X.prog X.w) X.A (do rule "assign.swapped-stores"; let items ← unpackItems (.ref s1.heap.objs.size) 2 none; assignInOrder [fun v => bindName X.env y v, fun v => bindName X.env x v] items.reverse; pure Flow.next) _ _ _
  refine wpAny_bind (wpAny_rule (wpAny_bind (unpackItems_tuple (items := #[u1, u2]) (I.ok.hd hc) (IsTup.new s1.heap _) fun h' hx' => ?_)))
  have I3 := I2.kept (h' := h') (t' := s1.toks) fun b o e => hx' b o (Nat.ne_of_lt (Heap.lt_size e)) e
  show wpAny _ _ (assignInOrder [fun v => bindName X.env y v, fun v => bindName X.env x v] [u2, u1] >>= fun _ => pure Flow.next) _ _ _
  refine wpAny_bind (assignInOrder_cons (wpAny_bindName (store_ok I3 hN hj (.inl hy) rw' (fun s2 I4 => ?_) (.inr hy))))
  refine assignInOrder_cons (wpAny_bindName (store_ok I4 hN hi (.inl hx) rv (fun s3 I5 => assignInOrder_nil (wpAny_pure ?_)) (.inr hx)))
  rw [List.set_comm _ _ (Ne.symm hij)] at I5
  exact ⟨_, H1, I5, q1⟩
/-- name op= e -/
def tAug (i : Nat) (te : TE) (ti : TIp) : TS := fun D σ H => ∃ x, σ[i]? = some (some x) ∧ te σ H fun y H1 => ti x y H1 fun z H2 => D.nx (σ.set i (some z)) H2
theorem ps_aug {i : Nat} {x : Str} {e : Expr} {te : TE} {op : Operator} {ti : TIp} {pos' : Pos} (hN : X.N.Nodup) (hi : X.N[i]? = some x) (hx : Loc X.env.scope x) (he : PE X e te) (ho : PIp X op ti) (hf : X.fn x = true ∨ X.env.scope.names.lookup x = some .local := by first | exact .inl rfl | exact .inr rfl | assumption) :
    PS X (.AugAssign (.Name x pos') op e pos) (tAug i te ti) := by
  intro pins s σ H D I h
  obtain ⟨v, e1, h⟩ := h
  obtain ⟨m, hn, hl⟩ := I.loc
  have vis : Vis X.env.scope x := by rcases hx with k | k; exact .inl k; exact .inr (.inl k)
  obtain ⟨u, r, l⟩ := hl i x v hi e1 vis
  refine wpAny_AugAssign_Name ?_
  have go : wpAny (model X.prog X.w) X.A (eval e X.env) (fun w s₂ => wpAny (model X.prog X.w) X.A (inplaceOp op u w) (fun r s₃ => wpAny (model X.prog X.w) X.A (storeName X.env x r) (fun _ => SP X pins D .next) X.xe s₃) X.xe s₂) X.xe s := by
    refine thn (he pins s σ H _ I h) fun w s1 ⟨y, H1, I1, r1, q1⟩ => ?_
    refine thn (ho pins s1 σ H1 v y u w _ I1 r r1 q1) fun z s2 ⟨zv, H2, I2, r2, q2⟩ => ?_
    exact store_ok I2 hN hi hx r2 (fun s3 I3 => ⟨_, H2, I3, q2⟩) hf
  rcases l with ⟨hk, hm⟩ | ⟨hk, c, hc, hcell⟩
  · exact wpAny_loadName_local I.ok.kind hk hn hm go
  · rcases hk with hk | hk
    · exact wpAny_loadName_cell I.ok.kind hk hc hcell go
    · rcases hx with k | k
      · have : X.env.scope.names.lookup x = some .free := hk
        rw [k] at this; cases this
      · have : X.env.scope.names.lookup x = some .free := hk
        rw [k] at this; cases this
/-- o[i] op= e -/
def tAugS (to ti te : TE) (tget : V → V → Hp → VK → Prop) (tip : TIp) (tset : TSet) : TS := fun D σ H => to σ H fun o H1 => ti σ H1 fun i H2 => tget o i H2 fun x H3 => te σ H3 fun y H4 => tip x y H4 fun z H5 => tset o i z H5 fun H6 => D.nx σ H6
/-- o[i], by values -/
def PGet (X : Cx) (t : V → V → Hp → VK → Prop) : Prop :=
  ∀ (pins : List (Addr × Obj)) (s : Shared) (σ : St) (H : Hp) (o i : V) (ov iv : Value) (Q : VK), Inv X pins σ H s → RelV o ov → RelV i iv → t o i H Q →
    wpAny (model X.prog X.w) X.A (getItem ov iv) (EP X pins σ Q) X.xe s
theorem ps_augS {o i e : Expr} {to ti te : TE} {tget : V → V → Hp → VK → Prop} {tip : TIp} {tset : TSet} {op : Operator} {tpos : Pos} (ho : PE X o to) (hi : PE X i ti) (hg : PGet X tget) (he : PE X e te) (hp : PIp X op tip) (hs : PSet X tset)
    (ha : ∀ ov iv new, augStore i ov iv new = (do holding [new, ov, iv] (setItem ov iv new); release [new, ov, iv] []; pure .next) := by intros; rfl) : PS X (.AugAssign (.Subscript o i tpos) op e pos) (tAugS to ti te tget tip tset) := by
  intro pins s σ H D I h
  refine wpAny_AugAssign_SubscriptAny (thn (ho pins s σ H _ I h) fun ov s1 ⟨x1, H1, I1, r1, q1⟩ => ?_) ha
  refine thn (hi pins s1 σ H1 _ I1 q1) fun iv s2 ⟨x2, H2, I2, r2, q2⟩ => ?_
  refine thn (hg pins s2 σ H2 x1 x2 ov iv _ I2 r1 r2 q2) fun old s3 ⟨x3, H3, I3, r3, q3⟩ => ?_
  refine thn (he pins s3 σ H3 _ I3 q3) fun v s4 ⟨x4, H4, I4, r4, q4⟩ => ?_
  refine thn (hp pins s4 σ H4 x3 x4 old v _ I4 r3 r4 q4) fun new s5 ⟨x5, H5, I5, r5, q5⟩ => ?_
  exact thn (hs pins s5 σ H5 x1 x2 x5 ov iv new _ I5 r1 r2 r5 q5) fun _ s6 ⟨H6, I6, q6⟩ => ⟨σ, H6, I6, q6⟩
/-- ints -/
def ipI (f : Int → Int → Int) : TIp := fun x y H Q => ∃ i j, x = .int i ∧ y = .int j ∧ Q (.int (f i j)) H
theorem ip_add : PIp X .Add (ipI fun i j => i + j) := by
  intro pins s σ H x y v u Q I r1 r2 h
  obtain ⟨i, j, e1, e2, q⟩ := h
  subst e1; subst e2
  obtain ⟨t, rfl⟩ := r1
  obtain ⟨t', rfl⟩ := r2
  exact iadd_int ⟨.int _, H, I.tok _, ⟨_, rfl⟩, q⟩
theorem ip_sub : PIp X .Sub (ipI fun i j => i - j) := by
  intro pins s σ H x y v u Q I r1 r2 h
  obtain ⟨i, j, e1, e2, q⟩ := h
  subst e1; subst e2
  obtain ⟨t, rfl⟩ := r1
  obtain ⟨t', rfl⟩ := r2
  exact isub_int ⟨.int _, H, I.tok _, ⟨_, rfl⟩, q⟩
end

/-! ### while -/
section
variable {X : Cx} {pos : Pos}
/-- the invariant W with its measure -/
def tWhile (c : TT) (tb : TS) : TS := fun D σ H => ∃ W : Nat → St → Hp → Prop, (∃ m, W m σ H) ∧ ∀ m σ H, W m σ H →
  c σ H fun b H1 => if b = true then ∃ N : St → Hp → Prop, (∀ σ' H', N σ' H' → ∃ m', m' < m ∧ W m' σ' H') ∧ tb { D with nx := N, ct := N, bk := D.nx } σ H1 else D.nx σ H1
theorem ps_while {c : Expr} {body : List Stmt} {tc : TT} {tb : TS} (hp : PassesOwn (model X.prog X.w) X.A X.env X.xe) (hc : PT X c tc) (hb : PSs X body tb) : PS X (.While c body [] pos) (tWhile tc tb) := by
  intro pins s σ H D I h
  obtain ⟨W, ⟨m0, w0⟩, turn⟩ := h
  refine wpAny_While (codeAny_whileLoop (fun n s' => ∃ σ' H', Inv X pins σ' H' s' ∧ W n σ' H') ?_ m0 ⟨σ, H, I, w0⟩)
  rintro n s1 ⟨σ1, H1, I1, w1⟩
  refine wpAny_passesOwn hp (thn (hc pins s1 σ1 H1 _ I1 (turn n σ1 H1 w1)) fun b s2 ⟨H2, I2, q2⟩ => ?_)
  cases b with
  | true =>
    obtain ⟨N, hN, q2⟩ := q2
    rw [if_pos rfl]
    refine wpAny_passesOwn hp (thn (hb pins s2 σ1 H2 _ I2 q2) fun f s3 q3 => ?_)
    cases f with
    | next =>
      obtain ⟨σ3, H3, I3, n3⟩ := q3
      obtain ⟨m', hm, w3⟩ := hN σ3 H3 n3
      exact ⟨m', hm, σ3, H3, I3, w3⟩
    | cont =>
      obtain ⟨σ3, H3, I3, n3⟩ := q3
      obtain ⟨m', hm, w3⟩ := hN σ3 H3 n3
      exact ⟨m', hm, σ3, H3, I3, w3⟩
    | brk => exact q3
    | ret v => exact q3
  | false =>
    rw [if_neg Bool.false_ne_true]
    exact wpAny_execs_nil ⟨σ1, H2, I2, q2⟩
end

/-! ### what a loop or a comprehension walks -/
/-- at turn i: it yields x (the heap may grow), or it stops -/
structure It where
  go : Nat → Hp → Prop
  yld : Nat → Hp → V → Hp → Prop
  stop : Nat → Hp → Prop
/-- the iterator's own objects may turn: they are not the frame's, not pinned, younger than the entry (or a comprehension's own) -/
def FpOk (X : Cx) (pins : List (Addr × Obj)) (H : Hp) (b : Addr) : Prop :=
  H b = none ∧ b ≠ X.env.locals ∧ b ∉ X.fs ∧ (b ∈ X.ex ∨ X.s₀.heap.objs.size ≤ b) ∧ (∀ x c, X.env.cells.lookup x = some c → c ≠ b) ∧ ∀ p ∈ X.pn ++ pins, p.1 ≠ b
theorem Inv.fpOk {X : Cx} {pins : List (Addr × Obj)} {σ : St} {H H' : Hp} {s : Shared} {b : Addr} (I : Inv X pins σ H s) (hb : s.heap.objs.size ≤ b) (hn : H' b = none) : FpOk X pins H' b := by
  refine ⟨hn, Nat.ne_of_gt (Nat.lt_of_lt_of_le I.lt hb), I.nofs hb, .inr (Nat.le_trans I.sz hb), fun x c e z => ?_, fun p hp z => ?_⟩
  · obtain ⟨v, q⟩ := I.cell x c e
    exact absurd (Nat.lt_of_lt_of_le q.lt (by rw [z]; exact hb)) (Nat.lt_irrefl _)
  · exact absurd (Nat.lt_of_lt_of_le (Heap.lt_size (I.pin p hp).1) (by rw [z]; exact hb)) (Nat.lt_irrefl _)
structure Turn (P : Program) (w : World) (K : PySem.W.Frag) (tg : Expr) (J : It) (fp : List Addr) (it : Addr) (tn : Nat → Heap → Prop) : Prop where
  mem : it ∈ fp
  obj : ∀ i h, tn i h → ∀ b ∈ fp, ∃ o, h.get? b = some o ∧ ∀ v, o.data ≠ .cell v
  keep : ∀ i h h', tn i h → (∀ b ∈ fp, ∀ o, h.get? b = some o → h'.get? b = some o) → tn i h'
  item : ∀ (X : Cx), X.prog = P → X.w = w → X.K = K → X.calm = true → ∀ (i : Nat) (pins : List (Addr × Obj)) (s : Shared) (σ : St) (H : Hp) (E : Value → Shared → Prop), Inv X pins σ H s → (∀ b ∈ fp, FpOk X pins H b) → tn i s.heap → J.go i H →
    wpAny (model P w) X.A (pyNext (.ref it)) (fun r s1 => ∃ u, r = some u ∧
      wpAny (model P w) X.A (letOwnedTupleGo tg (.ref it) u) (fun _ s2 => ∃ x H', Inv X pins σ H' s2 ∧ RelV x u ∧ J.yld i H x H' ∧ tn (i + 1) s2.heap ∧ ∀ b ∈ fp, H' b = none) E s1) E s
  done : ∀ (X : Cx), X.prog = P → X.w = w → X.K = K → X.calm = true → ∀ (i : Nat) (pins : List (Addr × Obj)) (s : Shared) (σ : St) (H : Hp) (E : Value → Shared → Prop), Inv X pins σ H s → (∀ b ∈ fp, FpOk X pins H b) → tn i s.heap → J.stop i H →
    wpAny (model P w) X.A (pyNext (.ref it)) (fun r s1 => r = none ∧ Inv X pins σ H s1) E s
  self : ∀ (A : Around) (i : Nat) (s : Shared) (Q : Value → Shared → Prop) (E : Value → Shared → Prop), tn i s.heap → Q (.ref it) s → wpAny (model P w) A (pyIter (.ref it)) Q E s
abbrev TI := St → Hp → (It → Hp → Prop) → Prop
/-- an iterator has come -/
def PIE (X : Cx) (pins : List (Addr × Obj)) (σ : St) (tg : Expr) (R : It → Hp → Prop) (itv : Value) (s2 : Shared) : Prop :=
  ∃ (it : Addr) (fp : List Addr) (tn : Nat → Heap → Prop) (J : It) (H' : Hp), itv = .ref it ∧ Inv X pins σ H' s2 ∧ Turn X.prog X.w X.K tg J fp it tn ∧ tn 0 s2.heap ∧ (∀ b ∈ fp, FpOk X pins H' b) ∧ R J H'
def PI (X : Cx) (tg iter : Expr) (wi : TI) : Prop :=
  ∀ (pins : List (Addr × Obj)) (s : Shared) (σ : St) (H : Hp) (R : It → Hp → Prop), Inv X pins σ H s → wi σ H R →
    wpAny (model X.prog X.w) X.A (eval iter X.env) (fun v s1 => wpAny (model X.prog X.w) X.A (pyIter v) (PIE X pins σ tg R) X.xe s1) X.xe s

/-- the step ahead of the store is nothing for an iterator that keeps no tuple -/
theorem go_of {M : Model} {A : Around} {E : Value → Shared → Prop} {s : Shared} {tg : Expr} {it : Addr} {u : Value} {o : Obj} {n : String} {vs : Array Value} {Q : Unit → Shared → Prop} (ho : s.heap.get? it = some o) (hc : o.cls = .type n) (hd : o.data = .fields vs)
    (hn : ["enumerate", "zip", "dict_itemiterator", "dict_reverseitemiterator", "odict_iterator", "itertools.zip_longest", "itertools.pairwise"].contains n = false) (hQ : Q () s) : wpAny M A (letOwnedTupleGo tg (.ref it) u) Q E s := by
  unfold letOwnedTupleGo
  cases tg <;> first
    | exact wpAny_pure hQ
    | (cases u <;> first
        | exact wpAny_pure hQ
        | (refine wpAny_bind (wpAny_load ho ?_)
           rw [hc, hd]
           show wpAny M A (if (["enumerate", "zip", "dict_itemiterator", "dict_reverseitemiterator", "odict_iterator", "itertools.zip_longest", "itertools.pairwise"].contains n && vs[0]? == some (rawInt _)) = true then _ else _) Q E s
           rw [if_neg (by intro h; rw [hn, Bool.false_and] at h; cases h)]
           exact wpAny_pure hQ))

/-- the list at a, as it stands at each turn (a loop may append to it) -/
def Itl (K : PySem.W.Frag) (a : Addr) : It :=
  ⟨fun i H => ∃ xs x, SqL K H a xs ∧ xs[i]? = some x, fun i H x H' => H' = H ∧ ∀ xs, SqL K H a xs → xs[i]? = some x, fun i H => ∃ xs, SqL K H a xs ∧ xs.length ≤ i⟩
def Itt (K : PySem.W.Frag) (a : Addr) : It :=
  ⟨fun i H => ∃ xs x, SqT K H a xs ∧ xs[i]? = some x, fun i H x H' => H' = H ∧ ∀ xs, SqT K H a xs → xs[i]? = some x, fun i H => ∃ xs, SqT K H a xs ∧ xs.length ≤ i⟩
/-- lo, lo + 1, .. (n of them) -/
def Itr (lo : Int) (n : Nat) : It := ⟨fun i _ => i < n, fun i H x H' => H' = H ∧ x = .int (lo + i), fun i _ => n ≤ i⟩
theorem turn_list {P : Program} {w : World} {K : PySem.W.Frag} {tg : Expr} (a it : Addr) : Turn P w K tg (Itl K a) [it] it (fun i h => h.IsListIter it a i) where
  mem := by simp
  obj := fun i h st b hb => by
    have e : b = it := by simpa using hb
    subst e
    obtain ⟨o, e, c, d⟩ := st
    exact ⟨o, e, fun v z => by rw [d] at z; cases z⟩
  keep := fun i h h' st k => st.at fun o e => k it (by simp) o e
  item := by
    intro X hP hw hK hc i pins s σ H E I hf st hg
    subst hP hw hK
    obtain ⟨xs, x, hq, hx⟩ := hg
    obtain ⟨its, rv, p, hz⟩ := I.list hq
    obtain ⟨u, hu, ru⟩ := rv.get hx
    obtain ⟨f0, f1, f2, f3, f4, f5⟩ := hf it (by simp)
    refine wpAny_pyNext_list_item st p.isList (x := u) (by simpa using hu) fun h' st' sb => ?_
    have I1 : Inv X pins σ H { s with heap := h' } := I.turned (t' := s.toks) (fun b o hb e => (sb.2 b hb).trans e) f0 f1 f3 f4 f5
    obtain ⟨o, e, c, d⟩ := id st'
    exact ⟨u, rfl, go_of (s := { s with heap := h' }) e c d (by decide) ⟨x, H, I1, ru, ⟨rfl, fun ys hy => by rw [I.list_inj hy hq]; exact hx⟩, st', fun b hb => (hf b hb).1⟩⟩
  done := by
    intro X hP hw hK hc i pins s σ H E I hf st hg
    subst hP hw hK
    obtain ⟨xs, hq, hx⟩ := hg
    obtain ⟨its, rv, p, hz⟩ := I.list hq
    obtain ⟨f0, f1, f2, f3, f4, f5⟩ := hf it (by simp)
    have hl := rv.length
    exact wpAny_pyNext_list_end (I.ok.hd hc) st p.isList (by simp; omega) fun h' eb => ⟨rfl, I.turned (t' := s.toks) (fun b o hb e => eb b o hb e) f0 f1 f3 f4 f5⟩
  self := fun _ _ _ _ _ st h => wpAny_pyIter_listiter st h
theorem turn_tuple {P : Program} {w : World} {K : PySem.W.Frag} {tg : Expr} (a it : Addr) : Turn P w K tg (Itt K a) [it] it (fun i h => h.IsTupleIter it a i) where
  mem := by simp
  obj := fun i h st b hb => by
    have e : b = it := by simpa using hb
    subst e
    obtain ⟨o, e, c, d⟩ := st
    exact ⟨o, e, fun v z => by rw [d] at z; cases z⟩
  keep := fun i h h' st k => st.at fun o e => k it (by simp) o e
  item := by
    intro X hP hw hK hc i pins s σ H E I hf st hg
    subst hP hw hK
    obtain ⟨xs, x, hq, hx⟩ := hg
    obtain ⟨its, rv, p, hz⟩ := I.tuple hq
    obtain ⟨u, hu, ru⟩ := rv.get hx
    obtain ⟨f0, f1, f2, f3, f4, f5⟩ := hf it (by simp)
    refine wpAny_pyNext_tuple_item st (show s.heap.IsTuple a its.toArray from p) (x := u) (by simpa using hu) fun h' st' sb => ?_
    have I1 : Inv X pins σ H { s with heap := h' } := I.turned (t' := s.toks) (fun b o hb e => (sb.2 b hb).trans e) f0 f1 f3 f4 f5
    obtain ⟨o, e, c, d⟩ := id st'
    exact ⟨u, rfl, go_of (s := { s with heap := h' }) e c d (by decide) ⟨x, H, I1, ru, ⟨rfl, fun ys hy => by rw [I.tuple_inj hy hq]; exact hx⟩, st', fun b hb => (hf b hb).1⟩⟩
  done := by
    intro X hP hw hK hc i pins s σ H E I hf st hg
    subst hP hw hK
    obtain ⟨xs, hq, hx⟩ := hg
    obtain ⟨its, rv, p, hz⟩ := I.tuple hq
    obtain ⟨f0, f1, f2, f3, f4, f5⟩ := hf it (by simp)
    have hl := rv.length
    exact wpAny_pyNext_tuple_end (I.ok.hd hc) st (show s.heap.IsTuple a its.toArray from p) (by simp; omega) fun h' eb => ⟨rfl, I.turned (t' := s.toks) (fun b o hb e => eb b o hb e) f0 f1 f3 f4 f5⟩
  self := fun _ _ _ _ _ st h => wpAny_pyIter_tupleiter st h
theorem turn_range {P : Program} {w : World} {K : PySem.W.Frag} {tg : Expr} (it : Addr) (lo : Int) (n : Nat) : Turn P w K tg (Itr lo n) [it] it (fun i h => IsRangeIter h it (lo + (i : Nat) * 1) ((n : Int) - (i : Nat)) 1) where
  mem := by simp
  obj := fun i h st b hb => by
    have e : b = it := by simpa using hb
    subst e
    exact ⟨_, st, fun v z => by
      have z' : Data.fields _ = Data.cell v := z
      cases z'⟩
  keep := fun i h h' st k => k it (by simp) _ st
  item := by
    intro X hP hw hK hc i pins s σ H E I hf st hg
    subst hP hw hK
    obtain ⟨f0, f1, f2, f3, f4, f5⟩ := hf it (by simp)
    have W := Walks.range (prog := X.prog) (w := X.w) (I.ok.hd hc) it lo 1 n
    refine W.item i s _ _ hg st fun v h' tk hv st' kk => ?_
    obtain ⟨t, rfl⟩ := hv
    have I1 : Inv X pins σ H { s with heap := h', toks := tk } := I.turned (fun b o hb e => kk b o (by simpa using hb) e) f0 f1 f3 f4 f5
    refine ⟨_, rfl, go_of (s := { s with heap := h', toks := tk }) (n := "range_iterator") st' rfl rfl (by decide) ⟨.int (lo + i), H, I1, ⟨t, ?_⟩, ⟨rfl, rfl⟩, st', fun b hb => (hf b hb).1⟩⟩
    rw [Int.mul_one]
  done := by
    intro X hP hw hK hc i pins s σ H E I hf st hg
    subst hP hw hK
    obtain ⟨f0, f1, f2, f3, f4, f5⟩ := hf it (by simp)
    exact wpAny_pyNext_range_end (I.ok.hd hc) st (by have : n ≤ i := hg; omega) fun h' eb => ⟨rfl, I.turned (t' := s.toks) (fun b o hb e => eb b o hb e) f0 f1 f3 f4 f5⟩
  self := fun _ _ _ _ _ st h => wpAny_pyIter_rangeiter st h
end L2

namespace L2
open PySem PySem.Spec PyProof.Rows
section
variable {X : Cx} {tg : Expr}
def iList (K : PySem.W.Frag) (tl : TE) : TI := fun σ H R => tl σ H fun x H1 => ∃ a, x = .ref a ∧ (∃ xs, SqL K H1 a xs) ∧ R (Itl K a) H1
def iTup (K : PySem.W.Frag) (tl : TE) : TI := fun σ H R => tl σ H fun x H1 => ∃ a, x = .ref a ∧ (∃ xs, SqT K H1 a xs) ∧ R (Itt K a) H1
theorem pi_list {l : Expr} {tl : TE} (hl : PE X l tl) : PI X tg l (iList X.K tl) := by
  intro pins s σ H R I h
  refine thn (hl pins s σ H _ I h) fun v s1 ⟨x, H1, I1, r1, q1⟩ => ?_
  obtain ⟨a, e, ⟨xs, hq⟩, q⟩ := q1
  subst e
  cases r1
  obtain ⟨its, rv, p, hz⟩ := I1.list hq
  refine wpAny_pyIter_list p.isList ?_
  refine ⟨s1.heap.objs.size, [s1.heap.objs.size], _, _, H1, rfl, I1.kept (t' := s1.toks) fun b o e => Heap.get?_push_of_some _ e, turn_list a _, ⟨_, Heap.get?_push_size _ rfl, rfl, rfl⟩, fun b hb => ?_, q⟩
  have e : b = s1.heap.objs.size := by simpa using hb
  subst e
  exact I1.fpOk (Nat.le_refl _) (I1.hok.fresh (Nat.le_refl _))
theorem pi_tup {l : Expr} {tl : TE} (hl : PE X l tl) : PI X tg l (iTup X.K tl) := by
  intro pins s σ H R I h
  refine thn (hl pins s σ H _ I h) fun v s1 ⟨x, H1, I1, r1, q1⟩ => ?_
  obtain ⟨a, e, ⟨xs, hq⟩, q⟩ := q1
  subst e
  cases r1
  obtain ⟨its, rv, p, hz⟩ := I1.tuple hq
  refine wpAny_pyIter_tuple (show s1.heap.IsTuple a its.toArray from p) ?_
  refine ⟨s1.heap.objs.size, [s1.heap.objs.size], _, _, H1, rfl, I1.kept (t' := s1.toks) fun b o e => Heap.get?_push_of_some _ e, turn_tuple a _, ⟨_, Heap.get?_push_size _ rfl, rfl, rfl⟩, fun b hb => ?_, q⟩
  have e : b = s1.heap.objs.size := by simpa using hb
  subst e
  exact I1.fpOk (Nat.le_refl _) (I1.hok.fresh (Nat.le_refl _))
/-- a range object just made, walked -/
theorem range_it {pins : List (Addr × Obj)} {σ : St} {H : Hp} {s : Shared} {R : It → Hp → Prop} {E : Value → Shared → Prop} {lo hi : Int} {t u v : Tok} {tk : Nat} (I : Inv X pins σ H s) (h1 : -(2 ^ 62) ≤ lo) (h2 : lo < 2 ^ 62) (h3 : -(2 ^ 62) ≤ hi) (h4 : hi < 2 ^ 62)
    (q : R (Itr lo (hi - lo).toNat) H) : wpAny (model X.prog X.w) X.A (pyIter (.ref s.heap.objs.size)) (PIE X pins σ tg R) E { s with heap := s.heap.push { cls := .type "range", data := .fields #[.int lo t, .int hi u, .int 1 v] }, toks := tk } := by
  refine wpAny_pyIter_range (IsRange.new ..) (small_one h1 h2 h3 h4) ?_
  have I1 : Inv X pins σ H { s with heap := s.heap.push { cls := .type "range", data := .fields #[.int lo t, .int hi u, .int 1 v] }, toks := tk } := I.kept fun b o e => Heap.get?_push_of_some _ e
  refine ⟨(s.heap.push { cls := .type "range", data := .fields #[.int lo t, .int hi u, .int 1 v] }).objs.size, [(s.heap.push { cls := .type "range", data := .fields #[.int lo t, .int hi u, .int 1 v] }).objs.size], _, _, H, rfl,
    I1.kept (t' := tk) fun b o e => Heap.get?_push_of_some _ e, turn_range _ lo (hi - lo).toNat, ?_, fun b hb => ?_, q⟩
  · have e1 : lo + ((0 : Nat) : Int) * 1 = lo := by simp
    have e2 : (((hi - lo).toNat : Nat) : Int) - ((0 : Nat) : Int) = Builtin.Range.rangeSize lo hi 1 := by rw [rangeSize_one]; split <;> omega
    show IsRangeIter _ _ (lo + ((0 : Nat) : Int) * 1) ((((hi - lo).toNat : Nat) : Int) - ((0 : Nat) : Int)) 1
    rw [e1, e2]
    exact Heap.get?_push_size _ rfl
  · have e : b = (s.heap.push { cls := .type "range", data := .fields #[.int lo t, .int hi u, .int 1 v] }).objs.size := by simpa using hb
    subst e
    exact I1.fpOk (Nat.le_refl _) (I1.hok.fresh (Nat.le_refl _))
def iRng1 (ta : TA) : TI := fun σ H R => ta σ H fun vs H1 => ∃ j : Int, vs = [.int j] ∧ -(2 ^ 62) ≤ j ∧ j < 2 ^ 62 ∧ R (Itr 0 j.toNat) H1
def iRng2 (ta : TA) : TI := fun σ H R => ta σ H fun vs H1 => ∃ i j : Int, vs = [.int i, .int j] ∧ (-(2 ^ 62) ≤ i ∧ i < 2 ^ 62 ∧ -(2 ^ 62) ≤ j ∧ j < 2 ^ 62) ∧ R (Itr i (j - i).toNat) H1
theorem pi_range1 {a : Expr} {ta : TA} {p pos : Pos} (hg : Gl X "range") (hm : X.mg "range" = none) (ha : PA X [a] ta) (hs : starEach [a] X.env = [(false, eval a X.env)] := by rfl) : PI X tg (.Call (.Name "range" p) [a] [] pos) (iRng1 ta) := by
  intro pins s σ H R I h
  refine Call_ (ld_blt I hg hm boot_range (PyProof.Rows.callWith_type1 (thn (ha pos pins s σ H _ I h) fun us s1 ⟨vs, H1, I1, r1, q1⟩ => ?_) hs rfl))
  obtain ⟨j, e, q1, q2, q⟩ := q1
  subst e
  cases r1 with
  | cons r rr =>
    cases rr
    obtain ⟨t, rfl⟩ := r
    exact call_range_1 (range_it I1 (by omega) (by omega) q1 q2 (by simpa using q))
theorem pi_range2 {a b : Expr} {ta : TA} {p pos : Pos} (hg : Gl X "range") (hm : X.mg "range" = none) (ha : PA X [a, b] ta) (hs : starEach [a, b] X.env = [(false, eval a X.env), (false, eval b X.env)] := by rfl) (hs2 : starEach [b] X.env = [(false, eval b X.env)] := by rfl) :
    PI X tg (.Call (.Name "range" p) [a, b] [] pos) (iRng2 ta) := by
  intro pins s σ H R I h
  refine Call_ (ld_blt I hg hm boot_range (PyProof.Rows.callWith_type1 (thn (ha pos pins s σ H _ I h) fun us s1 ⟨vs, H1, I1, r1, q1⟩ => ?_) (by rw [hs, hs2]) (by rw [hs2]; rfl)))
  obtain ⟨i, j, e, ⟨q1, q2, q3, q4⟩, q⟩ := q1
  subst e
  cases r1 with
  | cons r rr =>
    cases rr with
    | cons r' rr =>
      cases rr
      obtain ⟨t, rfl⟩ := r
      obtain ⟨t', rfl⟩ := r'
      exact call_range_2 (range_it I1 q1 q2 q3 q4 q)

/-! ### for -/
/-- W: the invariant by the turn and a measure; N: what the body is to reach -/
def tFor (wi : TI) (g : TG) (tb : TS) : TS := fun D σ H => wi σ H fun J H1 => ∃ W : Nat → Nat → St → Hp → Prop, (∃ m, W 0 m σ H1) ∧ ∀ i m σ H, W i m σ H →
  (J.stop i H ∧ D.nx σ H) ∨ (J.go i H ∧ ∃ N : St → Hp → Prop, (∀ σ' H', N σ' H' → ∃ m', m' < m ∧ W (i + 1) m' σ' H') ∧ ∀ x H', J.yld i H x H' → g x σ H' fun σ2 H2 => tb { D with nx := N, ct := N, bk := D.nx } σ2 H2)
/-- the records at fp as they stand -/
def pinsAt (fp : List Addr) (h : Heap) : List (Addr × Obj) := fp.filterMap fun b => (h.get? b).map fun o => (b, o)
theorem mem_pinsAt {fp : List Addr} {h : Heap} {b : Addr} {o : Obj} (hb : b ∈ fp) (e : h.get? b = some o) : (b, o) ∈ pinsAt fp h := List.mem_filterMap.mpr ⟨b, hb, by rw [e]; rfl⟩
theorem of_pinsAt {fp : List Addr} {h : Heap} {p : Addr × Obj} (hp : p ∈ pinsAt fp h) : p.1 ∈ fp ∧ h.get? p.1 = some p.2 := by
  obtain ⟨b, hb, e⟩ := List.mem_filterMap.mp hp
  cases q : h.get? b with
  | none => rw [q] at e; cases e
  | some o =>
    rw [q] at e
    have e' : (b, o) = p := Option.some.inj e
    subst e'
    exact ⟨hb, q⟩
theorem Inv.pinned {pins : List (Addr × Obj)} {σ : St} {H : Hp} {s : Shared} {fp : List Addr} (I : Inv X pins σ H s) (hf : ∀ b ∈ fp, FpOk X pins H b) (ho : ∀ b ∈ fp, ∃ o, s.heap.get? b = some o ∧ ∀ v, o.data ≠ .cell v) : Inv X (pins ++ pinsAt fp s.heap) σ H s :=
  I.pins_of fun p hp => (List.mem_append.mp hp).elim (fun z => I.pin p (List.mem_append_right _ z)) fun z => by
    obtain ⟨hb, e⟩ := of_pinsAt z
    obtain ⟨f0, f1, f2, _⟩ := hf p.1 hb
    obtain ⟨o, e', d⟩ := ho p.1 hb
    rw [e] at e'; cases e'
    exact ⟨e, f0, f1, f2, d⟩
theorem Inv.unpinned {pins pl : List (Addr × Obj)} {σ : St} {H : Hp} {s : Shared} (I : Inv X (pins ++ pl) σ H s) : Inv X pins σ H s := I.pins_of fun p hp => I.pin p (List.mem_append_right _ (List.mem_append_left _ hp))
theorem ps_for {iter : Expr} {body : List Stmt} {wi : TI} {g : TG} {tb : TS} {pos : Pos} (hp : PassesOwn (model X.prog X.w) X.A X.env X.xe) (hc : X.calm = true) (hi : PI X tg iter wi) (hg : PG X tg g) (hb : PSs X body tb)
    (hs : ∀ x, foldedSetIterable iter X.env x = pure x := by intro _; rfl) : PS X (.For tg iter body [] pos) (tFor wi g tb) := by
  intro pins s σ H D I h
  refine wpAny_For (thn (hi pins s σ H _ I h) fun v s1 h1 => thn h1 fun itv s2 h2 => ?_) hs
  obtain ⟨it, fp, tn, J, H2, e, I2, T, st2, f2, W, ⟨m0, w0⟩, turn⟩ := h2
  subst e
  -- what stays true of the iterator's objects through the loop
  have stat : ∀ {H' : Hp}, (∀ b ∈ fp, H' b = none) → ∀ b ∈ fp, FpOk X pins H' b := fun hn b hb => ⟨hn b hb, (f2 b hb).2⟩
  refine codeAny_forLoop_any (fun n s' => ∃ i σ' H', Inv X pins σ' H' s' ∧ tn i s'.heap ∧ (∀ b ∈ fp, H' b = none) ∧ W i n σ' H') ?_ m0 ⟨0, σ, H2, I2, st2, fun b hb => (f2 b hb).1, w0⟩
  rintro n s3 ⟨i, σ3, H3, I3, st3, fr3, w3⟩
  rcases turn i n σ3 H3 w3 with ⟨stop, qn⟩ | ⟨go, N, hN, step⟩
  · refine wpAny_passesOwn hp (thn (T.done X rfl rfl rfl hc i pins s3 σ3 H3 X.xe I3 (stat fr3) st3 stop) fun r s4 ⟨hr, I4⟩ => ?_)
    subst hr
    exact wpAny_execs_nil ⟨σ3, H3, I4, qn⟩
  · refine wpAny_passesOwn hp (thn (T.item X rfl rfl rfl hc i pins s3 σ3 H3 X.xe I3 (stat fr3) st3 go) fun r s4 ⟨u, hr, h4⟩ => ?_)
    subst hr
    refine wpAny_passesOwn hp (thn h4 fun _ s5 ⟨x, H5, I5, r5, y5, st5, fr5⟩ => ?_)
    have I5' := I5.pinned (stat fr5) (T.obj _ _ st5)
    refine wpAny_passesOwn hp (thn (hg _ s5 σ3 H5 x u _ I5' r5 (step x H5 y5)) fun _ s6 ⟨σ6, H6, I6, q6⟩ => ?_)
    refine wpAny_passesOwn hp (thn (hb _ s6 σ6 H6 _ I6 q6) fun f s7 q7 => ?_)
    have again : ∀ {σ7 : St} {H7 : Hp}, Inv X (pins ++ pinsAt fp s5.heap) σ7 H7 s7 → N σ7 H7 → ∃ m, m < n ∧ ∃ i σ' H', Inv X pins σ' H' s7 ∧ tn i s7.heap ∧ (∀ b ∈ fp, H' b = none) ∧ W i m σ' H' := fun {σ7 H7} I7 n7 => by
      obtain ⟨m', hm, w7⟩ := hN σ7 H7 n7
      refine ⟨m', hm, i + 1, σ7, H7, I7.unpinned, T.keep _ _ _ st5 fun b hb o e => (I7.pin (b, o) (List.mem_append_right _ (List.mem_append_right _ (mem_pinsAt hb e)))).1, fun b hb => ?_, w7⟩
      obtain ⟨o, e, d⟩ := T.obj _ _ st5 b hb
      exact (I7.pin (b, o) (List.mem_append_right _ (List.mem_append_right _ (mem_pinsAt hb e)))).2.1
    cases f with
    | next => obtain ⟨σ7, H7, I7, n7⟩ := q7; exact again I7 n7
    | cont => obtain ⟨σ7, H7, I7, n7⟩ := q7; exact again I7 n7
    | brk => obtain ⟨σ7, H7, I7, q7⟩ := q7; exact ⟨σ7, H7, I7.unpinned, q7⟩
    | ret v => obtain ⟨x7, σ7, H7, I7, r7, q7⟩ := q7; exact ⟨x7, σ7, H7, I7.unpinned, r7, q7⟩
end

/-! ### the forms one uses -/
/-- over a list that the body leaves as it is -/
theorem for_list {K : PySem.W.Frag} {a : Addr} {xs : List V} {g : TG} {tb : TS} {D : Ends} {σ : St} {H : Hp} (Pv : Nat → St → Hp → Prop) (h0 : Pv 0 σ H) (hl : ∀ i σ H, i ≤ xs.length → Pv i σ H → SqL K H a xs)
    (hs : ∀ i x σ H, xs[i]? = some x → Pv i σ H → g x σ H fun σ2 H2 => tb { D with nx := Pv (i + 1), ct := Pv (i + 1), bk := D.nx } σ2 H2) (hd : ∀ σ H, Pv xs.length σ H → D.nx σ H) :
    ∃ W : Nat → Nat → St → Hp → Prop, (∃ m, W 0 m σ H) ∧ ∀ i m σ H, W i m σ H →
      ((Itl K a).stop i H ∧ D.nx σ H) ∨ ((Itl K a).go i H ∧ ∃ N : St → Hp → Prop, (∀ σ' H', N σ' H' → ∃ m', m' < m ∧ W (i + 1) m' σ' H') ∧ ∀ x H', (Itl K a).yld i H x H' → g x σ H' fun σ2 H2 => tb { D with nx := N, ct := N, bk := D.nx } σ2 H2) := by
  refine ⟨fun i m σ H => m = xs.length - i ∧ i ≤ xs.length ∧ Pv i σ H, ⟨xs.length, by simp, Nat.zero_le _, h0⟩, ?_⟩
  rintro i m σ H ⟨rfl, hi, p⟩
  have q := hl i σ H hi p
  by_cases hlt : i < xs.length
  · refine .inr ⟨⟨xs, xs[i], q, by simp [hlt]⟩, Pv (i + 1), fun σ' H' p' => ⟨xs.length - (i + 1), by omega, rfl, hlt, p'⟩, fun x H' y => ?_⟩
    obtain ⟨e, y⟩ := y
    subst e
    exact hs i x σ _ (y xs q) p
  · have e : i = xs.length := by omega
    subst e
    exact .inl ⟨⟨xs, q, Nat.le_refl _⟩, hd σ H p⟩
theorem for_tup {K : PySem.W.Frag} {a : Addr} {xs : List V} {g : TG} {tb : TS} {D : Ends} {σ : St} {H : Hp} (Pv : Nat → St → Hp → Prop) (h0 : Pv 0 σ H) (hl : ∀ i σ H, i ≤ xs.length → Pv i σ H → SqT K H a xs)
    (hs : ∀ i x σ H, xs[i]? = some x → Pv i σ H → g x σ H fun σ2 H2 => tb { D with nx := Pv (i + 1), ct := Pv (i + 1), bk := D.nx } σ2 H2) (hd : ∀ σ H, Pv xs.length σ H → D.nx σ H) :
    ∃ W : Nat → Nat → St → Hp → Prop, (∃ m, W 0 m σ H) ∧ ∀ i m σ H, W i m σ H →
      ((Itt K a).stop i H ∧ D.nx σ H) ∨ ((Itt K a).go i H ∧ ∃ N : St → Hp → Prop, (∀ σ' H', N σ' H' → ∃ m', m' < m ∧ W (i + 1) m' σ' H') ∧ ∀ x H', (Itt K a).yld i H x H' → g x σ H' fun σ2 H2 => tb { D with nx := N, ct := N, bk := D.nx } σ2 H2) := by
  refine ⟨fun i m σ H => m = xs.length - i ∧ i ≤ xs.length ∧ Pv i σ H, ⟨xs.length, by simp, Nat.zero_le _, h0⟩, ?_⟩
  rintro i m σ H ⟨rfl, hi, p⟩
  have q := hl i σ H hi p
  by_cases hlt : i < xs.length
  · refine .inr ⟨⟨xs, xs[i], q, by simp [hlt]⟩, Pv (i + 1), fun σ' H' p' => ⟨xs.length - (i + 1), by omega, rfl, hlt, p'⟩, fun x H' y => ?_⟩
    obtain ⟨e, y⟩ := y
    subst e
    exact hs i x σ _ (y xs q) p
  · have e : i = xs.length := by omega
    subst e
    exact .inl ⟨⟨xs, q, Nat.le_refl _⟩, hd σ H p⟩
theorem for_range {lo : Int} {n : Nat} {g : TG} {tb : TS} {D : Ends} {σ : St} {H : Hp} (Pv : Nat → St → Hp → Prop) (h0 : Pv 0 σ H)
    (hs : ∀ i σ H, i < n → Pv i σ H → g (.int (lo + i)) σ H fun σ2 H2 => tb { D with nx := Pv (i + 1), ct := Pv (i + 1), bk := D.nx } σ2 H2) (hd : ∀ σ H, Pv n σ H → D.nx σ H) :
    ∃ W : Nat → Nat → St → Hp → Prop, (∃ m, W 0 m σ H) ∧ ∀ i m σ H, W i m σ H →
      ((Itr lo n).stop i H ∧ D.nx σ H) ∨ ((Itr lo n).go i H ∧ ∃ N : St → Hp → Prop, (∀ σ' H', N σ' H' → ∃ m', m' < m ∧ W (i + 1) m' σ' H') ∧ ∀ x H', (Itr lo n).yld i H x H' → g x σ H' fun σ2 H2 => tb { D with nx := N, ct := N, bk := D.nx } σ2 H2) := by
  refine ⟨fun i m σ H => m = n - i ∧ i ≤ n ∧ Pv i σ H, ⟨n, by simp, Nat.zero_le _, h0⟩, ?_⟩
  rintro i m σ H ⟨rfl, hi, p⟩
  by_cases hlt : i < n
  · refine .inr ⟨hlt, Pv (i + 1), fun σ' H' p' => ⟨n - (i + 1), by omega, rfl, hlt, p'⟩, fun x H' y => ?_⟩
    obtain ⟨e, y⟩ := y
    subst e y
    exact hs i σ _ hlt p
  · have e : i = n := by omega
    subst e
    exact .inl ⟨Nat.le_refl _, hd σ H p⟩
/-- while, by a word and a measure of the state -/
theorem while_by {c : TT} {tb : TS} {D : Ends} {σ : St} {H : Hp} (Pv : St → Hp → Prop) (μ : St → Hp → Nat) (h0 : Pv σ H)
    (hs : ∀ σ H, Pv σ H → c σ H fun b H1 => if b = true then tb { D with nx := fun σ' H' => Pv σ' H' ∧ μ σ' H' < μ σ H, ct := fun σ' H' => Pv σ' H' ∧ μ σ' H' < μ σ H, bk := D.nx } σ H1 else D.nx σ H1)
    (mono : ∀ σ H Q Q', (∀ b H1, Q b H1 → Q' b H1) → c σ H Q → c σ H Q') : tWhile c tb D σ H := by
  refine ⟨fun m σ H => m = μ σ H ∧ Pv σ H, ⟨_, rfl, h0⟩, ?_⟩
  rintro m σ H ⟨rfl, p⟩
  refine mono σ H _ _ (fun b H1 q => ?_) (hs σ H p)
  cases b with
  | true => exact ⟨_, fun σ' H' ⟨p', l⟩ => ⟨_, l, rfl, p'⟩, q⟩
  | false => exact q
end L2

namespace L2
open PySem PySem.Spec PyProof.Rows

abbrev R2 := V → V → Hp → VK → Prop
/-- a two-place operation on values: f is binaryOp op, inplaceOp op or compareOp op -/
def OpR (X : Cx) (f : Value → Value → Sem Value) (r : R2) : Prop :=
  ∀ (pins : List (Addr × Obj)) (s : Shared) (σ : St) (H : Hp) (x y : V) (v u : Value) (Q : VK), Inv X pins σ H s → RelV x v → RelV y u → r x y H Q →
    wpAny (model X.prog X.w) X.A (f v u) (EP X pins σ Q) X.xe s
/-- a one-place operation -/
def UnR (X : Cx) (f : Value → Sem Value) (r : V → Hp → VK → Prop) : Prop :=
  ∀ (pins : List (Addr × Obj)) (s : Shared) (σ : St) (H : Hp) (x : V) (v : Value) (Q : VK), Inv X pins σ H s → RelV x v → r x H Q →
    wpAny (model X.prog X.w) X.A (f v) (EP X pins σ Q) X.xe s
/-- a call of a value that is known (a builtin, a type) with values -/
def CallR (X : Cx) (f : Value) (r : List V → Hp → VK → Prop) : Prop :=
  ∀ (pins : List (Addr × Obj)) (s : Shared) (σ : St) (H : Hp) (xs : List V) (us : List Value) (Q : VK), Inv X pins σ H s → Vals xs us → r xs H Q →
    wpAny (model X.prog X.w) X.A (call f us) (EP X pins σ Q) X.xe s
/-- a value's truth -/
def TruR (X : Cx) (r : V → Hp → (Bool → Hp → Prop) → Prop) : Prop :=
  ∀ (pins : List (Addr × Obj)) (s : Shared) (σ : St) (H : Hp) (x : V) (v : Value) (Q : Bool → Hp → Prop), Inv X pins σ H s → RelV x v → r x H Q →
    wpAny (model X.prog X.w) X.A (truthy v) (TP X pins σ Q) X.xe s

def tOp (r : R2) (ta tb : TE) : TE := fun σ H Q => ta σ H fun x H1 => tb σ H1 fun y H2 => r x y H2 Q
def tUn (r : V → Hp → VK → Prop) (ta : TE) : TE := fun σ H Q => ta σ H fun x H1 => r x H1 Q
/-- ints in, under C, and a value out -/
def rI (C : Int → Int → Prop) (g : Int → Int → V) : R2 := fun x y H Q => ∃ i j, x = .int i ∧ y = .int j ∧ C i j ∧ Q (g i j) H
def rI0 (g : Int → Int → V) : R2 := fun x y H Q => ∃ i j, x = .int i ∧ y = .int j ∧ Q (g i j) H
def rU (g : Int → V) : V → Hp → VK → Prop := fun x H Q => ∃ i, x = .int i ∧ Q (g i) H

section
variable {X : Cx} {a b c : Expr} {ta tb tc : TE} {pos : Pos}

theorem binT (ha : PE X a ta) (hb : PE X b tb) {pins : List (Addr × Obj)} {s : Shared} {σ : St} {H : Hp} {R : V → V → Hp → Prop} (I : Inv X pins σ H s)
    (h : ta σ H fun x H1 => tb σ H1 fun y H2 => R x y H2) {Q : Value → Shared → Prop} {f : Value → Value → Sem Value}
    (hf : ∀ v u s2 x y H2, Inv X pins σ H2 s2 → RelV x v → RelV y u → R x y H2 → wpAny (model X.prog X.w) X.A (f v u) Q X.xe s2) :
    wpAny (model X.prog X.w) X.A (eval a X.env) (fun v s₁ => wpAny (model X.prog X.w) X.A (eval b X.env) (fun u s₂ => wpAny (model X.prog X.w) X.A (f v u) Q X.xe s₂) X.xe s₁) X.xe s := by
  refine thn (ha pins s σ H _ I h) fun v s1 ⟨x, H1, I1, r1, q1⟩ => ?_
  refine thn (hb pins s1 σ H1 _ I1 q1) fun u s2 ⟨y, H2, I2, r2, q2⟩ => ?_
  exact hf v u s2 x y H2 I2 r1 r2 q2

theorem pe_op {op : Operator} {r : R2} (ho : OpR X (binaryOp op) r) (ha : PE X a ta) (hb : PE X b tb) : PE X (.BinOp a op b pos) (tOp r ta tb) := by
  intro pins s σ H Q I h
  exact wpAny_BinOp (binT ha hb I h fun v u s2 x y H2 I2 rx ry q => ho pins s2 σ H2 x y v u Q I2 rx ry q)
theorem pe_un {op : UnaryOp} {r : V → Hp → VK → Prop} (ho : UnR X (unaryOp op) r) (ha : PE X a ta) : PE X (.UnaryOp op a pos) (tUn r ta) := by
  intro pins s σ H Q I h
  exact UnaryOp_ (thn (ha pins s σ H _ I h) fun v s1 ⟨x, H1, I1, r1, q1⟩ => ho pins s1 σ H1 x v Q I1 r1 q1)
/-- a op= e at a name: the name's slot i -/
theorem augR {op : Operator} {r : R2} (ho : OpR X (inplaceOp op) r) {pins : List (Addr × Obj)} {s : Shared} {σ : St} {H : Hp} {x y : V} {v u : Value} {Q : VK} (I : Inv X pins σ H s)
    (rx : RelV x v) (ry : RelV y u) (q : r x y H Q) : wpAny (model X.prog X.w) X.A (inplaceOp op v u) (EP X pins σ Q) X.xe s := ho pins s σ H x y v u Q I rx ry q

/-! ### ints -/
theorem opI {f : Value → Value → Sem Value} {C : Int → Int → Prop} {g : Int → Int → Int}
    (rule : ∀ (i j : Int) (t u : Tok) (s : Shared) (Q : Value → Shared → Prop) (E : Value → Shared → Prop), C i j → Q (.int (g i j) s.toks) { s with toks := s.toks + 1 } → wpAny (model X.prog X.w) X.A (f (.int i t) (.int j u)) Q E s) :
    OpR X f (rI C fun i j => .int (g i j)) := by
  intro pins s σ H x y v u Q I rx ry h
  obtain ⟨i, j, rfl, rfl, hc, q⟩ := h
  obtain ⟨t, rfl⟩ := rx
  obtain ⟨t', rfl⟩ := ry
  exact rule i j t t' s _ _ hc ⟨.int (g i j), H, I.tok _, ⟨_, rfl⟩, q⟩
theorem opI0 {f : Value → Value → Sem Value} {g : Int → Int → Int}
    (rule : ∀ (i j : Int) (t u : Tok) (s : Shared) (Q : Value → Shared → Prop) (E : Value → Shared → Prop), Q (.int (g i j) s.toks) { s with toks := s.toks + 1 } → wpAny (model X.prog X.w) X.A (f (.int i t) (.int j u)) Q E s) :
    OpR X f (rI0 fun i j => .int (g i j)) := by
  intro pins s σ H x y v u Q I rx ry h
  obtain ⟨i, j, rfl, rfl, q⟩ := h
  obtain ⟨t, rfl⟩ := rx
  obtain ⟨t', rfl⟩ := ry
  exact rule i j t t' s _ _ ⟨.int (g i j), H, I.tok _, ⟨_, rfl⟩, q⟩
theorem opB0 {f : Value → Value → Sem Value} {g : Int → Int → Bool}
    (rule : ∀ (i j : Int) (t u : Tok) (s : Shared) (Q : Value → Shared → Prop) (E : Value → Shared → Prop), Q (.bool (g i j)) s → wpAny (model X.prog X.w) X.A (f (.int i t) (.int j u)) Q E s) :
    OpR X f (rI0 fun i j => .bl (g i j)) := by
  intro pins s σ H x y v u Q I rx ry h
  obtain ⟨i, j, rfl, rfl, q⟩ := h
  obtain ⟨t, rfl⟩ := rx
  obtain ⟨t', rfl⟩ := ry
  exact rule i j t t' s _ _ ⟨.bl (g i j), H, I, rfl, q⟩

def CDiv (i j : Int) : Prop := 0 < j ∧ j < 1073741824
def CDivN (i j : Int) : Prop := j ≠ 0 ∧ j.natAbs < 1073741824
def CPow (i j : Int) : Prop := 0 ≤ j ∧ j ≤ 1000000 ∧ i.natAbs < 2 ^ 64
def CMul (i j : Int) : Prop := (-(2 ^ 64) < i ∧ i < 2 ^ 64) ∨ (-(2 ^ 64) < j ∧ j < 2 ^ 64)
theorem CMul.ok {i j : Int} (h : CMul i j) : IntMulOk i j := by
  rcases h with ⟨h1, h2⟩ | ⟨h1, h2⟩
  · exact .of_left (intBits_le_64 h1 h2)
  · exact .of_right (intBits_le_64 h1 h2)
theorem two_pow_nn (k : Nat) : (0 : Int) ≤ 2 ^ k := by
  rw [two_pow_cast]
  exact Int.natCast_nonneg _

theorem op_add : OpR X (binaryOp .Add) (rI0 fun i j => .int (i + j)) := opI0 fun _ _ _ _ _ _ _ q => add_int q
theorem op_sub : OpR X (binaryOp .Sub) (rI0 fun i j => .int (i - j)) := opI0 fun _ _ _ _ _ _ _ q => sub_int q
theorem op_mul : OpR X (binaryOp .Mult) (rI CMul fun i j => .int (i * j)) := opI fun _ _ _ _ _ _ _ hc q => mul_int q hc.ok
/-- // by a positive divisor -/
theorem op_fdiv : OpR X (binaryOp .FloorDiv) (rI CDiv fun i j => .int (i / j)) := opI fun i j _ _ _ _ _ hc q => by
  have h1 : (0 : Int) < j := hc.1
  have h2 : j < 1073741824 := hc.2
  exact floordiv_int (by omega) (by rw [Int.fdiv_eq_ediv_of_nonneg i (by omega)]; exact q) (.inl (PyProof.noPylong_small (by omega)))
theorem op_fdivN : OpR X (binaryOp .FloorDiv) (rI CDivN fun i j => .int (i.fdiv j)) := opI fun _ _ _ _ _ _ _ hc q => floordiv_int hc.1 q (.inl (PyProof.noPylong_small hc.2))
/-- % by a positive divisor of any size -/
theorem op_mod : OpR X (binaryOp .Mod) (rI (fun _ j => 0 < j) fun i j => .int (i % j)) := opI fun i j _ _ _ _ _ hc q => by
  have h1 : (0 : Int) < j := hc
  exact mod_int' (by omega) (by rw [Int.fmod_eq_emod_of_nonneg i (by omega)]; exact q)
theorem op_modN : OpR X (binaryOp .Mod) (rI (fun _ j => j ≠ 0) fun i j => .int (i.fmod j)) := opI fun _ _ _ _ _ _ _ hc q => mod_int' hc q
theorem op_pow : OpR X (binaryOp .Pow) (rI CPow fun i j => .int (i ^ j.toNat)) := opI fun _ _ _ _ _ _ _ hc q => pow_int_small hc.1 hc.2.1 hc.2.2 q
theorem op_shl : OpR X (binaryOp .LShift) (rI CPow fun i j => .int (i * 2 ^ j.toNat)) := opI fun _ _ _ _ _ _ _ hc q => lshift_int_small hc.1 hc.2.1 hc.2.2 q
theorem op_shr : OpR X (binaryOp .RShift) (rI (fun _ j => 0 ≤ j) fun i j => .int (i / 2 ^ j.toNat)) := opI fun i j _ _ _ _ _ hc q =>
  rshift_int hc (by rw [Int.fdiv_eq_ediv_of_nonneg i (two_pow_nn _)]; exact q)
theorem op_and : OpR X (binaryOp .BitAnd) (rI0 fun i j => .int (Builtin.bitAnd i j)) := opI0 fun _ _ _ _ _ _ _ q => and_int q
theorem op_or : OpR X (binaryOp .BitOr) (rI0 fun i j => .int (Builtin.bitOr i j)) := opI0 fun _ _ _ _ _ _ _ q => or_int q
theorem op_xor : OpR X (binaryOp .BitXor) (rI0 fun i j => .int (Builtin.bitXor i j)) := opI0 fun _ _ _ _ _ _ _ q => xor_int q

theorem iop_add : OpR X (inplaceOp .Add) (rI0 fun i j => .int (i + j)) := opI0 fun _ _ _ _ _ _ _ q => iadd_int q
theorem iop_sub : OpR X (inplaceOp .Sub) (rI0 fun i j => .int (i - j)) := opI0 fun _ _ _ _ _ _ _ q => isub_int q
theorem iop_mul : OpR X (inplaceOp .Mult) (rI CMul fun i j => .int (i * j)) := opI fun _ _ _ _ _ _ _ hc q => imul_int q hc.ok
theorem iop_fdiv : OpR X (inplaceOp .FloorDiv) (rI CDiv fun i j => .int (i / j)) := opI fun i j _ _ _ _ _ hc q => by
  have h1 : (0 : Int) < j := hc.1
  have h2 : j < 1073741824 := hc.2
  exact ifloordiv_int (by omega) (by rw [Int.fdiv_eq_ediv_of_nonneg i (by omega)]; exact q) (.inl (PyProof.noPylong_small (by omega)))
theorem iop_mod : OpR X (inplaceOp .Mod) (rI (fun _ j => 0 < j) fun i j => .int (i % j)) := opI fun i j _ _ _ _ _ hc q => by
  have h1 : (0 : Int) < j := hc
  exact imod_int (by omega) (by rw [Int.fmod_eq_emod_of_nonneg i (by omega)]; exact q)
theorem iop_shl : OpR X (inplaceOp .LShift) (rI CPow fun i j => .int (i * 2 ^ j.toNat)) := opI fun _ _ _ _ _ _ _ hc q => ilshift_int_small hc.1 hc.2.1 hc.2.2 q
theorem iop_shr : OpR X (inplaceOp .RShift) (rI (fun _ j => 0 ≤ j) fun i j => .int (i / 2 ^ j.toNat)) := opI fun i j _ _ _ _ _ hc q =>
  irshift_int hc (by rw [Int.fdiv_eq_ediv_of_nonneg i (two_pow_nn _)]; exact q)
theorem iop_and : OpR X (inplaceOp .BitAnd) (rI0 fun i j => .int (Builtin.bitAnd i j)) := opI0 fun _ _ _ _ _ _ _ q => iand_int q
theorem iop_or : OpR X (inplaceOp .BitOr) (rI0 fun i j => .int (Builtin.bitOr i j)) := opI0 fun _ _ _ _ _ _ _ q => ior_int q
theorem iop_xor : OpR X (inplaceOp .BitXor) (rI0 fun i j => .int (Builtin.bitXor i j)) := opI0 fun _ _ _ _ _ _ _ q => ixor_int q

theorem unI {f : Value → Sem Value} {g : Int → Int}
    (rule : ∀ (i : Int) (t : Tok) (s : Shared) (Q : Value → Shared → Prop) (E : Value → Shared → Prop), Q (.int (g i) s.toks) { s with toks := s.toks + 1 } → wpAny (model X.prog X.w) X.A (f (.int i t)) Q E s) :
    UnR X f (rU fun i => .int (g i)) := by
  intro pins s σ H x v Q I rx h
  obtain ⟨i, rfl, q⟩ := h
  obtain ⟨t, rfl⟩ := rx
  exact rule i t s _ _ ⟨.int (g i), H, I.tok _, ⟨_, rfl⟩, q⟩
theorem un_neg : UnR X (unaryOp .USub) (rU fun i => .int (-i)) := unI fun _ _ _ _ _ q => neg_int q
theorem un_inv : UnR X (unaryOp .Invert) (rU fun i => .int (Builtin.bitNot i)) := unI fun _ _ _ _ _ q => invert_int q

/-! ### bools among ints: n += (a < b) -/
theorem op_add_ib : OpR X (binaryOp .Add) (fun x y H Q => ∃ i k, x = .int i ∧ y = .bl k ∧ Q (.int (i + b2i k)) H) := by
  intro pins s σ H x y v u Q I rx ry h
  obtain ⟨i, k, rfl, rfl, q⟩ := h
  obtain ⟨t, rfl⟩ := rx
  cases ry
  exact add_int_bool ⟨.int (i + b2i k), H, I.tok _, ⟨_, rfl⟩, q⟩
end

/-! ### comparisons -/
/-- the scalars that == tells apart as data does -/
def scal : V → V → Bool
  | .non, .non => true | .non, .int _ => true | .int _, .non => true | .non, .bl _ => true | .bl _, .non => true | .non, .str _ => true | .str _, .non => true
  | .int _, .int _ => true | .bl _, .bl _ => true | .str _, .str _ => true | .byt _, .byt _ => true
  | .int _, .str _ => true | .str _, .int _ => true | .bl _, .str _ => true | .str _, .bl _ => true
  | _, _ => false
def rEq : R2 := fun x y H Q => scal x y = true ∧ Q (.bl (decide (x = y))) H
def rNe : R2 := fun x y H Q => scal x y = true ∧ Q (.bl (!decide (x = y))) H

theorem dec_int {i j : Int} : decide (V.int i = V.int j) = (i == j) := by
  rw [Bool.eq_iff_iff]
  simp
theorem dec_bl {i j : Bool} : decide (V.bl i = V.bl j) = (i == j) := by
  rw [Bool.eq_iff_iff]
  simp
theorem dec_str {i j : Str} : decide (V.str i = V.str j) = (i == j) := by
  rw [Bool.eq_iff_iff]
  simp
theorem dec_byt {i j : Array UInt8} : decide (V.byt i = V.byt j) = (i.toList == j.toList) := by
  rw [Bool.eq_iff_iff]
  cases i
  cases j
  simp

section
variable {X : Cx} {a b c : Expr} {ta tb tc : TE} {pos : Pos}
theorem fin_bl {pins : List (Addr × Obj)} {σ : St} {H : Hp} {s : Shared} {Q : VK} {k k' : Bool} (I : Inv X pins σ H s) (q : Q (.bl k) H) (e : k = k') : EP X pins σ Q (.bool k') s := by
  subst e
  exact ⟨.bl k, H, I, rfl, q⟩
theorem op_eq : OpR X (compareOp .Eq) rEq := by
  intro pins s σ H x y v u Q I rx ry h
  obtain ⟨hs, q⟩ := h
  cases x with
  | non =>
    cases rx
    cases y with
    | non => cases ry; exact PySem.EqNone.eq_none_none (fin_bl I q (by simp))
    | bl j => cases ry; exact PySem.EqNone.eq_none_bool (fin_bl I q (by simp))
    | int j => obtain ⟨t', rfl⟩ := ry; exact PySem.EqNone.eq_none_int (fin_bl I q (by simp))
    | str j => obtain ⟨t', rfl⟩ := ry; exact PySem.EqNone.eq_none_str (fin_bl I q (by simp))
    | _ => exact absurd (show false = true from hs) Bool.false_ne_true
  | bl i =>
    cases rx
    cases y with
    | non => cases ry; exact PySem.EqNone.eq_bool_none (fin_bl I q (by simp))
    | bl j => cases ry; exact eq_bool (fin_bl I q dec_bl)
    | str j => obtain ⟨t', rfl⟩ := ry; exact PySem.EqMixed.eq_bool_str (fin_bl I q (by simp))
    | _ => exact absurd (show false = true from hs) Bool.false_ne_true
  | int i =>
    obtain ⟨t, rfl⟩ := rx
    cases y with
    | non => cases ry; exact PySem.EqNone.eq_int_none (fin_bl I q (by simp))
    | int j => obtain ⟨t', rfl⟩ := ry; exact eq_int (fin_bl I q dec_int)
    | str j => obtain ⟨t', rfl⟩ := ry; exact PySem.EqMixed.eq_int_str (fin_bl I q (by simp))
    | _ => exact absurd (show false = true from hs) Bool.false_ne_true
  | str i =>
    obtain ⟨t, rfl⟩ := rx
    cases y with
    | non => cases ry; exact PySem.EqNone.eq_str_none (fin_bl I q (by simp))
    | bl j => cases ry; exact PySem.EqMixed.eq_str_bool (fin_bl I q (by simp))
    | int j => obtain ⟨t', rfl⟩ := ry; exact PySem.EqMixed.eq_str_int (fin_bl I q (by simp))
    | str j => obtain ⟨t', rfl⟩ := ry; exact eq_str (fin_bl I q dec_str)
    | _ => exact absurd (show false = true from hs) Bool.false_ne_true
  | byt i =>
    obtain ⟨t, rfl⟩ := rx
    cases y with
    | byt j => obtain ⟨t', rfl⟩ := ry; exact PySem.W.eq_bytes (fin_bl I q dec_byt)
    | _ => exact absurd (show false = true from hs) Bool.false_ne_true
  | _ => cases y <;> exact absurd (show false = true from hs) Bool.false_ne_true
theorem op_ne : OpR X (compareOp .NotEq) rNe := by
  intro pins s σ H x y v u Q I rx ry h
  obtain ⟨hs, q⟩ := h
  cases x with
  | non =>
    cases rx
    cases y with
    | non => cases ry; exact PySem.EqNone.ne_none_none (fin_bl I q (by simp))
    | bl j => cases ry; exact PySem.EqNone.ne_none_bool (fin_bl I q (by simp))
    | int j => obtain ⟨t', rfl⟩ := ry; exact PySem.EqNone.ne_none_int (fin_bl I q (by simp))
    | str j => obtain ⟨t', rfl⟩ := ry; exact PySem.EqNone.ne_none_str (fin_bl I q (by simp))
    | _ => exact absurd (show false = true from hs) Bool.false_ne_true
  | bl i =>
    cases rx
    cases y with
    | non => cases ry; exact PySem.EqNone.ne_bool_none (fin_bl I q (by simp))
    | bl j => cases ry; exact ne_bool (fin_bl I q (congrArg not dec_bl))
    | str j => obtain ⟨t', rfl⟩ := ry; exact PySem.EqMixed.ne_bool_str (fin_bl I q (by simp))
    | _ => exact absurd (show false = true from hs) Bool.false_ne_true
  | int i =>
    obtain ⟨t, rfl⟩ := rx
    cases y with
    | non => cases ry; exact PySem.EqNone.ne_int_none (fin_bl I q (by simp))
    | int j => obtain ⟨t', rfl⟩ := ry; exact ne_int (fin_bl I q (congrArg not dec_int))
    | str j => obtain ⟨t', rfl⟩ := ry; exact PySem.EqMixed.ne_int_str (fin_bl I q (by simp))
    | _ => exact absurd (show false = true from hs) Bool.false_ne_true
  | str i =>
    obtain ⟨t, rfl⟩ := rx
    cases y with
    | non => cases ry; exact PySem.EqNone.ne_str_none (fin_bl I q (by simp))
    | bl j => cases ry; exact PySem.EqMixed.ne_str_bool (fin_bl I q (by simp))
    | int j => obtain ⟨t', rfl⟩ := ry; exact PySem.EqMixed.ne_str_int (fin_bl I q (by simp))
    | str j => obtain ⟨t', rfl⟩ := ry; exact ne_str (fin_bl I q (congrArg not dec_str))
    | _ => exact absurd (show false = true from hs) Bool.false_ne_true
  | byt i =>
    obtain ⟨t, rfl⟩ := rx
    cases y with
    | byt j => obtain ⟨t', rfl⟩ := ry; exact PySem.W.ne_bytes (fin_bl I q (congrArg not dec_byt))
    | _ => exact absurd (show false = true from hs) Bool.false_ne_true
  | _ => cases y <;> exact absurd (show false = true from hs) Bool.false_ne_true

theorem op_lt : OpR X (compareOp .Lt) (rI0 fun i j => .bl (decide (i < j))) := opB0 fun _ _ _ _ _ _ _ q => lt_int q
theorem op_le : OpR X (compareOp .LtE) (rI0 fun i j => .bl (decide (i ≤ j))) := opB0 fun _ _ _ _ _ _ _ q => le_int q
theorem op_gt : OpR X (compareOp .Gt) (rI0 fun i j => .bl (decide (j < i))) := opB0 fun _ _ _ _ _ _ _ q => gt_int q
theorem op_ge : OpR X (compareOp .GtE) (rI0 fun i j => .bl (decide (j ≤ i))) := opB0 fun _ _ _ _ _ _ _ q => ge_int q
theorem op_lt_str : OpR X (compareOp .Lt) (fun x y H Q => ∃ i j, x = .str i ∧ y = .str j ∧ Q (.bl (decide (i.cps.toList < j.cps.toList))) H) := by
  intro pins s σ H x y v u Q I rx ry h
  obtain ⟨i, j, rfl, rfl, q⟩ := h
  obtain ⟨t, rfl⟩ := rx
  obtain ⟨t', rfl⟩ := ry
  exact lt_str (fin_bl I q rfl)
/-- the one string within the other -/
theorem op_in_str : OpR X (compareOp .In) (fun x y H Q => ∃ i j, x = .str i ∧ y = .str j ∧ Q (.bl (!(Builtin.Str.occurrences j i 0 j.length 1).isEmpty)) H) := by
  intro pins s σ H x y v u Q I rx ry h
  obtain ⟨i, j, rfl, rfl, q⟩ := h
  obtain ⟨t, rfl⟩ := rx
  obtain ⟨t', rfl⟩ := ry
  exact in_str (fin_bl I q rfl)

/-- is None, is not None: the right side a value none -/
theorem op_isN : OpR X (compareOp .Is) (fun x y H Q => y = .non ∧ Q (.bl (decide (x = .non))) H) := by
  intro pins s σ H x y v u Q I rx ry h
  obtain ⟨rfl, q⟩ := h
  cases ry
  refine is_none_gen (fin_bl I q ?_)
  cases x <;> first
    | (cases rx; rfl)
    | (obtain ⟨t, rfl⟩ := rx; rfl)
theorem op_notN : OpR X (compareOp .IsNot) (fun x y H Q => y = .non ∧ Q (.bl (!decide (x = .non))) H) := by
  intro pins s σ H x y v u Q I rx ry h
  obtain ⟨rfl, q⟩ := h
  cases ry
  refine isnot_none_gen (fin_bl I q ?_)
  cases x <;> first
    | (cases rx; rfl)
    | (obtain ⟨t, rfl⟩ := rx; rfl)

theorem op_notin_str : OpR X (compareOp .NotIn) (fun x y H Q => ∃ i j, x = .str i ∧ y = .str j ∧ Q (.bl (!(!(Builtin.Str.occurrences j i 0 j.length 1).isEmpty))) H) := by
  intro pins s σ H x y v u Q I rx ry h
  obtain ⟨i, j, rfl, rfl, q⟩ := h
  obtain ⟨t, rfl⟩ := rx
  obtain ⟨t', rfl⟩ := ry
  exact notIn_str (fin_bl I q rfl)
/-- is, is not of two objects that are tracked lists or instances -/
def isObj : HO → Bool
  | .lst _ => true
  | .ins _ _ _ => true
  | _ => false
theorem obj_there {pins : List (Addr × Obj)} {s : Shared} {σ : St} {H : Hp} {a : Addr} {o : HO} (I : Inv X pins σ H s) (h : H a = some o) (p : isObj o = true) : ∃ ob, s.heap.get? a = some ob ∧ ob.cls ≠ .type "tuple" := by
  cases o with
  | lst xs =>
    obtain ⟨_, its, n, _, e⟩ : xs.length ≤ sizeLine ∧ ∃ (its : List Value) (n : Nat), Vals xs its ∧ s.heap.get? a = some { cls := .type "list", data := .seq its.toArray n } := I.hok a _ h
    exact ⟨_, e, (by show Value.type "list" ≠ .type "tuple"; decide +kernel)⟩
  | ins C dx fs =>
    have x := I.hok a _ h
    obtain ⟨_, _, _, e, _⟩ := x
    exact ⟨_, e, (by show Value.ref C ≠ .type "tuple"; exact fun z => by cases z)⟩
  | _ => exact absurd (show false = true from p) Bool.false_ne_true
theorem op_is_ref : OpR X (compareOp .Is) (fun x y H Q => ∃ a b oa ob, x = .ref a ∧ y = .ref b ∧ H a = some oa ∧ isObj oa = true ∧ H b = some ob ∧ isObj ob = true ∧ Q (.bl (decide (a = b))) H) := by
  intro pins s σ H x y v u Q I rx ry h
  obtain ⟨a, b, oa, ob, rfl, rfl, ha, pa, hb, pb, q⟩ := h
  cases rx
  cases ry
  obtain ⟨o1, e1, n1⟩ := obj_there I ha pa
  obtain ⟨o2, e2, _⟩ := obj_there I hb pb
  by_cases z : a = b
  · subst z
    exact wpAny_is_ref_self (fin_bl I q (by simp))
  · exact wpAny_is_ref_other z e1 e2 n1 (fin_bl I q (by simp [z]))
theorem op_isnot_ref : OpR X (compareOp .IsNot) (fun x y H Q => ∃ a b oa ob, x = .ref a ∧ y = .ref b ∧ H a = some oa ∧ isObj oa = true ∧ H b = some ob ∧ isObj ob = true ∧ Q (.bl (!decide (a = b))) H) := by
  intro pins s σ H x y v u Q I rx ry h
  obtain ⟨a, b, oa, ob, rfl, rfl, ha, pa, hb, pb, q⟩ := h
  cases rx
  cases ry
  obtain ⟨o1, e1, n1⟩ := obj_there I ha pa
  obtain ⟨o2, e2, _⟩ := obj_there I hb pb
  by_cases z : a = b
  · subst z
    exact wpAny_isNot_ref_self (fin_bl I q (by simp))
  · exact wpAny_isNot_ref_other z e1 e2 n1 (fin_bl I q (by simp [z]))

/-- two rules for one operation: by cases -/
theorem OpR.or {f : Value → Value → Sem Value} {r r' : R2} (h : OpR X f r) (h' : OpR X f r') : OpR X f (fun x y H Q => r x y H Q ∨ r' x y H Q) := by
  intro pins s σ H x y v u Q I rx ry q
  rcases q with q | q
  · exact h pins s σ H x y v u Q I rx ry q
  · exact h' pins s σ H x y v u Q I rx ry q

theorem nomark (b : Expr) {op : CmpOp} (h : op ≠ .In := by decide) (h2 : op ≠ .NotIn := by decide) : behindInMarks op b = false := by
  have e1 : (op == CmpOp.In) = false := by cases op <;> first | rfl | exact absurd rfl h
  have e2 : (op == CmpOp.NotIn) = false := by cases op <;> first | rfl | exact absurd rfl h2
  cases b <;> simp [behindInMarks, e1, e2]
/-- a comparison as a value; hm: nomark b, or (for in, not in) by with_unfolding_all rfl -/
theorem pe_cmpR {op : CmpOp} {r : R2} (ho : OpR X (compareOp op) r) (ha : PE X a ta) (hb : PE X b tb) (hm : behindInMarks op b = false) : PE X (.Compare a [op] [b] pos) (tOp r ta tb) := by
  intro pins s σ H Q I h
  exact wpAny_Compare1 (binT ha hb I h fun v u s2 x y H2 I2 rx ry q => ho pins s2 σ H2 x y v u Q I2 rx ry q) hm
/-- a reading of a value as a test -/
def tTest (t : TE) : TT := fun σ H Q => t σ H fun x H' => ∃ k, x = .bl k ∧ Q k H'
theorem pt_cmpR {op : CmpOp} {r : R2} (ho : OpR X (compareOp op) r) (ha : PE X a ta) (hb : PE X b tb) (hm : behindInMarks op b = false) : PT X (.Compare a [op] [b] pos) (tTest (tOp r ta tb)) := by
  intro pins s σ H Q I h
  refine wpAny_isTrue_Compare1 (thn (ha pins s σ H _ I h) fun v s1 ⟨x, H1, I1, r1, q1⟩ => thn (hb pins s1 σ H1 _ I1 q1) fun u s2 ⟨y, H2, I2, r2, q2⟩ =>
    thn (ho pins s2 σ H2 x y v u _ I2 r1 r2 q2) fun c s3 ⟨z, H3, I3, r3, k, e, q3⟩ => ?_) hm
  subst e
  cases r3
  exact wpAny_truthy_bool ⟨H3, I3, q3⟩
/-- a op1 b op2 c -/
def tChain (r r' : R2) (ta tb tc : TE) : TE := fun σ H Q => ta σ H fun x H1 => tb σ H1 fun y H2 => r x y H2 fun z H3 => ∃ k, z = .bl k ∧
  (if k = true then tc σ H3 fun w' H4 => r' y w' H4 Q else Q (.bl false) H3)
theorem pe_chain {op op' : CmpOp} {r r' : R2} (ho : OpR X (compareOp op) r) (ho' : OpR X (compareOp op') r') (ha : PE X a ta) (hb : PE X b tb) (hc : PE X c tc)
    (hm : lastMarks [op, op'] [b, c] = false := by with_unfolding_all rfl) : PE X (.Compare a [op, op'] [b, c] pos) (tChain r r' ta tb tc) := by
  intro pins s σ H Q I h
  refine Compare_chain (thn (ha pins s σ H _ I h) fun v s1 ⟨x, H1, I1, r1, q1⟩ => chain_link (thn (hb pins s1 σ H1 _ I1 q1) fun u s2 ⟨y, H2, I2, r2, q2⟩ =>
    thn (ho pins s2 σ H2 x y v u _ I2 r1 r2 q2) fun d s3 ⟨z, H3, I3, r3, k, e, q3⟩ => ?_)) hm
  subst e
  cases r3
  refine wpAny_truthy_bool ?_
  cases k with
  | false => exact ite_ff ⟨.bl false, H3, I3, rfl, q3⟩
  | true => exact ite_tt (chain_last (thn (hc pins s3 σ H3 _ I3 q3) fun w' s4 ⟨z', H4, I4, r4, q4⟩ => ho' pins s4 σ H4 y z' u w' Q I4 r2 r4 q4))
theorem pt_chain {op op' : CmpOp} {r r' : R2} (ho : OpR X (compareOp op) r) (ho' : OpR X (compareOp op') r') (ha : PE X a ta) (hb : PE X b tb) (hc : PE X c tc)
    (hm : lastMarks [op, op'] [b, c] = false := by with_unfolding_all rfl) : PT X (.Compare a [op, op'] [b, c] pos) (tTest (tChain r r' ta tb tc)) := by
  intro pins s σ H Q I h
  refine isTrue_chain (thn (ha pins s σ H _ I h) fun v s1 ⟨x, H1, I1, r1, q1⟩ => test_link (thn (hb pins s1 σ H1 _ I1 q1) fun u s2 ⟨y, H2, I2, r2, q2⟩ =>
    thn (ho pins s2 σ H2 x y v u _ I2 r1 r2 q2) fun d s3 ⟨z, H3, I3, r3, k, e, q3⟩ => ?_)) hm
  subst e
  cases r3
  refine wpAny_truthy_bool ?_
  cases k with
  | false =>
    obtain ⟨k', e', q'⟩ := q3
    cases e'
    exact ite_ff ⟨H3, I3, q'⟩
  | true =>
    refine ite_tt (test_last (thn (hc pins s3 σ H3 _ I3 q3) fun w' s4 ⟨z', H4, I4, r4, q4⟩ => thn (ho' pins s4 σ H4 y z' u w' _ I4 r2 r4 q4) fun d' s5 ⟨z2, H5, I5, r5, k2, e2, q5⟩ => ?_))
    subst e2
    cases r5
    exact wpAny_truthy_bool ⟨H5, I5, q5⟩

/-! ### truth -/
/-- a value's truth by the abstract heap -/
def TruV (K : PySem.W.Frag) (x : V) (H : Hp) (k : Bool) : Prop :=
  match x with
  | .non => k = false
  | .bl b => k = b
  | .int i => k = (i != 0)
  | .str y => y.length ≤ sizeLine ∧ k = ((y.length : Int) != 0)
  | .byt y => y.size ≤ sizeLine ∧ k = ((y.size : Int) != 0)
  | .ref p => (∃ xs, SqL K H p xs ∧ k = !xs.isEmpty) ∨ (∃ xs, SqT K H p xs ∧ k = !xs.isEmpty) ∨ ∃ kvs, H p = some (.dK kvs) ∧ k = !kvs.isEmpty
  | _ => False
theorem isEmpty_kv {κ : Type} {kvs : List (κ × V)} {vs : List (κ × Value)} (r : KV kvs vs) : (!vs.isEmpty) = !kvs.isEmpty := by
  cases r <;> rfl
theorem isEmpty_of {xs : List V} {its : List Value} (r : Vals xs its) : (!its.toArray.isEmpty) = !xs.isEmpty := by
  cases r <;> simp
theorem line63 : (sizeLine : Nat) < 2 ^ 63 := by rw [sizeLine_eq]; decide
theorem tru_ok : TruR X (fun x H Q => ∃ k, TruV X.K x H k ∧ Q k H) := by
  intro pins s σ H x v Q I rx h
  obtain ⟨k, e, q⟩ := h
  have hl := line63
  have hs : sizeLine = 16777216 := sizeLine_eq
  cases x with
  | non =>
    cases rx
    have e' : k = false := e
    subst e'
    exact truthy_none ⟨H, I, q⟩
  | bl b =>
    cases rx
    have e' : k = b := e
    subst e'
    exact wpAny_truthy_bool ⟨H, I, q⟩
  | int i =>
    obtain ⟨t, rfl⟩ := rx
    have e' : k = (i != 0) := e
    subst e'
    exact PySem.P.truthy_int ⟨H, I, q⟩
  | str y =>
    obtain ⟨t, rfl⟩ := rx
    obtain ⟨hy, e'⟩ : y.length ≤ sizeLine ∧ k = ((y.length : Int) != 0) := e
    subst e'
    exact PySem.P.truthy_str (by omega) ⟨H, I.tok _, q⟩
  | byt y =>
    obtain ⟨t, rfl⟩ := rx
    obtain ⟨hy, e'⟩ : y.size ≤ sizeLine ∧ k = ((y.size : Int) != 0) := e
    subst e'
    exact PySem.W.truthy_bytes (by omega) ⟨H, I.tok _, q⟩
  | ref p =>
    cases rx
    have e' : (∃ xs, SqL X.K H p xs ∧ k = !xs.isEmpty) ∨ (∃ xs, SqT X.K H p xs ∧ k = !xs.isEmpty) ∨ ∃ kvs, H p = some (.dK kvs) ∧ k = !kvs.isEmpty := e
    rcases e' with ⟨xs, hx, e'⟩ | ⟨xs, hx, e'⟩ | ⟨kvs, hx, e'⟩
    · subst e'
      obtain ⟨its, r, pl, hz⟩ := I.list hx
      have hlen := r.length
      exact wpAny_truthy_list pl.isList (by simp only [List.size_toArray]; omega) ⟨H, I.tok _, by rw [isEmpty_of r]; exact q⟩
    · subst e'
      obtain ⟨its, r, pl, hz⟩ := I.tuple hx
      have hlen := r.length
      exact truthy_tuple pl (by simp only [List.size_toArray]; omega) ⟨H, I.tok _, by rw [isEmpty_of r]; exact q⟩
    · subst e'
      obtain ⟨hz, hS, vs, r, m⟩ : kvs.length ≤ sizeLine ∧ (p == sysModules) = false ∧ ∃ vs, KV kvs vs ∧ s.heap.DictOf (mixKind X.prog X.w) p vs := I.hok p _ hx
      have hlen : kvs.length = vs.length := Paired.length r
      exact wpAny_truthy_dict hS m (by omega) ⟨H, I.tok _, by rw [isEmpty_kv r]; exact q⟩
  | _ => exact (show False from e).elim
/-- any expression whose test is its value's truth (a name, a call, a subscript, a field ..: he by fun _ => rfl) -/
theorem pt_truth (ha : PE X a ta) (he : ∀ whole, isTrue a X.env whole = (do let v ← whole; standAt a.pos; holding [v] (truthy v))) :
    PT X a (fun σ H Q => ta σ H fun x H' => ∃ k, TruV X.K x H' k ∧ Q k H') := by
  intro pins s σ H Q I h
  exact isTrue_plain (thn (ha pins s σ H _ I h) fun v s1 ⟨x, H1, I1, r1, q1⟩ => tru_ok pins s1 σ H1 x v Q I1 r1 q1) (he _)

/-! ### strs and bytes -/
theorem pe_byt {x : List UInt8} {k : Nat} : PE X (.Constant (.bytes x) k pos) (fun _ H Q => Q (.byt x.toArray) H) := fun _ _ _ H _ I h => PySem.W.Constant_bytes ⟨.byt x.toArray, H, I.tok _, ⟨_, rfl⟩, h⟩
theorem op_add_str : OpR X (binaryOp .Add) (fun x y H Q => ∃ i j, x = .str i ∧ y = .str j ∧ i.length + j.length ≤ sizeLine ∧ Q (.str (i ++ j)) H) := by
  intro pins s σ H x y v u Q I rx ry h
  obtain ⟨i, j, rfl, rfl, hz, q⟩ := h
  obtain ⟨t, rfl⟩ := rx
  obtain ⟨t', rfl⟩ := ry
  exact add_str (fun t' tk => ⟨.str (i ++ j), H, I.tok _, ⟨_, rfl⟩, q⟩) hz
theorem iop_add_str : OpR X (inplaceOp .Add) (fun x y H Q => ∃ i j, x = .str i ∧ y = .str j ∧ i.length + j.length ≤ sizeLine ∧ Q (.str (i ++ j)) H) := by
  intro pins s σ H x y v u Q I rx ry h
  obtain ⟨i, j, rfl, rfl, hz, q⟩ := h
  obtain ⟨t, rfl⟩ := rx
  obtain ⟨t', rfl⟩ := ry
  exact iadd_str (fun t' tk => ⟨.str (i ++ j), H, I.tok _, ⟨_, rfl⟩, q⟩) hz
theorem op_add_byt : OpR X (binaryOp .Add) (fun x y H Q => ∃ i j, x = .byt i ∧ y = .byt j ∧ i.size + j.size ≤ 16777216 ∧ Q (.byt (i ++ j)) H) := by
  intro pins s σ H x y v u Q I rx ry h
  obtain ⟨i, j, rfl, rfl, hz, q⟩ := h
  obtain ⟨t, rfl⟩ := rx
  obtain ⟨t', rfl⟩ := ry
  exact PySem.W.KBy.add_bytes hz (fun t' tk => ⟨.byt (i ++ j), H, I.tok _, ⟨_, rfl⟩, q⟩)

def PlainIxT (b : Expr) : Prop := ∀ o i, subscripted b false o i = operate [o, i] (getItem o i)
/-- s[i], 0 ≤ i < len -/
theorem pe_item_str (ha : PE X a ta) (hb : PE X b tb) (hs : PlainIxT b) :
    PE X (.Subscript a b pos) (tOp (fun x y H Q => ∃ z i c, x = .str z ∧ y = .int i ∧ 0 ≤ i ∧ i < 2 ^ 63 ∧ i < z.length ∧ z.cps[i.toNat]? = some c ∧ Q (.str ⟨#[c]⟩) H) ta tb) := by
  intro pins s σ H Q I h
  refine Subscript_ (binT ha hb I h fun v u s2 x y H2 I2 rx ry q => ?_)
  obtain ⟨z, i, c, rfl, rfl, h0, h63, h1, hc, q⟩ := q
  obtain ⟨t, rfl⟩ := rx
  obtain ⟨t', rfl⟩ := ry
  have e : seqIndex? i z.length = some i.toNat := PySem.StrLaws.seqIndex_nonneg h0 h1
  exact tail_any (typeIs_str s2 z t) slot_str_getitem.lookup (getItem_str (c := c) (by
    have e1 : decide (i < -(2 ^ 63 : Int)) = false := decide_eq_false (by omega)
    have e2 : decide (i ≥ 2 ^ 63) = false := decide_eq_false (by omega)
    rw [e1, e2] <;> rfl) (by rw [e]; exact hc) ⟨.str ⟨#[c]⟩, H2, I2.tok _, ⟨_, rfl⟩, q⟩) (hs _ _)
/-- b[i], 0 ≤ i < len -/
theorem pe_item_byt (ha : PE X a ta) (hb : PE X b tb) (hs : PlainIxT b) :
    PE X (.Subscript a b pos) (tOp (fun x y H Q => ∃ (z : List UInt8) (i : Int), x = .byt z.toArray ∧ y = .int i ∧ z.length ≤ sizeLine ∧ 0 ≤ i ∧ i < z.length ∧ Q (.int ((z.getD i.toNat 0).toNat : Nat)) H) ta tb) := by
  intro pins s σ H Q I h
  refine Subscript_ (binT ha hb I h fun v u s2 x y H2 I2 rx ry q => ?_)
  obtain ⟨z, i, rfl, rfl, hz, h0, h1, q⟩ := q
  obtain ⟨t, rfl⟩ := rx
  obtain ⟨t', rfl⟩ := ry
  have hl : sizeLine = 16777216 := sizeLine_eq
  exact tail_any (PySem.W.typeIs_bytes s2 z.toArray t) PySem.W.FB.slot_bytes_getitem.lookup (PySem.W.getItem_bytes (by omega) h0 h1 ⟨.int ((z.getD i.toNat 0).toNat : Nat), H2, I2.tok _, ⟨_, rfl⟩, q⟩) (hs _ _)

/-! ### scalar builtins, by CallR -/
theorem vals1 {x : V} {us : List Value} (r : Vals [x] us) : ∃ u, us = [u] ∧ RelV x u := by
  cases r with
  | cons r1 r2 => cases r2; exact ⟨_, rfl, r1⟩
theorem vals2 {x y : V} {us : List Value} (r : Vals [x, y] us) : ∃ u w', us = [u, w'] ∧ RelV x u ∧ RelV y w' := by
  cases r with
  | cons r1 r2 =>
    cases r2 with
    | cons r3 r4 => cases r4; exact ⟨_, _, rfl, r1, r3⟩
theorem call_abs : CallR X (.builtin "abs") (fun xs H Q => ∃ i, xs = [.int i] ∧ Q (.int (if i < 0 then -i else i)) H) := by
  intro pins s σ H xs us Q I r h
  obtain ⟨i, rfl, q⟩ := h
  obtain ⟨u, rfl, t, rfl⟩ := vals1 r
  exact call_abs_int fun u tk => ⟨.int (if i < 0 then -i else i), H, I.tok _, ⟨_, rfl⟩, q⟩
theorem call_max2 (hc : X.calm = true) : CallR X (.builtin "max") (fun xs H Q => ∃ i j, xs = [.int i, .int j] ∧ Q (.int (if j > i then j else i)) H) := by
  intro pins s σ H xs us Q I r h
  obtain ⟨i, j, rfl, q⟩ := h
  obtain ⟨u, w', rfl, ⟨t, rfl⟩, ⟨t', rfl⟩⟩ := vals2 r
  refine max_two_ints (I.ok.hd hc) fun h' tk k => ⟨_, H, I.kept k, ?_, q⟩
  by_cases hj : j > i
  · rw [if_pos hj, if_pos hj]; exact ⟨_, rfl⟩
  · rw [if_neg hj, if_neg hj]; exact ⟨_, rfl⟩
theorem call_min2 (hc : X.calm = true) : CallR X (.builtin "min") (fun xs H Q => ∃ i j, xs = [.int i, .int j] ∧ Q (.int (if j < i then j else i)) H) := by
  intro pins s σ H xs us Q I r h
  obtain ⟨i, j, rfl, q⟩ := h
  obtain ⟨u, w', rfl, ⟨t, rfl⟩, ⟨t', rfl⟩⟩ := vals2 r
  refine min_two_ints (I.ok.hd hc) fun h' tk k => ⟨_, H, I.kept k, ?_, q⟩
  by_cases hj : j < i
  · rw [if_pos hj, if_pos hj]; exact ⟨_, rfl⟩
  · rw [if_neg hj, if_neg hj]; exact ⟨_, rfl⟩
theorem call_int1 : CallR X (.type "int") (fun xs H Q => (∃ i, xs = [.int i] ∧ Q (.int i) H) ∨ ∃ k, xs = [.bl k] ∧ Q (.int (if k then 1 else 0)) H) := by
  intro pins s σ H xs us Q I r h
  rcases h with ⟨i, rfl, q⟩ | ⟨k, rfl, q⟩
  · obtain ⟨u, rfl, t, rfl⟩ := vals1 r
    exact call_int_int ⟨.int i, H, I, ⟨_, rfl⟩, q⟩
  · obtain ⟨u, rfl, r1⟩ := vals1 r
    cases r1
    exact call_int_bool ⟨.int (if k then 1 else 0), H, I.tok _, ⟨_, rfl⟩, q⟩
theorem call_bool1 : CallR X (.type "bool") (fun xs H Q => (∃ i, xs = [.int i] ∧ Q (.bl (i != 0)) H) ∨ ∃ k, xs = [.bl k] ∧ Q (.bl k) H) := by
  intro pins s σ H xs us Q I r h
  rcases h with ⟨i, rfl, q⟩ | ⟨k, rfl, q⟩
  · obtain ⟨u, rfl, t, rfl⟩ := vals1 r
    exact call_bool_int ⟨.bl (i != 0), H, I, rfl, q⟩
  · obtain ⟨u, rfl, r1⟩ := vals1 r
    cases r1
    exact call_bool_bool ⟨.bl k, H, I, rfl, q⟩
theorem call_str_int : CallR X (.type "str") (fun xs H Q => ∃ i, xs = [.int i] ∧ i.natAbs.log2 < 1920 ∧ Q (.str (toString i)) H) := by
  intro pins s σ H xs us Q I r h
  obtain ⟨i, rfl, hz, q⟩ := h
  obtain ⟨u, rfl, t, rfl⟩ := vals1 r
  exact PySem.P.str_of_int hz ⟨.str _, H, I.tok _, ⟨_, rfl⟩, q⟩
theorem call_ord : CallR X (.builtin "ord") (fun xs H Q => ∃ x, xs = [.str x] ∧ x.length = 1 ∧ Q (.int (x.cps.getD 0 0 : Nat)) H) := by
  intro pins s σ H xs us Q I r h
  obtain ⟨x, rfl, hz, q⟩ := h
  obtain ⟨u, rfl, t, rfl⟩ := vals1 r
  exact ord_of_one hz ⟨.int _, H, I.tok _, ⟨_, rfl⟩, q⟩
theorem call_chr : CallR X (.builtin "chr") (fun xs H Q => ∃ i, xs = [.int i] ∧ 0 ≤ i ∧ i ≤ 1114111 ∧ Q (.str ⟨#[i.toNat]⟩) H) := by
  intro pins s σ H xs us Q I r h
  obtain ⟨i, rfl, h0, h1, q⟩ := h
  obtain ⟨u, rfl, t, rfl⟩ := vals1 r
  exact chr_of_range h0 h1 ⟨.str _, H, I.tok _, ⟨_, rfl⟩, q⟩
/-- len of a str, a bytes, a list, a tuple -/
def LenV (K : PySem.W.Frag) (x : V) (H : Hp) (n : Nat) : Prop :=
  match x with
  | .str y => y.length ≤ sizeLine ∧ n = y.length
  | .byt y => y.size ≤ sizeLine ∧ n = y.size
  | .ref p => (∃ xs, SqL K H p xs ∧ n = xs.length) ∨ ∃ xs, SqT K H p xs ∧ n = xs.length
  | _ => False
theorem call_len : CallR X (.builtin "len") (fun xs H Q => ∃ x n, xs = [x] ∧ LenV X.K x H n ∧ Q (.int n) H) := by
  intro pins s σ H xs us Q I r h
  obtain ⟨x, n, rfl, e, q⟩ := h
  obtain ⟨u, rfl, rx⟩ := vals1 r
  have hl := line63
  have hs : sizeLine = 16777216 := sizeLine_eq
  cases x with
  | str y =>
    obtain ⟨t, rfl⟩ := rx
    obtain ⟨hy, e'⟩ : y.length ≤ sizeLine ∧ n = y.length := e
    subst e'
    exact len_str (by omega) ⟨.int _, H, I.tok _, ⟨_, rfl⟩, q⟩
  | byt y =>
    obtain ⟨t, rfl⟩ := rx
    obtain ⟨hy, e'⟩ : y.size ≤ sizeLine ∧ n = y.size := e
    subst e'
    exact PySem.W.len_bytes (by omega) ⟨.int _, H, I.tok _, ⟨_, rfl⟩, q⟩
  | ref p =>
    cases rx
    have e' : (∃ xs, SqL X.K H p xs ∧ n = xs.length) ∨ ∃ xs, SqT X.K H p xs ∧ n = xs.length := e
    rcases e' with ⟨xs, hx, e'⟩ | ⟨xs, hx, e'⟩
    · subst e'
      obtain ⟨its, r', pl, hz⟩ := I.list hx
      have hlen := r'.length
      exact Calls.call_len_list pl.isList (by simp only [List.size_toArray]; omega) ⟨.int xs.length, H, I.tok _, ⟨_, by simp only [List.size_toArray]; rw [hlen]⟩, q⟩
    · subst e'
      obtain ⟨its, r', pl, hz⟩ := I.tuple hx
      have hlen := r'.length
      exact len_tuple pl (by simp only [List.size_toArray]; omega) ⟨.int xs.length, H, I.tok _, ⟨_, by simp only [List.size_toArray]; rw [hlen]⟩, q⟩
  | _ => exact (show False from e).elim
/-- divmod: a new tuple -/
theorem call_divmod : CallR X (.builtin "divmod") (fun xs H Q => ∃ i j, xs = [.int i, .int j] ∧ CDiv i j ∧ ∀ p, H p = none → Q (.ref p) (upd H p (.tup [.int (i / j), .int (i % j)]))) := by
  intro pins s σ H xs us Q I r h
  obtain ⟨i, j, rfl, ⟨h1, h2⟩, q⟩ := h
  obtain ⟨u, w', rfl, ⟨t, rfl⟩, ⟨t', rfl⟩⟩ := vals2 r
  refine divmod_int (by omega) ?_ (.inl (PyProof.noPylong_small (by omega)))
  rw [Int.fdiv_eq_ediv_of_nonneg i (by omega), Int.fmod_eq_emod_of_nonneg i (by omega)]
  have hn : H s.heap.objs.size = none := I.hok.fresh (Nat.le_refl _)
  refine ⟨.ref s.heap.objs.size, _, ?_, rfl, q _ hn⟩
  refine I.laid (fun b o e => Heap.get?_push_of_some _ e) (Nat.le_refl _) ⟨by simp only [List.length_cons, List.length_nil]; rw [sizeLine_eq]; decide, [.int (i / j) s.toks, .int (i % j) (s.toks + 1)], .cons ⟨_, rfl⟩ (.cons ⟨_, rfl⟩ .nil), ?_⟩
  exact ⟨_, Heap.get?_push_size s.heap rfl, rfl, rfl, 0, rfl⟩
end
end L2

namespace L2
open PySem PySem.Spec PyProof.Rows

/-! ### an instance, its attributes a map -/
structure ObjM (h : Heap) (x dx C : Addr) (mA : Str → Option Value) : Prop where
  obj : h.get? x = some (PySem.W.instObj C dx)
  ns : h.Ns1 dx mA
  ne : dx ≠ x

theorem lookIn_ns {h : Heap} {dx : Addr} {mA : Str → Option Value} (n : h.Ns1 dx mA) : ∃ od, h.get? dx = some od ∧ ∀ name, PySem.W.lookIn name od = some (mA name) := by
  obtain ⟨o, es, ep, ho, hd, hk, _, hm⟩ := n
  refine ⟨o, ho, fun name => ?_⟩
  have e := hm name
  unfold nsFind findBy at e
  rw [← Array.find?_toList] at e
  unfold PySem.W.lookIn
  rw [hd]
  dsimp only
  split
  · rename_i y q
    rw [q] at e
    exact congrArg some e
  · rename_i q
    rw [q] at e
    have a : es.toList.any (·.refKey) = false := by
      rw [List.any_eq_false]
      intro y hy
      obtain ⟨z, t, hkey⟩ := hk y (Array.mem_toList_iff.mp hy)
      simp [DictEntry.refKey, hkey]
    have a' : ¬ es.toList.any (·.refKey) = true := by rw [a]; exact Bool.false_ne_true
    rw [if_neg a']
    exact congrArg some e

theorem ObjM.look {h : Heap} {x dx C : Addr} {mA : Str → Option Value} (I : ObjM h x dx C mA) : ∃ od, PySem.W.InstAt h x (PySem.W.instObj C dx) C (some od) ∧ ∀ name, PySem.W.lookIn name od = some (mA name) :=
  let ⟨od, ho, hl⟩ := lookIn_ns I.ns
  ⟨od, ⟨I.obj, rfl, rfl, ho⟩, hl⟩

section
variable {prog : Program} {w : World} {A : Around} {E : Value → Shared → Prop} {s : Shared} {K : PySem.W.Frag} {x dx C f : Addr} {mA : Str → Option Value} {name : Str} {v : Value}

theorem get_map {expr : Bool} {Q : Value → Shared → Prop} (X : K.In s.heap) (I : ObjM s.heap x dx C mA) (hg : PySem.W.plainGet K C name = true) (hh : PySem.W.hasDictIn K C = true)
    (ha : PySem.W.findIn K (.ref C) name = some none) (hv : mA name = some v) (hv' : PySem.W.handedIn v = true) (h : Q v { s with toks := s.toks + 1 }) :
    wpAny (model prog w) A (getAttr (.ref x) name expr) Q E s := by
  obtain ⟨od, J, hl⟩ := I.look
  exact PySem.W.get_value X J (PySem.W.plainGet_of hg).1 (PySem.W.findObj_own hh ha rfl (by rw [hl, hv])) hv' h

theorem get_const {expr : Bool} {a : Value} {Q : Value → Shared → Prop} (X : K.In s.heap) (I : ObjM s.heap x dx C mA) (hg : PySem.W.plainGet K C name = true) (hh : PySem.W.hasDictIn K C = true)
    (ha : PySem.W.findIn K (.ref C) name = some (some a)) (hn : PySem.W.specialIn K a "__get__" = some none) (hc : PySem.W.copiedNames.contains name = false) (hv : mA name = none) (hv' : PySem.W.handedIn a = true)
    (h : Q a { s with toks := s.toks + 1 }) : wpAny (model prog w) A (getAttr (.ref x) name expr) Q E s := by
  obtain ⟨od, J, hl⟩ := I.look
  exact PySem.W.get_value X J (PySem.W.plainGet_of hg).1 (PySem.W.findObj_cls hh ha hn hv' hc (by rw [hl, hv])) hv' h

theorem get_meth {pl : Sem Bool} {Q : Value × List Value → Shared → Prop} (X : K.In s.heap) (I : ObjM s.heap x dx C mA) (hg : PySem.W.plainGet K C name = true)
    (hf : PySem.W.findIn K (.ref C) name = some (some (.ref f))) (ht : PySem.W.isFn K (.ref f) = true) (hv : mA name = none) (h : Q (.ref f, [.ref x]) s) :
    wpAny (model prog w) A (getMethod (.ref x) name pl) Q E s := by
  obtain ⟨od, J, hl⟩ := I.look
  exact PySem.W.method_fn X J (PySem.W.plainGet_of hg).1 (PySem.W.plainGet_of hg).2 hf (beq_iff_eq.mp ht) (by show (PySem.W.lookIn name od).map (·.isSome) = some false; rw [hl, hv]; rfl) h

theorem set_map {ns : List Str} {Q : Unit → Shared → Prop} (X : K.In s.heap) (I : ObjM s.heap x dx C mA)
    (hs : PySem.W.findIn K (.ref C) "__setattr__" = some (some (.builtin "object.__setattr__"))) (hp : PySem.W.plainOver K C = true) (ht : PySem.W.takerIn K C name = some none) (hh : PySem.W.hasDictIn K C = true)
    (hw : PySem.Within mA ns) (hsz : ns.length ≤ sizeLine)
    (h : ∀ h', ObjM h' x dx C (fun y => if y = name then some v else mA y) → Heap.SameBut dx s.heap h' → Q () { s with heap := h', toks := s.toks + 2 }) :
    wpAny (model prog w) A (setAttr (.ref x) name v) Q E s := by
  obtain ⟨od, J, hl⟩ := I.look
  refine PySem.W.set_plain X J hs (PySem.W.osa_open (s := { s with toks := s.toks + 1 }) (r := none) X J hp ht fun b => ?_)
  obtain ⟨cd, hc, hd'⟩ := PySem.W.any_some hh
  have hx : s.heap.get? x = some ⟨.ref C, some dx, .plain, #[]⟩ := I.obj
  refine wpAny_bind (wpAny_pure (wpAny_bind (wpAny_bind (wpAny_loadPart hx (wpAny_bind (PySem.W.Looks.here (s := { s with toks := s.toks + 1 }) (PySem.W.looks_clsIn X hc) ?_))))))
  rw [hd']
  refine wpAny_pure (a := some dx) (wpAny_bind (wpAny_pure (wpAny_bind ?_)))
  refine wpAny_nsSet1 (s := { s with toks := s.toks + 1 }) I.ns fun h' hn2 hs2 => ?_
  obtain ⟨oD, esD, epD, hoD, hdD, hcD⟩ := hn2.count (PySem.Within.cons name v hw)
  refine wpAny_bind (wpAny_lookBehind hoD (by rw [hdD]; exact pastItsLine_dict (Nat.le_trans hcD (by rw [List.length_cons]; omega))) ?_)
  exact wpAny_pure (h _ ⟨(hs2.2 _ (Ne.symm I.ne)).trans I.obj, hn2, I.ne⟩ hs2)

/-- C(..): the dict at the heap's end, the instance behind it; then its __init__ -/
theorem make_map {R : Result → Shared → Prop} {vs : List Value} {kw : List (Str × Value)} (X : K.In s.heap) (hm : PySem.W.makesIn K C = true)
    (hi : PySem.W.findIn K (.ref C) "__init__" = some (some (.ref f))) (hf : PySem.W.typeIn K (.ref f) = some (.type "function"))
    (h : codeAny (model prog w) (A.under (.builtin "type.__call__" ⟨.ref C :: vs, kw⟩)) (.call (.ref f) ⟨.ref (s.heap.objs.size + 1) :: vs, kw⟩) (PySem.W.InitBack (s.heap.objs.size + 1) R)
      { s with heap := (s.heap.push PySem.W.emptyDict).push (PySem.W.instObj C s.heap.objs.size) }) :
    codeAny (model prog w) A (.call (.ref C) ⟨vs, kw⟩) R s := by
  obtain ⟨hh, g, d, t, os⟩ := s
  exact PySem.W.make_core (PySem.W.makes_of X hm) (PySem.W.looks_findIn X hi) (fun self => PySem.W.bind_fn X self hf) (.inl rfl) h
/-- C() where there is no __init__ but object's -/
theorem make_map0 {R : Result → Shared → Prop} (X : K.In s.heap) (hm : PySem.W.makesIn K C = true)
    (hi : PySem.W.findIn K (.ref C) "__init__" = some (some (.builtin "object.__init__")))
    (hb : ∀ self, PySem.W.Looks (model prog w) s.heap (bindSpecial (.builtin "object.__init__") self) (.builtin "object.__init__", [self]))
    (h : codeAny (model prog w) (A.under (.builtin "type.__call__" ⟨[.ref C], []⟩)) (.call (.builtin "object.__init__") ⟨[.ref (s.heap.objs.size + 1)], []⟩) (PySem.W.InitBack (s.heap.objs.size + 1) R)
      { s with heap := (s.heap.push PySem.W.emptyDict).push (PySem.W.instObj C s.heap.objs.size) }) :
    codeAny (model prog w) A (.call (.ref C) ⟨[], []⟩) R s := by
  obtain ⟨hh, g, d, t, os⟩ := s
  exact PySem.W.make_core (PySem.W.makes_of X hm) (PySem.W.looks_findIn X hi) hb (.inr ⟨rfl, rfl⟩) h
end

/-! ### the attributes as a list of pairs -/
def putF (f : Str) (v : V) : List (Str × V) → List (Str × V)
  | [] => [(f, v)]
  | (g, x) :: r => if g = f then (g, v) :: r else (g, x) :: putF f v r
theorem lookup_putF (f g : Str) (v : V) : ∀ fs : List (Str × V), (putF f v fs).lookup g = if g = f then some v else fs.lookup g
  | [] => by
    show List.lookup g [(f, v)] = _
    by_cases h : g = f
    · have hb : (g == f) = true := beq_iff_eq.mpr h
      simp only [List.lookup, hb, if_pos h]
    · have hb : (g == f) = false := beq_eq_false_iff_ne.mpr h
      simp only [List.lookup, hb, if_neg h]
  | (k, x) :: r => by
    have ih := lookup_putF f g v r
    rw [show putF f v ((k, x) :: r) = (if k = f then (k, v) :: r else (k, x) :: putF f v r) from rfl]
    by_cases hk : k = f
    · rw [if_pos hk]
      by_cases h : g = k
      · have hb : (g == k) = true := beq_iff_eq.mpr h
        simp only [List.lookup, hb, if_pos (h.trans hk)]
      · have hb : (g == k) = false := beq_eq_false_iff_ne.mpr h
        simp only [List.lookup, hb, if_neg (fun e : g = f => h (e.trans hk.symm))]
    · rw [if_neg hk]
      by_cases h : g = k
      · have hb : (g == k) = true := beq_iff_eq.mpr h
        simp only [List.lookup, hb, if_neg (fun e : g = f => hk (h.symm.trans e))]
      · have hb : (g == k) = false := beq_eq_false_iff_ne.mpr h
        simp only [List.lookup, hb]
        exact ih
theorem keys_putF (f : Str) (v : V) : ∀ fs : List (Str × V), f ∈ (putF f v fs).map (·.1) ∧ ∀ g, g ∈ fs.map (·.1) → g ∈ (putF f v fs).map (·.1)
  | [] => ⟨by simp [putF], fun g h => by simp at h⟩
  | (k, x) :: r => by
    obtain ⟨i1, i2⟩ := keys_putF f v r
    rw [show putF f v ((k, x) :: r) = (if k = f then (k, v) :: r else (k, x) :: putF f v r) from rfl]
    by_cases hk : k = f
    · rw [if_pos hk]
      subst hk
      exact ⟨by simp, fun g h => by simpa using h⟩
    · rw [if_neg hk]
      refine ⟨?_, fun g h => ?_⟩
      · rw [List.map_cons]
        exact List.mem_cons_of_mem _ i1
      · rw [List.map_cons] at h ⊢
        rcases List.mem_cons.mp h with e | e
        · exact List.mem_cons.mpr (.inl e)
        · exact List.mem_cons_of_mem _ (i2 g e)
theorem length_putF (f : Str) (v : V) : ∀ fs : List (Str × V), (putF f v fs).length ≤ fs.length + 1
  | [] => by simp [putF]
  | (k, x) :: r => by
    have ih := length_putF f v r
    rw [show putF f v ((k, x) :: r) = (if k = f then (k, v) :: r else (k, x) :: putF f v r) from rfl]
    by_cases hk : k = f
    · rw [if_pos hk, List.length_cons, List.length_cons]; omega
    · rw [if_neg hk, List.length_cons, List.length_cons]; omega

theorem RelO.some_of {v : V} {o : Option Value} (r : RelO (some v) o) : ∃ u, o = some u ∧ RelV v u := by
  cases o with
  | none => exact (show False from r).elim
  | some u => exact ⟨u, rfl, r⟩
theorem RelO.none_of {o : Option Value} (r : RelO none o) : o = none := by
  cases o with
  | none => rfl
  | some u => exact (show False from r).elim
theorem handed_of {v : V} {u : Value} (r : RelV v u) : PySem.W.handedIn u = true := by
  cases v with
  | non => cases (show u = Value.none from r); rfl
  | bl b => cases (show u = Value.bool b from r); rfl
  | int i => obtain ⟨t, e⟩ := (show ∃ t, u = Value.int i t from r); cases e; rfl
  | str x => obtain ⟨t, e⟩ := (show ∃ t, u = Value.str x t from r); cases e; rfl
  | byt b => obtain ⟨t, e⟩ := (show ∃ t, u = Value.bytes b t from r); cases e; rfl
  | flt b => obtain ⟨t, e⟩ := (show ∃ t, u = Value.float b t from r); cases e; rfl
  | ref a => cases (show u = Value.ref a from r); rfl
  | ty n => cases (show u = Value.type n from r); rfl

section
variable {P : Program} {w : World} {H H' : Hp} {h h' : Heap} {a C dx : Addr} {fs fs' : List (Str × V)}
theorem ins_get (hok : HOk P w H h) (e : H a = some (.ins C dx fs)) : ∃ mA, ObjM h a dx C mA ∧ (∀ f, RelO (fs.lookup f) (mA f)) ∧ PySem.Within mA (fs.map (·.1)) ∧ fs.length ≤ 1000 ∧ H dx = some (.own a) := by
  obtain ⟨d, z, ne, ob, mA, n, r, q⟩ := (show ObjOk P w H h a (.ins C dx fs) from hok a _ e)
  exact ⟨mA, ⟨ob, n, ne⟩, r, q, z, d⟩
end

/-! ### what of the text a class must have -/
structure Cls (K : PySem.W.Frag) (C : Addr) : Prop where
  pg : PySem.W.plainGet K C Str.empty = true
  hd : PySem.W.hasDictIn K C = true
  po : PySem.W.plainOver K C = true
  sa : PySem.W.findIn K (.ref C) "__setattr__" = some (some (.builtin "object.__setattr__"))
theorem Cls.get {K : PySem.W.Frag} {C : Addr} (c : Cls K C) (f : Str) : PySem.W.plainGet K C f = true := c.pg
/-- no class of it has the name -/
def NoAttr (K : PySem.W.Frag) (C : Addr) (f : Str) : Prop := PySem.W.findIn K (.ref C) f = some none
theorem NoAttr.taker {K : PySem.W.Frag} {C : Addr} {f : Str} (n : NoAttr K C f) : PySem.W.takerIn K C f = some none := by
  unfold PySem.W.takerIn
  rw [show PySem.W.findIn K (.ref C) f = some none from n]
  rfl
/-- a constant of the class -/
structure Con (K : PySem.W.Frag) (C : Addr) (f : Str) (v : V) (u : Value) : Prop where
  at_ : PySem.W.findIn K (.ref C) f = some (some u)
  rel : RelV v u
  get : PySem.W.specialIn K u "__get__" = some none
  cp : PySem.W.copiedNames.contains f = false
/-- a method: a plain def of the class or of one above it -/
structure Meth (K : PySem.W.Frag) (C : Addr) (m : Str) (f : Addr) : Prop where
  at_ : PySem.W.findIn K (.ref C) m = some (some (.ref f))
  fn : PySem.W.isFn K (.ref f) = true
  kp : PySem.W.keepIn K (.ref f) = true

section
variable {X : Cx} {pins : List (Addr × Obj)} {σ : St} {H : Hp} {s : Shared} {a C dx : Addr} {fs : List (Str × V)} {f : Str} {v : V} {A : Around} {E : Value → Shared → Prop}

theorem getattr_ok {b : Bool} {Q : Value → Shared → Prop} (I : Inv X pins σ H s) (e : H a = some (.ins C dx fs)) (c : Cls X.K C) (n : NoAttr X.K C f) (l : fs.lookup f = some v)
    (h : ∀ u s', Inv X pins σ H s' → RelV v u → Q u s') : wpAny (model X.prog X.w) A (getAttr (.ref a) f b) Q E s := by
  obtain ⟨mA, O, r, _, _, _⟩ := ins_get I.hok e
  obtain ⟨u, hu, ru⟩ := RelO.some_of (v := v) (o := mA f) (by rw [← l]; exact r f)
  exact get_map I.kIn O (c.get f) c.hd n hu (handed_of ru) (h u _ (I.tok _) ru)

theorem getcon_ok {b : Bool} {u : Value} {Q : Value → Shared → Prop} (I : Inv X pins σ H s) (e : H a = some (.ins C dx fs)) (c : Cls X.K C) (k : Con X.K C f v u) (l : fs.lookup f = none)
    (h : ∀ s', Inv X pins σ H s' → Q u s') : wpAny (model X.prog X.w) A (getAttr (.ref a) f b) Q E s := by
  obtain ⟨mA, O, r, _, _, _⟩ := ins_get I.hok e
  have hn : mA f = none := RelO.none_of (by rw [← l]; exact r f)
  exact get_const I.kIn O (c.get f) c.hd k.at_ k.get k.cp hn (handed_of k.rel) (h _ (I.tok _))

theorem getmeth_ok {m : Str} {g : Addr} {pl : Sem Bool} {Q : Value × List Value → Shared → Prop} (I : Inv X pins σ H s) (e : H a = some (.ins C dx fs)) (c : Cls X.K C) (k : Meth X.K C m g) (l : fs.lookup m = none)
    (h : Q (.ref g, [.ref a]) s) : wpAny (model X.prog X.w) A (getMethod (.ref a) m pl) Q E s := by
  obtain ⟨mA, O, r, _, _, _⟩ := ins_get I.hok e
  have hn : mA m = none := RelO.none_of (by rw [← l]; exact r m)
  exact get_meth I.kIn O (c.get m) k.at_ k.fn hn h

theorem setattr_ok {y : V} {u : Value} {Q : Unit → Shared → Prop} (I : Inv X pins σ H s) (e : H a = some (.ins C dx fs)) (c : Cls X.K C) (n : NoAttr X.K C f) (hl : fs.length < 1000) (ry : RelV y u)
    (h : ∀ s', Inv X pins σ (upd H a (.ins C dx (putF f y fs))) s' → Q () s') : wpAny (model X.prog X.w) A (setAttr (.ref a) f u) Q E s := by
  obtain ⟨mA, O, r, wi, _, ho⟩ := ins_get I.hok e
  have hz : (fs.map (·.1)).length ≤ sizeLine := by rw [List.length_map, sizeLine_eq]; omega
  refine set_map I.kIn O c.sa c.po n.taker c.hd wi hz fun h' O' sb => h _ ?_
  have hd : ∃ o, h'.get? dx = some o := let ⟨o, _, _, e', _⟩ := O'.ns; ⟨o, e'⟩
  refine I.write (x := a) (e := dx) (by rw [e]; exact True.intro) (.inr ho) (fun b q hb z => (sb.2 b hb).trans z) hd ?_
  refine ⟨by rw [upd_ne O.ne]; exact ho, ?_, O.ne, O'.obj, _, O'.ns, fun g => ?_, fun g hg => ?_⟩
  · have := length_putF f y fs; omega
  · show RelO ((putF f y fs).lookup g) (if g = f then some u else mA g)
    rw [lookup_putF]
    by_cases q : g = f
    · rw [if_pos q, if_pos q]; exact ry
    · rw [if_neg q, if_neg q]; exact r g
  · by_cases q : g = f
    · rw [q]; exact (keys_putF f y fs).1
    · refine (keys_putF f y fs).2 g (wi g fun z => hg ?_)
      show (if g = f then some u else mA g) = none
      rw [if_neg q]; exact z

/-- a new instance, tracked, without attributes -/
theorem Inv.made (I : Inv X pins σ H s) : Inv X pins σ (upd (upd H s.heap.objs.size (.own (s.heap.objs.size + 1))) (s.heap.objs.size + 1) (.ins C s.heap.objs.size []))
    { s with heap := (s.heap.push PySem.W.emptyDict).push (PySem.W.instObj C s.heap.objs.size) } := by
  have e1 : (s.heap.push PySem.W.emptyDict).get? s.heap.objs.size = some PySem.W.emptyDict := Heap.get?_push_size s.heap rfl
  have e2 : ((s.heap.push PySem.W.emptyDict).push (PySem.W.instObj C s.heap.objs.size)).get? (s.heap.objs.size + 1) = some (PySem.W.instObj C s.heap.objs.size) := by
    have := Heap.get?_push_size (s.heap.push PySem.W.emptyDict) (o := PySem.W.instObj C s.heap.objs.size) rfl
    rwa [Heap.size_push] at this
  have e3 : (s.heap.push PySem.W.emptyDict).Ns s.heap.objs.size (fun _ => none) := ⟨PySem.W.emptyDict, #[], _, e1, rfl, (fun e he => absurd he (by simp)), fun _ => rfl⟩
  have I1 := I.laid (a := s.heap.objs.size) (o := .own (s.heap.objs.size + 1)) (h' := s.heap.push PySem.W.emptyDict) (t' := s.toks) (fun b u q => Heap.get?_push_of_some _ q) (Nat.le_refl _) ⟨_, e1⟩
  refine I1.laid (a := s.heap.objs.size + 1) (o := .ins C s.heap.objs.size []) (t' := s.toks) (fun b u q => Heap.get?_push_of_some _ q) (Nat.le_of_eq (Heap.size_push _ _)) ?_
  have ne : s.heap.objs.size ≠ s.heap.objs.size + 1 := Nat.ne_of_lt (Nat.lt_succ_self _)
  refine ⟨by rw [upd_ne ne, upd_same], Nat.zero_le _, ne, e2, fun _ => none, (Heap.Ns1.of_empty e3).at fun o q => Heap.get?_push_of_some _ q, fun _ => True.intro, fun y hy => absurd rfl hy⟩

/-- e.f where nothing but the object is asked: through attributeBase (super) and the last hold -/
theorem attr_of {prog : Program} {w : World} {env : Env} {e : Expr} {f : Str} {pos : Pos} {s : Shared} {Q : Value → Shared → Prop} (hb : attributeBase e f env (eval e env) = eval e env)
    (h : wpAny (model prog w) A (eval e env) (fun o s₁ => wpAny (model prog w) A (getAttr o f true) Q E s₁) E s) : wpAny (model prog w) A (eval (.Attribute e f pos) env) Q E s :=
  Attribute_any_ h (by rw [arm_eval_Attribute, hb])
end

/-! ### readings and rules -/
/-- e.f, an attribute of the instance -/
def tFld (K : PySem.W.Frag) (ta : TE) (f : Str) : TE := fun σ H Q => ta σ H fun x H1 => ∃ a C dx fs v, x = .ref a ∧ H1 a = some (.ins C dx fs) ∧ Cls K C ∧ NoAttr K C f ∧ fs.lookup f = some v ∧ Q v H1
/-- e.f, a constant of the class -/
def tCon (K : PySem.W.Frag) (ta : TE) (f : Str) : TE := fun σ H Q => ta σ H fun x H1 => ∃ a C dx fs v u, x = .ref a ∧ H1 a = some (.ins C dx fs) ∧ Cls K C ∧ Con K C f v u ∧ fs.lookup f = none ∧ Q v H1
/-- e.f = value -/
def sFld (K : PySem.W.Frag) (ta tv : TE) (f : Str) : TS := fun D σ H => tv σ H fun y H1 => ta σ H1 fun x H2 => ∃ a C dx fs, x = .ref a ∧ H2 a = some (.ins C dx fs) ∧ Cls K C ∧ NoAttr K C f ∧ fs.length < 1000 ∧
  D.nx σ (upd H2 a (.ins C dx (putF f y fs)))
/-- an augmented operator on two values -/
def InOp (X : Cx) (op : Operator) (rd : V → V → Hp → VK → Prop) : Prop :=
  ∀ (pins : List (Addr × Obj)) (s : Shared) (σ : St) (H : Hp) (x y : V) (u v : Value) (Q : VK), Inv X pins σ H s → RelV x u → RelV y v → rd x y H Q → wpAny (model X.prog X.w) X.A (inplaceOp op u v) (EP X pins σ Q) X.xe s
/-- e.f op= value -/
def sFldAug (K : PySem.W.Frag) (ta tv : TE) (rd : V → V → Hp → VK → Prop) (f : Str) : TS := fun D σ H => ta σ H fun x H1 => ∃ a C dx fs v, x = .ref a ∧ H1 a = some (.ins C dx fs) ∧ Cls K C ∧ NoAttr K C f ∧ fs.lookup f = some v ∧
  tv σ H1 fun y H2 => rd v y H2 fun z H3 => ∃ dx' fs', H3 a = some (.ins C dx' fs') ∧ fs'.length < 1000 ∧ D.nx σ (upd H3 a (.ins C dx' (putF f z fs')))

section
variable {X : Cx} {o e value : Expr} {f : Str} {pos pos' tpos : Pos} {ta tv : TE}
theorem pe_fld (he : PE X e ta) (hb : attributeBase e f X.env (eval e X.env) = eval e X.env) : PE X (.Attribute e f pos) (tFld X.K ta f) := by
  intro pins s σ H Q I h
  refine attr_of hb (thn (he pins s σ H _ I h) fun u s1 ⟨x, H1, I1, rx, a, C, dx, fs, v, ex, ea, c, n, l, q⟩ => ?_)
  subst ex
  obtain rfl : u = Value.ref a := rx
  exact getattr_ok I1 ea c n l fun u' s2 I2 ru => ⟨v, H1, I2, ru, q⟩
theorem pe_con (he : PE X e ta) (hb : attributeBase e f X.env (eval e X.env) = eval e X.env) : PE X (.Attribute e f pos) (tCon X.K ta f) := by
  intro pins s σ H Q I h
  refine attr_of hb (thn (he pins s σ H _ I h) fun u s1 ⟨x, H1, I1, rx, a, C, dx, fs, v, u0, ex, ea, c, k, l, q⟩ => ?_)
  subst ex
  obtain rfl : u = Value.ref a := rx
  exact getcon_ok I1 ea c k l fun s2 I2 => ⟨v, H1, I2, k.rel, q⟩
theorem ps_fld (ha : PE X o ta) (hv : PE X value tv) (hs : swapsWith value (some (.Attribute o f pos')) pos.line X.env = pure false) : PS X (.Assign [.Attribute o f pos'] value pos) (sFld X.K ta tv f) := by
  intro pins s σ H D I h
  refine plainObj_wpAny_Assign_Attribute (thn (hv pins s σ H _ I h) fun u s1 ⟨y, H1, I1, ry, q⟩ => thn (ha pins s1 σ H1 _ I1 q) fun ov s2 ⟨x, H2, I2, rx, a, C, dx, fs, ex, ea, c, n, l, q2⟩ => ?_) hs
  subst ex
  obtain rfl : ov = Value.ref a := rx
  exact setattr_ok I2 ea c n l ry fun s3 I3 => ⟨σ, _, I3, q2⟩
theorem ps_fldaug {op : Operator} {rd : V → V → Hp → VK → Prop} (ha : PE X o ta) (hv : PE X value tv) (hop : InOp X op rd) : PS X (.AugAssign (.Attribute o f tpos) op value pos) (sFldAug X.K ta tv rd f) := by
  intro pins s σ H D I h
  refine wpAny_AugAssign_AttributeAny (thn (ha pins s σ H _ I h) fun ov s1 ⟨x, H1, I1, rx, a, C, dx, fs, v, ex, ea, c, n, l, q⟩ => ?_)
  subst ex
  obtain rfl : ov = Value.ref a := rx
  refine getattr_ok I1 ea c n l fun u s2 I2 ru => thn (hv pins s2 σ H1 _ I2 q) fun w3 s3 ⟨y, H2, I3, ry, q3⟩ => thn (hop pins s3 σ H2 v y u w3 _ I3 ru ry q3) fun w4 s4 ⟨z, H3, I4, rz, dx', fs', ea', l', q4⟩ => ?_
  exact setattr_ok I4 ea' c n l' rz fun s5 I5 => ⟨σ, _, I5, q4⟩
def rAdd : V → V → Hp → VK → Prop := fun x y H Q => ∃ i j, x = .int i ∧ y = .int j ∧ Q (.int (i + j)) H
def rSub : V → V → Hp → VK → Prop := fun x y H Q => ∃ i j, x = .int i ∧ y = .int j ∧ Q (.int (i - j)) H
theorem in_add : InOp X .Add rAdd := by
  rintro pins s σ H x y u v Q I rx ry ⟨i, j, rfl, rfl, q⟩
  obtain ⟨t, rfl⟩ := (show ∃ t, u = Value.int i t from rx)
  obtain ⟨t', rfl⟩ := (show ∃ t', v = Value.int j t' from ry)
  exact PyProof.Rows.iadd_int ⟨.int (i + j), H, I.tok _, ⟨_, rfl⟩, q⟩
theorem in_sub : InOp X .Sub rSub := by
  rintro pins s σ H x y u v Q I rx ry ⟨i, j, rfl, rfl, q⟩
  obtain ⟨t, rfl⟩ := (show ∃ t, u = Value.int i t from rx)
  obtain ⟨t', rfl⟩ := (show ∃ t', v = Value.int j t' from ry)
  exact PyProof.Rows.isub_int ⟨.int (i - j), H, I.tok _, ⟨_, rfl⟩, q⟩

/-- what is between an instance and its method: the tree of a method call -/
theorem methcall_of {pl : Sem Bool} {m : Str} {apos : Pos} {args : List Expr} {pins : List (Addr × Obj)} {s : Shared} {σ : St} {H : Hp} {Q : Value → Shared → Prop} {te : TE} (he : PE X e te) (I : Inv X pins σ H s)
    (h : te σ H fun x H1 => ∃ a C dx fs g, x = .ref a ∧ H1 a = some (.ins C dx fs) ∧ Cls X.K C ∧ Meth X.K C m g ∧ fs.lookup m = none ∧
      ∀ s1, Inv X pins σ H1 s1 → wpAny (model X.prog X.w) X.A (callWith pos (.ref g) [.ref a] (backTo pos (starEach args X.env)) (backToKw pos (keywordEach [] X.env))) Q X.xe s1)
    (ht : eval (.Call (.Attribute e m apos) args [] pos) X.env = (do
      let ov ← eval e X.env
      standAt apos.atName
      let (f, first) ← holding [ov] (getMethod ov m pl)
      callWith pos f first (backTo pos (starEach args X.env)) (backToKw pos (keywordEach [] X.env)))) :
    wpAny (model X.prog X.w) X.A (eval (.Call (.Attribute e m apos) args [] pos) X.env) Q X.xe s := by
  refine PySem.W.methodCall_KW (pl := pl) (thn (he pins s σ H _ I h) fun u s1 ⟨x, H1, I1, rx, a, C, dx, fs, g, ex, ea, c, k, l, q⟩ => ?_) ht
  subst ex
  obtain rfl : u = Value.ref a := rx
  exact getmeth_ok I1 ea c k l (q s1 I1)
end

/-! ### isinstance -/
section
variable {X : Cx} {pins : List (Addr × Obj)} {σ : St} {H : Hp} {s : Shared} {A : Around} {E : Value → Shared → Prop} {Q : Value → Shared → Prop} {c : Value} {b : Bool}
/-- the type of a value, as the fragment's deciders take it; for an instance its class -/
inductive TyOf (K : PySem.W.Frag) (H : Hp) : V → Value → Prop where
  | non : TyOf K H .non (.type "NoneType")
  | bl (x : Bool) : TyOf K H (.bl x) (.type "bool")
  | int (i : Int) : TyOf K H (.int i) (.type "int")
  | str (x : Str) : TyOf K H (.str x) (.type "str")
  | flt (x : UInt64) : TyOf K H (.flt x) (.type "float")
  | lst {a : Addr} {xs : List V} (e : H a = some (.lst xs)) : TyOf K H (.ref a) (.type "list")
  | frz {a : Addr} {o : Obj} {xs : List V} (e : H a = some (.frz o (.lst xs))) : TyOf K H (.ref a) (.type "list")
  | tup {a : Addr} {xs : List V} (e : H a = some (.tup xs)) : TyOf K H (.ref a) (.type "tuple")
  | dK {a : Addr} {kvs : List (Key × V)} (e : H a = some (.dK kvs)) : TyOf K H (.ref a) (.type "dict")
  | dT {a : Addr} {kvs : List (List Key × V)} (e : H a = some (.dT kvs)) : TyOf K H (.ref a) (.type "dict")
  | ins {a C dx : Addr} {fs : List (Str × V)} (e : H a = some (.ins C dx fs)) (cl : Cls K C) (ha : PySem.W.findIn K (.ref C) "__class__" = some (some (.builtin "object.__class__")))
      (hn : PySem.W.specialIn K (.builtin "object.__class__") "__get__" = some (some (.builtin "getset_descriptor.__get__"))) (htk : PySem.W.takesIn K (.builtin "object.__class__") = some true)
      (hm : PySem.W.mroIn K C (.type "object") = some true) : TyOf K H (.ref a) (.ref C)
/-- isinstance(x, c) for one class c, a built-in or an own one: kitOne's answer -/
theorem isinst_ok {x : V} {u t : Value} (I : Inv X pins σ H s) (rx : RelV x u) (ty : TyOf X.K H x t) (e : PySem.W.kitOne X.K t c = some b) (h : ∀ tk, Q (.bool b) { s with toks := tk }) :
    wpAny (model X.prog X.w) A (call (.builtin "isinstance") [u, c]) Q E s := by
  cases ty with
  | non => cases (show u = Value.none from rx); exact PySem.W.kia_one PySem.W.kitx_none I.kIn True.intro e (fun z => nomatch z) h
  | bl y => cases (show u = Value.bool y from rx); exact PySem.W.kia_one PySem.W.kitx_bool I.kIn True.intro e (fun z => nomatch z) h
  | int i => obtain ⟨t, q⟩ := (show ∃ t, u = Value.int i t from rx); cases q; exact PySem.W.kia_one PySem.W.kitx_int I.kIn True.intro e (fun z => nomatch z) h
  | str y => obtain ⟨t, q⟩ := (show ∃ t, u = Value.str y t from rx); cases q; exact PySem.W.kia_one PySem.W.kitx_str I.kIn True.intro e (fun z => nomatch z) h
  | flt y => obtain ⟨t, q⟩ := (show ∃ t, u = Value.float y t from rx); cases q; exact PySem.W.kia_one PySem.W.kitx_float I.kIn True.intro e (fun z => nomatch z) h
  | @lst a xs ea =>
    cases (show u = Value.ref a from rx)
    obtain ⟨_, _, n, _, h1⟩ := (show ObjOk X.prog X.w H s.heap a (.lst xs) from I.hok a _ ea)
    exact PySem.W.kia_one PySem.W.kitx_list I.kIn ⟨_, h1, rfl⟩ e (fun z => nomatch z) h
  | @frz a ob xs ea =>
    cases (show u = Value.ref a from rx)
    obtain ⟨_, _, _, n, _, h1⟩ := (show ObjOk X.prog X.w H s.heap a (.frz ob (.lst xs)) from I.hok a _ ea)
    exact PySem.W.kia_one PySem.W.kitx_list I.kIn ⟨_, h1, rfl⟩ e (fun z => nomatch z) h
  | @tup a xs ea =>
    cases (show u = Value.ref a from rx)
    obtain ⟨_, _, _, p⟩ := (show ObjOk X.prog X.w H s.heap a (.tup xs) from I.hok a _ ea)
    replace p := p.tup
    obtain ⟨o, h1, h2, _⟩ := p
    exact PySem.W.kia_one PySem.W.kitx_tuple I.kIn ⟨o, h1, h2⟩ e (fun z => nomatch z) h
  | @dK a kvs ea =>
    cases (show u = Value.ref a from rx)
    obtain ⟨_, _, vs, _, p⟩ := (show ObjOk X.prog X.w H s.heap a (.dK kvs) from I.hok a _ ea)
    obtain ⟨o, es, ep, h1, h2, _⟩ := p
    exact PySem.W.kia_one PySem.W.kitx_dict I.kIn ⟨o, h1, h2.1⟩ e (fun z => nomatch z) h
  | @dT a kvs ea =>
    cases (show u = Value.ref a from rx)
    obtain ⟨_, _, xs, _, o, es, ep, h1, h2, _⟩ := (show ObjOk X.prog X.w H s.heap a (.dT kvs) from I.hok a _ ea)
    exact PySem.W.kia_one PySem.W.kitx_dict I.kIn ⟨o, h1, h2.1⟩ e (fun z => nomatch z) h
  | @ins a C dx fs ea cl ha hn htk hm =>
    cases (show u = Value.ref a from rx)
    obtain ⟨mA, O, _⟩ := ins_get I.hok ea
    obtain ⟨od, J, _⟩ := O.look
    exact PySem.W.kia_one (PySem.W.kitx_own (cl.get _) cl.hd ha hn htk hm) I.kIn J e (fun z => nomatch z) h
end
end L2

namespace L2
open PySem PySem.Spec PyProof.Rows

/-! ### room -/
structure Room (k : Nat) (A : Around) : Prop where
  hd : A.handled = none
  dp : A.depth + 3 * k + 5 < recursionLimit
  un : A.units + 16 * k + 200 < cLine
theorem Room.mono {j k : Nat} {A : Around} (r : Room k A) (h : j ≤ k) : Room j A := ⟨r.hd, by have := r.dp; omega, by have := r.un; omega⟩
theorem Room.deeper {k : Nat} {A : Around} (r : Room (k + 1) A) (env : Env) : Room k (A.deeper env) :=
  ⟨r.hd, by have := r.dp; show A.depth + 1 + 3 * k + 5 < _; omega, by have := r.un; show A.units + 3 + 16 * k + 200 < _; omega⟩
theorem Room.in1 {k : Nat} {A : Around} (r : Room (k + 1) A) : Room k A.in1 :=
  ⟨r.hd, by have := r.dp; show A.depth + 3 * k + 5 < _; omega, by have := r.un; show A.units + 1 + 16 * k + 200 < _; omega⟩
theorem make_depth {A : Around} {C : Addr} {us : List Value} {kw : List (Str × Value)} : (A.under (.builtin "type.__call__" ⟨.ref C :: us, kw⟩)).depth = A.depth + 1 := by
  first | rfl | simp [Around.under, Code.weight, Code.isCreation, Code.isGuard, Code.isCaller, Code.frames, Code.isFrame, guardIds]
theorem make_units {A : Around} {C : Addr} {us : List Value} {kw : List (Str × Value)} : (A.under (.builtin "type.__call__" ⟨.ref C :: us, kw⟩)).units = A.units + 1 := by
  first | rfl | simp [Around.under, Code.cUnits, Code.frames, Code.isFrame]
theorem Room.make {k : Nat} {A : Around} (r : Room (k + 1) A) (C : Addr) (us : List Value) (kw : List (Str × Value)) : Room k (A.under (.builtin "type.__call__" ⟨.ref C :: us, kw⟩)) :=
  ⟨r.hd, by have := r.dp; rw [make_depth]; omega, by have := r.un; rw [make_units]; omega⟩
theorem Room.depth {k : Nat} {A : Around} (r : Room k A) : A.depth < recursionLimit := by have := r.dp; omega
theorem Room.units {k : Nat} {A : Around} (r : Room k A) : A.units + 64 < cLine := by have := r.un; omega
theorem Room.units0 {k : Nat} {A : Around} (r : Room k A) : A.units < cLine := by have := r.un; omega

/-! ### argument lists and displays -/
def tNil : TA := fun _ H Q => Q [] H
def tCons (ta : TE) (tr : TA) : TA := fun σ H Q => ta σ H fun x H1 => tr σ H1 fun xs H2 => Q (x :: xs) H2
section
variable {X : Cx} {e : Expr} {es : List Expr} {te : TE} {t : TA} {pos : Pos}
theorem pa_nil : PA X [] tNil := fun _ _ _ _ H Q I h => Calls.spliced_nil ⟨[], H, I, .nil, h⟩
theorem pa_cons (ha : PE X e te) (hr : PA X es t) (hs : starEach (e :: es) X.env = (false, eval e X.env) :: starEach es X.env := by rfl) : PA X (e :: es) (tCons te t) := by
  intro pos pins s σ H Q I h
  rw [hs]
  show wpAny _ _ (spliced ((false, eval e X.env) :: backTo pos (starEach es X.env))) _ _ s
  refine Calls.spliced_cons (thn (ha pins s σ H _ I h) fun u s1 ⟨x, H1, I1, r1, q1⟩ => ?_)
  exact thn (hr pos pins s1 σ H1 _ I1 q1) fun us s2 ⟨xs, H2, I2, r2, q2⟩ => ⟨x :: xs, H2, I2, .cons r1 r2, q2⟩

/-- a tuple, a list of written items -/
def tTup (t : TA) : TE := fun σ H Q => t σ H fun xs H1 => xs.length ≤ sizeLine ∧ ∀ p, H1 p = none → Q (.ref p) (upd H1 p (.tup xs))
def tLst (t : TA) : TE := fun σ H Q => t σ H fun xs H1 => xs.length ≤ sizeLine ∧ ∀ p, H1 p = none → Q (.ref p) (upd H1 p (.lst xs))
theorem pe_tup {x1} (h : PA X es t) : PE X (.Tuple es x1 pos) (tTup t) := by
  intro pins s σ H Q I hq
  refine wpAny_Tuple_spliced (thn (h pos pins s σ H _ I hq) fun us s1 ⟨xs, H1, I1, r, z, q⟩ => ⟨by rw [← r.length]; exact z, ?_⟩)
  have hf : H1 s1.heap.objs.size = none := I1.hok.fresh (Nat.le_refl _)
  refine ⟨.ref s1.heap.objs.size, upd H1 s1.heap.objs.size (.tup xs), I1.laid (t' := s1.toks) (fun b u e => Heap.get?_push_of_some _ e) (Nat.le_refl _) ?_, rfl, q _ hf⟩
  exact ⟨z, us, r, ⟨_, Heap.get?_push_size _ rfl, rfl, rfl, _, rfl⟩⟩
theorem pe_lst (h : PA X es t) : PE X (.List es pos) (tLst t) := by
  intro pins s σ H Q I hq
  refine wpAny_List_spliced (thn (h pos pins s σ H _ I hq) fun us s1 ⟨xs, H1, I1, r, z, q⟩ => ⟨by rw [← r.length]; exact z, ?_⟩)
  have hf : H1 s1.heap.objs.size = none := I1.hok.fresh (Nat.le_refl _)
  refine ⟨.ref s1.heap.objs.size, upd H1 s1.heap.objs.size (.lst xs), I1.laid (t' := s1.toks) (fun b u e => Heap.get?_push_of_some _ e) (Nat.le_refl _) ?_, rfl, q _ hf⟩
  exact ⟨z, us, 0, r, Heap.get?_push_size _ rfl⟩
end

/-! ### what a def promises -/
/-- a def's promise: the bound arguments in the parameters' order, the heap, the wanted end, the wanted exception -/
abbrev Sp := List V → Hp → VK → XK → Prop
/-- how an exception lies behind a call (file 08 gives it): the callers' frames, abstract heap and state ahead of the call, the wish, the exception, the state -/
abbrev CXT := List Env → Hp → Shared → XK → Value → Shared → Prop

/-- the state at a call -/
structure Env0 (P : Program) (w : World) (K : PySem.W.Frag) (mg : Str → Option Value) (base : Heap) (A : Around) (outer : List Env) (s : Shared) (H : Hp) : Prop where
  frames : A.frames = some outer
  mod : Mod K mg base
  bs : ∀ b o, base.get? b = some o → s.heap.get? b = some o ∧ H b = none
  bsz : base.objs.size ≤ s.heap.objs.size
  funs : s.heap.FunFrames base outer
  frf : ∀ b ∈ frs outer, H b = none
  hok : HOk P w H s.heap
  bare : AllBare s.gens
/-- a call's end -/
def CE (outer : List Env) (P : Program) (w : World) (H : Hp) (s : Shared) (Q : VK) (u : Value) (s' : Shared) : Prop :=
  ∃ v H', s'.os = s.os ∧ AllBare s'.gens ∧ Un (frs outer) [] H H' s.heap s'.heap ∧ HOk P w H' s'.heap ∧ RelV v u ∧ Q v H'
def CR (CX : CXT) (outer : List Env) (P : Program) (w : World) (H : Hp) (s : Shared) (Q : VK) (E : XK) (r : Result) (s' : Shared) : Prop :=
  match r with
  | .ok (.ret u) => CE outer P w H s Q u s'
  | .ok _ => False
  | .error e => CX outer H s E e s'
structure FnOk (P : Program) (w : World) (K : PySem.W.Frag) (mg : Str → Option Value) (base : Heap) (CX : CXT) (k : Nat) (f : Addr) (fd : FuncData) (ps : List Str) (sp : Sp) : Prop where
  len : ∀ vs H Q E, sp vs H Q E → vs.length = ps.length
  run : ∀ (A : Around) (outer : List Env) (s : Shared) (H : Hp) (args : Args) (us : List Value) (vs : List V) (Q : VK) (E : XK), Room k A → Env0 P w K mg base A outer s H → BindsTo s fd args (ps.zip us) → Vals vs us → sp vs H Q E →
    codeAny (model P w) A (.call (.ref f) args) (CR CX outer P w H s Q E) s
theorem FnOk.mono {P : Program} {w : World} {K : PySem.W.Frag} {mg : Str → Option Value} {base : Heap} {CX : CXT} {j k : Nat} {f : Addr} {fd : FuncData} {ps : List Str} {sp : Sp} (F : FnOk P w K mg base CX j f fd ps sp) (h : j ≤ k) :
    FnOk P w K mg base CX k f fd ps sp := ⟨F.len, fun A outer s H args us vs Q E hr => F.run A outer s H args us vs Q E (hr.mono h)⟩
/-- a weaker promise -/
theorem FnOk.imp {P : Program} {w : World} {K : PySem.W.Frag} {mg : Str → Option Value} {base : Heap} {CX : CXT} {k : Nat} {f : Addr} {fd : FuncData} {ps : List Str} {sp sp' : Sp} (F : FnOk P w K mg base CX k f fd ps sp)
    (h : ∀ vs H Q E, sp' vs H Q E → sp vs H Q E) : FnOk P w K mg base CX k f fd ps sp' :=
  ⟨fun vs H Q E q => F.len vs H Q E (h _ _ _ _ q), fun A outer s H args us vs Q E hr he hb hv hs => F.run A outer s H args us vs Q E hr he hb hv (h _ _ _ _ hs)⟩

theorem Env0.make {P : Program} {w : World} {K : PySem.W.Frag} {mg : Str → Option Value} {base : Heap} {A : Around} {outer : List Env} {s : Shared} {H : Hp} (e : Env0 P w K mg base A outer s H) (C : Addr) (us : List Value) (kw : List (Str × Value)) :
    Env0 P w K mg base (A.under (.builtin "type.__call__" ⟨.ref C :: us, kw⟩)) outer s H := ⟨by first | exact e.frames | (simpa [Around.under, Code.envs, Code.isFrame, pushEnvs] using e.frames), e.mod, e.bs, e.bsz, e.funs, e.frf, e.hok, e.bare⟩
theorem Env0.in1 {P : Program} {w : World} {K : PySem.W.Frag} {mg : Str → Option Value} {base : Heap} {A : Around} {outer : List Env} {s : Shared} {H : Hp} (e : Env0 P w K mg base A outer s H) :
    Env0 P w K mg base A.in1 outer s H := ⟨e.frames, e.mod, e.bs, e.bsz, e.funs, e.frf, e.hok, e.bare⟩

section
variable {X : Cx} {pins : List (Addr × Obj)} {σ : St} {H : Hp} {s s' : Shared}
/-- from a body: what a callee wants -/
theorem Inv.env0 (I : Inv X pins σ H s) : Env0 X.prog X.w X.K X.mg X.base X.A X.stack s H :=
  ⟨I.ok.frames, I.ok.mod, I.bs, Nat.le_trans I.ok.bsz I.sz, I.stack, I.stkFree, I.hok, I.bare⟩
/-- behind a call -/
theorem Inv.after {Q : VK} {u : Value} (I : Inv X pins σ H s) (h : CE X.stack X.prog X.w H s Q u s') : EP X pins σ Q u s' := by
  obtain ⟨v, H', os, bare, un, hok, r, q⟩ := h
  obtain ⟨hh, g, d, t, os'⟩ := s'
  obtain rfl : os' = s.os := os
  exact ⟨v, H', I.call (h' := hh) (g' := g) (d' := d) (t' := t) (ch := []) un hok bare (fun b z => absurd z (by simp)), r, q⟩
end

/-! ### calls -/
/-- f(..): the written arguments, then the defaults dvs; E: what is wanted of an exception -/
def tCall (sp : Sp) (dvs : List V) (E : XK) (t : TA) : TE := fun σ H Q => t σ H fun vs H1 => sp (vs ++ dvs) H1 Q E
/-- o.m(..) of an instance of the class at C -/
def tMeth (C : Addr) (m : Str) (sp : Sp) (dvs : List V) (E : XK) (ta : TE) (t : TA) : TE := fun σ H Q => ta σ H fun x H1 => ∃ a dx fs, x = .ref a ∧ H1 a = some (.ins C dx fs) ∧ fs.lookup m = none ∧
  t σ H1 fun vs H2 => sp (x :: (vs ++ dvs)) H2 Q E
/-- C(..): a new instance and its dict, then __init__ -/
def tMake (C : Addr) (sp : Sp) (dvs : List V) (E : XK) (t : TA) : TE := fun σ H Q => t σ H fun vs H1 => ∀ x dx, H1 x = none → H1 dx = none → dx ≠ x →
  sp (.ref x :: (vs ++ dvs)) (upd (upd H1 dx (.own x)) x (.ins C dx [])) (fun v H2 => v = .non ∧ Q (.ref x) H2) E

/-- how the parameters are bound: us the positional arguments, kw the keywords' values by name, ds the defaults that fill up -/
def Binds (K : PySem.W.Frag) (fd : FuncData) (ps : List Str) (ds : List Value) : Prop :=
  ∀ (s : Shared) (us : List Value), K.In s.heap → (us ++ ds).length = ps.length → BindsTo s fd ⟨us, []⟩ (ps.zip (us ++ ds))
/-- every parameter is given -/
theorem Binds.all {K : PySem.W.Frag} {fd : FuncData} {ps : List Str} (h : ∀ us : List Value, us.length = ps.length → bindArgs fd ⟨us, []⟩ = pure (ps.zip us)) : Binds K fd ps [] := fun s us _ hl => by
  rw [List.append_nil] at hl ⊢
  exact .of_eq (h us hl)

/-- an exception of a callee reaches what this body wants of exceptions -/
def Passes (CX : CXT) (X : Cx) (E : XK) : Prop := ∀ (pins : List (Addr × Obj)) (σ : St) (H : Hp) (s : Shared) (e : Value) (s' : Shared), Inv X pins σ H s → CX X.stack H s E e s' → X.xe e s'

section
variable {X : Cx} {CX : CXT} {k : Nat} {f C : Addr} {fd : FuncData} {ps : List Str} {sp : Sp} {dvs : List V} {ds : List Value} {E : XK} {x m : Str} {p pos apos : Pos} {e o : Expr} {es : List Expr} {ta : TE} {t : TA}

/-- the callee runs -/
theorem run_fn {pins : List (Addr × Obj)} {σ : St} {H : Hp} {s : Shared} {Q : VK} {us : List Value} {vs : List V} (F : FnOk X.prog X.w X.K X.mg X.base CX k f fd ps sp) (hr : Room k X.A) (hb : Binds X.K fd ps ds) (hd : Vals dvs ds) (hx : Passes CX X E)
    (I : Inv X pins σ H s) (r : Vals vs us) (h : sp (vs ++ dvs) H Q E) : wpAny (model X.prog X.w) X.A (call (.ref f) us) (EP X pins σ Q) X.xe s := by
  have r2 : Vals (vs ++ dvs) (us ++ ds) := r.append hd
  have hl : (us ++ ds).length = ps.length := by rw [← r2.length]; exact F.len _ _ _ _ h
  refine wpAny_call (codeAny_mono (F.run X.A X.stack s H ⟨us, []⟩ (us ++ ds) (vs ++ dvs) Q E hr I.env0 (hb s us I.kIn hl) r2 h) fun r s' hq => ?_)
  cases r with
  | error e => exact hx pins σ H s e s' I hq
  | ok fl =>
    cases fl with
    | ret u => exact I.after hq
    | next => exact False.elim hq
    | brk => exact False.elim hq
    | cont => exact False.elim hq

theorem pe_call (F : FnOk X.prog X.w X.K X.mg X.base CX k f fd ps sp) (hr : Room k X.A) (hg : Gl X x) (hm : X.mg x = some (.ref f)) (hk : PySem.W.keepIn X.K (.ref f) = true) (hb : Binds X.K fd ps ds) (hd : Vals dvs ds) (hx : Passes CX X E)
    (ha : PA X (e :: es) t) (hdb : (x == ("__debug__" : Str)) = false := by decide) (he : starEach (e :: es) X.env = (false, eval e X.env) :: starEach es X.env := by rfl) (hpl : (backTo pos (starEach es X.env)).any (·.1) = false := by rfl) :
    PE X (.Call (.Name x p) (e :: es) [] pos) (tCall sp dvs E t) := by
  intro pins s σ H Q I h
  refine wpAny_Call_Name_kw (ld_glob I hg hm ?_ hdb)
  refine PySem.W.callWith_K (h₀ := X.base) I.ok.mod.kin hk (thn (ha pos pins s σ H _ I h) fun us s1 ⟨vs, H1, I1, r, q⟩ => ⟨I1.kIn, ?_⟩) he hpl
  exact run_fn F hr hb hd hx I1 r q
theorem pe_call0 (F : FnOk X.prog X.w X.K X.mg X.base CX k f fd ps sp) (hr : Room k X.A) (hg : Gl X x) (hm : X.mg x = some (.ref f)) (hk : PySem.W.keepIn X.K (.ref f) = true) (hb : Binds X.K fd ps ds) (hd : Vals dvs ds) (hx : Passes CX X E)
    (hdb : (x == ("__debug__" : Str)) = false := by decide) : PE X (.Call (.Name x p) [] [] pos) (tCall sp dvs E tNil) := by
  intro pins s σ H Q I h
  refine wpAny_Call_Name_kw (ld_glob I hg hm ?_ hdb)
  exact PySem.W.callWith_K0 I.kIn hk (run_fn (us := []) F hr hb hd hx I .nil h)

/-- o.m(e, ..) -/
theorem pe_meth {pl : Sem Bool} (he : PE X o ta) (c : Cls X.K C) (hm : Meth X.K C m f) (F : FnOk X.prog X.w X.K X.mg X.base CX k f fd ps sp) (hr : Room k X.A) (hb : Binds X.K fd ps ds) (hd : Vals dvs ds) (hx : Passes CX X E) (ha : PA X (e :: es) t)
    (hst : starEach (e :: es) X.env = (false, eval e X.env) :: starEach es X.env := by rfl) (hpl : (backTo pos (starEach es X.env)).any (·.1) = false := by rfl)
    (ht : eval (.Call (.Attribute o m apos) (e :: es) [] pos) X.env = (do
      let ov ← eval o X.env
      standAt apos.atName
      let (f, first) ← holding [ov] (getMethod ov m pl)
      callWith pos f first (backTo pos (starEach (e :: es) X.env)) (backToKw pos (keywordEach [] X.env))) := by rfl) :
    PE X (.Call (.Attribute o m apos) (e :: es) [] pos) (tMeth C m sp dvs E ta t) := by
  intro pins s σ H Q I h
  refine PySem.W.methodCall_KW (pl := pl) (thn (he pins s σ H _ I h) fun u s1 ⟨x, H1, I1, rx, a, dx, fs, ex, ea, l, q⟩ => ?_) ht
  subst ex
  obtain rfl : u = Value.ref a := rx
  refine getmeth_ok I1 ea c hm l ?_
  refine PySem.W.callWith_K (first := [.ref a]) (h₀ := X.base) I.ok.mod.kin hm.kp (thn (ha pos pins s1 σ H1 _ I1 q) fun us s2 ⟨vs, H2, I2, r, q2⟩ => ⟨I2.kIn, ?_⟩) hst hpl
  exact run_fn (us := .ref a :: us) (vs := .ref a :: vs) F hr hb hd hx I2 (.cons rfl r) q2
/-- o.m() -/
theorem pe_meth0 {pl : Sem Bool} (he : PE X o ta) (c : Cls X.K C) (hm : Meth X.K C m f) (F : FnOk X.prog X.w X.K X.mg X.base CX k f fd ps sp) (hr : Room k X.A) (hb : Binds X.K fd ps ds) (hd : Vals dvs ds) (hx : Passes CX X E)
    (ht : eval (.Call (.Attribute o m apos) [] [] pos) X.env = (do
      let ov ← eval o X.env
      standAt apos.atName
      let (f, first) ← holding [ov] (getMethod ov m pl)
      callWith pos f first (backTo pos (starEach [] X.env)) (backToKw pos (keywordEach [] X.env))) := by rfl) :
    PE X (.Call (.Attribute o m apos) [] [] pos) (tMeth C m sp dvs E ta tNil) := by
  intro pins s σ H Q I h
  refine PySem.W.methodCall_KW (pl := pl) (thn (he pins s σ H _ I h) fun u s1 ⟨x, H1, I1, rx, a, dx, fs, ex, ea, l, q⟩ => ?_) ht
  subst ex
  obtain rfl : u = Value.ref a := rx
  refine getmeth_ok I1 ea c hm l ?_
  exact PySem.W.callWith_K0 (first := [.ref a]) I1.kIn hm.kp (run_fn (us := [.ref a]) (vs := [.ref a]) F hr hb hd hx I1 (.cons rfl .nil) q)

/-- what a class must have to be made -/
structure Mk (K : PySem.W.Frag) (C f : Addr) : Prop where
  makes : PySem.W.makesIn K C = true
  init : PySem.W.findIn K (.ref C) "__init__" = some (some (.ref f))
  fn : PySem.W.isFn K (.ref f) = true
  kp : PySem.W.keepIn K (.ref C) = true

theorem run_make {pins : List (Addr × Obj)} {σ : St} {H : Hp} {s : Shared} {Q : VK} {us : List Value} {vs : List V} (M : Mk X.K C f) (F : FnOk X.prog X.w X.K X.mg X.base CX k f fd ps sp) (hr : Room (k + 1) X.A) (hb : Binds X.K fd ps ds) (hd : Vals dvs ds)
    (hx : Passes CX X E) (I : Inv X pins σ H s) (r : Vals vs us)
    (h : ∀ x dx, H x = none → H dx = none → dx ≠ x → sp (.ref x :: (vs ++ dvs)) (upd (upd H dx (.own x)) x (.ins C dx [])) (fun v H2 => v = .non ∧ Q (.ref x) H2) E) :
    wpAny (model X.prog X.w) X.A (call (.ref C) us) (EP X pins σ Q) X.xe s := by
  have hq := h (s.heap.objs.size + 1) s.heap.objs.size (I.hok.fresh (Nat.le_succ _)) (I.hok.fresh (Nat.le_refl _)) (Nat.ne_of_lt (Nat.lt_succ_self _))
  have I2 := Inv.made (C := C) I
  have r2 : Vals (V.ref (s.heap.objs.size + 1) :: (vs ++ dvs)) (Value.ref (s.heap.objs.size + 1) :: (us ++ ds)) := .cons rfl (r.append hd)
  have hl : (Value.ref (s.heap.objs.size + 1) :: us ++ ds).length = ps.length := by
    have e := r2.length
    rw [F.len _ _ _ _ hq] at e
    exact e.symm
  refine wpAny_call (make_map (f := f) I.kIn M.makes M.init (beq_iff_eq.mp M.fn) (codeAny_mono (F.run _ X.stack _ _ ⟨Value.ref (s.heap.objs.size + 1) :: us, []⟩ (Value.ref (s.heap.objs.size + 1) :: (us ++ ds)) _ _ E (hr.make C us [])
    (I2.env0.make C us []) (hb _ (Value.ref (s.heap.objs.size + 1) :: us) I2.kIn hl) r2 hq) fun r s' hq' => ?_))
  cases r with
  | error e => exact hx pins σ _ _ e s' I2 hq'
  | ok fl =>
    cases fl with
    | ret u =>
      obtain ⟨v, H', I3, rv, ev, q3⟩ := I2.after hq'
      subst ev
      exact ⟨rv, ⟨V.ref (s.heap.objs.size + 1), H', I3, rfl, q3⟩⟩
    | next => exact False.elim hq'
    | brk => exact False.elim hq'
    | cont => exact False.elim hq'
theorem pe_make (M : Mk X.K C f) (F : FnOk X.prog X.w X.K X.mg X.base CX k f fd ps sp) (hr : Room (k + 1) X.A) (hg : Gl X x) (hm : X.mg x = some (.ref C)) (hb : Binds X.K fd ps ds) (hd : Vals dvs ds) (hx : Passes CX X E)
    (ha : PA X (e :: es) t) (hdb : (x == ("__debug__" : Str)) = false := by decide) (he : starEach (e :: es) X.env = (false, eval e X.env) :: starEach es X.env := by rfl) (hpl : (backTo pos (starEach es X.env)).any (·.1) = false := by rfl) :
    PE X (.Call (.Name x p) (e :: es) [] pos) (tMake C sp dvs E t) := by
  intro pins s σ H Q I h
  refine wpAny_Call_Name_kw (ld_glob I hg hm ?_ hdb)
  refine PySem.W.callWith_K (h₀ := X.base) I.ok.mod.kin M.kp (thn (ha pos pins s σ H _ I h) fun us s1 ⟨vs, H1, I1, r, q⟩ => ⟨I1.kIn, ?_⟩) he hpl
  exact run_make M F hr hb hd hx I1 r q
theorem pe_make0 (M : Mk X.K C f) (F : FnOk X.prog X.w X.K X.mg X.base CX k f fd ps sp) (hr : Room (k + 1) X.A) (hg : Gl X x) (hm : X.mg x = some (.ref C)) (hb : Binds X.K fd ps ds) (hd : Vals dvs ds) (hx : Passes CX X E)
    (hdb : (x == ("__debug__" : Str)) = false := by decide) : PE X (.Call (.Name x p) [] [] pos) (tMake C sp dvs E tNil) := by
  intro pins s σ H Q I h
  refine wpAny_Call_Name_kw (ld_glob I hg hm ?_ hdb)
  exact PySem.W.callWith_K0 I.kIn M.kp (run_make (us := []) M F hr hb hd hx I .nil h)
end

/-! ### keywords -/
/-- the values of the keywords, from the left -/
def PK (X : Cx) (kws : List Keyword) (t : TA) : Prop :=
  ∀ (pos : Pos) (pins : List (Addr × Obj)) (s : Shared) (σ : St) (H : Hp) (Q : List V → Hp → Prop), Inv X pins σ H s → t σ H Q → wpAny (model X.prog X.w) X.A (evalAll ((backToKw pos (keywordEach kws X.env)).map (·.2))) (AP X pins σ Q) X.xe s
section
variable {X : Cx} {CX : CXT} {k : Nat} {f C : Addr} {fd : FuncData} {ps ks : List Str} {sp : Sp} {E : XK} {x m : Str} {p pos apos kpos : Pos} {e o : Expr} {es : List Expr} {kws : List Keyword} {te ta : TE} {t tk : TA} {nm : Option Str}
theorem pk_nil : PK X [] tNil := fun _ _ _ _ H Q I h => wpAny_evalAll_nil ⟨[], H, I, .nil, h⟩
theorem pk_cons (ha : PE X e te) (hr : PK X kws t) : PK X (⟨nm, e, kpos⟩ :: kws) (tCons te t) := by
  intro pos pins s σ H Q I h
  show wpAny _ _ (evalAll ((do let v ← eval e X.env; standAt pos; pure v) :: (backToKw pos (keywordEach kws X.env)).map (·.2))) _ _ s
  refine wpAny_evalAll_cons (wpAny_bind (thn (ha pins s σ H _ I h) fun u s1 ⟨x, H1, I1, r1, q1⟩ => wpAny_bind (wpAny_standAt (wpAny_pure ?_))))
  exact thn (hr pos pins s1 σ H1 _ I1 q1) fun us s2 ⟨xs, H2, I2, r2, q2⟩ => ⟨x :: xs, H2, I2, .cons r1 r2, q2⟩

/-- how a call with keywords binds: g puts the positional values us and the keywords' values ws (names ks) in the parameters' order, defaults among them -/
structure KBinds (K : PySem.W.Frag) (fd : FuncData) (ps ks : List Str) (g : List Value → List Value → List Value) (gV : List V → List V → List V) : Prop where
  to : ∀ (s : Shared) (us ws : List Value), K.In s.heap → (g us ws).length = ps.length → BindsTo s fd ⟨us, ks.zip ws⟩ (ps.zip (g us ws))
  rel : ∀ {vs : List V} {us : List Value} {zs : List V} {ws : List Value}, Vals vs us → Vals zs ws → Vals (gV vs zs) (g us ws)
def tCallK (sp : Sp) (gV : List V → List V → List V) (E : XK) (t tk : TA) : TE := fun σ H Q => t σ H fun vs H1 => tk σ H1 fun zs H2 => sp (gV vs zs) H2 Q E
variable {g : List Value → List Value → List Value} {gV : List V → List V → List V}
theorem run_fnk {pins : List (Addr × Obj)} {σ : St} {H : Hp} {s : Shared} {Q : VK} {us ws : List Value} {vs zs : List V} (F : FnOk X.prog X.w X.K X.mg X.base CX k f fd ps sp) (hr : Room k X.A) (hb : KBinds X.K fd ps ks g gV) (hx : Passes CX X E)
    (I : Inv X pins σ H s) (r : Vals vs us) (rz : Vals zs ws) (h : sp (gV vs zs) H Q E) : wpAny (model X.prog X.w) X.A (call (.ref f) us (ks.zip ws)) (EP X pins σ Q) X.xe s := by
  have r2 := hb.rel r rz
  have hl : (g us ws).length = ps.length := by rw [← r2.length]; exact F.len _ _ _ _ h
  refine wpAny_call (codeAny_mono (F.run X.A X.stack s H ⟨us, ks.zip ws⟩ (g us ws) (gV vs zs) Q E hr I.env0 (hb.to s us ws I.kIn hl) r2 h) fun r s' hq => ?_)
  cases r with
  | error e => exact hx pins σ H s e s' I hq
  | ok fl =>
    cases fl with
    | ret u => exact I.after hq
    | next => exact False.elim hq
    | brk => exact False.elim hq
    | cont => exact False.elim hq
/-- f(e, .., k = v, ..) -/
theorem pe_callK (F : FnOk X.prog X.w X.K X.mg X.base CX k f fd ps sp) (hr : Room k X.A) (hg : Gl X x) (hm : X.mg x = some (.ref f)) (hk : PySem.W.keepIn X.K (.ref f) = true) (hb : KBinds X.K fd ps ks g gV) (hx : Passes CX X E)
    (ha : PA X (e :: es) t) (hkw : PK X kws tk) (hall : (backToKw pos (keywordEach kws X.env)).all (·.1.isSome) = true := by rfl) (hks : (backToKw pos (keywordEach kws X.env)).filterMap (·.1) = ks := by rfl)
    (hdb : (x == ("__debug__" : Str)) = false := by decide) (he : starEach (e :: es) X.env = (false, eval e X.env) :: starEach es X.env := by rfl)
    (hpl : ((backTo pos (starEach (e :: es) X.env)).any (·.1) || (backToKw pos (keywordEach kws X.env)).any (·.1.isNone)) = false := by rfl) :
    PE X (.Call (.Name x p) (e :: es) kws pos) (tCallK sp gV E t tk) := by
  intro pins s σ H Q I h
  refine wpAny_Call_Name_kw (ld_glob I hg hm ?_ hdb)
  refine PySem.W.callWith_KW (h₀ := X.base) I.ok.mod.kin hk hall (thn (ha pos pins s σ H _ I h) fun us s1 ⟨vs, H1, I1, r, q⟩ => ?_) hpl he
  refine thn (hkw pos pins s1 σ H1 _ I1 q) fun ws s2 ⟨zs, H2, I2, rz, q2⟩ => ⟨I2.kIn, ?_⟩
  rw [hks]
  exact run_fnk F hr hb hx I2 r rz q2
end

/-! ### a def's body keeps its promise -/
/-- names: the parameters first -/
structure FnScope (N P : List Str) (sc : Scope) : Prop where
  kind : sc.kind = .function
  co : sc.isCoroutine = false
  gen : sc.isGenerator = false
  nd : N.Nodup
  pre : N.take P.length = P
  par : ∀ x ∈ P, sc.names.lookup x = some .local ∨ sc.names.lookup x = some .cell
  nofree : ∀ y ∈ sc.names, y.2 ≠ .free

theorem bindL_out {kindOf : Str → Option NameKind} {x : Str} : ∀ {binds : List (Str × Value)} {m : Str → Option Value}, (∀ v, (x, v) ∉ binds) → bindL kindOf binds m x = m x
  | [], _, _ => rfl
  | (n, v) :: r, m, h => by
    unfold bindL
    rw [bindL_out fun w hw => h w (List.mem_cons_of_mem _ hw)]
    split
    · have : x ≠ n := by rintro rfl; exact h v List.mem_cons_self
      simp [this]
    · rfl
theorem bindC_out {kindOf : Str → Option NameKind} {x : Str} : ∀ {binds : List (Str × Value)} {m : Str → Option Value}, (∀ v, (x, v) ∉ binds) → bindC kindOf binds m x = m x
  | [], _, _ => rfl
  | (n, v) :: r, m, h => by
    unfold bindC
    rw [bindC_out fun w hw => h w (List.mem_cons_of_mem _ hw)]
    split
    · rfl
    · have : x ≠ n := by rintro rfl; exact h v List.mem_cons_self
      simp [this]
theorem bindL_get {kindOf : Str → Option NameKind} {x : Str} {v : Value} : ∀ {P : List Str} {vs : List Value} {i : Nat} {m : Str → Option Value}, P.Nodup → P[i]? = some x → vs[i]? = some v → kindOf x = some .local →
    bindL kindOf (P.zip vs) m x = some v
  | [], _, _, _, _, h, _, _ => by simp at h
  | _ :: _, [], _, _, _, _, h, _ => by simp at h
  | p :: P, w :: vs, 0, m, nd, h1, h2, hk => by
    simp at h1 h2; subst h1; subst h2
    show bindL kindOf ((p, w) :: P.zip vs) m p = _
    unfold bindL
    rw [bindL_out fun v hv => (List.nodup_cons.mp nd).1 (List.of_mem_zip hv).1, if_pos hk]
    simp
  | p :: P, w :: vs, i + 1, m, nd, h1, h2, hk => by
    show bindL kindOf ((p, w) :: P.zip vs) m x = _
    unfold bindL
    exact bindL_get (i := i) (List.nodup_cons.mp nd).2 (by simpa using h1) (by simpa using h2) hk
theorem bindC_get {kindOf : Str → Option NameKind} {x : Str} {v : Value} : ∀ {P : List Str} {vs : List Value} {i : Nat} {m : Str → Option Value}, P.Nodup → P[i]? = some x → vs[i]? = some v → kindOf x ≠ some .local →
    bindC kindOf (P.zip vs) m x = some v
  | [], _, _, _, _, h, _, _ => by simp at h
  | _ :: _, [], _, _, _, _, h, _ => by simp at h
  | p :: P, w :: vs, 0, m, nd, h1, h2, hk => by
    simp at h1 h2; subst h1; subst h2
    show bindC kindOf ((p, w) :: P.zip vs) m p = _
    unfold bindC
    rw [bindC_out fun v hv => (List.nodup_cons.mp nd).1 (List.of_mem_zip hv).1, if_neg hk]
    simp
  | p :: P, w :: vs, i + 1, m, nd, h1, h2, hk => by
    show bindC kindOf ((p, w) :: P.zip vs) m x = _
    unfold bindC
    exact bindC_get (i := i) (List.nodup_cons.mp nd).2 (by simpa using h1) (by simpa using h2) hk

/-- the names' values at the entry -/
def start (N : List Str) (vs : List V) : St := vs.map some ++ List.replicate (N.length - vs.length) none

/-- the context of a def's body, at its entry; an exception leaves the frame, then lies as CX says -/
def cxOf (CX : CXT) (P : Program) (w : World) (K : PySem.W.Frag) (mg : Str → Option Value) (base : Heap) (N : List Str) (qual : Str) (scope : Scope) (f : Addr) (cd : Value) (A : Around) (outer : List Env) (s : Shared) (H : Hp) (E : XK) : Cx where
  prog := P
  w := w
  K := K
  mg := mg
  base := base
  A := A.deeper (envOfC qual scope s.heap.objs.size f cd)
  N := N
  s₀ := s
  H₀ := H
  env := envOfC qual scope s.heap.objs.size f cd
  outer := outer
  stack := envOfC qual scope s.heap.objs.size f cd :: outer
  ex := []
  calm := true
  fn := fun _ => true
  pn := []
  xe := fun e s' => wpAny (model P w) (A.deeper (envOfC qual scope s.heap.objs.size f cd)) (leaving (envOfC qual scope s.heap.objs.size f cd) e) (fun _ s'' => CX outer H s E e s'') (fun e' s'' => CX outer H s E e' s'') s'

theorem cell_has {sc : Scope} {n : Nat} {x : Str} (h : sc.names.lookup x = some .cell) : ∃ c, (cellsFrom n sc.names []).lookup x = some c := by
  have q := PySem.W.cellsFrom_some sc.names n [] (.inl h)
  exact Option.isSome_iff_exists.mp q

theorem inv_start {CX : CXT} {P : Program} {w : World} {K : PySem.W.Frag} {mg : Str → Option Value} {base : Heap} {N ps : List Str} {qual : Str} {scope : Scope} {f : Addr} {cd : Value} {A : Around} {outer : List Env} {s s1 : Shared} {H : Hp} {E : XK} {us : List Value} {vs : List V}
    (S : FnScope N ps scope) (hd : A.handled = none) (e0 : Env0 P w K mg base A outer s H) (hl : vs.length = ps.length) (r : Vals vs us)
    (x : InCallC s s.heap.objs.size (bindL (envOfC qual scope s.heap.objs.size f cd).kindOf (ps.zip us) fun _ => none) (cellsFrom (s.heap.objs.size + 1) scope.names []) (bindC (envOfC qual scope s.heap.objs.size f cd).kindOf (ps.zip us) fun _ => none) s1) :
    Inv (cxOf CX P w K mg base N qual scope f cd A outer s H E) [] (start N vs) H s1 := by
  have hpl : ps.length ≤ N.length := by have := congrArg List.length S.pre; rw [List.length_take] at this; omega
  obtain ⟨h1, tk, rfl, hk⟩ := x.done
  have noA : ∀ b : Addr, b ∉ (cxOf CX P w K mg base N qual scope f cd A outer s H E).ex := fun b z => absurd (show b ∈ ([] : List Addr) from z) (by simp)
  refine ⟨⟨e0.mod, S.kind, rfl, rfl, Nat.le_refl _, fun y z c h1 h2 => ?_, fun y hy => ?_, fun y c _ h => ?_, fun _ => hd, Around.frames_deeper e0.frames, .inr ⟨rfl, rfl⟩, fun b z => absurd z (noA b), e0.bs, e0.bsz, fun b _ _ => noA b, fun b z => absurd z (noA b), e0.funs, e0.frf⟩,
    rfl, e0.bare, Un.kept hk, ⟨_, x.toInCall.ns, fun i y v h1 h2 h3 => ?_⟩, fun y c h => ⟨_, x.cell y c h⟩, e0.hok.fresh (Nat.le_refl _), fun y c h => ?_, fun p hp => absurd (show p ∈ ([] : List (Addr × Obj)) from hp) (by simp), e0.hok.kept hk, ?_⟩
  · exact name_of_addr x.apart (PySem.mem_of_lookup h1) (PySem.mem_of_lookup h2)
  · have hy : scope.names.lookup y = some .cell ∨ scope.names.lookup y = some .free := hy
    rcases hy with hy | hy
    · exact cell_has hy
    · exact absurd rfl (S.nofree _ (PySem.mem_of_lookup hy))
  · exact Nat.le_of_lt (x.above y c (PySem.mem_of_lookup h))
  · have hi : i < vs.length := by
      unfold start at h2
      by_cases hi : i < vs.length
      · exact hi
      · rw [List.getElem?_append_right (by simpa using hi)] at h2
        rw [List.getElem?_replicate] at h2
        split at h2 <;> cases h2
    have ha : vs[i]? = some v := by
      unfold start at h2
      rw [List.getElem?_append_left (by simpa using hi), List.getElem?_map] at h2
      cases e : vs[i]? with
      | none => rw [e] at h2; cases h2
      | some a => rw [e] at h2; cases h2; rfl
    obtain ⟨u, hu, rv⟩ := r.get ha
    have hp : ps[i]? = some y := by
      rw [← S.pre, List.getElem?_take_of_lt (by omega)]; exact h1
    have ndP : ps.Nodup := by rw [← S.pre]; exact S.nd.sublist (List.take_sublist _ _)
    refine ⟨u, rv, ?_⟩
    rcases S.par y (List.mem_of_getElem? hp) with k | k
    · exact .inl ⟨k, bindL_get ndP hp hu k⟩
    · obtain ⟨c, e⟩ := cell_has (n := s.heap.objs.size + 1) k
      refine .inr ⟨.inl k, c, e, ?_⟩
      have q := x.cell y c e
      rw [bindC_get ndP hp hu (by show scope.names.lookup y ≠ _; rw [k]; decide)] at q
      exact q
  · exact e0.hok.fresh (Nat.le_of_lt (x.above y c (PySem.mem_of_lookup h)))
  · unfold start
    show _ = N.length
    rw [List.length_append, List.length_map, List.length_replicate]
    omega

/-- THE RULE: a def (or a method) of the text, by its body. The body's reading t is chosen for each entry; it is run at the parameters' values -/
theorem fn_of {CX : CXT} {P : Program} {w : World} {K : PySem.W.Frag} {mg : Str → Option Value} {base : Heap} {k : Nat} {f : Addr} {name qual : Str} {params : Arguments} {body : List Stmt} {scope : Scope} {dV kV doc pm cdv ct oc : Value} {an od : Option Addr}
    {osl : Array (Option Value)} {N ps : List Str} {sp : Sp} (lk : K.lookup f = some ⟨oc, od, .func (PySem.W.fnOf name qual params body scope dV kV doc pm an cdv ct), osl⟩) (hcd : PySem.W.codeIn K cdv qual = true) (S : FnScope N ps scope)
    (len : ∀ vs H Q E, sp vs H Q E → vs.length = ps.length)
    (hbody : ∀ (A : Around) (outer : List Env) (s : Shared) (H : Hp) (vs : List V) (Q : VK) (E : XK), Room k (A.deeper (envOfC qual scope s.heap.objs.size f cdv)) → sp vs H Q E →
      ∃ t, PSs (cxOf CX P w K mg base N qual scope f cdv A outer s H E) body t ∧ t { nx := fun _ H' => Q .non H', rt := Q } (start N vs) H) :
    FnOk P w K mg base CX (k + 1) f (PySem.W.fnOf name qual params body scope dV kV doc pm an cdv ct) ps sp := by
  refine ⟨len, fun A outer s H args us vs Q E hr e0 hb r hsp => ?_⟩
  have hl := len _ _ _ _ hsp
  have KX : K.In s.heap := e0.mod.kin.keeps fun b o e => (e0.bs b o e).1
  have lim : s.heap.NoLimit := e0.mod.nolimit.keeps fun b o e => (e0.bs b o e).1
  have hkind : ∀ y ∈ ps.zip us, scope.names.lookup y.1 = some .local ∨ (scope.names.lookup y.1 = some .cell ∧ ((cellsFrom (s.heap.objs.size + 1) scope.names []).lookup y.1).isSome = true) := fun ⟨n, v⟩ hy => by
    rcases S.par n (List.of_mem_zip hy).1 with q | q
    · exact .inl q
    · exact .inr ⟨q, PySem.W.cellsFrom_some _ _ _ (.inl q)⟩
  refine codeAny_call_function hr.depth (KX _ _ lk) rfl S.co S.gen rfl (PySem.W.codeRec_of KX hcd) (hb _ _ _ _ ?_)
  refine wpAny_newFunctionEnv_cells S.kind hkind fun env he s1 x => ?_
  subst he
  refine ⟨lim.keeps x.toInCall.keep, codeAny_func ?_⟩
  obtain ⟨t, ht, hq⟩ := hbody A outer s H vs Q E (hr.deeper _) hsp
  have I : Inv (cxOf CX P w K mg base N qual scope f cdv A outer s H E) [] (start N vs) H s1 := inv_start S hr.hd e0 hl r x
  refine wpAny_mono (ht [] s1 (start N vs) H _ I hq) (fun fl s' hs => ?_) fun e s' hs => hs
  have fin : ∀ {σ' : St} {H' : Hp} {v : V} {u : Value}, Inv (cxOf CX P w K mg base N qual scope f cdv A outer s H E) [] σ' H' s' → RelV v u → Q v H' → CE outer P w H s Q u s' :=
    fun {σ' H' v u} J rv q => ⟨v, H', J.os, J.bare, J.base, J.hok, rv, q⟩
  cases fl with
  | ret u =>
    obtain ⟨v, σ', H', J, rv, q⟩ := hs
    exact fin J rv q
  | next =>
    obtain ⟨σ', H', J, q⟩ := hs
    exact fin (v := V.non) (u := Value.none) J rfl q
  | brk =>
    obtain ⟨_, _, _, q⟩ := hs
    exact False.elim q
  | cont =>
    obtain ⟨_, _, _, q⟩ := hs
    exact False.elim q
end L2

namespace L2
open PySem PySem.Spec PyProof.Rows
section
variable {X : Cx} {x : Str} {p pos : Pos} {e : Expr} {es : List Expr} {t : TA} {id T : String} {r : List V → Hp → VK → Prop}

def tCB (r : List V → Hp → VK → Prop) (t : TA) : TE := fun σ H Q => t σ H fun vs H1 => r vs H1 Q
/-- f(e, ..), f a built-in function -/
theorem pe_callB (hc : CallR X (.builtin id) r) (hg : Gl X x) (hm : X.mg x = none) (hv : bootBuiltins x = some (.builtin id)) (ha : PA X (e :: es) t) (hn : x ≠ "__name__" := by decide) (hdb : (x == ("__debug__" : Str)) = false := by decide)
    (he : starEach (e :: es) X.env = (false, eval e X.env) :: starEach es X.env := by rfl) (hpl : (backTo pos (starEach es X.env)).any (·.1) = false := by rfl) : PE X (.Call (.Name x p) (e :: es) [] pos) (tCB r t) := by
  intro pins s σ H Q I h
  refine wpAny_Call_Name_kw (ld_blt I hg hm hv ?_ hn hdb)
  exact PyProof.Rows.callWith_builtin1 (thn (ha pos pins s σ H _ I h) fun us s1 ⟨vs, H1, I1, r1, q1⟩ => hc pins s1 σ H1 vs us Q I1 r1 q1) he hpl
/-- T(e, ..), T a built-in type -/
theorem pe_callTy (hc : CallR X (.type T) r) (hg : Gl X x) (hm : X.mg x = none) (hv : bootBuiltins x = some (.type T)) (ha : PA X (e :: es) t) (hn : x ≠ "__name__" := by decide) (hdb : (x == ("__debug__" : Str)) = false := by decide)
    (he : starEach (e :: es) X.env = (false, eval e X.env) :: starEach es X.env := by rfl) (hpl : (backTo pos (starEach es X.env)).any (·.1) = false := by rfl) : PE X (.Call (.Name x p) (e :: es) [] pos) (tCB r t) := by
  intro pins s σ H Q I h
  refine wpAny_Call_Name_kw (ld_blt I hg hm hv ?_ hn hdb)
  exact PyProof.Rows.callWith_type1 (thn (ha pos pins s σ H _ I h) fun us s1 ⟨vs, H1, I1, r1, q1⟩ => hc pins s1 σ H1 vs us Q I1 r1 q1) he hpl
/-- T() -/
theorem pe_callTy0 (hc : CallR X (.type T) r) (hg : Gl X x) (hm : X.mg x = none) (hv : bootBuiltins x = some (.type T)) (hn : x ≠ "__name__" := by decide) (hdb : (x == ("__debug__" : Str)) = false := by decide) :
    PE X (.Call (.Name x p) [] [] pos) (tCB r tNil) := by
  intro pins s σ H Q I h
  refine wpAny_Call_Name_kw (ld_blt I hg hm hv ?_ hn hdb)
  exact PyProof.Rows.callWith_type0 (hc pins s σ H [] [] Q I .nil h)
end
end L2

namespace HT
open PySem PyProof.Rows

/-- t < u of tuples of ints -/
def lexLt : List Int → List Int → Bool
  | [], [] => false
  | [], _ :: _ => true
  | _ :: _, [] => false
  | x :: xs, y :: ys => if x = y then lexLt xs ys else decide (x < y)
theorem lexLt_cons (x y : Int) (xs ys : List Int) : lexLt (x :: xs) (y :: ys) = if x = y then lexLt xs ys else decide (x < y) := rfl
theorem lexLt_nil_nil : lexLt [] [] = false := rfl
theorem lexLt_nil_cons (y : Int) (ys : List Int) : lexLt [] (y :: ys) = true := rfl
theorem lexLt_cons_nil (x : Int) (xs : List Int) : lexLt (x :: xs) [] = false := rfl

theorem eqAt_int (A : Around) (s : Shared) (a : Int) (t : Tok) (c : Int) (u : Tok) : ∃ e, SeqAt.EqAt A s (.int a t) (.int c u) e ∧ (e = true ↔ a = c) :=
  ⟨(a == c), SeqAt.EqAt.int_int a t c u, by simp⟩
theorem rcLt_int (A : Around) (s : Shared) (a : Int) (t : Tok) (c : Int) (u : Tok) (prog : Program) (w : World) (E : Value → Shared → Prop) (Q : Value → Shared → Prop) (h : Q (.bool (decide (a < c))) s) :
    wpAny (model prog w) A (richCompare .Lt (.int a t) (.int c u)) Q E s :=
  (PyProof.Rows.lt_int h : wpAny (model prog w) A (compareOp .Lt (.int a t) (.int c u)) Q E s)

section
open PySem.SeqAt
open PySem.AutoSeq1 (wpAny_loadPart')
open PySem.MeetsSeq PySem.MeetsSeq2 PySem.MeetsSeq3

theorem tuple_lt_ints (l b : Addr) (items items2 : Array Value) (n n2 : Nat) (dd dd2 : Option Addr) (sl sl2 : Array (Option Value)) (ns ms : List Int) (hi : IntsAre items.toList ns) (hj : IntsAre items2.toList ms) :
    Meets (Builtin.«tuple.__lt__» ⟨[.ref l, .ref b], []⟩)
      (fun _ R s => s.heap.get? l = some { cls := .type "tuple", dict := dd, data := .seq items n, slots := sl } ∧ s.heap.get? b = some { cls := .type "tuple", dict := dd2, data := .seq items2 n2, slots := sl2 } ∧
        R (.ok (.ret (.bool (lexLt ns ms)))) s) :=
  .of_wp fun prog w A R s h => by
    obtain ⟨hp, g, d, tk, os⟩ := s; obtain ⟨hl, hb, h⟩ := h
    have f2 := AutoSeq1.sub_tuple_tuple
    have z1 : items.size = ns.length := by rw [← hi.length]; simp
    have z2 : items2.size = ms.length := by rw [← hj.length]; simp
    wp_walk using wpAny_loadPart' hl, wpAny_loadPart' hb, wpAny_forIn_list _ (fun rest b s' => b.1 = none ∧ s' = ⟨hp, g, d, tk, os⟩ ∧ ∃ (vs ws : List Value) (ns' ms' : List Int), rest = vs.zip ws ∧
      IntsAre vs ns' ∧ IntsAre ws ms' ∧ ns'.length + items2.size = ms'.length + items.size ∧ R (.ok (.ret (.bool (lexLt ns' ms')))) ⟨hp, g, d, tk, os⟩) _
    case turn =>
      rintro ⟨y, x⟩ rest b s' ⟨hb', rfl, vs, ws, ns', ms', hz, hvi, hwi, hlen, hR⟩
      cases hvi with
      | nil => rw [List.zip_nil_left] at hz; cases hz
      | cons a t hvi' =>
        cases hwi with
        | nil => rw [List.zip_nil_right] at hz; cases hz
        | cons c u hwi' =>
          rw [List.zip_cons_cons] at hz
          injection hz with hyx hrest
          injection hyx with hy hx
          subst hy hx
          rw [lexLt_cons] at hR
          simp only [List.length_cons] at hlen
          obtain ⟨e, he, hiff⟩ := eqAt_int A.in1 ⟨hp, g, d, tk, os⟩ a t c u
          refine wpAny_bind (he prog w _ _ ?_)
          cases e with
          | true =>
            rw [if_pos (hiff.mp rfl)] at hR
            wp_walk
            exact ⟨rfl, rfl, _, _, _, _, hrest, hvi', hwi', by omega, hR⟩
          | false =>
            rw [if_neg (fun q => absurd (hiff.mpr q) Bool.false_ne_true)] at hR
            have hri := rcLt_int A.in1 ⟨hp, g, d, tk, os⟩ a t c u prog w
            wp_walk using hri
            exact ⟨_, rfl, by simpa using hR⟩
    case fin =>
      rintro ⟨b1, b2⟩ s' ⟨hb', rfl, vs, ws, ns', ms', hz, hvi, hwi, hlen, hR⟩
      simp only at hb'
      subst hb'
      have hv : lexLt ns' ms' = decide (items.size < items2.size) := by
        cases hvi with
        | nil =>
          cases hwi with
          | nil =>
            simp only [List.length_nil] at hlen
            rw [lexLt_nil_nil]
            exact (decide_eq_false (by omega)).symm
          | cons c u hw =>
            simp only [List.length_nil, List.length_cons] at hlen
            rw [lexLt_nil_cons]
            exact (decide_eq_true (by omega)).symm
        | cons a t hv =>
          cases hwi with
          | nil =>
            simp only [List.length_nil, List.length_cons] at hlen
            rw [lexLt_cons_nil]
            exact (decide_eq_false (by omega)).symm
          | cons c u hw =>
            rw [List.zip_cons_cons] at hz
            cases hz
      rw [hv] at hR
      wp_walk
      exact ⟨_, rfl, by simpa [Builtin.Tuple.tupleCompareSizes] using hR⟩
    case h =>
      exact ⟨rfl, rfl, items.toList, items2.toList, ns, ms, rfl, hi, hj, by omega, h⟩
end

section
variable {prog : Program} {w : World} {A : Around} {E : Value → Shared → Prop} {s : Shared}

theorem lt_tupInts {l b : Addr} {items items2 : Array Value} {ns ms : List Int} {Q : Value → Shared → Prop} (hl : IsTup s.heap l items) (hb : IsTup s.heap b items2) (hi : IntsAre items.toList ns) (hj : IntsAre items2.toList ms)
    (hu : A.units < cLine) (h : Q (.bool (lexLt ns ms)) s) : wpAny (model prog w) A (compareOp .Lt (.ref l) (.ref b)) Q E s := by
  obtain ⟨⟨cls, dd, data, sl⟩, ho, hc, n, hd⟩ := id hl
  obtain ⟨⟨cls2, dd2, data2, sl2⟩, ho2, hc2, n2, hd2⟩ := id hb
  simp only at hc hd hc2 hd2
  subst hc hd hc2 hd2
  exact richCompare_meets_room (op := .Lt) ⟨_, ho, rfl⟩ ⟨_, ho2, rfl⟩ PySem.F.slot_tuple_lt PySem.F.entry_tuple_lt (PySem.F.args_tuple_lt_2 _ _) (tuple_lt_ints l b items items2 n n2 dd dd2 sl sl2 ns ms hi hj)
    ⟨ho, ho2, show Value.bool (lexLt ns ms) ≠ Value.notImplemented ∧ Q (.bool (lexLt ns ms)) s from ⟨(fun x => nomatch x), h⟩⟩ hu

/-- t + u, t not empty -/
theorem cat_tup {t b : Addr} {vs ws : List Value} {Q : Value → Shared → Prop} (ht : IsTup s.heap t vs.toArray) (hb : IsTup s.heap b ws.toArray) (hv : vs ≠ [])
    (h1 : ws = [] → Q (.ref t) s) (h2 : ws ≠ [] → Q (.ref s.heap.objs.size) { s with heap := s.heap.push { cls := .type "tuple", data := .seq (vs ++ ws).toArray } })
    (hsz : vs.length + ws.length ≤ sizeLine) : wpAny (model prog w) A (binaryOp .Add (.ref t) (.ref b)) Q E s := by
  obtain ⟨⟨cls, dd, data, sl⟩, ho, hc, n, hd⟩ := id ht
  obtain ⟨⟨cls2, dd2, data2, sl2⟩, ho2, hc2, n2, hd2⟩ := id hb
  simp only at hc hd hc2 hd2
  subst hc hd hc2 hd2
  have e : vs.toArray ++ ws.toArray = (vs ++ ws).toArray := by simp
  by_cases hw : ws = []
  · exact concat_meets ⟨_, ho, rfl⟩ ⟨_, ho2, rfl⟩ noFill_tuple_add seq_tuple_add PySem.F.slot_tuple_add PySem.F.entry_tuple_add (PySem.F.args_tuple_add_2 _ _)
      (tuple_addW1 t b vs.toArray ws.toArray n n2 dd dd2 sl sl2 (by simpa using hv) (by simp [hw])) ⟨ho, ho2, h1 hw⟩
  · refine concat_meets ⟨_, ho, rfl⟩ ⟨_, ho2, rfl⟩ noFill_tuple_add seq_tuple_add PySem.F.slot_tuple_add PySem.F.entry_tuple_add (PySem.F.args_tuple_add_2 _ _)
      (tuple_addW2 t b vs.toArray ws.toArray n n2 dd dd2 sl sl2 (by simpa using hv) (by simpa using hw) (by rw [List.size_toArray, List.size_toArray]; exact hsz)) ⟨ho, ho2, ?_⟩
    rw [e]
    exact h2 hw

/-! ### t[a:b], not the whole -/
/-- a slice's bound as a place among n (d where it is left out) -/
def sIx (n d : Nat) : Option Int → Nat
  | none => d
  | some v => if v < 0 then (v + (n : Int)).toNat else min v.toNat n
theorem sIx_none (n d : Nat) : sIx n d none = d := rfl
theorem sIx_nat (n d k : Nat) : sIx n d (some (k : Int)) = min k n := by
  show (if (k : Int) < 0 then ((k : Int) + (n : Int)).toNat else min (k : Int).toNat n) = min k n
  rw [if_neg (by omega), Int.toNat_natCast]
theorem sIx_le (n d : Nat) (hd : d ≤ n) (o : Option Int) : sIx n d o ≤ n := by
  cases o with
  | none => exact hd
  | some v =>
    show (if v < 0 then (v + (n : Int)).toNat else min v.toNat n) ≤ n
    by_cases hv : v < 0
    · rw [if_pos hv]; omega
    · rw [if_neg hv]; exact Nat.min_le_right _ _
theorem clip_eq (v : Int) (n d : Nat) : (if v < 0 then max (v + (n : Int)) 0 else min v (n : Int)) = ((sIx n d (some v) : Nat) : Int) := by
  show (if v < 0 then max (v + (n : Int)) 0 else min v (n : Int)) = (((if v < 0 then (v + (n : Int)).toNat else min v.toNat n) : Nat) : Int)
  by_cases hv : v < 0
  · simp only [if_pos hv]; omega
  · simp only [if_neg hv]; omega
theorem adjust_gen (lo hi : Option Int) (n : Nat) : Builtin.Slice.sliceAdjust lo hi 1 (n : Int) = (((sIx n 0 lo : Nat) : Int), ((sIx n n hi : Nat) : Int)) := by
  have h1 : ¬ ((1 : Int) < 0) := by omega
  unfold Builtin.Slice.sliceAdjust
  simp only [h1, if_false]
  refine Prod.ext ?_ ?_
  · cases lo with
    | none => rfl
    | some v => exact clip_eq v n 0
  · cases hi with
    | none => rfl
    | some v => exact clip_eq v n n
theorem places_gen (i j : Nat) : Builtin.Slice.slicePlaces (i : Int) (j : Int) 1 = j - i := by
  unfold Builtin.Slice.slicePlaces
  have h1 : (1 : Int) > 0 := by omega
  simp only [h1, if_true, Int.ediv_one]
  split <;> omega
theorem slicePart_ {v : Value} {o : Option Int} {Q : Option Int → Shared → Prop} (p : IsPart v o) (h : Q o s) : wpAny (model prog w) A (Builtin.Slice.slicePartIndex v) Q E s := by
  cases p with
  | none => exact slicePart_none h
  | int i t => exact slicePart_int h
theorem sliceApplied_gen {sl : Addr} {vl vu : Value} {lo hi : Option Int} {n : Nat} {Q : Int × Int × Nat → Shared → Prop} (hs : s.heap.IsSliceOf sl vl vu .none) (pl : IsPart vl lo) (pu : IsPart vu hi)
    (h : Q (((sIx n 0 lo : Nat) : Int), 1, sIx n n hi - sIx n 0 lo) s) : wpAny (model prog w) A (Builtin.Slice.sliceApplied (.ref sl) (pure (n : Int))) Q E s := by
  obtain ⟨os, hos, hcs, hds⟩ := id hs
  unfold Builtin.Slice.sliceApplied Builtin.Slice.sliceFields
  refine wpAny_bind (wpAny_bind (wpAny_field hos hds (x := vl) rfl (wpAny_bind (wpAny_field hos hds (x := vu) rfl (wpAny_bind (wpAny_field hos hds (x := .none) rfl (wpAny_pure ?_)))))))
  refine wpAny_bind (slicePart_none ?_)
  show wpAny _ _ (if ((1 : Int) == 0) = true then _ else _) _ _ s
  rw [if_neg (by decide)]
  refine wpAny_bind (slicePart_ pl (wpAny_bind (slicePart_ pu (wpAny_bind (wpAny_pure ?_)))))
  show wpAny _ _ (match Builtin.Slice.sliceAdjust lo hi 1 (n : Int) with | (lo, hi) => pure (lo, (1 : Int), Builtin.Slice.slicePlaces lo hi 1)) _ _ s
  rw [adjust_gen lo hi n]
  show wpAny _ _ (pure (((sIx n 0 lo : Nat) : Int), (1 : Int), Builtin.Slice.slicePlaces ((sIx n 0 lo : Nat) : Int) ((sIx n n hi : Nat) : Int) 1)) _ _ s
  rw [places_gen]
  exact wpAny_pure h
theorem pick_gen (xs : Array Value) (i k : Nat) : ((List.range k).filterMap fun (m : Nat) => xs[((i : Int) + (m : Int) * 1).toNat]?).toArray = ((xs.toList.drop i).take k).toArray := by
  have e : (fun (m : Nat) => xs[((i : Int) + (m : Int) * 1).toNat]?) = fun m => xs[i + m]? := by
    funext m
    have : ((i : Int) + (m : Int) * 1).toNat = i + m := by omega
    rw [this]
  rw [e]
  have := pick_run xs i k
  rw [List.filterMap_map] at this
  have e2 : ((fun x => xs[x]?) ∘ fun x => i + x) = fun m => xs[i + m]? := rfl
  rw [e2] at this
  rw [this]

theorem getItem_tuple_cut {t sl : Addr} {items : Array Value} {vl vu : Value} {lo hi : Option Int} {Q : Value → Shared → Prop} (ht : IsTup s.heap t items) (hs : s.heap.IsSliceOf sl vl vu .none) (pl : IsPart vl lo) (pu : IsPart vu hi)
    (hw : ¬ (sIx items.size 0 lo = 0 ∧ sIx items.size items.size hi = items.size))
    (h : Q (.ref s.heap.objs.size) { s with heap := s.heap.push { cls := .type "tuple", data := .seq ((items.toList.drop (sIx items.size 0 lo)).take (sIx items.size items.size hi - sIx items.size 0 lo)).toArray } })
    (hsz : items.size ≤ sizeLine) : wpAny (model prog w) A (getItem (.ref t) (.ref sl)) Q E s := by
  have htake : sizeOk (.seq ((items.toList.drop (sIx items.size 0 lo)).take (sIx items.size items.size hi - sIx items.size 0 lo)).toArray) := by
    show ((items.toList.drop (sIx items.size 0 lo)).take (sIx items.size items.size hi - sIx items.size 0 lo)).toArray.size ≤ sizeLine
    rw [List.size_toArray, List.length_take, List.length_drop, Array.length_toList]
    omega
  have hj : sIx items.size items.size hi ≤ items.size := sIx_le _ _ (Nat.le_refl _) hi
  obtain ⟨os, hos, hcs, hds⟩ := id hs
  have hTs : s.TypeIs (.ref sl) "slice" := ⟨os, hos, hcs⟩
  unfold getItem
  try with_reducible refine wpAny_holding ?_
  first | refine wpAny_bind (wpAny_pure ?_) | skip
  refine wpAny_bind (wpAny_sequenceKey ht.typeIs (by decide) ?_)
  refine wpAny_bind (wpAny_callSpecial?_slot (name := Str.ofString "__getitem__") ht.typeIs PyProof.Rows.slot_tuple_getitem
    (wpAny_call_entry PyProof.Rows.slot_tuple_getitem ht.typeIs entry_tuple_getitem ?_ (args_tuple_getitem _ _)))
  show wpAny _ _ (Builtin.Tuple.tupleItemsOf (.ref t) >>= _) _ _ s
  refine wpAny_bind (tupleItemsOf_ ht ?_)
  refine wpAny_bind (wpAny_typeOf hTs ?_)
  rw [if_pos (by decide)]
  refine wpAny_bind (sliceApplied_gen hs pl pu ?_)
  have hno : ¬ ((((sIx items.size 0 lo : Nat) : Int) == 0 && (1 : Int) == 1 && (sIx items.size items.size hi - sIx items.size 0 lo) == items.size) = true) := by
    intro q
    rw [Bool.and_eq_true, Bool.and_eq_true] at q
    have q1 : ((sIx items.size 0 lo : Nat) : Int) = 0 := eq_of_beq q.1.1
    have q2 : sIx items.size items.size hi - sIx items.size 0 lo = items.size := eq_of_beq q.2
    exact hw ⟨by omega, by omega⟩
  show wpAny _ _ (if (((sIx items.size 0 lo : Nat) : Int) == 0 && (1 : Int) == 1 && (sIx items.size items.size hi - sIx items.size 0 lo) == items.size) = true then _ else _) _ _ s
  rw [if_neg hno, pick_gen]
  first
    | exact wpAny_bind (m := Builtin.Tuple.tupleExact _) (wpAny_newObj_type (wpAny_pure ⟨_, rfl, wpAny_pure h⟩) htake)
    | exact wpAny_bind (m := Builtin.Tuple.tupleExact _) (wpAny_newObj_type (wpAny_bind (wpAny_pure (wpAny_pure ⟨_, rfl, wpAny_pure h⟩))) htake)
    | exact wpAny_bind (wpAny_bind (m := Builtin.Tuple.tupleExact _) (wpAny_newObj_type (wpAny_pure (wpAny_pure ⟨_, rfl, wpAny_pure h⟩)) htake))
    | exact wpAny_bind (wpAny_bind (m := Builtin.Tuple.tupleExact _) (wpAny_newObj_type (wpAny_pure ⟨_, rfl, wpAny_pure h⟩) htake))
end
end HT

namespace L2
open PySem PySem.Spec PyProof.Rows

/-! ### the parts of a slice -/
abbrev TO := St → Hp → (Option Int → Hp → Prop) → Prop
/-- a slice's part (left out, or an int) -/
def PO (X : Cx) (e : Option Expr) (t : TO) : Prop :=
  ∀ (pins : List (Addr × Obj)) (s : Shared) (σ : St) (H : Hp) (Q : Option Int → Hp → Prop), Inv X pins σ H s → t σ H Q →
    wpAny (model X.prog X.w) X.A (evalPart e X.env) (fun u s' => ∃ o H', Inv X pins σ H' s' ∧ IsPart u o ∧ Q o H') X.xe s
def tNoPart : TO := fun _ H Q => Q none H
def tPart (t : TE) : TO := fun σ H Q => t σ H fun x H1 => ∃ i, x = .int i ∧ Q (some i) H1

theorem intsAre_of {ns : List Int} : ∀ {us : List Value}, Vals (ns.map V.int) us → IntsAre us ns := by
  induction ns with
  | nil => intro us r; rw [List.map_nil] at r; cases r; exact .nil
  | cons n ns ih =>
    intro us r
    rw [List.map_cons] at r
    cases r with
    | cons r1 r2 =>
      obtain ⟨t, e⟩ := r1
      subst e
      exact .cons n t (ih r2)

section
variable {X : Cx} {e : Expr} {te : TE} {lo hi : Option Expr} {tl th : TO} {pos p2 : Pos}

theorem po_none : PO X none tNoPart := by
  intro pins s σ H Q I h
  rw [evalPart_none]
  exact wpAny_pure ⟨none, H, I, .none, h⟩
theorem po_some (h : PE X e te) : PO X (some e) (tPart te) := by
  intro pins s σ H Q I hw
  rw [evalPart_some]
  refine thn (h pins s σ H _ I hw) fun u s1 ⟨x, H1, I1, r1, q1⟩ => ?_
  obtain ⟨i, rfl, q⟩ := q1
  obtain ⟨t, rfl⟩ := r1
  exact ⟨some i, H1, I1, .int i t, q⟩

/-- what a slice of a value is, by values: the slice object stands at sl -/
def SlR (X : Cx) (r : V → Option Int → Option Int → Hp → VK → Prop) : Prop :=
  ∀ (pins : List (Addr × Obj)) (s : Shared) (σ : St) (H : Hp) (x : V) (v vl vu : Value) (lo hi : Option Int) (sl : Addr) (Q : VK), Inv X pins σ H s → RelV x v → s.heap.IsSliceOf sl vl vu .none → IsPart vl lo → IsPart vu hi → r x lo hi H Q →
    ∃ T id, typeLookup (.type T) "__getitem__" = pure (some (.builtin id)) ∧ s.TypeIs v T ∧ wpAny (model X.prog X.w) X.A (getItem v (.ref sl)) (EP X pins σ Q) X.xe s
theorem SlR.or {r r' : V → Option Int → Option Int → Hp → VK → Prop} (h : SlR X r) (h' : SlR X r') : SlR X (fun x lo hi H Q => r x lo hi H Q ∨ r' x lo hi H Q) := by
  intro pins s σ H x v vl vu lo hi sl Q I rx hs pl pu q
  rcases q with q | q
  · exact h pins s σ H x v vl vu lo hi sl Q I rx hs pl pu q
  · exact h' pins s σ H x v vl vu lo hi sl Q I rx hs pl pu q
def tSl (r : V → Option Int → Option Int → Hp → VK → Prop) (te : TE) (tl th : TO) : TE := fun σ H Q => te σ H fun x H1 => tl σ H1 fun l H2 => th σ H2 fun u H3 => r x l u H3 Q
/-- a[lo:hi], any a -/
theorem pe_slice {r : V → Option Int → Option Int → Hp → VK → Prop} (hr : SlR X r) (he : PE X e te) (hl : PO X lo tl) (hu : PO X hi th) : PE X (.Subscript e (.Slice lo hi none p2) pos) (tSl r te tl th) := by
  intro pins s σ H Q I h
  refine Subscript_ (thn (he pins s σ H _ I h) fun v s1 ⟨x, H1, I1, r1, q1⟩ => ?_)
  refine wpAny_Slice (thn (hl pins s1 σ H1 _ I1 q1) fun vl s2 ⟨l, H2, I2, pl, q2⟩ => thn (hu pins s2 σ H2 _ I2 q2) fun vu s3 ⟨u, H3, I3, pu, q3⟩ => ?_)
  rw [evalPart_none]
  refine wpAny_pure ?_
  have I4 : Inv X pins σ H3 { s3 with heap := s3.heap.push { cls := .type "slice", data := .fields #[vl, vu, .none] } } := I3.kept (t' := s3.toks) fun b ob q => Heap.get?_push_of_some _ q
  obtain ⟨T, id, hT, ht, hg⟩ := hr pins { s3 with heap := s3.heap.push { cls := .type "slice", data := .fields #[vl, vu, .none] } } σ H3 x v vl vu l u s3.heap.objs.size Q I4 r1 (Heap.IsSliceOf.new ..) pl pu q3
  show wpAny (model X.prog X.w) X.A (subscriptTail e (.Slice lo hi none p2) v (.ref s3.heap.objs.size)) (EP X pins σ Q) X.xe { s3 with heap := s3.heap.push { cls := .type "slice", data := .fields #[vl, vu, .none] } }
  exact tail_any (ops := [.ref s3.heap.objs.size, v]) ht hT hg (by with_unfolding_all rfl)

/-- the items of xs[lo:hi] -/
def cutV (xs : List V) (lo hi : Option Int) : List V := (xs.drop (HT.sIx xs.length 0 lo)).take (HT.sIx xs.length xs.length hi - HT.sIx xs.length 0 lo)
theorem cutV_length (xs : List V) (lo hi : Option Int) : (cutV xs lo hi).length ≤ xs.length := by
  unfold cutV
  rw [List.length_take, List.length_drop]
  omega
/-- t[lo:hi], not the whole of it (the whole would be t itself) -/
def rSlT (K : PySem.W.Frag) : V → Option Int → Option Int → Hp → VK → Prop := fun x lo hi H Q => ∃ a xs, x = .ref a ∧ SqT K H a xs ∧
  ¬ (HT.sIx xs.length 0 lo = 0 ∧ HT.sIx xs.length xs.length hi = xs.length) ∧ ∀ p, H p = none → Q (.ref p) (upd H p (.tup (cutV xs lo hi)))
theorem sl_tup : SlR X (rSlT X.K) := by
  intro pins s σ H x v vl vu lo hi sl Q I rx hs pl pu h
  obtain ⟨a, xs, rfl, hx, hw, q⟩ := h
  cases rx
  obtain ⟨its, r, ht, hz⟩ := I.tuple hx
  have hlen : its.toArray.size = xs.length := by rw [List.size_toArray]; exact r.length.symm
  refine ⟨"tuple", _, PyProof.Rows.slot_tuple_getitem.lookup, ht.typeIs, ?_⟩
  refine HT.getItem_tuple_cut ht hs pl pu (by rw [hlen]; exact hw) ?_ (by rw [hlen]; exact hz)
  rw [hlen]
  refine ⟨.ref s.heap.objs.size, _, I.laid (t' := s.toks) (o := .tup (cutV xs lo hi)) (fun b ob q => Heap.get?_push_of_some _ q) (Nat.le_refl _) ?_, rfl, q _ (I.hok.fresh (Nat.le_refl _))⟩
  exact ⟨Nat.le_trans (cutV_length xs lo hi) hz, _, (r.drop (HT.sIx xs.length 0 lo)).take (HT.sIx xs.length xs.length hi - HT.sIx xs.length 0 lo), IsTupD.new _ _⟩

/-! ### t < u, t + u -/
def rLtT (K : PySem.W.Frag) : R2 := fun x y H Q => ∃ a b ns ms, x = .ref a ∧ y = .ref b ∧ SqT K H a (ns.map V.int) ∧ SqT K H b (ms.map V.int) ∧ Q (.bl (HT.lexLt ns ms)) H
theorem op_ltT (hu : X.A.units < cLine) : OpR X (compareOp .Lt) (rLtT X.K) := by
  intro pins s σ H x y v u Q I rx ry h
  obtain ⟨a, b, ns, ms, rfl, rfl, ha, hb, q⟩ := h
  cases rx
  cases ry
  obtain ⟨its, r1, p1, _⟩ := I.tuple ha
  obtain ⟨its2, r2, p2, _⟩ := I.tuple hb
  have i1 : IntsAre its.toArray.toList ns := intsAre_of r1
  have i2 : IntsAre its2.toArray.toList ms := intsAre_of r2
  exact HT.lt_tupInts p1 p2 i1 i2 hu ⟨.bl (HT.lexLt ns ms), H, I, rfl, q⟩
/-- t + u, t not empty: u empty gives t itself -/
def rCatT (K : PySem.W.Frag) : R2 := fun x y H Q => ∃ a b xs ys, x = .ref a ∧ y = .ref b ∧ SqT K H a xs ∧ SqT K H b ys ∧ xs ≠ [] ∧ xs.length + ys.length ≤ sizeLine ∧
  (ys = [] → Q (.ref a) H) ∧ (ys ≠ [] → ∀ p, H p = none → Q (.ref p) (upd H p (.tup (xs ++ ys))))
theorem Vals.nil_iff {xs : List V} {us : List Value} (r : Vals xs us) : us = [] ↔ xs = [] := by
  cases r with
  | nil => simp
  | cons _ _ => simp
theorem op_catT : OpR X (binaryOp .Add) (rCatT X.K) := by
  intro pins s σ H x y v u Q I rx ry h
  obtain ⟨a, b, xs, ys, rfl, rfl, ha, hb, hx, hz, q1, q2⟩ := h
  cases rx
  cases ry
  obtain ⟨its, r1, p1, _⟩ := I.tuple ha
  obtain ⟨its2, r2, p2, _⟩ := I.tuple hb
  refine HT.cat_tup p1 p2 (fun z => hx (r1.nil_iff.mp z)) (fun z => ⟨.ref a, H, I, rfl, q1 (r2.nil_iff.mp z)⟩) (fun z => ?_) (by rw [← r1.length, ← r2.length]; exact hz)
  refine ⟨.ref s.heap.objs.size, _, I.laid (t' := s.toks) (o := .tup (xs ++ ys)) (fun b ob q => Heap.get?_push_of_some _ q) (Nat.le_refl _) ?_, rfl, q2 (fun w => z (r2.nil_iff.mpr w)) _ (I.hok.fresh (Nat.le_refl _))⟩
  exact ⟨by rw [List.length_append]; exact hz, _, r1.append r2, IsTupD.new _ _⟩
/-- tuple(t) -/
theorem call_tupleT : CallR X (.type "tuple") (fun xs H Q => ∃ a ys, xs = [.ref a] ∧ SqT X.K H a ys ∧ Q (.ref a) H) := by
  intro pins s σ H xs us Q I r h
  obtain ⟨a, ys, rfl, ha, q⟩ := h
  obtain ⟨u, rfl, ru⟩ := vals1 r
  cases ru
  obtain ⟨its, _, p1, _⟩ := I.tuple ha
  exact call_tuple_same (items := its.toArray) p1 ⟨.ref a, H, I, rfl, q⟩
end
end L2

namespace L2
open PySem PySem.Spec PyProof.Rows

/-! ### places -/
/-- the place that an index of any sign means -/
def ixN (n : Nat) (i : Int) : Option Nat := if 0 ≤ i then (if i < n then some i.toNat else none) else if -(n : Int) ≤ i then some (i + n).toNat else none
def atI {α : Type} (xs : List α) (i : Int) : Option α := (ixN xs.length i).bind fun j => xs[j]?
theorem ixN_seq {n : Nat} {i : Int} {j : Nat} (h : ixN n i = some j) : seqIndex? i n = some j ∧ j < n ∧ -(n : Int) ≤ i ∧ i < n := by
  unfold ixN at h
  by_cases h0 : 0 ≤ i
  · rw [if_pos h0] at h
    by_cases h1 : i < n
    · rw [if_pos h1] at h
      have e : i.toNat = j := Option.some.inj h
      exact ⟨by rw [seqIndex_of h0 h1, e], by omega, by omega, h1⟩
    · rw [if_neg h1] at h; cases h
  · rw [if_neg h0] at h
    by_cases h1 : -(n : Int) ≤ i
    · rw [if_pos h1] at h
      have e : (i + n).toNat = j := Option.some.inj h
      exact ⟨by rw [seqIndex_neg (by omega) h1, e], by omega, h1, by omega⟩
    · rw [if_neg h1] at h; cases h
theorem atI_get {α : Type} {xs : List α} {i : Int} {v : α} (h : atI xs i = some v) : ∃ j, seqIndex? i xs.length = some j ∧ xs[j]? = some v ∧ j < xs.length ∧ -(xs.length : Int) ≤ i ∧ i < xs.length := by
  unfold atI at h
  cases e : ixN xs.length i with
  | none => rw [e] at h; cases h
  | some j =>
    rw [e] at h
    obtain ⟨h1, h2, h3, h4⟩ := ixN_seq e
    exact ⟨j, h1, h, h2, h3, h4⟩
theorem atI_nat {α : Type} {xs : List α} {j : Nat} {v : α} (h : xs[j]? = some v) : atI xs (j : Int) = some v := by
  have hj : j < xs.length := (List.getElem?_eq_some_iff.mp h).1
  have e : ixN xs.length (j : Int) = some j := by
    unfold ixN
    rw [if_pos (by omega), if_pos (by omega)]; simp
  unfold atI; rw [e]; exact h
theorem atI_last {α : Type} (xs : List α) (v : α) : atI (xs ++ [v]) (-1) = some v := by
  have hl : (xs ++ [v]).length = xs.length + 1 := by simp
  have e : ixN (xs ++ [v]).length (-1) = some xs.length := by
    unfold ixN
    rw [hl, if_neg (by decide), if_pos (by omega)]
    congr 1
    omega
  unfold atI
  rw [e]
  show (xs ++ [v])[xs.length]? = some v
  simp

/-! ### what may be subscripted -/
/-- what stands as an index of a plain subscript -/
def PlainIx (b : Expr) : Prop := ∀ o i, subscripted b false o i = operate [o, i] (getItem o i)
/-- a subscript by values -/
def IxR (X : Cx) (r : R2) : Prop :=
  ∀ (value slice : Expr) (pins : List (Addr × Obj)) (s : Shared) (σ : St) (H : Hp) (x y : V) (v u : Value) (Q : VK), Inv X pins σ H s → RelV x v → RelV y u → r x y H Q →
    subscripted slice false v u = operate [v, u] (getItem v u) → wpAny (model X.prog X.w) X.A (subscriptTail value slice v u) (EP X pins σ Q) X.xe s
/-- a call of a builtin's method by values: the receiver, the arguments -/
def MtR (X : Cx) (id : String) (r : V → List V → Hp → VK → Prop) : Prop :=
  ∀ (pins : List (Addr × Obj)) (s : Shared) (σ : St) (H : Hp) (x : V) (xs : List V) (v : Value) (us : List Value) (Q : VK), Inv X pins σ H s → RelV x v → Vals xs us → r x xs H Q →
    wpAny (model X.prog X.w) X.A (call (.builtin id) (v :: us)) (EP X pins σ Q) X.xe s
section
variable {X : Cx} {a b : Expr} {ta tb : TE} {pos : Pos}
theorem IxR.or {r r' : R2} (h : IxR X r) (h' : IxR X r') : IxR X (fun x y H Q => r x y H Q ∨ r' x y H Q) := by
  intro value slice pins s σ H x y v u Q I rx ry q hs
  rcases q with q | q
  · exact h value slice pins s σ H x y v u Q I rx ry q hs
  · exact h' value slice pins s σ H x y v u Q I rx ry q hs
theorem MtR.or {id : String} {r r' : V → List V → Hp → VK → Prop} (h : MtR X id r) (h' : MtR X id r') : MtR X id (fun x xs H Q => r x xs H Q ∨ r' x xs H Q) := by
  intro pins s σ H x xs v us Q I rx rs q
  rcases q with q | q
  · exact h pins s σ H x xs v us Q I rx rs q
  · exact h' pins s σ H x xs v us Q I rx rs q
/-- a[b] -/
theorem pe_ix {r : R2} (hr : IxR X r) (ha : PE X a ta) (hb : PE X b tb) (hs : PlainIx b) : PE X (.Subscript a b pos) (tOp r ta tb) := by
  intro pins s σ H Q I h
  exact Subscript_ (binT ha hb I h fun v u s2 x y H2 I2 rx ry q => hr a b pins s2 σ H2 x y v u Q I2 rx ry q (hs _ _))

def rIxL (K : PySem.W.Frag) : R2 := fun x y H Q => ∃ p xs i v, x = .ref p ∧ y = .int i ∧ SqL K H p xs ∧ atI xs i = some v ∧ Q v H
def rIxT (K : PySem.W.Frag) : R2 := fun x y H Q => ∃ p xs i v, x = .ref p ∧ y = .int i ∧ SqT K H p xs ∧ atI xs i = some v ∧ Q v H
def rIxS : R2 := fun x y H Q => ∃ z i c, x = .str z ∧ y = .int i ∧ z.length ≤ sizeLine ∧ atI z.cps.toList i = some c ∧ Q (.str ⟨#[c]⟩) H
theorem ix_list : IxR X (rIxL X.K) := by
  intro value slice pins s σ H x y v u Q I rx ry h hs
  obtain ⟨p, xs, i, z, rfl, rfl, hq, he, q⟩ := h
  cases rx
  obtain ⟨t, rfl⟩ := ry
  obtain ⟨its, r, pl, hz⟩ := I.list hq
  obtain ⟨j, h1, h2, h3, h4, h5⟩ := atI_get he
  obtain ⟨w, ew, rw'⟩ := r.get h2
  have hl := r.length
  have hn := line63
  have fin : EP X pins σ Q w s := ⟨z, H, I, rw', q⟩
  by_cases h0 : 0 ≤ i
  · have hj : i.toNat = j := by
      rw [seqIndex_of h0 h5] at h1
      exact Option.some.inj h1
    exact item_listR pl.isList h0 (by omega) (by rw [hj]; simpa using ew) fin hs
  · have hj : (i + (its.toArray.size : Int)).toNat = j := by
      rw [seqIndex_neg (by omega) h4] at h1
      rw [List.size_toArray, ← hl]
      exact Option.some.inj h1
    exact subscriptTail_builtinR (x := w) pl.isList.typeIs slot_list_getitem.lookup
      (wpAny_getItem_list_neg (Q := fun r s' => r = w ∧ EP X pins σ Q r s') pl.isList (by omega) (by rw [List.size_toArray] <;> omega) (by omega) (by rw [hj]; simpa using ew) ⟨rfl, fin⟩) hs
theorem ix_tup : IxR X (rIxT X.K) := by
  intro value slice pins s σ H x y v u Q I rx ry h hs
  obtain ⟨p, xs, i, z, rfl, rfl, hq, he, q⟩ := h
  cases rx
  obtain ⟨t, rfl⟩ := ry
  obtain ⟨its, r, pl, hz⟩ := I.tuple hq
  obtain ⟨j, h1, h2, h3, h4, h5⟩ := atI_get he
  obtain ⟨w, ew, rw'⟩ := r.get h2
  have hl := r.length
  have hn := line63
  have fin : EP X pins σ Q w s := ⟨z, H, I, rw', q⟩
  exact subscriptTail_builtinR (x := w) pl.typeIs slot_tuple_getitem.lookup
    (getItem_tuple (j := j) (Q := fun r s' => r = w ∧ EP X pins σ Q r s') pl (by omega) (by omega) (by rw [List.size_toArray, ← hl]; exact h1) (by simpa using ew) ⟨rfl, fin⟩) hs
theorem ix_str : IxR X rIxS := by
  intro value slice pins s σ H x y v u Q I rx ry h hs
  obtain ⟨z, i, c, rfl, rfl, hz, he, q⟩ := h
  obtain ⟨t, rfl⟩ := rx
  obtain ⟨t', rfl⟩ := ry
  obtain ⟨j, h1, h2, h3, h4, h5⟩ := atI_get he
  have hl : z.cps.toList.length = z.length := by simp [Str.length]
  rw [hl] at h1 h4 h5
  have hn := line63
  exact tail_any (typeIs_str s z t) slot_str_getitem.lookup (getItem_str (c := c) (by
    have e1 : decide (i < -(2 ^ 63 : Int)) = false := decide_eq_false (by omega)
    have e2 : decide (i ≥ 2 ^ 63) = false := decide_eq_false (by omega)
    rw [e1, e2, Bool.or_false]) (by rw [h1]; simpa using h2) ⟨.str ⟨#[c]⟩, H, I.tok _, ⟨_, rfl⟩, q⟩) hs
/-- list, tuple or str -/
def rIx (K : PySem.W.Frag) : R2 := fun x y H Q => rIxL K x y H Q ∨ rIxT K x y H Q ∨ rIxS x y H Q
theorem ix_seq : IxR X (rIx X.K) := ix_list.or (ix_tup.or ix_str)

/-! ### xs[i] = v, any sign -/
/-- the list's object behind a store -/
theorem mapSeq_set (its : List Value) (n j : Nat) (u : Value) : Obj.mapSeq (·.setIfInBounds j u) { cls := .type "list", data := .seq its.toArray n } = { cls := .type "list", data := .seq (its.set j u).toArray n } := by
  simp [Obj.mapSeq]
theorem Inv.lst {pins : List (Addr × Obj)} {σ : St} {H : Hp} {s : Shared} {p : Addr} {xs : List V} (I : Inv X pins σ H s) (h : H p = some (.lst xs)) :
    ∃ (its : List Value) (n : Nat), Vals xs its ∧ s.heap.get? p = some { cls := .type "list", data := .seq its.toArray n } ∧ xs.length ≤ sizeLine := by
  obtain ⟨z, its, n, r, e⟩ := I.hok p _ h
  exact ⟨its, n, r, e, z⟩
/-- the list at p is written by an update of its object -/
theorem Inv.lstUpd {pins : List (Addr × Obj)} {σ : St} {H : Hp} {s : Shared} {p : Addr} {xs ys : List V} {its its' : List Value} {n n' : Nat} {f : Obj → Obj} (I : Inv X pins σ H s) (h : H p = some (.lst xs))
    (ho : s.heap.get? p = some { cls := .type "list", data := .seq its.toArray n }) (hf : f { cls := .type "list", data := .seq its.toArray n } = { cls := .type "list", data := .seq its'.toArray n' }) (r : Vals ys its') (hz : ys.length ≤ sizeLine) (t : Nat) :
    Inv X pins σ (upd H p (.lst ys)) { s with heap := s.heap.update p f, toks := t } := by
  have e : (s.heap.update p f).get? p = some { cls := .type "list", data := .seq its'.toArray n' } := by
    rw [Heap.get?_update_self f ho (by rw [hf] <;> rfl), hf]
  refine I.write (x := p) (e := p) (by rw [h]; trivial) (.inl rfl) (fun b u hb q => (Heap.get?_update_other _ _ (Ne.symm hb)).trans q) ⟨_, e⟩ ?_
  exact ⟨hz, its', n', r, e⟩
def rSetL : V → V → V → Hp → (Hp → Prop) → Prop := fun o i v H Q => ∃ p xs k j, o = .ref p ∧ i = .int k ∧ H p = some (.lst xs) ∧ ixN xs.length k = some j ∧ Q (upd H p (.lst (xs.set j v)))
theorem set_list : PSet X rSetL := by
  intro pins s σ H o i v ov iv u Q I ro ri rv h
  obtain ⟨p, xs, k, j, rfl, rfl, hp, hj, q⟩ := h
  cases ro
  obtain ⟨t, rfl⟩ := ri
  obtain ⟨its, n, r, ho, hz⟩ := I.lst hp
  obtain ⟨h1, h2, h3, h4⟩ := ixN_seq hj
  have hl := r.length
  have hn := line63
  have I' : Inv X pins σ (upd H p (.lst (xs.set j v))) { s with heap := s.heap.update p (Obj.mapSeq (·.setIfInBounds j u)) } :=
    I.lstUpd hp ho (mapSeq_set its n j u) (r.set rv j) (by rw [List.length_set]; exact hz) s.toks
  by_cases h0 : 0 ≤ k
  · have hk : k.toNat = j := by
      rw [seqIndex_of h0 h4] at h1
      exact Option.some.inj h1
    exact PySem.W.ki_setAt ho h0 (by omega) (by rw [List.size_toArray, ← hl]; exact h4) (by rw [hk]; exact ⟨_, I', q⟩)
  · have hk : (k + (its.toArray.size : Int)).toNat = j := by
      rw [seqIndex_neg (by omega) h3] at h1
      rw [List.size_toArray, ← hl]
      exact Option.some.inj h1
    exact PySem.W.ki_setBack ho (by omega) (by rw [List.size_toArray, ← hl]; exact h3) (by omega) (by rw [hk]; exact ⟨_, I', q⟩)

/-! ### slices -/
theorem slice_bounds (lo hi : Option Int) (n : Nat) : (sliceBounds lo hi none n).1 = ((HT.sIx n 0 lo : Nat) : Int) ∧ (sliceBounds lo hi none n).2.1 = ((HT.sIx n n hi : Nat) : Int) ∧ (sliceBounds lo hi none n).2.2 = 1 := by
  refine ⟨?_, ?_, rfl⟩
  · cases lo with
    | none => simp [sliceBounds, HT.sIx]
    | some i =>
      simp only [sliceBounds, HT.sIx, Option.getD_none, show (1 : Int) > 0 by decide, if_true]
      by_cases h : i < 0
      · simp only [h, if_true] <;> omega
      · simp only [h, if_false] <;> omega
  · cases hi with
    | none => simp [sliceBounds, HT.sIx]
    | some i =>
      simp only [sliceBounds, HT.sIx, Option.getD_none, show (1 : Int) > 0 by decide, if_true]
      by_cases h : i < 0
      · simp only [h, if_true] <;> omega
      · simp only [h, if_false] <;> omega
theorem slicePick_cut (its : List Value) (lo hi : Option Int) : slicePick its.toArray lo hi none = ((its.drop (HT.sIx its.length 0 lo)).take (HT.sIx its.length its.length hi - HT.sIx its.length 0 lo)).toArray := by
  obtain ⟨h1, h2, h3⟩ := slice_bounds lo hi its.toArray.size
  unfold slicePick
  rw [h1, h2, h3]
  simp only [sliceRange_one, pick_run, List.size_toArray] <;> rfl
/-- xs[lo:hi] of a list: a new list -/
def rSlL (K : PySem.W.Frag) : V → Option Int → Option Int → Hp → VK → Prop := fun x lo hi H Q => ∃ a xs, x = .ref a ∧ SqL K H a xs ∧ ∀ p, H p = none → Q (.ref p) (upd H p (.lst (cutV xs lo hi)))
theorem sl_list : SlR X (rSlL X.K) := by
  intro pins s σ H x v vl vu lo hi sl Q I rx hs pl pu h
  obtain ⟨a, xs, rfl, hx, q⟩ := h
  cases rx
  obtain ⟨its, r, ht, hz⟩ := I.list hx
  have hlen := r.length
  refine ⟨"list", _, slot_list_getitem.lookup, ht.isList.typeIs, ?_⟩
  refine wpAny_getItem_list_slice ht.isList hs pl pu .none (by simp) ?_ (by rw [List.size_toArray] <;> omega)
  rw [slicePick_cut, ← hlen]
  refine ⟨.ref s.heap.objs.size, _, I.laid (t' := s.toks) (o := .lst (cutV xs lo hi)) (fun b ob q => Heap.get?_push_of_some _ q) (Nat.le_refl _) ?_, rfl, q _ (I.hok.fresh (Nat.le_refl _))⟩
  exact ⟨Nat.le_trans (cutV_length xs lo hi) hz, _, 0, (r.drop (HT.sIx xs.length 0 lo)).take (HT.sIx xs.length xs.length hi - HT.sIx xs.length 0 lo), Heap.get?_push_size _ rfl⟩

/-! ### in, not in: flat items -/
def flatV : V → Bool
  | .non => true
  | .bl _ => true
  | .int _ => true
  | .str _ => true
  | _ => false
/-- == of flat values -/
def eqV : V → V → Bool
  | .non, .non => true
  | .bl a, .bl b => a == b
  | .bl a, .int b => (if a then 1 else 0) == b
  | .int a, .bl b => a == (if b then 1 else 0)
  | .int a, .int b => a == b
  | .str a, .str b => a == b
  | _, _ => false
theorem eqAt_V {A : Around} {s : Shared} {y x : V} {u v : Value} (ry : RelV y u) (rx : RelV x v) (fy : flatV y = true) (fx : flatV x = true) : SeqAt.EqAt A s u v (eqV y x) := by
  cases y with
  | non =>
    cases ry
    cases x with
    | non => cases rx; exact SeqAt.EqAt.same _
    | bl b => cases rx; exact SeqAt.EqAt.none_bool b
    | int b => obtain ⟨t, rfl⟩ := rx; exact SeqAt.EqAt.none_int b t
    | str b => obtain ⟨t, rfl⟩ := rx; exact SeqAt.EqAt.none_str b t
    | _ => exact absurd (show false = true from fx) Bool.false_ne_true
  | bl a =>
    cases ry
    cases x with
    | non => cases rx; exact SeqAt.EqAt.bool_none a
    | bl b => cases rx; exact SeqAt.EqAt.bool_bool a b
    | int b => obtain ⟨t, rfl⟩ := rx; exact SeqAt.EqAt.bool_int a b t
    | str b => obtain ⟨t, rfl⟩ := rx; exact SeqAt.EqAt.bool_str a b t
    | _ => exact absurd (show false = true from fx) Bool.false_ne_true
  | int a =>
    obtain ⟨t', rfl⟩ := ry
    cases x with
    | non => cases rx; exact SeqAt.EqAt.int_none a t'
    | bl b => cases rx; exact SeqAt.EqAt.int_bool a t' b
    | int b => obtain ⟨t, rfl⟩ := rx; exact SeqAt.EqAt.int_int a t' b t
    | str b => obtain ⟨t, rfl⟩ := rx; exact SeqAt.EqAt.int_str a t' b t
    | _ => exact absurd (show false = true from fx) Bool.false_ne_true
  | str a =>
    obtain ⟨t', rfl⟩ := ry
    cases x with
    | non => cases rx; exact SeqAt.EqAt.str_none a t'
    | bl b => cases rx; exact SeqAt.EqAt.str_bool a t' b
    | int b => obtain ⟨t, rfl⟩ := rx; exact SeqAt.EqAt.str_int a t' b t
    | str b => obtain ⟨t, rfl⟩ := rx; exact SeqAt.EqAt.str_str a t' b t
    | _ => exact absurd (show false = true from fx) Bool.false_ne_true
  | _ => exact absurd (show false = true from fy) Bool.false_ne_true
/-- the items' answers, read off the values (a value's own answer does not lean on its token) -/
def eqU (x : V) (u : Value) : Bool := match u with
  | .none => eqV .non x
  | .bool b => eqV (.bl b) x
  | .int i _ => eqV (.int i) x
  | .str z _ => eqV (.str z) x
  | _ => false
theorem eqU_of {x y : V} {u : Value} (r : RelV y u) (f : flatV y = true) : eqU x u = eqV y x := by
  cases y with
  | non => cases r; rfl
  | bl b => cases r; rfl
  | int i => obtain ⟨t, rfl⟩ := r; rfl
  | str z => obtain ⟨t, rfl⟩ := r; rfl
  | _ => exact absurd (show false = true from f) Bool.false_ne_true
theorem any_eqU {x : V} : ∀ {xs : List V} {us : List Value}, Vals xs us → xs.all flatV = true → us.any (eqU x) = xs.any fun y => eqV y x
  | _, _, .nil, _ => rfl
  | y :: xs, u :: us, .cons r t, f => by
    rw [List.all_cons, Bool.and_eq_true] at f
    rw [List.any_cons, List.any_cons, eqU_of r f.1, any_eqU t f.2]
theorem mem_eqAt {A : Around} {s : Shared} {x : V} {v : Value} (rx : RelV x v) (fx : flatV x = true) : ∀ {xs : List V} {us : List Value}, Vals xs us → xs.all flatV = true → ∀ u ∈ us, SeqAt.EqAt A s u v (eqU x u)
  | _, _, .nil, _ => fun u hu => by cases hu
  | y :: xs, u :: us, .cons r t, f => fun u' hu => by
    rw [List.all_cons, Bool.and_eq_true] at f
    rcases List.mem_cons.mp hu with rfl | hu
    · rw [eqU_of r f.1]; exact eqAt_V r rx f.1 fx
    · exact mem_eqAt rx fx t f.2 u' hu
def inV (x : V) (xs : List V) : Bool := xs.any fun y => eqV y x
/-- x in a list or tuple of flat items -/
def rIn (K : PySem.W.Frag) (neg : Bool) : R2 := fun x y H Q => ∃ p xs, y = .ref p ∧ (SqL K H p xs ∨ SqT K H p xs) ∧ flatV x = true ∧ xs.all flatV = true ∧ Q (.bl (if neg then !inV x xs else inV x xs)) H
theorem op_in_seq : OpR X (compareOp .In) (rIn X.K false) := by
  intro pins s σ H x y v u Q I rx ry h
  obtain ⟨p, xs, rfl, hq, fx, fs, q⟩ := h
  cases ry
  rcases hq with hq | hq
  · obtain ⟨its, r, pl, hz⟩ := I.list hq
    refine SeqAt.in_listAt (eqU x) pl.isList (fun w hw => mem_eqAt rx fx r fs w (by simpa using hw)) ⟨.bl _, H, I, rfl, ?_⟩
    rw [show its.toArray.any (eqU x) = its.any (eqU x) by simp, any_eqU r fs]
    exact q
  · obtain ⟨its, r, pl, hz⟩ := I.tuple hq
    refine SeqAt.in_tupleAt (eqU x) pl (fun w hw => mem_eqAt rx fx r fs w (by simpa using hw)) ⟨.bl _, H, I, rfl, ?_⟩
    rw [show its.toArray.any (eqU x) = its.any (eqU x) by simp, any_eqU r fs]
    exact q
theorem op_notIn_seq : OpR X (compareOp .NotIn) (rIn X.K true) := by
  intro pins s σ H x y v u Q I rx ry h
  obtain ⟨p, xs, rfl, hq, fx, fs, q⟩ := h
  cases ry
  rcases hq with hq | hq
  · obtain ⟨its, r, pl, hz⟩ := I.list hq
    refine SeqAt.notIn_listAt (eqU x) pl.isList (fun w hw => mem_eqAt rx fx r fs w (by simpa using hw)) ⟨.bl _, H, I, rfl, ?_⟩
    rw [show its.toArray.any (eqU x) = its.any (eqU x) by simp, any_eqU r fs]
    exact q
  · obtain ⟨its, r, pl, hz⟩ := I.tuple hq
    refine SeqAt.notIn_tupleAt (eqU x) pl (fun w hw => mem_eqAt rx fx r fs w (by simpa using hw)) ⟨.bl _, H, I, rfl, ?_⟩
    rw [show its.toArray.any (eqU x) = its.any (eqU x) by simp, any_eqU r fs]
    exact q
theorem op_notIn_str : OpR X (compareOp .NotIn) (fun x y H Q => ∃ i j, x = .str i ∧ y = .str j ∧ Q (.bl (!(!(Builtin.Str.occurrences j i 0 j.length 1).isEmpty))) H) := by
  intro pins s σ H x y v u Q I rx ry h
  obtain ⟨i, j, rfl, rfl, q⟩ := h
  obtain ⟨t, rfl⟩ := rx
  obtain ⟨t', rfl⟩ := ry
  exact notIn_str ⟨.bl _, H, I, rfl, q⟩

/-! ### len, list(x), tuple(x) of any list or tuple that is read -/
theorem call_len_seq : CallR X (.builtin "len") (fun xs H Q => ∃ p ys, xs = [.ref p] ∧ (SqL X.K H p ys ∨ SqT X.K H p ys) ∧ Q (.int ys.length) H) := by
  intro pins s σ H xs us Q I r h
  obtain ⟨p, ys, rfl, hq, q⟩ := h
  obtain ⟨u, rfl, rx⟩ := vals1 r
  cases rx
  have hn := line63
  rcases hq with hq | hq
  · obtain ⟨its, r', pl, hz⟩ := I.list hq
    have hlen := r'.length
    exact Calls.call_len_list pl.isList (by simp only [List.size_toArray] <;> omega) ⟨.int ys.length, H, I.tok _, ⟨s.toks + 1, by rw [List.size_toArray, hlen]⟩, q⟩
  · obtain ⟨its, r', pl, hz⟩ := I.tuple hq
    have hlen := r'.length
    exact len_tuple pl (by simp only [List.size_toArray] <;> omega) ⟨.int ys.length, H, I.tok _, ⟨s.toks + 1, by rw [List.size_toArray, hlen]⟩, q⟩
theorem call_len_str : CallR X (.builtin "len") (fun xs H Q => ∃ z, xs = [.str z] ∧ z.length ≤ sizeLine ∧ Q (.int z.length) H) := by
  intro pins s σ H xs us Q I r h
  obtain ⟨z, rfl, hz, q⟩ := h
  obtain ⟨u, rfl, t, rfl⟩ := vals1 r
  have hn := line63
  exact len_str (by omega) ⟨.int z.length, H, I.tok _, ⟨_, rfl⟩, q⟩
theorem CallR.or {f : Value} {r r' : List V → Hp → VK → Prop} (h : CallR X f r) (h' : CallR X f r') : CallR X f (fun xs H Q => r xs H Q ∨ r' xs H Q) := by
  intro pins s σ H xs us Q I rs q
  rcases q with q | q
  · exact h pins s σ H xs us Q I rs q
  · exact h' pins s σ H xs us Q I rs q
theorem call_list_of : CallR X (.type "list") (fun xs H Q => ∃ p ys, xs = [.ref p] ∧ (SqL X.K H p ys ∨ SqT X.K H p ys) ∧ ∀ l, H l = none → Q (.ref l) (upd H l (.lst ys))) := by
  intro pins s σ H xs us Q I r h
  obtain ⟨p, ys, rfl, hq, q⟩ := h
  obtain ⟨u, rfl, rx⟩ := vals1 r
  cases rx
  have fin : ∀ (its : List Value), Vals ys its → ys.length ≤ sizeLine → ∀ (h' : Heap) (c' : Nat), (∀ b o', s.heap.get? b = some o' → h'.get? b = some o') →
      h'.get? s.heap.objs.size = some { cls := .type "list", dict := none, data := .seq its.toArray c', slots := #[] } → EP X pins σ Q (.ref s.heap.objs.size) { s with heap := h' } := fun its r' hz h' c' kp e =>
    ⟨.ref s.heap.objs.size, _, I.laid (t' := s.toks) kp (Nat.le_refl _) (show ObjOk X.prog X.w _ h' _ (.lst ys) from ⟨hz, its, c', r', e⟩), rfl, q _ (I.hok.fresh (Nat.le_refl _))⟩
  rcases hq with hq | hq
  · obtain ⟨its, r', pl, hz⟩ := I.list hq
    have hlen := r'.length
    obtain ⟨o, ho, hc, n, hd⟩ := pl.isList
    exact call_list_seq p (.inl rfl) ho hc hd (fun h' c' kp e => fin its r' hz h' c' kp e) (by simp only [List.size_toArray] <;> omega)
  · obtain ⟨its, r', pl, hz⟩ := I.tuple hq
    have hlen := r'.length
    obtain ⟨o, ho, hc, n, hd⟩ := pl
    exact call_list_seq p (.inr rfl) ho hc hd (fun h' c' kp e => fin its r' hz h' c' kp e) (by simp only [List.size_toArray] <;> omega)
theorem call_tuple_of : CallR X (.type "tuple") (fun xs H Q => ∃ p ys, xs = [.ref p] ∧ ((SqL X.K H p ys ∧ ∀ l, H l = none → Q (.ref l) (upd H l (.tup ys))) ∨ (SqT X.K H p ys ∧ Q (.ref p) H))) := by
  intro pins s σ H xs us Q I r h
  obtain ⟨p, ys, rfl, h⟩ := h
  obtain ⟨u, rfl, rx⟩ := vals1 r
  cases rx
  rcases h with ⟨hq, q⟩ | ⟨hq, q⟩
  · obtain ⟨its, r', pl, hz⟩ := I.list hq
    have hlen := r'.length
    refine call_tuple_list pl.isList (fun h' kp => ?_) (by simp only [List.size_toArray] <;> omega)
    have I1 : Inv X pins σ H { s with heap := h' } := I.kept (t' := s.toks) kp
    have I2 : Inv X pins σ (upd H h'.objs.size (.tup ys)) { s with heap := h'.push { cls := .type "tuple", data := .seq its.toArray } } :=
      I1.laid (t' := s.toks) (fun b o e => Heap.get?_push_of_some _ e) (Nat.le_refl _) (show ObjOk X.prog X.w _ _ _ (.tup ys) from ⟨hz, its, r', IsTupD.new _ _⟩)
    exact ⟨.ref h'.objs.size, _, I2, rfl, q _ (I1.hok.fresh (Nat.le_refl _))⟩
  · obtain ⟨its, r', pl, hz⟩ := I.tuple hq
    exact call_tuple_same pl ⟨.ref p, H, I, rfl, q⟩

/-! ### the call of a builtin's method: o.m(..) -/
/-- the value is of that builtin type -/
def tyV (K : PySem.W.Frag) (T : String) (x : V) (H : Hp) : Prop := match x with
  | .str _ => T = "str"
  | .int _ => T = "int"
  | .ref p => (T = "list" ∧ ∃ xs, SqL K H p xs) ∨ (T = "tuple" ∧ ∃ o, K.lookup p = some o ∧ o.cls = .type "tuple" ∧ o.dict = none) ∨
      (T = "dict" ∧ ((∃ kvs, H p = some (.dK kvs)) ∨ ∃ kvs, H p = some (.dT kvs))) ∨ (T = "set" ∧ ∃ S n, H p = some (.set S n))
  | _ => False
theorem tyV_is {pins : List (Addr × Obj)} {σ : St} {H : Hp} {s : Shared} {T : String} {x : V} {v : Value} (I : Inv X pins σ H s) (r : RelV x v) (ty : tyV X.K T x H) :
    s.TypeIs v T ∧ ∀ a, v = .ref a → ∃ ob, s.heap.get? a = some ob ∧ ob.dict = none := by
  cases x with
  | str z =>
    obtain ⟨t, rfl⟩ := r
    cases (show T = "str" from ty)
    exact ⟨typeIs_str s z t, fun _ e => nomatch e⟩
  | int i =>
    obtain ⟨t, rfl⟩ := r
    cases (show T = "int" from ty)
    exact ⟨typeIs_int s i t, fun _ e => nomatch e⟩
  | ref p =>
    cases r
    rcases ty with ⟨rfl, xs, hq⟩ | ⟨rfl, o, hk, hc, hd⟩ | ⟨rfl, hk⟩ | ⟨rfl, S, n, hk⟩
    · obtain ⟨its, _, pl, _⟩ := I.list hq
      refine ⟨pl.isList.typeIs, fun a e => ?_⟩
      cases e
      obtain ⟨o, n, e, c, hd, _⟩ := pl
      exact ⟨o, e, hd⟩
    · refine ⟨⟨o, I.kIn p o hk, hc⟩, fun a e => ?_⟩
      cases e
      exact ⟨o, I.kIn _ o hk, hd⟩
    · have z : ∃ o, s.heap.get? p = some o ∧ o.ExactDict := by
        rcases hk with ⟨kvs, hk⟩ | ⟨kvs, hk⟩
        · obtain ⟨_, _, _, _, o, _, _, e, ex, _⟩ := I.hok p _ hk
          exact ⟨o, e, ex⟩
        · obtain ⟨_, _, _, _, o, _, _, e, ex, _⟩ := I.hok p _ hk
          exact ⟨o, e, ex⟩
      obtain ⟨o, e, ex⟩ := z
      refine ⟨⟨o, e, ex.1⟩, fun a e2 => ?_⟩
      cases e2
      exact ⟨o, e, ex.2.1⟩
    · obtain ⟨o, _, _, _, e, ex, _⟩ := I.hok p _ hk
      refine ⟨⟨o, e, ex.1⟩, fun a e2 => ?_⟩
      cases e2
      exact ⟨o, e, ex.2.1⟩
  | _ => exact False.elim ty
def tBM0 (K : PySem.W.Frag) (T : String) (r : V → List V → Hp → VK → Prop) (to : TE) : TE := fun σ H Q => to σ H fun x H1 => tyV K T x H1 ∧ r x [] H1 Q
def tBM (K : PySem.W.Frag) (T : String) (r : V → List V → Hp → VK → Prop) (to : TE) (t : TA) : TE := fun σ H Q => to σ H fun x H1 => tyV K T x H1 ∧ t σ H1 fun xs H2 => r x xs H2 Q
variable {o e : Expr} {es : List Expr} {to : TE} {t : TA} {name : Str} {apos cpos : Pos} {T id : String} {r : V → List V → Hp → VK → Prop}
theorem pe_bm0 (pa : PlainAttrs T) (slot : Slot T name id) (hty : typeOf (.builtin id) = pure (.type "method_descriptor")) (hm : MtR X id r) (ho : PE X o to)
    (hbase : attributeBase o name X.env (eval o X.env) = eval o X.env := by rfl) (hline : (apos.endLine == cpos.line) = true := by rfl) : PE X (.Call (.Attribute o name apos) [] [] cpos) (tBM0 X.K T r to) := by
  intro pins s σ H Q I h
  refine wpAny_Call_method0_late hbase hline (thn (ho pins s σ H _ I h) fun v s1 ⟨x, H1, I1, r1, ty, q1⟩ => ?_)
  obtain ⟨h1, h2⟩ := tyV_is I1 r1 ty
  exact ⟨T, id, pa, slot, hty, h1, h2, Calls.callWith_builtin rfl (PySem.evalArgs_none (hm pins s1 σ H1 x [] v [] Q I1 r1 .nil q1))⟩
theorem pe_bm (pa : PlainAttrs T) (slot : Slot T name id) (hty : typeOf (.builtin id) = pure (.type "method_descriptor")) (hm : MtR X id r) (ho : PE X o to) (ha : PA X (e :: es) t)
    (hbase : attributeBase o name X.env (eval o X.env) = eval o X.env := by rfl)
    (hfew : ((backTo cpos (starEach (e :: es) X.env)).all (fun x => !x.1) && (backToKw cpos (keywordEach [] X.env)).all (fun x => x.1.isSome)
      && decide ((e :: es).length + ([] : List Keyword).length + (if ([] : List Keyword).isEmpty then 0 else 1) < 30)) = true := by rfl)
    (hline : (apos.endLine == cpos.line) = true := by rfl) (hs : starEach (e :: es) X.env = (false, eval e X.env) :: starEach es X.env := by rfl) (hplain : (backTo cpos (starEach es X.env)).any (·.1) = false := by rfl) :
    PE X (.Call (.Attribute o name apos) (e :: es) [] cpos) (tBM X.K T r to t) := by
  intro pins s σ H Q I h
  refine wpAny_Call_method_late hbase hfew hline rfl (thn (ho pins s σ H _ I h) fun v s1 ⟨x, H1, I1, r1, ty, q1⟩ => ?_)
  obtain ⟨h1, h2⟩ := tyV_is I1 r1 ty
  refine ⟨T, id, pa, slot, hty, h1, h2, ?_⟩
  have hA := ha cpos pins s1 σ H1 _ I1 q1
  rw [hs] at hA ⊢
  refine Calls.callWith_builtin (by show (false || (backTo cpos (starEach es X.env)).any (·.1)) = false; rw [hplain] <;> rfl) (Calls.evalArgs_plain ?_)
  exact thn hA fun us s2 ⟨vs, H2, I2, r2, q2⟩ => hm pins s2 σ H2 x vs v us Q I2 r1 r2 q2
/- xs.append(e), list.index on a module's tuple .. are MtR facts of 06m -/
end
end L2

namespace L2
open PySem PySem.Spec PyProof.Rows

def MtM (X : Cx) (id : String) (r : V → List V → Hp → VK → Prop) : Prop :=
  ∀ (pins : List (Addr × Obj)) (s : Shared) (σ : St) (H : Hp) (x : V) (xs : List V) (v : Value) (us : List Value) (Q : VK), Inv X pins σ H s → RelV x v → Vals xs us → r x xs H Q →
    wpAny (model X.prog X.w) X.A (call (.builtin id) (v :: us)) (EP X pins σ Q) X.xe s

/-! ### lists of values -/
theorem Vals.one : ∀ {x : V} {us : List Value}, Vals [x] us → ∃ u, us = [u] ∧ RelV x u
  | _, _, .cons r .nil => ⟨_, rfl, r⟩
theorem Vals.two : ∀ {x y : V} {us : List Value}, Vals [x, y] us → ∃ u v, us = [u, v] ∧ RelV x u ∧ RelV y v
  | _, _, _, .cons r (.cons q .nil) => ⟨_, _, rfl, r, q⟩
theorem Vals.zero : ∀ {us : List Value}, Vals [] us → us = []
  | _, .nil => rfl
theorem Vals.dropLast {xs : List V} {us : List Value} (h : Vals xs us) : Vals xs.dropLast us.dropLast := by
  induction h with
  | nil => exact .nil
  | cons r t ih =>
    cases t with
    | nil => exact .nil
    | cons q t' => exact .cons r ih
theorem Vals.eraseIdx : ∀ {xs : List V} {us : List Value} (i : Nat), Vals xs us → Vals (xs.eraseIdx i) (us.eraseIdx i)
  | _, _, _, .nil => .nil
  | _, _, 0, .cons _ t => t
  | _, _, i + 1, .cons r t => .cons r (Vals.eraseIdx i t)
theorem Vals.reverse {xs : List V} {us : List Value} (h : Vals xs us) : Vals xs.reverse us.reverse := by
  induction h with
  | nil => exact .nil
  | cons r t ih => rw [List.reverse_cons, List.reverse_cons]; exact Vals.append ih (.cons r .nil)
theorem Vals.rep {xs : List V} {us : List Value} (h : Vals xs us) : ∀ k : Nat, Vals (List.replicate k xs).flatten (List.replicate k us).flatten
  | 0 => .nil
  | k + 1 => by
    rw [List.replicate_succ, List.replicate_succ, List.flatten_cons, List.flatten_cons]
    exact Vals.append h (Vals.rep h k)
theorem erase_last {α : Type} (l : List α) : l.eraseIdx (l.length - 1) = l.dropLast := by
  induction l with
  | nil => rfl
  | cons a r ih =>
    cases r with
    | nil => rfl
    | cons b r =>
      have e : (a :: b :: r).length - 1 = ((b :: r).length - 1) + 1 := by
        have h1 : (a :: b :: r).length = r.length + 2 := rfl
        have h2 : (b :: r).length = r.length + 1 := rfl
        omega
      rw [e, List.eraseIdx_cons_succ, ih]
      all_goals rfl
theorem len_erase {α : Type} : ∀ (l : List α) (i : Nat), (l.eraseIdx i).length ≤ l.length
  | [], _ => Nat.le_refl _
  | _ :: _, 0 => Nat.le_succ _
  | _ :: r, i + 1 => Nat.succ_le_succ (len_erase r i)
theorem foldl_rep (its : List Value) : ∀ (k : Nat) (acc : List Value),
    List.foldl (fun x1 x2 => x1 ++ x2) acc.toArray (List.replicate k its.toArray) = (acc ++ (List.replicate k its).flatten).toArray
  | 0, acc => by simp
  | k + 1, acc => by
    have e : acc.toArray ++ its.toArray = (acc ++ its).toArray := by simp
    have e2 : (acc ++ its) ++ (List.replicate k its).flatten = acc ++ (List.replicate (k + 1) its).flatten := by
      rw [List.replicate_succ, List.flatten_cons, List.append_assoc]
    rw [← e2, ← foldl_rep its k (acc ++ its), ← e, List.replicate_succ, List.foldl_cons]

section
variable {X : Cx} {pins : List (Addr × Obj)} {σ : St} {H : Hp} {s : Shared} {l b : Addr} {xs ys zs : List V}

/-! ### the two steps: a tracked list is rewritten, a new list is laid -/
theorem Inv.lset {its its' : List Value} {n : Nat} {f : Array Value → Array Value} {t' : Nat} (I : Inv X pins σ H s) (hH : H l = some (.lst xs))
    (e : s.heap.get? l = some { cls := .type "list", data := .seq its.toArray n }) (hf : f its.toArray = its'.toArray) (hv : Vals ys its') (hz : ys.length ≤ sizeLine) :
    Inv X pins σ (upd H l (.lst ys)) { s with heap := s.heap.update l (Obj.mapSeq f), toks := t' } := by
  have q := PySem.IsL.update e f
  rw [hf] at q
  refine I.write (x := l) (e := l) (by rw [hH]; exact trivial) (.inl rfl) (fun b' u hb hu => (Heap.get?_update_other s.heap (Obj.mapSeq f) (Ne.symm hb)).trans hu) ⟨_, q⟩ ?_
  exact ⟨hz, its', _, hv, q⟩
theorem Inv.lnew {its : List Value} {t' : Nat} (I : Inv X pins σ H s) (hv : Vals ys its) (hz : ys.length ≤ sizeLine) :
    Inv X pins σ (upd H s.heap.objs.size (.lst ys)) { s with heap := s.heap.push { cls := .type "list", data := .seq its.toArray }, toks := t' } :=
  I.laid (fun _ _ q => Heap.get?_push_of_some _ q) (Nat.le_refl _) ⟨hz, its, 0, hv, Heap.get?_push_size _ rfl⟩
theorem Inv.fresh (I : Inv X pins σ H s) : H s.heap.objs.size = none := I.hok.fresh (Nat.le_refl _)
theorem Inv.lstM (I : Inv X pins σ H s) (hH : H l = some (.lst xs)) : xs.length ≤ sizeLine ∧ ∃ (its : List Value) (n : Nat), Vals xs its ∧ xs.length = its.length ∧ s.heap.get? l = some { cls := .type "list", data := .seq its.toArray n } := by
  obtain ⟨z, its, n, r, e⟩ := I.hok l _ hH
  exact ⟨z, its, n, r, r.length, e⟩

theorem notLongL {n : Nat} (h : n ≤ sizeLine) : Builtin.List.listTooLong n = false := by
  unfold Builtin.List.listTooLong
  exact decide_eq_false (by omega)
end

section
variable {X : Cx}

/-! ### methods -/
def rAppend : V → List V → Hp → VK → Prop := fun x vs H Q => ∃ l xs y, x = .ref l ∧ vs = [y] ∧ H l = some (.lst xs) ∧ xs.length < sizeLine ∧ Q .non (upd H l (.lst (xs ++ [y])))
theorem mt_append : MtM X "list.append" rAppend := by
  intro pins s σ H x vs v us Q I rx rv h
  obtain ⟨l, xs, y, rfl, rfl, hH, hz, q⟩ := h
  cases rx
  obtain ⟨u, rfl, ru⟩ := rv.one
  obtain ⟨z, its, n, r, hl, e⟩ := I.lstM hH
  refine call_meets F.slot_list_append ⟨_, e, rfl⟩ F.entry_list_append (F.args_list_append_2 _ _) (PySem.list_append l its.toArray n u (by rw [List.size_toArray]; omega)) ⟨e, ?_⟩
  refine ⟨.non, _, I.lset (its' := its ++ [u]) hH e (by simp) (r.append (.cons ru .nil)) ?_, rfl, q⟩
  rw [List.length_append, List.length_singleton]
  omega

def rExtend : V → List V → Hp → VK → Prop := fun x vs H Q => ∃ l b xs zs, x = .ref l ∧ vs = [.ref b] ∧ H l = some (.lst xs) ∧ H b = some (.lst zs) ∧ xs.length + zs.length ≤ sizeLine ∧ Q .non (upd H l (.lst (xs ++ zs)))
theorem mt_extend : MtM X "list.extend" rExtend := by
  intro pins s σ H x vs v us Q I rx rv h
  obtain ⟨l, b, xs, zs, rfl, rfl, hH, hB, hz, q⟩ := h
  cases rx
  obtain ⟨u, rfl, ru⟩ := rv.one
  cases ru
  obtain ⟨z, its, n, r, hl, e⟩ := I.lstM hH
  obtain ⟨z2, its2, n2, r2, hl2, e2⟩ := I.lstM hB
  have hsz : its.toArray.size + its2.toArray.size ≤ sizeLine := by rw [List.size_toArray, List.size_toArray]; omega
  have hlong : ¬ (!its.toArray.isEmpty && Builtin.List.listTooLong (its.toArray.size + its2.toArray.size)) = true := by
    rw [notLongL hsz, Bool.and_false]
    exact Bool.false_ne_true
  refine call_meets F.slot_list_extend ⟨_, e, rfl⟩ F.entry_list_extend (F.args_list_extend_2 _ _)
    (AutoSeq1.list_extend_list_list_0 l its.toArray n b its2.toArray n2 hlong (by rw [List.size_toArray]; omega) (by omega)) ⟨e, e2, ?_⟩
  refine ⟨.non, _, I.lset (its' := its ++ its2) hH e (by simp) (r.append r2) ?_, rfl, q⟩
  rw [List.length_append]
  omega

def rPop : V → List V → Hp → VK → Prop := fun x vs H Q => ∃ l xs y, x = .ref l ∧ vs = [] ∧ H l = some (.lst xs) ∧ xs[xs.length - 1]? = some y ∧ Q y (upd H l (.lst xs.dropLast))
theorem mt_pop : MtM X "list.pop" rPop := by
  intro pins s σ H x vs v us Q I rx rv h
  obtain ⟨l, xs, y, rfl, rfl, hH, hy, q⟩ := h
  cases rx
  have hus := rv.zero
  subst hus
  obtain ⟨z, its, n, r, hl, e⟩ := I.lstM hH
  obtain ⟨u, hu, ru⟩ := r.get hy
  have hy' : its.toArray[its.toArray.size - 1]? = some u := by
    show its.toArray[its.length - 1]? = some u
    rw [← Array.getElem?_toList, ← hl]
    exact hu
  refine call_meets F.slot_list_pop ⟨_, e, rfl⟩ F.entry_list_pop (F.args_list_pop_1 _) (MeetsSeq.list_pop_last l its.toArray n u hy' (by rw [List.size_toArray]; omega)) ⟨e, ?_⟩
  refine ⟨y, _, I.lset (its' := its.dropLast) hH e ?_ r.dropLast ?_, ru, q⟩
  · show its.toArray.eraseIdxIfInBounds (its.toArray.size - 1) = its.dropLast.toArray
    rw [List.size_toArray, List.eraseIdxIfInBounds_toArray, erase_last]
  · rw [List.length_dropLast]
    omega

def rPopAt : V → List V → Hp → VK → Prop := fun x vs H Q => ∃ l xs i k y, x = .ref l ∧ vs = [.int i] ∧ H l = some (.lst xs) ∧ -(2 ^ 63) ≤ i ∧ i < 2 ^ 63 ∧ seqIndex? i xs.length = some k ∧ xs[k]? = some y ∧ Q y (upd H l (.lst (xs.eraseIdx k)))
theorem mt_popAt : MtM X "list.pop" rPopAt := by
  intro pins s σ H x vs v us Q I rx rv h
  obtain ⟨l, xs, i, k, y, rfl, rfl, hH, h1, h2, hk, hy, q⟩ := h
  cases rx
  obtain ⟨u, rfl, ru⟩ := rv.one
  obtain ⟨t, rfl⟩ := ru
  obtain ⟨z, its, n, r, hl, e⟩ := I.lstM hH
  obtain ⟨w, hw, rw'⟩ := r.get hy
  refine call_meets F.slot_list_pop ⟨_, e, rfl⟩ F.entry_list_pop (F.args_list_pop_2 _ _)
    (MeetsSeq.list_pop_at l its.toArray n i t k w (fitsIndex_both h1 h2) (by rw [List.size_toArray, ← hl]; exact hk) (by rw [← Array.getElem?_toList]; exact hw) (by rw [List.size_toArray]; omega)) ⟨e, ?_⟩
  refine ⟨y, _, I.lset (its' := its.eraseIdx k) hH e ?_ (r.eraseIdx k) ?_, rw', q⟩
  · show its.toArray.eraseIdxIfInBounds k = (its.eraseIdx k).toArray
    rw [List.eraseIdxIfInBounds_toArray]
  · have := len_erase xs k
    omega

def rReverse : V → List V → Hp → VK → Prop := fun x vs H Q => ∃ l xs, x = .ref l ∧ vs = [] ∧ H l = some (.lst xs) ∧ Q .non (upd H l (.lst xs.reverse))
theorem mt_reverse : MtM X "list.reverse" rReverse := by
  intro pins s σ H x vs v us Q I rx rv h
  obtain ⟨l, xs, rfl, rfl, hH, q⟩ := h
  cases rx
  have hus := rv.zero
  subst hus
  obtain ⟨z, its, n, r, hl, e⟩ := I.lstM hH
  refine call_meets F.slot_list_reverse ⟨_, e, rfl⟩ F.entry_list_reverse (F.args_list_reverse_1 _) (AutoSeq1.list_reverse_list_0 l its.toArray n (by rw [List.size_toArray]; omega)) ⟨e, ?_⟩
  refine ⟨.non, _, I.lset (its' := its.reverse) hH e (by simp) r.reverse ?_, rfl, q⟩
  rw [List.length_reverse]
  omega

def rClear : V → List V → Hp → VK → Prop := fun x vs H Q => ∃ l xs, x = .ref l ∧ vs = [] ∧ H l = some (.lst xs) ∧ Q .non (upd H l (.lst []))
theorem mt_clear : MtM X "list.clear" rClear := by
  intro pins s σ H x vs v us Q I rx rv h
  obtain ⟨l, xs, rfl, rfl, hH, q⟩ := h
  cases rx
  have hus := rv.zero
  subst hus
  obtain ⟨z, its, n, r, hl, e⟩ := I.lstM hH
  refine call_meets F.slot_list_clear ⟨_, e, rfl⟩ F.entry_list_clear (F.args_list_clear_1 _) (AutoSeq1.list_clear_list_0 l its.toArray n (by rw [List.size_toArray]; omega)) ⟨e, ?_⟩
  exact ⟨.non, _, I.lset (its' := []) (ys := []) hH e rfl .nil (Nat.zero_le _), rfl, q⟩

/-! ### list + list, list += list, list * int -/
def rCat : R2 := fun x y H Q => ∃ l b xs zs, x = .ref l ∧ y = .ref b ∧ H l = some (.lst xs) ∧ H b = some (.lst zs) ∧ xs.length + zs.length ≤ sizeLine ∧ ∀ p, H p = none → Q (.ref p) (upd H p (.lst (xs ++ zs)))
theorem op_cat : OpR X (binaryOp .Add) rCat := by
  intro pins s σ H x y v u Q I rx ry h
  obtain ⟨l, b, xs, zs, rfl, rfl, hH, hB, hz, q⟩ := h
  cases rx
  cases ry
  obtain ⟨z, its, n, r, hl, e⟩ := I.lstM hH
  obtain ⟨z2, its2, n2, r2, hl2, e2⟩ := I.lstM hB
  refine PySem.P.add_list e e2 ?_ (by rw [List.size_toArray, List.size_toArray]; omega)
  have ea : its.toArray ++ its2.toArray = (its ++ its2).toArray := by simp
  rw [ea]
  exact ⟨.ref _, _, I.lnew (t' := s.toks) (r.append r2) (by rw [List.length_append]; omega), rfl, q _ I.fresh⟩
/-- a list times an int (a negative one is nothing) -/
def rRep : R2 := fun x y H Q => ∃ l k xs, x = .ref l ∧ y = .int k ∧ H l = some (.lst xs) ∧ -(2 ^ 63) ≤ k ∧ k < 2 ^ 63 ∧ xs.length * k.toNat ≤ sizeLine ∧
  ∀ p, H p = none → Q (.ref p) (upd H p (.lst (List.replicate k.toNat xs).flatten))
theorem len_rep {α : Type} (xs : List α) (k : Nat) : (List.replicate k xs).flatten.length = k * xs.length := by
  induction k with
  | zero => simp
  | succ k ih => rw [List.replicate_succ, List.flatten_cons, List.length_append, ih, Nat.succ_mul, Nat.add_comm]
theorem op_rep : OpR X (binaryOp .Mult) rRep := by
  intro pins s σ H x y v u Q I rx ry h
  obtain ⟨l, k, xs, rfl, rfl, hH, h1, h2, hz, q⟩ := h
  cases rx
  obtain ⟨t, rfl⟩ := ry
  obtain ⟨z, its, n, r, hl, e⟩ := I.lstM hH
  have hlen : its.toArray.size * k.toNat ≤ sizeLine := by rw [List.size_toArray, ← hl]; exact hz
  have hcap : ¬ its.toArray.size * k.toNat > (2 ^ 63 - 1) / 8 := by
    have : (sizeLine : Nat) ≤ (2 ^ 63 - 1) / 8 := by decide
    omega
  have hfit : ¬ (!Builtin.List.listFitsIndex k) = true := by
    rw [fitsIndex_both h1 h2]
    exact Bool.false_ne_true
  have hlong : ¬ Builtin.List.listTooLong (its.toArray.size * k.toNat) = true := by
    rw [notLongL hlen]
    exact Bool.false_ne_true
  have hnew : List.foldl (fun x1 x2 => x1 ++ x2) #[] (List.replicate (if its.toArray.isEmpty = true then 0 else k.toNat) its.toArray) = (List.replicate k.toNat its).flatten.toArray := by
    have f0 : ∀ m : Nat, List.foldl (fun x1 x2 => x1 ++ x2) #[] (List.replicate m its.toArray) = (List.replicate m its).flatten.toArray := fun m => by
      have := foldl_rep its m []
      rw [List.nil_append] at this
      exact this
    rw [f0]
    cases its with
    | nil => simp
    | cons a r' => rw [if_neg (by simp)]
  refine wpAny_binaryOp_repeat_ref (T := "list") (U := "int") (by decide) ⟨_, e, rfl⟩ (fun s' => typeIs_int s' k t) noFill_list_mul F.fills_int_mul F.slot_int_rmul repeat_list F.slot_int_index.lookup
    (call_meets F.slot_int_rmul (typeIs_int s k t) F.entry_int_rmul (F.args_int_rmul_2 _ _) (int___rmul___int_list k t l its.toArray n)
      ⟨e, rfl, ⟨_, e, rfl⟩, call_meets F.slot_list_mul ⟨_, e, rfl⟩ F.entry_list_mul (F.args_list_mul_2 _ _) (AutoListH.list___mul___list_int_3 l its.toArray n k t hfit hcap hlong) ⟨e, ?_⟩⟩)
  rw [hnew]
  exact ⟨.ref _, _, I.lnew (t' := s.toks) (r.rep k.toNat) (by rw [len_rep, Nat.mul_comm]; exact hz), rfl, q _ I.fresh⟩

/-! ### del xs[i] -/
theorem del_list {pins : List (Addr × Obj)} {s : Shared} {σ : St} {H : Hp} {l : Addr} {xs : List V} {i : Int} {t : Tok} {k : Nat} {Q : Unit → Shared → Prop} (I : Inv X pins σ H s) (hH : H l = some (.lst xs))
    (h1 : -(2 ^ 63) ≤ i) (h2 : i < 2 ^ 63) (hk : seqIndex? i xs.length = some k) (h : ∀ s', Inv X pins σ (upd H l (.lst (xs.eraseIdx k))) s' → Q () s') :
    wpAny (model X.prog X.w) X.A (delItem (.ref l) (.int i t)) Q X.xe s := by
  obtain ⟨z, its, n, r, hl, e⟩ := I.lstM hH
  refine PySem.P.delItem_list (k := k) e (fitsIndex_both h1 h2) (by rw [List.size_toArray, ← hl]; exact hk) (h _ ?_) (by rw [List.size_toArray]; omega)
  refine I.lset (its' := its.eraseIdx k) (t' := s.toks) hH e ?_ (r.eraseIdx k) ?_
  · show its.toArray.eraseIdxIfInBounds k = (its.eraseIdx k).toArray
    rw [List.eraseIdxIfInBounds_toArray]
  · have := len_erase xs k
    omega
end

/-! ### xs[a:b] = ys -/
section
variable {prog : Program} {w : World} {A : Around} {E : Value → Shared → Prop} {s : Shared}
theorem splice_eq (its its2 : List Value) (a c : Nat) : its.toArray.extract 0 a ++ its2.toArray ++ its.toArray.extract c its.toArray.size = (its.take a ++ its2 ++ its.drop c).toArray := by
  apply Array.toList_inj.mp
  first
    | (simp
       exact List.take_of_length_le (by simp))
    | simp [List.take_of_length_le]
    | simp
theorem bounds_run {a c n : Nat} (hac : a ≤ c) (hc : c ≤ n) : sliceBounds (some (a : Int)) (some (c : Int)) none n = ((a : Int), (c : Int), 1) := by
  simp only [sliceBounds, Option.getD_none]
  have h1 : ¬ ((a : Int) < 0) := by omega
  have h2 : ¬ ((c : Int) < 0) := by omega
  simp only [h1, h2, if_false, show (1 : Int) > 0 by decide, if_true]
  congr 1
  · omega
  · congr 1; omega
set_option maxRecDepth 100000 in
/-- list.__setitem__ with a slice of step one and another list -/
theorem setItem_slice {l b sl : Addr} {items new : Array Value} {n n2 : Nat} {vl vu : Value} {a c : Nat} {Q : Unit → Shared → Prop}
    (e : s.heap.get? l = some { cls := .type "list", data := .seq items n }) (e2 : s.heap.get? b = some { cls := .type "list", data := .seq new n2 }) (hne : l ≠ b)
    (hs : s.heap.IsSliceOf sl vl vu .none) (pl : IsPart vl (some (a : Int))) (pu : IsPart vu (some (c : Int))) (hac : a ≤ c) (hc : c ≤ items.size)
    (hsz : items.size + new.size ≤ sizeLine) (h : Q () { s with heap := s.heap.update l (Obj.mapSeq fun xs => xs.extract 0 a ++ new ++ xs.extract c xs.size) }) :
    wpAny (model prog w) A (setItem (.ref l) (.ref sl) (.ref b)) Q E s := by
  have hl : s.heap.IsList l items := PySem.IsL.isList e
  have hb : s.heap.IsList b new := PySem.IsL.isList e2
  obtain ⟨os, hos, hcs, hds⟩ := id hs
  have hTs : s.TypeIs (.ref sl) "slice" := ⟨os, hos, hcs⟩
  have hstep : ¬ ((rawPart none == rawInt 0) = true) := Bool.false_ne_true
  have hsame : Builtin.List.listSameRef (.ref l) (.ref b) = false := by
    unfold Builtin.List.listSameRef
    exact beq_eq_false_iff_ne.mpr hne
  have hmax : (max (a : Int) (c : Int)).toNat = c := by omega
  have hz' : ((fun xs : Array Value => xs.extract 0 a ++ new ++ xs.extract c xs.size) items).size ≤ sizeLine + 1 := by
    simp only [Array.size_append, Array.size_extract]
    omega
  unfold setItem
  try with_reducible refine wpAny_holding ?_
  first | refine wpAny_bind (wpAny_pure ?_) | skip
  refine wpAny_bind (wpAny_sequenceKey hl.typeIs (by decide) ?_)
  refine wpAny_bind (wpAny_callSpecial?_slot (name := Str.ofString "__setitem__") hl.typeIs slot_list_setitem
    (wpAny_call_entry slot_list_setitem hl.typeIs entry_list_setitem ?_ (args_list_setitem _ _ _)))
  show wpAny _ _ (Builtin.List.listSubscript? (.ref sl) >>= _) _ _ s
  refine wpAny_bind ?_
  unfold Builtin.List.listSubscript?
  refine wpAny_bind (wpAny_specialOf hTs slice_no_index ?_)
  simp only [Option.isNone_none, if_true]
  refine wpAny_pure ?_
  show wpAny _ _ (typeOf (.ref sl) >>= _) _ _ s
  refine wpAny_bind (wpAny_typeOf hTs ?_)
  first
    | rw [if_neg (by decide)]
    | refine PySem.W.KFB.if_not (by decide) ?_
  rw [listSliceParts_eq]
  refine wpAny_bind (wpAny_bind (wpAny_field hos hds (x := .none) rfl (wpAny_bind (wpAny_listPart .none ?_))))
  rw [if_neg hstep]
  refine wpAny_bind (wpAny_field hos hds (x := vl) rfl (wpAny_bind (wpAny_listPart pl ?_)))
  refine wpAny_bind (wpAny_field hos hds (x := vu) rfl (wpAny_bind (wpAny_listPart pu (wpAny_pure ?_))))
  first
    | simp only [hsame, Bool.false_eq_true, if_false]
    | refine PySem.W.KFB.if_not hsame ?_
    | (dsimp only
       rw [if_neg (by rw [hsame]; exact Bool.false_ne_true)])
  refine wpAny_bind (m := Builtin.List.listAllItems (.ref b) "must assign iterable to extended slice") ?_
  unfold Builtin.List.listAllItems
  refine wpAny_bind (wpAny_typeOf hb.typeIs ?_)
  first
    | refine PySem.W.KFB.if_so (by decide) ?_
    | rw [if_pos (by decide)]
    | simp only [beq_self_eq_true, Bool.true_or, if_true]
  unfold Builtin.List.listItems
  refine wpAny_bind (wpAny_seqItems e2 rfl (wpAny_pure ?_))
  refine wpAny_bind (wpAny_bind (wpAny_seqItems e rfl (wpAny_pure ?_)))
  refine wpAny_bind (wpAny_of_eq ((sliceIndices_raw (some (a : Int)) (some (c : Int)) none items.size (by simp)).trans (congrArg (pure : Int × Int × Int → Sem (Int × Int × Int)) (bounds_run hac hc))) ?_)
  show wpAny _ _ (if ((1 : Int) == 1) = true then _ else _) _ _ s
  rw [if_pos (by decide)]
  refine wpAny_bind (wpAny_rule ?_)
  first
    | simp only [notLongL hsz, Bool.false_eq_true, if_false]
    | refine PySem.W.KFB.if_not (notLongL hsz) ?_
  first | refine wpAny_bind (wpAny_pure ?_) | skip
  show wpAny _ _ (updateSeq l (fun xs => xs.extract 0 ((a : Int)).toNat ++ new ++ xs.extract (max (a : Int) (c : Int)).toNat xs.size) >>= _) _ _ s
  rw [hmax, Int.toNat_natCast]
  refine wpAny_bind (wpAny_updateSeq (hz := Nat.le_trans (Nat.le_add_right _ _) hsz) (_hz' := hz') e rfl ?_)
  refine wpAny_bind (wpAny_letGo ?_)
  first
    | exact wpAny_bind (wpAny_pure (wpAny_pure ⟨.none, rfl, wpAny_pure h⟩))
    | exact wpAny_pure ⟨.none, rfl, wpAny_pure h⟩
end

section
variable {X : Cx}
/-- xs[a:c] = ys of another list, at the value level: sl is the slice object that was just made -/
theorem set_slice {pins : List (Addr × Obj)} {s : Shared} {σ : St} {H : Hp} {l b sl : Addr} {xs ys : List V} {a c : Int} {vl vu : Value} {Q : Unit → Shared → Prop} (I : Inv X pins σ H s)
    (hH : H l = some (.lst xs)) (hB : H b = some (.lst ys)) (hne : l ≠ b) (hs : s.heap.IsSliceOf sl vl vu .none) (ra : RelV (.int a) vl) (rc : RelV (.int c) vu) (h0 : 0 ≤ a) (hac : a ≤ c) (hc : c ≤ xs.length)
    (hz : xs.length + ys.length ≤ sizeLine) (h : ∀ s', Inv X pins σ (upd H l (.lst (xs.take a.toNat ++ ys ++ xs.drop c.toNat))) s' → Q () s') :
    wpAny (model X.prog X.w) X.A (setItem (.ref l) (.ref sl) (.ref b)) Q X.xe s := by
  obtain ⟨ta, rfl⟩ := ra
  obtain ⟨tc, rfl⟩ := rc
  obtain ⟨z, its, n, r, hl, e⟩ := I.lstM hH
  obtain ⟨z2, its2, n2, r2, hl2, e2⟩ := I.lstM hB
  obtain ⟨a', rfl⟩ := Int.eq_ofNat_of_zero_le h0
  obtain ⟨c', rfl⟩ := Int.eq_ofNat_of_zero_le (Int.le_trans h0 hac)
  simp only [Int.toNat_natCast] at h
  refine setItem_slice (a := a') (c := c') e e2 hne hs (.int _ _) (.int _ _) (by omega) (by rw [List.size_toArray]; omega) (by rw [List.size_toArray, List.size_toArray]; omega) (h _ ?_)
  refine I.lset (its' := its.take a' ++ its2 ++ its.drop c') (t' := s.toks) hH e ?_ (Vals.append (Vals.append (r.take _) r2) (r.drop _)) ?_
  · exact splice_eq its its2 a' c'
  · rw [List.length_append, List.length_append, List.length_take, List.length_drop]
    omega
end
end L2

namespace Att
open PySem PySem.W PySem.Calls PyProof.Rows

/-! ### the script -/
theorem ints_of_wellAll {P : Params} {h : Heap} : ∀ (ns : List Int) (vs : List Value), WellAll P h vs (ns.map WData.int) → IntsAre vs ns := by
  intro ns
  induction ns with
  | nil =>
    intro vs w
    rw [List.map_nil] at w
    cases w
    exact .nil
  | cons n ns ih =>
    intro vs w
    rw [List.map_cons] at w
    cases w with
    | cons a b =>
      cases a
      exact .cons _ _ (ih _ b)

theorem script_of {l : OpenLaw} {n : Nat} (hn : l.most = some n) {P : Params} {h : Heap} {args : List WData} {vals : List Value}
    (hpre : l.row.toRowW.claim.pre args = true) (hwl : WellAll P h vals args) :
    ∃ a vs ns, vals = [Value.ref a] ∧ args = [WData.list (ns.map WData.int)] ∧ h.get? a = some { cls := .type "list", data := .seq vs.toArray } ∧ IntsAre vs ns ∧ ns.length ≤ n := by
  have hsh : WShape.hasAll [] args [.list .int] = true := (pre_splitW hpre).1
  have hc : l.pre.holds [] { args := args } = true := (pre_splitW hpre).2
  obtain ⟨d, r, rfl, h1, h2⟩ := hasAllW_cons hsh
  obtain rfl := hasAllW_nil h2
  obtain ⟨xs, rfl, h3⟩ := hasW_list h1
  obtain ⟨ns, rfl⟩ := items_int h3
  have hlen : ns.length ≤ n := by
    unfold OpenLaw.pre at hc
    have h4 : (WTm.not (.lt (.lit (.int (n : Int))) (.len (.arg 0)))).holds [] { args := [.list (ns.map .int)] } = true := by
      have h4 := (holds_andW hc).1
      rw [hn] at h4
      exact h4
    have h5 := condW_of h4 (w_not (w_lt w_lit (w_len_list (w_arg rfl))))
    rw [List.length_map] at h5
    refine Nat.le_of_not_lt fun q => ?_
    have q' : (n : Int) < ((ns.length : Nat) : Int) := by omega
    first
      | (rw [decide_eq_true q'] at h5; exact absurd h5 (by decide))
      | (simp at h5; omega)
  cases hwl with
  | cons w1 w2 =>
    cases w2
    cases w1 with
    | list ho hall => exact ⟨_, _, ns, rfl, rfl, ho, ints_of_wellAll ns _ hall, hlen⟩

theorem post_true (l : OpenLaw) (args : List WData) : l.row.toRowW.claim.post args (.bool true) args = true :=
  postW_of (r := l.row.toRowW) (X := (true == true))
    (show WShape.has [] (.bool true) .bool = true by first | rfl | decide | simp [WShape.has, WShape.arms, WShape.armsAll])
    (show (WTm.eq .res (.lit (.bool true))).value [] { args := args, res := some (.bool true), after := args } = some (.bool (true == true)) from w_eq_bool (w_res rfl) w_lit) rfl

/-! ### the attachment: holds_open's last premise (the goal 'hc' behind k_head) from a wpAny of the law's body -/
theorem attach {l : OpenLaw} {n : Nat} {q : Program} {loose : List Str} {XP : (Str → Option Value) → Heap → Prop} {YP : World → Heap → Prop} {d : DefRec} {x : Str}
    (hn : l.most = some n) (hdf : d.params.defaults = [])
    (hbind : ∀ pm cd doc v : Value, bindArgs (docDef d.name d.params d.body d.scope pm cd doc) ⟨[v], []⟩ = pure [(x, v)])
    (hx : d.scope.names.lookup x = some .local ∨ d.scope.names.lookup x = some .cell)
    (hk : d.scope.kind = .function) (hco : d.scope.isCoroutine = false) (hgen : d.scope.isGenerator = false)
    (body : ∀ (w : World) (s₀ s₁ s : Shared) (mg mb : Str → Option Value) (fa : Addr) (o : Obj) (pm cd doc : Value) (a : Addr) (vs : List Value) (ns : List Int),
      Ground q loose [] XP w s₀ mg mb s₁.heap → YP w s₁.heap →
      s₁.heap.get? fa = some o → o.data = .func (docDef d.name d.params d.body d.scope pm cd doc) → s₁.heap.CodeRec cd d.name → mg d.name = some (.ref fa) →
      s₁.heap.get? a = some { cls := .type "list", data := .seq vs.toArray } → IntsAre vs ns → ns.length ≤ n →
      s.gens = #[] → s.os = s₁.os →
      Fr s₁.heap s₁.heap.objs.size s.heap (bindL (envOfC d.name d.scope s₁.heap.objs.size fa cd).kindOf [(x, .ref a)] fun _ => none) →
      Cl s₁.heap.objs.size (cellsFrom (s₁.heap.objs.size + 1) d.scope.names []) s.heap (bindC (envOfC d.name d.scope s₁.heap.objs.size fa cd).kindOf [(x, .ref a)] fun _ => none) →
      wpAny (model l.prog w) (callerA.deeper (envOfC d.name d.scope s₁.heap.objs.size fa cd)) (execs d.body (envOfC d.name d.scope s₁.heap.objs.size fa cd))
        (fun f s' => f = .ret (.bool true) ∧ OldK s₁.heap s'.heap ∧ s'.os = s₁.os ∧ AllBare s'.gens) (fun _ _ => False) s) :
    WalkO q loose XP YP l.row.toRowW d [] (fun f vs => PySem.call f vs) := by
  intro w s₀ s₁ mg mb G Y fa o pm cd doc dV kV ho hd hcd hD hmg hg args vals as hpre hlay hrd hwl hlo
  obtain rfl : dV = .none := Dflts.none hD hdf
  obtain rfl : kV = .none := Dflts.noKw hD
  obtain ⟨a, vs, ns, rfl, rfl, hobj, hints, hlen⟩ := script_of hn hpre hwl
  refine enter_call ?_
  refine call_cells_ret (o := o) (by rw [depth_caller]; decide) ho (fd_plain hd) G.T.nolimit hcd (hbind pm cd doc (.ref a)) (fun y hy => ?_) (fun h₁ tk F X => ?_) hco hgen hk
  · obtain rfl : y = (x, Value.ref a) := List.mem_singleton.mp hy
    rcases hx with e | e
    · exact .inl e
    · exact .inr ⟨e, cellsFrom_some _ _ _ (.inl e)⟩
  · refine wpAny_mono (body w s₀ s₁ { s₁ with heap := h₁, toks := tk } mg mb fa o pm cd doc a vs ns G Y ho (fd_plain hd) hcd hmg hobj hints hlen hg rfl F X) (fun f s' hq => ?_) (fun _ _ hq => hq)
    obtain ⟨rfl, h2, h3, h4⟩ := hq
    exact ⟨.inl ⟨.bool true, .bool true, [], rfl, fun _ => rfl, .bool true, post_true l _, fun _ => ⟨List.Pairwise.nil, fun _ hm => (nomatch hm)⟩⟩, h2, h3, h4⟩

/-- the same from a codeAny of the CALL (for a layer whose function contracts speak of calls) -/
theorem attach_call {l : OpenLaw} {n : Nat} {q : Program} {loose : List Str} {XP : (Str → Option Value) → Heap → Prop} {YP : World → Heap → Prop} {d : DefRec}
    (hn : l.most = some n) (hdf : d.params.defaults = [])
    (call : ∀ (w : World) (s₀ s₁ : Shared) (mg mb : Str → Option Value) (fa : Addr) (o : Obj) (pm cd doc : Value) (a : Addr) (vs : List Value) (ns : List Int),
      Ground q loose [] XP w s₀ mg mb s₁.heap → YP w s₁.heap →
      s₁.heap.get? fa = some o → o.data = .func (docDef d.name d.params d.body d.scope pm cd doc) → s₁.heap.CodeRec cd d.name → mg d.name = some (.ref fa) →
      s₁.heap.get? a = some { cls := .type "list", data := .seq vs.toArray } → IntsAre vs ns → ns.length ≤ n → s₁.gens = #[] →
      codeAny (model l.prog w) callerA (.call (.ref fa) ⟨[.ref a], []⟩) (fun r s' => r = .ok (.ret (.bool true)) ∧ OldK s₁.heap s'.heap ∧ s'.os = s₁.os ∧ AllBare s'.gens) s₁) :
    WalkO q loose XP YP l.row.toRowW d [] (fun f vs => PySem.call f vs) := by
  intro w s₀ s₁ mg mb G Y fa o pm cd doc dV kV ho hd hcd hD hmg hg args vals as hpre hlay hrd hwl hlo
  obtain rfl : dV = .none := Dflts.none hD hdf
  obtain rfl : kV = .none := Dflts.noKw hD
  obtain ⟨a, vs, ns, rfl, rfl, hobj, hints, hlen⟩ := script_of hn hpre hwl
  refine enter_call (codeAny_mono (call w s₀ s₁ mg mb fa o pm cd doc a vs ns G Y ho (fd_plain hd) hcd hmg hobj hints hlen hg) fun r s' hq => ?_)
  obtain ⟨rfl, h2, h3, h4⟩ := hq
  exact ⟨.inl ⟨.bool true, .bool true, [], rfl, fun _ => rfl, .bool true, post_true l _, fun _ => ⟨List.Pairwise.nil, fun _ hm => (nomatch hm)⟩⟩, h2, h3, h4⟩

/-- the same where the top left finished generators (o_head chose holds_openN): nothing may have changed at all and no generator may be left -/
theorem attachN {l : OpenLaw} {n : Nat} {q : Program} {loose : List Str} {XP : (Str → Option Value) → Heap → Prop} {YP : World → Heap → Prop} {d : DefRec} {x : Str}
    (hn : l.most = some n) (hdf : d.params.defaults = [])
    (hbind : ∀ pm cd doc v : Value, bindArgs (docDef d.name d.params d.body d.scope pm cd doc) ⟨[v], []⟩ = pure [(x, v)])
    (hx : d.scope.names.lookup x = some .local ∨ d.scope.names.lookup x = some .cell)
    (hk : d.scope.kind = .function) (hco : d.scope.isCoroutine = false) (hgen : d.scope.isGenerator = false)
    (body : ∀ (w : World) (s₀ s₁ s : Shared) (mg mb : Str → Option Value) (fa : Addr) (o : Obj) (pm cd doc : Value) (a : Addr) (vs : List Value) (ns : List Int),
      Ground q loose [] XP w s₀ mg mb s₁.heap → YP w s₁.heap →
      s₁.heap.get? fa = some o → o.data = .func (docDef d.name d.params d.body d.scope pm cd doc) → s₁.heap.CodeRec cd d.name → mg d.name = some (.ref fa) →
      s₁.heap.get? a = some { cls := .type "list", data := .seq vs.toArray } → IntsAre vs ns → ns.length ≤ n →
      s.gens = #[] → s.os = s₁.os →
      Fr s₁.heap s₁.heap.objs.size s.heap (bindL (envOfC d.name d.scope s₁.heap.objs.size fa cd).kindOf [(x, .ref a)] fun _ => none) →
      Cl s₁.heap.objs.size (cellsFrom (s₁.heap.objs.size + 1) d.scope.names []) s.heap (bindC (envOfC d.name d.scope s₁.heap.objs.size fa cd).kindOf [(x, .ref a)] fun _ => none) →
      wpAny (model l.prog w) (callerA.deeper (envOfC d.name d.scope s₁.heap.objs.size fa cd)) (execs d.body (envOfC d.name d.scope s₁.heap.objs.size fa cd))
        (fun f s' => f = .ret (.bool true) ∧ (∀ b o, s₁.heap.get? b = some o → s'.heap.get? b = some o) ∧ s'.os = s₁.os ∧ s'.gens = #[]) (fun _ _ => False) s) :
    WalkN q loose XP YP l.row.toRowW d [] (fun f vs => PySem.call f vs) := by
  intro w s₀ s₁ mg mb G Y fa o pm cd doc dV kV ho hd hcd hD hmg hg args vals as hpre hlay hrd hwl hlo
  obtain rfl : dV = .none := Dflts.none hD hdf
  obtain rfl : kV = .none := Dflts.noKw hD
  obtain ⟨a, vs, ns, rfl, rfl, hobj, hints, hlen⟩ := script_of hn hpre hwl
  refine enter_callW ?_
  refine call_cells_ret (o := o) (by rw [depth_caller]; decide) ho (fd_plain hd) G.T.nolimit hcd (hbind pm cd doc (.ref a)) (fun y hy => ?_) (fun h₁ tk F X => ?_) hco hgen hk
  · obtain rfl : y = (x, Value.ref a) := List.mem_singleton.mp hy
    rcases hx with e | e
    · exact .inl e
    · exact .inr ⟨e, cellsFrom_some _ _ _ (.inl e)⟩
  · refine wpAny_mono (body w s₀ s₁ { s₁ with heap := h₁, toks := tk } mg mb fa o pm cd doc a vs ns G Y ho (fd_plain hd) hcd hmg hobj hints hlen hg rfl F X) (fun f s' hq => ?_) (fun _ _ hq => hq)
    obtain ⟨rfl, h2, h3, h4⟩ := hq
    exact ⟨.inl ⟨.bool true, .bool true, [], rfl, fun _ => rfl, .bool true, post_true l _, fun _ => ⟨List.Pairwise.nil, fun _ hm => (nomatch hm)⟩⟩, h2, h3, h4⟩

/-! ### rules over ANY heap (no ledger) from facts about the written part K: the library's own take a ledger (News) for what they write -/
section
variable {prog : Program} {w : World} {A : Around} {E : Value → Shared → Prop} {s : Shared} {K : Frag}

/-- a def of the module, or a method (qual 'C.m'), entered: the frame is the next address; cells behind it -/
theorem call_fn {R : Result → Shared → Prop} {name qual : Str} {params : Arguments} {body : List Stmt} {scope : Scope} {dV kV doc pm cdv ct oc : Value} {an od : Option Addr} {osl : Array (Option Value)} {f : Addr} {args : Args} {binds : List (Str × Value)}
    (X : K.In s.heap) (hlim : s.heap.NoLimit) (ho : K.lookup f = some ⟨oc, od, .func (fnOf name qual params body scope dV kV doc pm an cdv ct), osl⟩) (hcd : codeIn K cdv qual = true) (hroom : A.depth < recursionLimit)
    (hbind : BindsTo s (fnOf name qual params body scope dV kV doc pm an cdv ct) args binds)
    (hkind : (binds.all fun y => scope.names.lookup y.1 == some .local || scope.names.lookup y.1 == some .cell) = true)
    (h : ∀ s₁, InCallC s s.heap.objs.size (bindL (envOfC qual scope s.heap.objs.size f cdv).kindOf binds fun _ => none) (cellsFrom (s.heap.objs.size + 1) scope.names [])
        (bindC (envOfC qual scope s.heap.objs.size f cdv).kindOf binds fun _ => none) s₁ →
      wpAny (model prog w) (A.deeper (envOfC qual scope s.heap.objs.size f cdv)) (execs body (envOfC qual scope s.heap.objs.size f cdv))
        (fun fl s' => R (.ok (.ret (match fl with | .ret v => v | _ => .none))) s')
        (fun e s' => wpAny (model prog w) (A.deeper (envOfC qual scope s.heap.objs.size f cdv)) (leaving (envOfC qual scope s.heap.objs.size f cdv) e) (fun _ s'' => R (.error e) s'') (fun e' s'' => R (.error e') s'') s') s₁)
    (hco : scope.isCoroutine = false) (hgen : scope.isGenerator = false) (hk : scope.kind = .function) : codeAny (model prog w) A (.call (.ref f) args) R s := by
  refine codeAny_call_function hroom (X _ _ ho) rfl hco hgen rfl (codeRec_of X hcd) (hbind _ _ _ _ ?_)
  refine wpAny_newFunctionEnv_cells hk (kindsX hkind _) fun env he s₁ x => ?_
  subst he
  exact ⟨hlim.keeps x.toInCall.keep, codeAny_func (h s₁ x)⟩

/-- C(..): dict at size, instance at size + 1, then __init__ -/
theorem make_obj {R : Result → Shared → Prop} {C fI : Addr} {rest : List Value} {kw : List (Str × Value)}
    (X : K.In s.heap) (hm : makesIn K C = true) (hi : findIn K (.ref C) "__init__" = some (some (.ref fI))) (hf : isFn K (.ref fI) = true)
    (h : codeAny (model prog w) (A.under (.builtin "type.__call__" ⟨.ref C :: rest, kw⟩)) (.call (.ref fI) ⟨.ref (s.heap.objs.size + 1) :: rest, kw⟩) (InitBack (s.heap.objs.size + 1) R)
      { s with heap := (s.heap.push emptyDict).push (instObj C s.heap.objs.size) }) : codeAny (model prog w) A (.call (.ref C) ⟨rest, kw⟩) R s := by
  obtain ⟨hh, g, d, t, os⟩ := s
  exact make_core (makes_of X hm) (looks_findIn X hi) (fun self => bind_fn X self (beq_iff_eq.mp hf)) (.inl rfl) h

/-- x.name where the instance's dict holds the name and the class does not -/
theorem get_field {x C : Addr} {ox : Obj} {es : List DictEntry} {n : Nat} {name : Str} {expr : Bool} {v : Value} {Q : Value → Shared → Prop}
    (X : K.In s.heap) (I : PySem.W.InstAt s.heap x ox C (some (dictOf es n))) (hg : plainGet K C name = true) (hh : hasDictIn K C = true) (ha : findIn K (.ref C) name = some none)
    (hl : getL name es = some (some v)) (hv : handedIn v = true) (h : Q v { s with toks := s.toks + 1 }) : wpAny (model prog w) A (getAttr (.ref x) name expr) Q E s :=
  get_value X I (plainGet_of hg).1 (findObj_own hh ha rfl hl) hv h

/-- x.m(..): the method found in the class -/
theorem get_method {x C f : Addr} {ox : Obj} {es : List DictEntry} {n : Nat} {name : Str} {pl : Sem Bool} {Q : Value × List Value → Shared → Prop}
    (X : K.In s.heap) (I : PySem.W.InstAt s.heap x ox C (some (dictOf es n))) (hg : plainGet K C name = true) (hf : findIn K (.ref C) name = some (some (.ref f))) (ht : isFn K (.ref f) = true)
    (hl : getL name es = some none) (h : Q (.ref f, [.ref x]) s) : wpAny (model prog w) A (getMethod (.ref x) name pl) Q E s :=
  method_fn X I (plainGet_of hg).1 (plainGet_of hg).2 hf (beq_iff_eq.mp ht) (by show (lookIn name (dictOf es n)).map _ = _; rw [lookIn_dict, hl]; rfl) h

/-! the whole heap as the ledger: makes every rule that writes through a ledger a rule over any heap -/
def noObjs (h : Heap) : Heap := { h with objs := #[] }
theorem noObjs_get (h : Heap) (b : Addr) : (noObjs h).get? b = none := by
  cases e : (noObjs h).get? b with
  | none => rfl
  | some o => exact absurd (Heap.lt_size e) (Nat.not_lt_zero _)
def ledger (h : Heap) (L d : Addr) : List (Addr × Obj) := (List.range h.objs.size).filterMap fun a => if a = L ∨ a = d then none else (h.get? a).map fun o => (a, o)
theorem mem_ledger {h : Heap} {L d a : Addr} {o : Obj} : (a, o) ∈ ledger h L d ↔ a ≠ L ∧ a ≠ d ∧ h.get? a = some o := by
  unfold ledger
  rw [List.mem_filterMap]
  constructor
  · rintro ⟨b, _, e⟩
    split at e
    · cases e
    · rename_i hb
      obtain ⟨o', ho, e'⟩ := Option.map_eq_some_iff.mp e
      cases e'
      exact ⟨fun q => hb (.inl q), fun q => hb (.inr q), ho⟩
  · rintro ⟨n1, n2, ho⟩
    refine ⟨a, List.mem_range.mpr (Heap.lt_size ho), ?_⟩
    rw [if_neg (show ¬ (a = L ∨ a = d) from fun q => q.elim n1 n2), ho] <;> rfl
theorem news_ledger {h : Heap} {L d : Addr} {od : Obj} (hne : d ≠ L) (ho : h.get? d = some od) : News (noObjs h) L h ([] ++ (d, od) :: ledger h L d) := by
  rintro ⟨a, o⟩ hp
  rcases List.mem_cons.mp hp with e | hp
  · cases e
    exact ⟨ho, hne, noObjs_get _ _⟩
  · obtain ⟨n1, n2, e⟩ := mem_ledger.mp hp
    exact ⟨e, n1, noObjs_get _ _⟩
theorem fr_all {h : Heap} {L : Addr} {m : Str → Option Value} (n : h.Ns L m) : Fr (noObjs h) L h m :=
  ⟨n, fun b o e => (by rw [noObjs_get] at e; cases e), Nat.zero_le _⟩
/-- Upd of the head entry (for append_K, setItem_K ..) -/
theorem upd_ledger {h : Heap} {L d : Addr} {o o' : Obj} : Upd d o o' ((d, o) :: ledger h L d) ((d, o') :: ledger h L d) :=
  .head fun ⟨_, _⟩ hp => (mem_ledger.mp hp).2.1

/-- x.name = v over any heap: L is any namespace of the heap (the frame's, say): its map stays, its object is not told; all else but the dict stays -/
theorem set_field {x C dx L : Addr} {ox : Obj} {m : Str → Option Value} {es es' : List DictEntry} {n n' : Nat} {name : Str} {v : Value} {Q : Unit → Shared → Prop}
    (X : K.In s.heap) (I : PySem.W.InstAt s.heap x ox C (some (dictOf es n))) (hd : ox.dict = some dx) (hL : s.heap.Ns L m) (hne : dx ≠ L)
    (hs : findIn K (.ref C) "__setattr__" = some (some (.builtin "object.__setattr__"))) (hp : plainOver K C = true) (ht : takerIn K C name = some none) (hh : hasDictIn K C = true) (hl : (getL name es).isSome = true)
    (e : (putL name (PyData.keyHash w.params name) (.str name (s.toks + 1)) v es, putN name es n) = (es', n')) (hz : es'.length ≤ 1000)
    (h : ∀ h' : Heap, h'.Ns L m → h'.get? dx = some (dictOf es' n') → (∀ b o, b ≠ dx → b ≠ L → s.heap.get? b = some o → h'.get? b = some o) → Q () { s with heap := h', toks := s.toks + 2 }) :
    wpAny (model prog w) A (setAttr (.ref x) name v) Q E s := by
  obtain ⟨e1, e2⟩ := Prod.mk.inj e
  have hdx : s.heap.get? dx = some (dictOf es n) := by
    have := I.dict
    rw [hd] at this
    exact this
  refine set_plain X I hs (osa_dict (s := { s with toks := s.toks + 1 }) (h₀ := noObjs s.heap) (L := L) (m := m) (od := dictOf es n) (od' := dictOf es' n') (es := es') (n := n') (pre := []) (post := ledger s.heap L dx)
    (fr_all hL) (news_ledger hne hdx) X I hd hp ht hh hl (fun _ q => nomatch q) (fun ⟨_, _⟩ q => (mem_ledger.mp q).2.1) (by rw [putName_dict, e1, e2]) rfl hz fun h' F' N' => ?_)
  exact h h' F'.ns (N'.get (List.Mem.head _)) fun b o n1 n2 ho => N'.get (List.Mem.tail _ (mem_ledger.mpr ⟨n2, n1, ho⟩))
end
end Att

namespace L2
open PySem PySem.Spec PyProof.Rows

theorem vals_ints : ∀ {vs : List Value} {ns : List Int}, IntsAre vs ns → Vals (ns.map V.int) vs
  | _, _, .nil => .nil
  | _, _, .cons n t h => .cons ⟨t, rfl⟩ (vals_ints h)

/-- nothing is tracked but the script, known to the object (or it is an object of the module) -/
def Only (H : Hp) : Prop := ∀ b, H b = none ∨ ∃ o xs, H b = some (.frz o (.lst xs))

/-- THE HEAD: the law's promise, at the heap behind the top. F, the promise of the law's def, may use that base is part of the heap (so K.In base, base.Ns mainGlobals mg stand in Mod) -/
theorem law_call {P : Program} {w : World} {K : PySem.W.Frag} {mg mb : Str → Option Value} {CX : CXT} {k : Nat} {fa a : Addr} {fd : FuncData} {x : Str} {sp : Sp} {s₁ : Shared} {vs : List Value} {ns : List Int}
    (KX : K.In s₁.heap) (hns : s₁.heap.Ns mainGlobals mg) (hb : s₁.heap.Ns builtinsNs mb) (hbb : ∀ x : Str, x ≠ "__name__" → mb x = bootBuiltins x) (hlim : s₁.heap.NoLimit) (hg : s₁.gens = #[])
    (ha : s₁.heap.get? a = some { cls := .type "list", data := .seq vs.toArray }) (hi : IntsAre vs ns) (hl : ns.length ≤ sizeLine) (hr : Room k callerA)
    (F : ∀ base : Heap, K.In base → base.Ns mainGlobals mg → FnOk P w K mg base CX k fa fd [x] sp) (hbind : ∀ (s : Shared) (u : Value), BindsTo s fd ⟨[u], []⟩ [(x, u)])
    (hsp : ∀ H : Hp, Only H → SqL K H a (ns.map V.int) → sp [.ref a] H (fun v _ => v = .bl true) fun _ _ _ => False)
    (hCX : ∀ H e s', CX [] H s₁ (fun _ _ _ => False) e s' → False) :
    codeAny (model P w) callerA (.call (.ref fa) ⟨[.ref a], []⟩) (fun r s' => r = .ok (.ret (.bool true)) ∧ OldK s₁.heap s'.heap ∧ s'.os = s₁.os ∧ AllBare s'.gens) s₁ := by
  have rv := vals_ints hi
  have lenV := hi.length
  -- from an abstract heap in which nothing but the script may be tracked
  have core : ∀ H : Hp, Only H → SqL K H a (ns.map V.int) → HOk P w H s₁.heap → (∀ b, H b ≠ none → b = a) → (H a ≠ none → K.lookup a = none) →
      codeAny (model P w) callerA (.call (.ref fa) ⟨[.ref a], []⟩) (fun r s' => r = .ok (.ret (.bool true)) ∧ OldK s₁.heap s'.heap ∧ s'.os = s₁.os ∧ AllBare s'.gens) s₁ := by
    intro H hO hS hok hA hK
    have base_of : ∀ {b : Addr} {o : Obj}, s₁.heap.get? b = some o → H b = none → (hidT s₁.heap H).get? b = some o := fun e n => hidT_get e n
    have noA : ∀ {b : Addr} {o : Obj} {es : Array DictEntry} {ep : Nat}, s₁.heap.get? b = some o → o.data = .dict es ep → H b = none := fun {b o es ep} e d => by
      cases q : H b with
      | none => rfl
      | some u =>
        have e' : b = a := hA b (by rw [q]; simp)
        subst e'
        rw [ha] at e; cases e
        have d' : Data.seq vs.toArray _ = Data.dict es ep := d
        cases d'
    have nsK : ∀ {b : Addr} {m : Str → Option Value}, s₁.heap.Ns b m → (hidT s₁.heap H).Ns b m := fun {b m} ⟨o, es, ep, e, d, r⟩ => ⟨o, es, ep, base_of e (noA e d), d, r⟩
    have hKb : K.In (hidT s₁.heap H) := fun b o e => base_of (KX b o e) (by
      cases q : H b with
      | none => rfl
      | some u =>
        have e' : b = a := hA b (by rw [q]; simp)
        subst e'
        rw [hK (by rw [q]; simp)] at e; cases e)
    have hM : Mod K mg (hidT s₁.heap H) := ⟨hKb, nsK hns, ⟨mb, nsK hb, hbb⟩, let ⟨mc, h1, h2⟩ := hlim; ⟨mc, nsK h1, h2⟩⟩
    have e0 : Env0 P w K mg (hidT s₁.heap H) callerA [] s₁ H := ⟨rfl, hM, fun b o e => of_hidT e, Nat.le_of_eq (hidT_size _ _), trivial, fun b hb => absurd (show b ∈ ([] : List Addr) from hb) (by simp), hok, .of_eq hg⟩
    refine codeAny_mono ((F _ hKb (nsK hns)).run callerA [] s₁ H ⟨[.ref a], []⟩ [.ref a] [.ref a] _ _ hr e0 (hbind s₁ (.ref a)) (.cons rfl .nil) (hsp H hO hS)) fun r s' h => ?_
    cases r with
    | error e => exact (hCX H e s' h).elim
    | ok fl =>
      cases fl with
      | next => exact False.elim h
      | brk => exact False.elim h
      | cont => exact False.elim h
      | ret u =>
        obtain ⟨v, H', os, bare, un, hok', r', q⟩ := h
        have q' : v = .bl true := q
        subst q'
        obtain rfl : u = Value.bool true := r'
        refine ⟨rfl, OldK.of_keep fun b o e => ?_, os, bare⟩
        cases q : H b with
        | none => exact un.keep b o e q (by intro z; exact absurd (show b ∈ ([] : List Addr) from z) (by simp)) (by simp)
        | some u =>
          rcases hO b with z | ⟨ob, xs, z⟩
          · rw [q] at z; cases z
          · have z2 := un.frzs b ob _ z
            obtain ⟨e1, _⟩ := hok b _ z
            obtain ⟨e2, _⟩ := hok' b _ z2
            rw [e] at e1; cases e1
            exact e2
  cases hk : K.lookup a with
  | some o =>
    -- the script is one of the module's own objects
    have e := KX a o hk
    rw [ha] at e
    cases e
    refine core (fun _ => none) (fun _ => .inl rfl) (.inr ⟨_, vs.toArray, _, hk, rfl, rfl, rfl, by rw [List.size_toArray, lenV]; exact hl, by simpa using rv⟩) (fun b u z => by have z' : (none : Option HO) = some u := z; cases z') (fun b z => absurd rfl z) fun z => absurd rfl z
  | none =>
    refine core (fun b => if b = a then some (.frz { cls := .type "list", data := .seq vs.toArray } (.lst (ns.map V.int))) else none) (fun b => ?_) (.inl (.inr ⟨{ cls := .type "list", data := .seq vs.toArray }, if_pos rfl⟩)) (fun b u z => ?_) (fun b z => ?_) fun _ => hk
    · by_cases hb : b = a
      · exact .inr ⟨_, _, if_pos hb⟩
      · exact .inl (if_neg hb)
    · by_cases hb : b = a
      · have z' := (if_pos hb).symm.trans z
        cases z'
        subst hb
        exact ⟨ha, by rw [List.length_map]; exact hl, vs, _, rv, ha⟩
      · have z' := (if_neg hb).symm.trans z
        cases z'
    · by_cases hb : b = a
      · exact hb
      · exact absurd (if_neg hb) z
end L2

namespace L2
open PySem PySem.Spec PyProof.Rows

abbrev KOf {K : PySem.W.Frag} {h : Heap} (_ : K.In h) : PySem.W.Frag := K

/-- the goal that k_head leaves (case hc), from the law's promise. F gives the function object fd (K's own) once, then the promise over every base -/
theorem walk_of {l : PySem.W.OpenLaw} {n k : Nat} {q : Program} {loose : List Str} {XP : (Str → Option Value) → Heap → Prop} {YP : World → Heap → Prop} {d : DefRec} {K : Params → PySem.W.Frag} {CX : World → CXT} {sp : World → Sp} {x : Str}
    (hn : l.most = some n) (hn2 : n ≤ sizeLine) (hdf : d.params.defaults = []) (hr : Room k callerA)
    (hY : ∀ (w : World) (h : Heap), YP w h → (K w.params).In h)
    (F : ∀ (w : World) (mg : Str → Option Value) (fa : Addr) (h : Heap), (K w.params).In h → h.Ns mainGlobals mg → mg d.name = some (.ref fa) →
      ∃ fd : FuncData, (∀ (s : Shared) (u : Value), BindsTo s fd ⟨[u], []⟩ [(x, u)]) ∧
        ∀ base : Heap, (K w.params).In base → base.Ns mainGlobals mg → FnOk l.prog w (K w.params) mg base (CX w) k fa fd [x] (sp w))
    (hsp : ∀ (w : World) (H : Hp) (a : Addr) (ns : List Int), ns.length ≤ n → Only H → SqL (K w.params) H a (ns.map V.int) → sp w [.ref a] H (fun v _ => v = .bl true) fun _ _ _ => False)
    (hCX : ∀ (w : World) (H : Hp) (s : Shared) (e : Value) (s' : Shared), CX w [] H s (fun _ _ _ => False) e s' → False) :
    PySem.W.WalkO q loose XP YP l.row.toRowW d [] (fun f vs => PySem.call f vs) := by
  refine Att.attach_call hn hdf fun w s₀ s₁ mg mb fa o pm cd doc a vs ns G Y ho hd hcd hmg hobj hints hlen hg => ?_
  have KX := hY w _ Y
  obtain ⟨fd, hb, hF⟩ := F w mg fa _ KX G.T.g hmg
  exact law_call KX G.T.g G.T.b G.T.builtins G.T.nolimit hg hobj hints (Nat.le_trans hlen hn2) hr hF hb (fun H hO hS => hsp w H a ns hlen hO hS) fun H e s' => hCX w H s₁ e s'
/-- the same where the promise hangs on the written part alone: (sp := My.sp_law), no hole under a binder -/
theorem walk_ofK {l : PySem.W.OpenLaw} {n k : Nat} {q : Program} {loose : List Str} {XP : (Str → Option Value) → Heap → Prop} {YP : World → Heap → Prop} {d : DefRec} {K : Params → PySem.W.Frag} {CX : CXT} {sp : PySem.W.Frag → Sp} {x : Str}
    (hn : l.most = some n) (hn2 : n ≤ sizeLine) (hdf : d.params.defaults = []) (hr : Room k callerA)
    (hY : ∀ (w : World) (h : Heap), YP w h → (K w.params).In h)
    (F : ∀ (w : World) (mg : Str → Option Value) (fa : Addr) (h : Heap), (K w.params).In h → h.Ns mainGlobals mg → mg d.name = some (.ref fa) →
      ∃ fd : FuncData, (∀ (s : Shared) (u : Value), BindsTo s fd ⟨[u], []⟩ [(x, u)]) ∧
        ∀ base : Heap, (K w.params).In base → base.Ns mainGlobals mg → FnOk l.prog w (K w.params) mg base CX k fa fd [x] (sp (K w.params)))
    (hsp : ∀ (K : PySem.W.Frag) (H : Hp) (a : Addr) (ns : List Int), ns.length ≤ n → Only H → SqL K H a (ns.map V.int) → sp K [.ref a] H (fun v _ => v = .bl true) fun _ _ _ => False)
    (hCX : ∀ (H : Hp) (s : Shared) (e : Value) (s' : Shared), CX [] H s (fun _ _ _ => False) e s' → False) :
    PySem.W.WalkO q loose XP YP l.row.toRowW d [] (fun f vs => PySem.call f vs) :=
  walk_of (K := K) (CX := fun _ => CX) (sp := fun w => sp (K w.params)) hn hn2 hdf hr hY F (fun w H a ns h1 h2 h3 => hsp (K w.params) H a ns h1 h2 h3) fun _ H s e s' => hCX H s e s'
end L2

/- THE LAST THEOREM (shape; LID, My.* are yours):
   My.Adr: a structure of the addresses that your layer names (classes, functions); My.Txt K t: a structure (Prop) of the equations over K;
   My.txt_mk : {K} {implicit addresses ..} (e1 : nsIn K mainGlobals "law" = some (some (.ref f))) (e2 : K.lookup f = some ⟨oc, od, .func (fnOf "law" "law" params body scope dV kV doc pm an cdv ct), sl⟩) (e3 : codeIn K cdv "law" = true) .. : ∃ t, My.Txt K t

set_option maxRecDepth 100000 in
set_option maxHeartbeats 0 in
theorem PySem.Challenge.cw_LID_holds : PySem.Challenge.rw_LID.Holds := by
  w_on; o_law; k_head; (case hw => w_witness2)
  k_fill
  refine L2.walk_of (l := PySem.Challenge.rw_LID) (n := 63) (k := 40) (x := "script") (CX := fun w => ..) (sp := fun _ => My.sp_law) rfl (by decide) rfl ⟨rfl, by decide, by decide⟩ (fun w h Y => PySem.W.kIn_of Y) ?F ?S ?C
  case F =>
    intro w mg fa h KX G hmg
    have T : ∃ t, My.Txt (L2.KOf KX) t := by
      dsimp only [L2.KOf]                          -- K must stand as «<heap const> w.params» for k_is
      refine' My.txt_mk ?e1 ?e2 ?e3 ..
      (case e1 => PySem.W.k_is)                    -- in the order: a name -> its address -> its object -> its parts
      (case e2 => PySem.W.k_is)
      ..
    obtain ⟨t, T⟩ := T
    have e0 := hmg.symm.trans (PySem.W.mg_of KX G T.law)
    cases e0                                       -- fa is the law's own address
    exact ⟨_, fun s u => .of_eq rfl, fun base kb nb => My.law_fn T kb nb⟩     -- if «.of_eq rfl» comes too early: refine' ⟨_, ?b, fun base kb nb => My.law_fn T kb nb⟩; exact fun s u => .of_eq rfl
  case S => exact fun w H a ns hl hO hS => ..
  case C => exact ..
(the tactic k_is has no namespace: write k_is) -/

/-! SHORT WORDS over the layer: a def of the text, its body, what a loop and a test want. -/
namespace L2
open PySem PySem.Spec PyProof.Rows

/-! ### the text by places -/
/-- the j-th statement of a class's body -/
def inClass (s : Stmt) (j : Nat) : Stmt := match s with
  | .ClassDef _ _ _ body _ _ _ _ _ _ _ => body.getD j (.Pass ⟨0, 0, 0, 0⟩)
  | _ => .Pass ⟨0, 0, 0, 0⟩
def defArgs (s : Stmt) : Arguments := match s with
  | .FunctionDef _ a _ _ _ _ _ _ _ _ => a
  | _ => { posonlyargs := [], args := [], vararg := none, kwonlyargs := [], kw_defaults := [], kwarg := none, defaults := [] }
def defBody (s : Stmt) : List Stmt := match s with
  | .FunctionDef _ _ b _ _ _ _ _ _ _ => b
  | _ => []
def defScope (s : Stmt) : Scope := match s with
  | .FunctionDef _ _ _ _ _ _ sc _ _ _ => sc
  | _ => { kind := .function, names := [], isGenerator := false, isCoroutine := false }

/-! ### no exception leaves a def -/
abbrev CX0 : CXT := fun _ _ _ _ _ _ => False
abbrev E0 : XK := fun _ _ _ => False
theorem pass0 {X : Cx} : Passes CX0 X E0 := fun _ _ _ _ _ _ _ h => h.elim

/-! ### a def (or method) of the text as it stands behind the top -/
structure Fun (K : PySem.W.Frag) (x qual : Str) (st : Stmt) (f : Addr) (fd : FuncData) : Prop where
  ex : ∃ (oc : Value) (od : Option Addr) (kV doc pm : Value) (an : Option Addr) (cdv ct : Value) (osl : Array (Option Value)),
    fd = PySem.W.fnOf x qual (defArgs st) (defBody st) (defScope st) .none kV doc pm an cdv ct ∧ K.lookup f = some ⟨oc, od, .func fd, osl⟩ ∧ PySem.W.codeIn K cdv qual = true
  kp : PySem.W.keepIn K (.ref f) = true
section
variable {P : Program} {w : World} {K : PySem.W.Frag} {mg : Str → Option Value} {base : Heap}
/-- THE RULE for a def: its body as a term of rules, and the reading of that term -/
theorem Fun.ok {x qual : Str} {st : Stmt} {f : Addr} {fd : FuncData} {N ps : List Str} {k : Nat} {sp : Sp} (F : Fun K x qual st f fd) (S : FnScope N ps (defScope st)) (len : ∀ vs H Q E, sp vs H Q E → vs.length = ps.length)
    (hbody : ∀ (cdv : Value) (A : Around) (outer : List Env) (s : Shared) (H : Hp) (vs : List V) (Q : VK) (E : XK), Room k (A.deeper (envOfC qual (defScope st) s.heap.objs.size f cdv)) → sp vs H Q E →
      ∃ t, PSs (cxOf CX0 P w K mg base N qual (defScope st) f cdv A outer s H E).nox (defBody st) t ∧ t { nx := fun _ H' => Q .non H', rt := Q } (start N vs) H) : FnOk P w K mg base CX0 (k + 1) f fd ps sp := by
  obtain ⟨oc, od, kV, doc, pm, an, cdv, ct, osl, rfl, lk, hcd⟩ := F.ex
  refine fn_of lk hcd S len fun A outer s H vs Q E hr hsp => ?_
  obtain ⟨t, h, q⟩ := hbody cdv A outer s H vs Q E hr hsp
  exact ⟨t, h.nox, q⟩
/-- how its arguments bind (no defaults): h is «fun _ _ _ _ _ _ us hl => match us, hl with | [_, _], _ => rfl», one _ a parameter -/
theorem Fun.binds {x qual : Str} {st : Stmt} {f : Addr} {fd : FuncData} {ps : List Str} (F : Fun K x qual st f fd)
    (h : ∀ (kV doc pm : Value) (an : Option Addr) (cdv ct : Value) (us : List Value), us.length = ps.length → bindArgs (PySem.W.fnOf x qual (defArgs st) (defBody st) (defScope st) .none kV doc pm an cdv ct) ⟨us, []⟩ = pure (ps.zip us)) : Binds K fd ps [] := by
  obtain ⟨oc, od, kV, doc, pm, an, cdv, ct, osl, rfl, lk, hcd⟩ := F.ex
  exact .all (h kV doc pm an cdv ct)
theorem fun_mk {x qual : Str} {st : Stmt} {f : Addr} {oc : Value} {od an : Option Addr} {osl : Array (Option Value)} {kV doc pm cdv ct : Value} (l : K.lookup f = some ⟨oc, od, .func (PySem.W.fnOf x qual (defArgs st) (defBody st) (defScope st) .none kV doc pm an cdv ct), osl⟩)
    (c : PySem.W.codeIn K cdv qual = true) (k : PySem.W.keepIn K (.ref f) = true) : Fun K x qual st f (PySem.W.fnOf x qual (defArgs st) (defBody st) (defScope st) .none kV doc pm an cdv ct) := ⟨⟨oc, od, kV, doc, pm, an, cdv, ct, osl, rfl, l, c⟩, k⟩
end
theorem hu_of {A : Around} {k : Nat} (hr : Room k A) : A.units + 1 < cLine := Nat.lt_of_le_of_lt (Nat.add_le_add_left (by decide : 1 ≤ 64) _) hr.units
theorem small1000 {n : Nat} (h : n ≤ 1000) : n < sizeLine := Nat.lt_of_le_of_lt h (by decide)

/-! ### expressions in short: the name that stands in the i-th slot -/
section
variable {X : Cx}
theorem pv (i : Nat) {x : Str} {pos : Pos} (hN : X.N[i]? = some x := by rfl) (hv : Vis X.env.scope x := by first | exact Or.inl rfl | exact Or.inr (Or.inl rfl) | exact Or.inr (Or.inr rfl)) (hd : (x == ("__debug__" : Str)) = false := by decide)
    (hcd : (x == ("__classdict__" : Str)) = false := by decide) : PE X (.Name x pos) (tVar i) := pe_var hN hv hd hcd
end

/-! ### tests -/
theorem iteF {A B : Prop} (h : B) : if false = true then A else B := by
  rw [if_neg Bool.false_ne_true]
  exact h
theorem iteT {A B : Prop} (h : A) : if true = true then A else B := by
  rw [if_pos rfl]
  exact h
theorem ite2 {c A B : Prop} [Decidable c] (h1 : c → A) (h2 : ¬ c → B) : if c then A else B := by
  by_cases h : c
  · rw [if_pos h]
    exact h1 h
  · rw [if_neg h]
    exact h2 h
theorem iteNS {c A B : Prop} [Decidable c] (hc : c) (h : B) : if (!decide c) = true then A else B := by
  rw [decide_eq_true hc]
  exact iteF h

/-! ### heaps -/
/-- all that was tracked is as it was -/
def Same (H H' : Hp) : Prop := ∀ b o, H b = some o → H' b = some o
theorem Same.refl (H : Hp) : Same H H := fun _ _ h => h
theorem Same.trans {H H1 H2 : Hp} (a : Same H H1) (b : Same H1 H2) : Same H H2 := fun c o h => b c o (a c o h)
theorem Same.free {H H' : Hp} (e : Same H H') {l : Addr} (h : H' l = Option.none) : H l = Option.none := by
  cases q : H l with
  | none => rfl
  | some o =>
    rw [e l o q] at h
    cases h
theorem Same.seq {K : PySem.W.Frag} {H H' : Hp} {a : Addr} {xs : List V} (e : Same H H') (h : SqL K H a xs) : SqL K H' a xs := by
  rcases h with (h | ⟨o, h⟩) | h
  · exact .inl (.inl (e _ _ h))
  · exact .inl (.inr ⟨o, e _ _ h⟩)
  · exact .inr h

end L2

/-! ### own text: list comprehensions for the hand layer -/
namespace L2
open PySem PySem.Spec PyProof.Rows

/-- what of the two blocks' names a comprehension needs -/
structure CompOk (outer sc : Scope) (x : Str) : Prop where
  kind : sc.kind = .function
  names : ∀ y ∈ sc.names, y.2 = .local → sc.names.lookup y.1 = some .local
  own : sc.names.lookup x = some .local
  nocell : ∀ y ∈ sc.names, y.2 ≠ .cell
  free : ∀ y ∈ sc.names, y.2 = .free → outer.names.lookup y.1 = some .cell ∨ outer.names.lookup y.1 = some .free

theorem closure_go {env : Env} : ∀ (ns : List (Str × NameKind)) (cs : List (Str × Addr)), (∀ y ∈ ns, y.2 = .free → ∃ c, env.cells.lookup y.1 = some c) → (∀ x c, cs.lookup x = some c → env.cells.lookup x = some c) →
    ∃ cl : List (Str × Addr), (forIn ns cs fun (y : Str × NameKind) (r : List (Str × Addr)) => (match y with
        | (name, kind) => if (kind == NameKind.free) = true then do let a ← cellOf env name; pure (ForInStep.yield ((name, a) :: r)) else pure (ForInStep.yield r) : Sem (ForInStep (List (Str × Addr))))) = pure cl ∧
      (∀ x c, cl.lookup x = some c → env.cells.lookup x = some c) ∧ (∀ x, (x, NameKind.free) ∈ ns ∨ (∃ c, cs.lookup x = some c) → ∃ c, cl.lookup x = some c)
  | [], cs, _, h2 => ⟨cs, rfl, h2, fun x hx => hx.elim (fun z => nomatch z) id⟩
  | (n, k) :: r, cs, h1, h2 => by
    rw [List.forIn_cons]
    by_cases hk : (k == NameKind.free) = true
    · have hk' : k = .free := by simpa using hk
      obtain ⟨c, hc⟩ := h1 (n, k) List.mem_cons_self hk'
      have e : cellOf env n = pure c := by unfold cellOf; rw [hc]
      obtain ⟨cl, e1, e2, e3⟩ := closure_go r ((n, c) :: cs) (fun y hy => h1 y (List.mem_cons_of_mem _ hy)) (fun x d hx => by
        rw [List.lookup_cons] at hx
        cases hxn : x == n with
        | true =>
          rw [hxn] at hx
          cases hx
          have : x = n := by simpa using hxn
          rw [this]; exact hc
        | false => rw [hxn] at hx; exact h2 x d hx)
      refine ⟨cl, ?_, e2, fun x hx => e3 x ?_⟩
      · simp only [hk, if_true, e]
        exact e1
      · have hlk : ∀ d, cs.lookup x = some d → ∃ c', ((n, c) :: cs).lookup x = some c' := fun d hd => by
          rw [List.lookup_cons]
          cases x == n with
          | true => exact ⟨c, rfl⟩
          | false => exact ⟨d, hd⟩
        rcases hx with hx | ⟨d, hd⟩
        · rcases List.mem_cons.mp hx with z | z
          · cases z
            exact .inr ⟨c, by rw [List.lookup_cons]; simp⟩
          · exact .inl z
        · exact .inr (hlk d hd)
    · obtain ⟨cl, e1, e2, e3⟩ := closure_go r cs (fun y hy => h1 y (List.mem_cons_of_mem _ hy)) h2
      refine ⟨cl, ?_, e2, fun x hx => e3 x ?_⟩
      · simp only [hk, if_false]
        exact e1
      · rcases hx with hx | hx
        · rcases List.mem_cons.mp hx with z | z
          · cases z
            exact absurd (by decide) hk
          · exact .inl z
        · exact .inr hx
theorem closure_of {sc : Scope} {env : Env} (h : ∀ y ∈ sc.names, y.2 = .free → ∃ c, env.cells.lookup y.1 = some c) :
    ∃ cl, closureFor sc env = pure cl ∧ (∀ x c, cl.lookup x = some c → env.cells.lookup x = some c) ∧ (∀ x, sc.names.lookup x = some .free → ∃ c, cl.lookup x = some c) := by
  obtain ⟨cl, e1, e2, e3⟩ := closure_go (env := env) sc.names [] h (fun x c z => nomatch z)
  refine ⟨cl, ?_, e2, fun x hx => e3 x (.inl (PySem.mem_of_lookup hx))⟩
  unfold closureFor
  simp only [bind_pure]
  exact e1

theorem relabel_look {env : Env} : ∀ {ns : List (Str × NameKind)} {y : Str}, (∀ z ∈ ns, z.2 ≠ .cell) →
    ((ns.map fun (n, k) => if (k == NameKind.free && env.scope.kind == .function && env.kindOf n == some .cell) then (n, NameKind.cell) else (n, k)).lookup y = some .cell ∨
     (ns.map fun (n, k) => if (k == NameKind.free && env.scope.kind == .function && env.kindOf n == some .cell) then (n, NameKind.cell) else (n, k)).lookup y = some .free) → ns.lookup y = some .free
  | [], _, _, h => by simp at h
  | (n, k) :: r, y, hn, h => by
    have ih := @relabel_look env r y fun z hz => hn z (List.mem_cons_of_mem _ hz)
    have hk := hn (n, k) List.mem_cons_self
    rw [List.map_cons] at h
    dsimp only at h
    by_cases hc : (k == NameKind.free && env.scope.kind == .function && env.kindOf n == some .cell) = true
    · have kf : k = .free := by
        rw [Bool.and_eq_true, Bool.and_eq_true] at hc
        simpa using hc.1.1
      rw [if_pos hc] at h
      rw [List.lookup_cons]
      cases hy : y == n with
      | true => rw [kf]
      | false =>
        simp only [List.lookup_cons, hy] at h
        exact ih h
    · rw [if_neg hc] at h
      rw [List.lookup_cons]
      cases hy : y == n with
      | true =>
        simp only [List.lookup_cons, hy] at h
        rcases h with h | h
        · exact absurd (Option.some.inj h) hk
        · exact h
      | false =>
        simp only [List.lookup_cons, hy] at h
        exact ih h
theorem relabel_local {env : Env} : ∀ {ns : List (Str × NameKind)} {y : Str},
    (ns.map fun (n, k) => if (k == NameKind.free && env.scope.kind == .function && env.kindOf n == some .cell) then (n, NameKind.cell) else (n, k)).lookup y = some .local → ns.lookup y = some .local
  | [], _, h => by simp at h
  | (n, k) :: r, y, h => by
    have ih := @relabel_local env r y
    rw [List.map_cons] at h
    dsimp only at h
    by_cases hc : (k == NameKind.free && env.scope.kind == .function && env.kindOf n == some .cell) = true
    · rw [if_pos hc] at h
      rw [List.lookup_cons]
      cases hy : y == n with
      | true => simp only [List.lookup_cons, hy] at h; cases h
      | false =>
        simp only [List.lookup_cons, hy] at h
        exact ih h
    · rw [if_neg hc] at h
      rw [List.lookup_cons]
      cases hy : y == n with
      | true => simp only [List.lookup_cons, hy] at h; exact h
      | false =>
        simp only [List.lookup_cons, hy] at h
        exact ih h

/-- the names of a comprehension's block: its own name, then those around it -/
structure CompN (N' : List Str) (sc : Scope) (x : Str) : Prop where
  nd : N'.Nodup
  own : N'[0]? = some x
  tail : ∀ y ∈ N'.tail, sc.names.lookup y ≠ some .local

/-- the block of a comprehension -/
abbrev Cx.comp (X : Cx) (N' : List Str) (sc : Scope) (cl : List (Str × Addr)) (C : Addr) (s : Shared) (H : Hp) (fp : List Addr) : Cx :=
  { X with N := N', s₀ := s, H₀ := H, env := compEnvC sc cl C X.env, outer := X.stack, ex := fp, fn := fun _ => false, pn := [], xe := fun _ _ => False }

/-- the tests of a clause -/
def PF (X : Cx) (ifs : List Expr) (t : TT) : Prop :=
  ∀ (pins : List (Addr × Obj)) (s : Shared) (σ : St) (H : Hp) (Q : Bool → Hp → Prop), Inv X pins σ H s → t σ H Q →
    wpAny (model X.prog X.w) X.A (forIn ifs true fun c r => if r = true then do let ok ← isTrue c X.env (eval c X.env); pure (ForInStep.yield ok) else pure (ForInStep.yield r)) (TP X pins σ Q) X.xe s
def tYes : TT := fun _ H Q => Q true H
theorem pf_nil {X : Cx} : PF X [] tYes := fun _ _ _ H _ I h => wpAny_pure ⟨H, I, h⟩
theorem pf_one {X : Cx} {c : Expr} {t : TT} (hc : PT X c t) : PF X [c] t := by
  intro pins s σ H Q I h
  rw [List.forIn_cons]
  simp only [if_true]
  refine wpAny_bind (wpAny_bind (thn (hc pins s σ H Q I h) fun ok s1 q => ?_))
  exact wpAny_pure (wpAny_pure q)

/-- the loop of a comprehension, the store's own step kept -/
theorem comp_loop {prog : Program} {w : World} {A : Around} {R : Result → Shared → Prop} {s : Shared} {elt target iter : Expr} {ifs : List Expr} {scope : Scope} {pos : Pos} {it acc : Value} {env : Env} (I : Nat → Shared → Prop)
    (turn : ∀ n s, I n s → wpAny (model prog w) A (pyNext it) (fun r s₁ => match r with
      | none => R (.ok .next) s₁
      | some v => wpAny (model prog w) A (letOwnedTupleGo target it v) (fun _ s₂ => wpAny (model prog w) A (assign target env v) (fun _ s₂ =>
          wpAny (model prog w) A (forIn ifs true fun c r => if r = true then do let ok ← isTrue c env (eval c env); pure (ForInStep.yield ok) else pure (ForInStep.yield r)) (fun ok s₃ =>
            if ok = true then wpAny (model prog w) A (eval elt env) (fun x s₄ =>
              wpAny (model prog w) A (call (.builtin "list.append") [acc, x]) (fun _ s₅ => ∃ m, m < n ∧ I m s₅) (fun _ _ => False) s₄) (fun _ _ => False) s₃
            else ∃ m, m < n ∧ I m s₃) (fun _ _ => False) s₂) (fun _ _ => False) s₂) (fun _ _ => False) s₁) (fun _ _ => False) s)
    (n : Nat) (h : I n s) : codeAny (model prog w) A (.compLoop (.ListComp elt [⟨target, iter, ifs, 0⟩] scope pos) 0 it acc env) R s := by
  refine codeAny_loop rfl I (fun n s hI => ?_) n h
  show wpAny _ A ((compTurn (.ListComp elt [⟨target, iter, ifs, 0⟩] scope pos) 0 it acc env).onRaise (fun x => do noteFrame x env; theTreesLotGoes x)) _ _ s
  refine wpAny_noted ?_
  rw [compTurn_list]
  refine wpAny_bind (wpAny_standAt (wpAny_bind (wpAny_mono (turn n s hI) (fun r s₁ h₁ => ?_) fun _ _ h' => False.elim h')))
  cases r with
  | none => exact wpAny_pure h₁
  | some v =>
    refine wpAny_bind (wpAny_mono h₁ (fun _ s₂ h₂ => ?_) fun _ _ h' => False.elim h')
    refine wpAny_bind (wpAny_mono h₂ (fun _ s₂ h₂ => wpAny_bind (wpAny_mono h₂ (fun ok s₃ h₃ => ?_) fun _ _ h' => False.elim h')) fun _ _ h' => False.elim h')
    cases ok with
    | false => exact wpAny_pure ⟨rfl, h₃⟩
    | true =>
      exact wpAny_bind (wpAny_bind (wpAny_mono h₃ (fun x s₄ h₄ => wpAny_bind (wpAny_mono h₄ (fun _ s₅ h₅ => wpAny_pure (wpAny_pure ⟨rfl, h₅⟩)) fun _ _ h' => False.elim h')) fun _ _ h' => False.elim h'))

/-- an object that stands untracked in the heap is tracked from now on -/
theorem HOk.adopt {P : Program} {w : World} {H : Hp} {h : Heap} {a : Addr} {o : HO} (x : HOk P w H h) (hn : H a = none) (new : ObjOk P w (upd H a o) h a o) : HOk P w (upd H a o) h := fun b u e => by
  by_cases hb : b = a
  · subst hb; rw [upd_same] at e; cases e; exact new
  · rw [upd_ne hb] at e
    exact (x b u e).stay (fun c v _ q => q) (fun c q => by rw [upd_ne (ne_of_none q hn)]; exact q) fun c xs q => by rw [upd_ne (ne_of_none q hn)]; exact q
theorem Un.adopt {fs ex : List Addr} {H H' : Hp} {h h' : Heap} {a : Addr} {o : HO} (u : Un fs ex H H' h h') (hn : h.get? a = none) (hn' : H' a = none) : Un fs ex H (upd H' a o) h h' where
  keep := u.keep
  slot := u.slot
  free := fun b ob q n hx => by
    have : b ≠ a := fun z => by rw [z, hn] at q; cases q
    rw [upd_ne this]; exact u.free b ob q n hx
  there := u.there
  tups := fun b xs q => by rw [upd_ne (ne_of_none (u.tups b xs q) hn')]; exact u.tups b xs q
  frzs := fun b ob xs q => by rw [upd_ne (ne_of_none (u.frzs b ob xs q) hn')]; exact u.frzs b ob xs q
  tbls := fun b ps q => by
    obtain ⟨m, e⟩ := u.tbls b ps q
    exact ⟨m, by rw [upd_ne (ne_of_none e hn')]; exact e⟩

/-- what is walked, and the invariant: turn, measure, what has been gathered, heap -/
def CompW (J : It) (tc : TT) (te : TE) (σ : St) (H1 : Hp) (Q : List V → Hp → Prop) : Prop :=
  ∃ W : Nat → Nat → List V → Hp → Prop, (∃ m, W 0 m [] H1) ∧ ∀ i m ys H, W i m ys H →
    (J.stop i H ∧ ys.length ≤ sizeLine ∧ Q ys H) ∨
    (J.go i H ∧ ys.length < sizeLine ∧ ∃ N : List V → Hp → Prop, (∀ ys' H', N ys' H' → ∃ m', m' < m ∧ W (i + 1) m' ys' H') ∧
      ∀ x H', J.yld i H x H' → tc (some x :: σ) H' fun b H2 => if b = true then te (some x :: σ) H2 fun y H3 => N (ys ++ [y]) H3 else N ys H2)
def tComp (wi : TI) (tc : TT) (te : TE) : TE := fun σ H Q => wi σ H fun J H1 => CompW J tc te σ H1 fun ys H2 => ∀ p, H2 p = none → Q (.ref p) (upd H2 p (.lst ys))

section
variable {X : Cx} {pins : List (Addr × Obj)} {σ : St} {H : Hp} {s : Shared}

theorem comp_core {elt iter : Expr} {x : Str} {px pos : Pos} {ifs : List Expr} {sc sc0 : Scope} {cl : List (Str × Addr)} {N' : List Str} {tc : TT} {te : TE} {J : It} {fp : List Addr} {it : Addr} {tn : Nat → Heap → Prop} {Q : List V → Hp → Prop}
    {RR : Value → Addr → Result → Shared → Prop} {E : Value → Shared → Prop}
    (hc : X.calm = true) (h0 : X.env.scope = sc0) (ok : CompOk sc0 sc x) (nN : CompN N' sc x) (hN : N'.length = X.N.length + 1)
    (hT : ∀ i y, N'[i + 1]? = some y → sc.names.lookup y = some .free → X.N[i]? = some y)
    (hcl2 : ∀ x c, cl.lookup x = some c → X.env.cells.lookup x = some c) (hcl3 : ∀ x, sc.names.lookup x = some .free → ∃ c, cl.lookup x = some c)
    (hf : ∀ C s H fp, PF (X.comp N' sc cl C s H fp) ifs tc) (he : ∀ C s H fp, PE (X.comp N' sc cl C s H fp) elt te)
    (I : Inv X pins σ H s) (T : Turn X.prog X.w X.K (.Name x px) J fp it tn) (st : tn 0 s.heap) (f2 : ∀ b ∈ fp, FpOk X pins H b) (w0 : CompW J tc te σ H Q)
    (fin : ∀ (D C : Addr) (ys : List V) (H' : Hp) (s' : Shared) (m : Str → Option Value), Q ys H' → H' D = none → Inv X pins σ (upd H' D (.lst ys)) s' → s'.heap.Ns C m → upd H' D (.lst ys) C = none → s.heap.objs.size ≤ C → RR (.ref D) C (.ok .next) s') :
    wpAny (model X.prog X.w) X.A (newList []) (fun acc s₃ => wpAny (model X.prog X.w) X.A (newFunctionEnv sc X.env.globals cl [] X.env.qual none .none (some X.env)) (fun cenv s₄ =>
      codeAny (model X.prog X.w) X.A (.compStart (.ListComp elt [⟨.Name x px, iter, ifs, 0⟩] sc pos) 0 (.ref it) acc { cenv with scope := relabel sc X.env }) (RR acc cenv.locals) s₄) E s₃) E s := by
  refine wpAny_newObj_type (wpAny_newFunctionEnv ok.nocell (by intro y hy; simp at hy) (fun h₁ hns₁ hsb₁ => ?_) ok.kind)
  dsimp only at hns₁ hsb₁ ⊢
  generalize hH2 : s.heap.push { cls := .type "list", dict := none, data := .seq ([] : List Value).toArray } = H2 at hns₁ hsb₁ ⊢
  have hC : H2.objs.size = s.heap.objs.size + 1 := by rw [← hH2, Heap.size_push]
  have hDC : s.heap.objs.size ≠ H2.objs.size := by rw [hC]; exact Nat.ne_of_lt (Nat.lt_succ_self _)
  generalize hCC : H2.objs.size = C at hns₁ hsb₁ hC hDC ⊢
  generalize hDD : s.heap.objs.size = D at hC hDC ⊢
  have hDS : s.heap.objs.size ≤ D := Nat.le_of_eq hDD
  have hCS : s.heap.objs.size ≤ C := by omega
  have old : ∀ b o, s.heap.get? b = some o → h₁.get? b = some o := fun b o e => by
    have hb := Heap.lt_size e
    exact hsb₁.extBut b o (Nat.ne_of_lt (Nat.lt_of_lt_of_le hb hCS)) (Heap.get?_push_of_some _ (hH2 ▸ Heap.get?_push_of_some _ e))
  have hacc : h₁.get? D = some { cls := .type "list", data := .seq ([] : List Value).toArray } := hsb₁.extBut _ _ hDC (Heap.get?_push_of_some _ (by rw [← hH2, ← hDD]; exact Heap.get?_push_size _ rfl))
  have fpS : ∀ b ∈ fp, b < s.heap.objs.size := fun b hb => by
    obtain ⟨o, e, _⟩ := T.obj 0 _ st b hb
    exact Heap.lt_size e
  have scne : ∀ c y, X.env.cells.lookup y = some c → c < s.heap.objs.size := fun c y e => by
    obtain ⟨v, q⟩ := I.cell y c e
    exact q.lt
  have frsS : ∀ b ∈ frs X.stack, b < s.heap.objs.size := fun b hb => by
    obtain ⟨_, o, ho, _⟩ := I.stack.mem hb
    exact Heap.lt_size ho
  have relk : ∀ y, (relabel sc X.env).names.lookup y = some .cell ∨ (relabel sc X.env).names.lookup y = some .free → sc.names.lookup y = some .free := fun y hy => relabel_look ok.nocell hy
  -- the block's context
  have okc : (X.comp N' sc cl C s H fp).Ok :=
    ⟨I.ok.mod, ok.kind, I.ok.glob, I.ok.blt, hCS, fun y z c h1 h2 => I.ok.inj y z c (hcl2 y c h1) (hcl2 z c h2), fun y hy => hcl3 y (relk y hy), (fun y c hf _ => nomatch hf),
      I.ok.hd, I.ok.frames, .inl rfl, fun b hb => ⟨Nat.ne_of_lt (Nat.lt_of_lt_of_le (fpS b hb) hCS), fun y c e => (f2 b hb).2.2.2.2.1 y c (hcl2 y c e)⟩, I.bs, Nat.le_trans I.ok.bsz I.sz,
      fun b o e hb => by
        rcases (f2 b hb).2.2.2.1 with z | z
        · exact I.ok.noex b o e z
        · exact absurd (Nat.lt_of_lt_of_le (Heap.lt_size e) (Nat.le_trans I.ok.bsz z)) (Nat.lt_irrefl _),
      fun b hb z => by
        rcases List.mem_cons.mp (I.stkSub b z) with q | q
        · exact (f2 b hb).2.1 q
        · exact (f2 b hb).2.2.1 q,
      I.stack, I.stkFree⟩
  have lenN : N'.length = (none :: σ).length := by rw [hN, List.length_cons, I.len]
  have hDfp : D ∉ fp := fun hm => absurd (Nat.lt_of_lt_of_le (fpS D hm) hDS) (Nat.lt_irrefl _)
  have hDfs : D ∉ frs X.stack := fun hm => absurd (Nat.lt_of_lt_of_le (frsS D hm) hDS) (Nat.lt_irrefl _)
  have I0 : Inv (X.comp N' sc cl C s H fp) [(D, { cls := .type "list", data := .seq ([] : List Value).toArray })] (none :: σ) H { s with heap := h₁, toks := s.toks + ([] : List (Str × Value)).length } := by
    refine ⟨okc, rfl, I.bare, Un.kept old, ⟨_, hns₁, fun i y v e1 e2 e3 => ?_⟩, fun y c e => ?_, I.hok.fresh hCS, fun y c e => I.freeC y c (hcl2 y c e), fun p hp => ?_, I.hok.kept old, lenN.symm⟩
    · cases i with
      | zero => cases e2
      | succ i =>
        have e2' : σ[i]? = some (some v) := e2
        have hyf : sc.names.lookup y = some .free := by
          rcases e3 with e3 | e3 | e3
          · refine absurd (relabel_local e3) (nN.tail y ?_)
            have : N'.tail[i]? = some y := by rw [List.getElem?_tail]; exact e1
            exact List.mem_of_getElem? this
          · exact relk y (.inl e3)
          · exact relk y (.inr e3)
        have hXN := hT i y e1 hyf
        have hk0 := ok.free (y, .free) (PySem.mem_of_lookup hyf) rfl
        have hvis : Vis X.env.scope y := by
          rw [h0]
          exact .inr hk0
        obtain ⟨m, hn, hl⟩ := I.loc
        obtain ⟨u, r, l⟩ := hl i y v hXN e2' hvis
        refine ⟨u, r, ?_⟩
        rcases l with ⟨l, _⟩ | ⟨_, c, ec, hcell⟩
        · exfalso
          have l' : X.env.scope.names.lookup y = some .local := l
          rw [h0] at l'
          rcases hk0 with z | z <;> (have z' : sc0.names.lookup y = _ := z; rw [l'] at z'; cases z')
        · obtain ⟨c', ec'⟩ := hcl3 y hyf
          have := hcl2 y c' ec'
          rw [ec] at this
          cases this
          refine .inr ⟨?_, c, ec', ?_⟩
          · rcases e3 with e3 | e3 | e3
            · have := relabel_local e3
              rw [hyf] at this; cases this
            · exact .inl e3
            · exact .inr e3
          · obtain ⟨o, ho, hd⟩ := hcell
            exact ⟨o, old c o ho, hd⟩
    · obtain ⟨v, o, ho, hd⟩ := I.cell y c (hcl2 y c e)
      exact ⟨v, o, old c o ho, hd⟩
    · have e := List.mem_singleton.mp (show p ∈ [_] from hp)
      subst e
      exact ⟨hacc, I.hok.fresh hDS, hDC, hDfs, fun v z => nomatch z⟩
  have st1 : tn 0 h₁ := T.keep 0 _ _ st fun b _ o e => old b o e
  -- FpOk in the block
  have fpc : ∀ {pl : List (Addr × Obj)} {H' : Hp}, (∀ b ∈ fp, H' b = none) → (∀ p ∈ pl, p.1 ∉ fp) → ∀ b ∈ fp, FpOk (X.comp N' sc cl C s H fp) pl H' b := fun {pl H'} hn hp b hb =>
    ⟨hn b hb, Nat.ne_of_lt (Nat.lt_of_lt_of_le (fpS b hb) hCS), okc.exfs b hb, .inl hb, fun y c e => (f2 b hb).2.2.2.2.1 y c (hcl2 y c e), fun p hp' z => hp p (by simpa using hp') (z ▸ hb)⟩
  have loop : codeAny (model X.prog X.w) X.A (.compLoop (.ListComp elt [⟨.Name x px, iter, ifs, 0⟩] sc pos) 0 (.ref it) (.ref D) (compEnvC sc cl C X.env)) (RR (.ref D) C) { s with heap := h₁, toks := s.toks + ([] : List (Str × Value)).length } := by
    obtain ⟨W, ⟨m0, w00⟩, turn⟩ := w0
    refine comp_loop (fun n s' => ∃ (i : Nat) (ys : List V) (its : List Value) (nn : Nat) (v0 : Option V) (H' : Hp),
      Inv (X.comp N' sc cl C s H fp) [(D, { cls := .type "list", data := .seq its.toArray nn })] (v0 :: σ) H' s' ∧ Vals ys its ∧ tn i s'.heap ∧ (∀ b ∈ fp, H' b = none) ∧ W i n ys H') ?_ m0 ⟨0, [], [], _, none, H, I0, .nil, st1, fun b hb => (f2 b hb).1, w00⟩
    rintro n s3 ⟨i, ys, its, nn, v0, H3, I3, rv, st3, fr3, w3⟩
    have noD : ∀ p ∈ [(D, ({ cls := .type "list", data := .seq its.toArray nn } : Obj))], p.1 ∉ fp := fun p hp => by
      have e := List.mem_singleton.mp (show p ∈ [_] from hp)
      subst e; exact hDfp
    rcases turn i n ys H3 w3 with ⟨stop, hz, q⟩ | ⟨go, hz, N, hNw, step⟩
    · refine thn (T.done (X.comp N' sc cl C s H fp) rfl rfl rfl hc i _ s3 _ H3 _ I3 (fpc fr3 noD) st3 stop) fun r s4 ⟨hr, I4⟩ => ?_
      subst hr
      obtain ⟨eD, nD, neD, nfD, _⟩ := I4.pin (D, { cls := .type "list", data := .seq its.toArray nn }) (by simp)
      have nD' : H3 D = none := nD
      have hdn : s.heap.get? D = none := Heap.get?_none_of_le hDS
      have un : Un (frs X.stack) fp H (upd H3 D (.lst ys)) s.heap s4.heap := Un.adopt I4.base hdn nD'
      have hok4 : HOk X.prog X.w (upd H3 D (.lst ys)) s4.heap := HOk.adopt I4.hok nD' ⟨hz, its, nn, rv, eD⟩
      have I5 : Inv X pins σ (upd H3 D (.lst ys)) s4 := I.call' I4.os un hok4 I4.bare fun b hb => ⟨(f2 b hb).2.2.2.1, (f2 b hb).2.1, (f2 b hb).2.2.2.2.1, (f2 b hb).2.2.2.2.2⟩
      obtain ⟨m, hm, _⟩ := I4.loc
      exact fin D C ys H3 s4 m q nD' I5 hm (by rw [upd_ne (Ne.symm hDC)]; exact I4.free) hCS
    · refine thn (T.item (X.comp N' sc cl C s H fp) rfl rfl rfl hc i _ s3 _ H3 _ I3 (fpc fr3 noD) st3 go) fun r s4 ⟨u, hr, h4⟩ => ?_
      subst hr
      refine thn h4 fun _ s5 ⟨y, H5, I5, r5, y5, st5, fr5⟩ => ?_
      have I5' := I5.pinned (fpc fr5 noD) (T.obj _ _ st5)
      have hg : PG (X.comp N' sc cl C s H fp) (.Name x px) (gName 0) := pg_name (i := 0) nN.nd nN.own (.inl (lookup_relabel_local ok.own)) (.inr (lookup_relabel_local ok.own))
      refine thn (hg _ s5 (v0 :: σ) H5 y u (fun σ' H' => σ' = some y :: σ ∧ H' = H5) I5' r5 ⟨rfl, rfl⟩) fun _ s6 ⟨σ6, H6, I6, e6, e6'⟩ => ?_
      subst e6 e6'
      -- back at the loop's head
      have again : ∀ {s9 : Shared} {H9 : Hp} {ys' : List V} {its' : List Value} {nn' m' : Nat}, Inv (X.comp N' sc cl C s H fp) [(D, { cls := .type "list", data := .seq its'.toArray nn' })] (some y :: σ) H9 s9 → Vals ys' its' →
          (∀ b ∈ fp, ∀ o, s5.heap.get? b = some o → s9.heap.get? b = some o) → (∀ b ∈ fp, H9 b = none) → m' < n → W (i + 1) m' ys' H9 →
          ∃ m, m < n ∧ ∃ (i : Nat) (ys : List V) (its : List Value) (nn : Nat) (v0 : Option V) (H' : Hp),
            Inv (X.comp N' sc cl C s H fp) [(D, { cls := .type "list", data := .seq its.toArray nn })] (v0 :: σ) H' s9 ∧ Vals ys its ∧ tn i s9.heap ∧ (∀ b ∈ fp, H' b = none) ∧ W i m ys H' :=
        fun {s9 H9 ys' its' nn' m'} I9 rv' k9 fr9 hm w9 => ⟨m', hm, i + 1, ys', its', nn', some y, H9, I9, rv', T.keep _ _ _ st5 k9, fr9, w9⟩
      have pinfp : ∀ {s9 : Shared} {H9 : Hp} {σ9 : St}, Inv (X.comp N' sc cl C s H fp) ([(D, { cls := .type "list", data := .seq its.toArray nn })] ++ pinsAt fp s5.heap) σ9 H9 s9 →
          (∀ b ∈ fp, ∀ o, s5.heap.get? b = some o → s9.heap.get? b = some o) ∧ (∀ b ∈ fp, H9 b = none) := fun {s9 H9 σ9} I9 =>
        ⟨fun b hb o e => (I9.pin (b, o) (List.mem_append_right _ (List.mem_append_right _ (mem_pinsAt hb e)))).1, fun b hb => by
          obtain ⟨o, e, d⟩ := T.obj _ _ st5 b hb
          exact (I9.pin (b, o) (List.mem_append_right _ (List.mem_append_right _ (mem_pinsAt hb e)))).2.1⟩
      refine thn (hf C s H fp _ s6 (some y :: σ) _ _ I6 (step y _ y5)) fun okb s7 ⟨H7, I7, q7⟩ => ?_
      cases okb with
      | false =>
        rw [if_neg Bool.false_ne_true] at q7 ⊢
        obtain ⟨m', hm, w7⟩ := hNw _ _ q7
        obtain ⟨k7, fr7⟩ := pinfp I7
        exact again (I7.pins_of fun p hp => I7.pin p (List.mem_append_right _ (List.mem_append_left _ hp))) rv k7 fr7 hm w7
      | true =>
        rw [if_pos rfl] at q7 ⊢
        refine thn (he C s H fp _ s7 (some y :: σ) H7 _ I7 q7) fun uu s8 ⟨yv, H8, I8, r8, q8⟩ => ?_
        obtain ⟨m', hm, w8⟩ := hNw _ _ q8
        obtain ⟨k8, fr8⟩ := pinfp I8
        obtain ⟨eD, nD, neD, nfD, _⟩ := I8.pin (D, { cls := .type "list", data := .seq its.toArray nn }) (by simp)
        have nD' : H8 D = none := nD
        have eD' : s8.heap.get? D = some { cls := .type "list", data := .seq its.toArray nn } := eD
        refine wpAny_list_append_plain (hsz := by rw [List.size_toArray, ← rv.length]; exact Nat.le_of_lt hz) ⟨nn, eD'⟩ fun h9 ⟨nn', e9⟩ sb9 => ?_
        have I9 : Inv (X.comp N' sc cl C s H fp) [] (some y :: σ) H8 { s8 with heap := h9 } :=
          (I8.pins_of (pins' := []) fun p hp => nomatch hp).turned (t' := s8.toks) (it := D) (fun b o hb e => (sb9.2 b hb).trans e) nD' hDC (.inr hDS) (fun y' c e z => by
            have := scne c y' (hcl2 y' c e)
            rw [z] at this
            exact absurd (Nat.lt_of_lt_of_le this hDS) (Nat.lt_irrefl _)) (fun p hp => nomatch hp)
        have e9' : h9.get? D = some { cls := .type "list", data := .seq (its ++ [uu]).toArray nn' } := by
          rw [e9]
          simp
        refine again (nn' := nn') (I9.pins_of fun p hp => ?_) (rv.append (.cons r8 .nil)) (fun b hb o e => ?_) fr8 hm w8
        · have e := List.mem_singleton.mp (show p ∈ [_] from hp)
          subst e
          exact ⟨e9', nD', hDC, hDfs, fun v z => nomatch z⟩
        · have hbD : b ≠ D := fun z => hDfp (z ▸ hb)
          exact (sb9.2 b hbD).trans (k8 b hb o e)
  exact codeAny_compStart_list loop (T.self _ 0 _ _ _ st1 loop)

/-- all that is asked of the names, by computation: N, N' the names around and within, sc0, sc the blocks -/
def compChk (N N' : List Str) (sc0 sc : Scope) (x : Str) : Bool :=
  decide (sc.kind = .function) && sc.names.all (fun y => decide (y.2 ≠ .local) || decide (sc.names.lookup y.1 = some .local)) && decide (sc.names.lookup x = some .local) && sc.names.all (fun y => decide (y.2 ≠ .cell)) &&
  sc.names.all (fun y => decide (y.2 ≠ .free) || (decide (sc0.names.lookup y.1 = some .cell) || decide (sc0.names.lookup y.1 = some .free))) && decide N'.Nodup && decide (N'[0]? = some x) &&
  N'.tail.all (fun y => decide (sc.names.lookup y ≠ some .local)) && decide (N'.length = N.length + 1) && (N'.tail.zip N).all (fun p => decide (p.1 = p.2) || decide (sc.names.lookup p.1 ≠ some .free))
theorem zip_get {α β : Type} : ∀ {as : List α} {bs : List β} {i : Nat} {a : α} {b : β}, as[i]? = some a → bs[i]? = some b → (a, b) ∈ as.zip bs
  | [], _, _, _, _, h, _ => by simp at h
  | _ :: _, [], _, _, _, _, h => by simp at h
  | a :: as, b :: bs, 0, _, _, h1, h2 => by simp at h1 h2; subst h1; subst h2; simp
  | _ :: as, _ :: bs, i + 1, _, _, h1, h2 => by
    rw [List.zip_cons_cons]
    exact List.mem_cons_of_mem _ (zip_get (i := i) (by simpa using h1) (by simpa using h2))
theorem compChk_ok {N N' : List Str} {sc0 sc : Scope} {x : Str} (h : compChk N N' sc0 sc x = true) : CompOk sc0 sc x ∧ CompN N' sc x ∧ N'.length = N.length + 1 ∧ ∀ i y, N'[i + 1]? = some y → sc.names.lookup y = some .free → N[i]? = some y := by
  unfold compChk at h
  simp only [Bool.and_eq_true, Bool.or_eq_true, List.all_eq_true, decide_eq_true_eq] at h
  obtain ⟨⟨⟨⟨⟨⟨⟨⟨⟨h1, h2⟩, h3⟩, h4⟩, h5⟩, h6⟩, h7⟩, h8⟩, h9⟩, h10⟩ := h
  refine ⟨⟨h1, fun y hy hl => ?_, h3, h4, fun y hy hl => ?_⟩, ⟨h6, h7, h8⟩, h9, fun i y e hf => ?_⟩
  · exact (h2 y hy).elim (fun z => absurd hl z) id
  · exact (h5 y hy).elim (fun z => absurd hl z) id
  · have et : N'.tail[i]? = some y := by rw [List.getElem?_tail]; exact e
    have hi : i < N.length := by
      have := (List.getElem?_eq_some_iff.mp e).1
      omega
    have eN : N[i]? = some N[i] := List.getElem?_eq_getElem hi
    rcases h10 _ (zip_get et eN) with z | z
    · rw [eN, ← (show y = N[i] from z)]
    · exact absurd hf z

/-- what stays behind the block: its frame may go -/
theorem Inv.letgo {C : Addr} {H' : Hp} {s' : Shared} {h' : Heap} {σ' : St} (I0 : Inv X pins σ H s) (I : Inv X pins σ' H' s') (hC : s.heap.objs.size ≤ C) (n : H' C = none) (sb : Heap.SameBut C s'.heap h') : Inv X pins σ' H' { s' with heap := h' } :=
  I.turned (t' := s'.toks) (it := C) (fun b o hb e => (sb.2 b hb).trans e) n (Nat.ne_of_gt (Nat.lt_of_lt_of_le I0.lt hC)) (.inr (Nat.le_trans I0.sz hC))
    (fun y c e z => by
      obtain ⟨v, q⟩ := I0.cell y c e
      exact absurd (Nat.lt_of_lt_of_le q.lt (z ▸ hC)) (Nat.lt_irrefl _))
    (fun p hp z => absurd (Nat.lt_of_lt_of_le (Heap.lt_size (I0.pin p hp).1) (z ▸ hC)) (Nat.lt_irrefl _))

/-- [elt for x in iter if ..]: N, N' are written out; sc0 is the scope around -/
theorem pe_comp {elt iter : Expr} {x : Str} {px pos : Pos} {ifs : List Expr} {sc : Scope} {wi : TI} {tc : TT} {te : TE} (N N' : List Str) (sc0 : Scope) (hi : PI X (.Name x px) iter wi)
    (hf : ∀ cl C s H fp, PF (X.comp N' sc cl C s H fp) ifs tc) (he : ∀ cl C s H fp, PE (X.comp N' sc cl C s H fp) elt te)
    (cc : compChk N N' sc0 sc x = true := by decide +kernel) (hc : X.calm = true := by rfl) (h0 : X.env.scope = sc0 := by rfl) (hN : X.N = N := by rfl)
    (hs : ∀ x, foldedSetIterable iter X.env x = pure x := by intro _; rfl) : PE X (.ListComp elt [⟨.Name x px, iter, ifs, 0⟩] sc pos) (tComp wi tc te) := by
  obtain ⟨ok, nN, hl, hT⟩ := compChk_ok cc
  subst hN
  intro pins s σ H Q I h
  obtain ⟨cl, e1, e2, e3⟩ := closure_of (sc := sc) (env := X.env) fun y hy hf => I.ok.has y.1 (by
    have := ok.free y hy hf
    rw [← h0] at this
    exact this)
  rw [eval_ListComp]
  refine wpAny_comprehension_free (use := none) rfl hs e1 ok.kind ok.names (thn (hi pins s σ H _ I h) fun v s1 h1 => thn h1 fun itv s2 h2 => ?_)
  obtain ⟨it, fp, tn, J, H2, rfl, I2, T, st2, f2, w0⟩ := h2
  refine comp_core (RR := compPost (model X.prog X.w) X.A X.xe none (EP X pins σ Q)) hc h0 ok nN hl hT e2 e3 (hf cl) (he cl) I2 T st2 f2 w0 ?_
  intro D C ys H' s' m q nD I' hm hCn hCS
  exact ⟨m, hm, fun h' sb => ⟨.ref D, _, Inv.letgo I2 I' hCS hCn sb, rfl, q D nD⟩⟩

/-- y = [elt for x in iter if ..], y a local name of slot i: the store comes ahead of the block's end -/
def tSetC (i : Nat) (te : TE) : TS := fun D σ H => te σ H fun v H1 => D.nx (σ.set i (some v)) H1
theorem ps_comp {elt iter : Expr} {x y : Str} {px py pos spos : Pos} {ifs : List Expr} {sc : Scope} {wi : TI} {tc : TT} {te : TE} (N N' : List Str) (sc0 : Scope) (i : Nat) (hnd : N.Nodup) (hiy : N[i]? = some y) (hy : X.env.scope.names.lookup y = some .local) (hi : PI X (.Name x px) iter wi)
    (hf : ∀ cl C s H fp, PF (X.comp N' sc cl C s H fp) ifs tc) (he : ∀ cl C s H fp, PE (X.comp N' sc cl C s H fp) elt te)
    (hsw : swapsWith (.ListComp elt [⟨.Name x px, iter, ifs, 0⟩] sc pos) (some (.Name y py)) spos.line X.env = pure true := by rfl)
    (cc : compChk N N' sc0 sc x = true := by decide +kernel) (hc : X.calm = true := by rfl) (h0 : X.env.scope = sc0 := by rfl) (hN : X.N = N := by rfl)
    (hs : ∀ x, foldedSetIterable iter X.env x = pure x := by intro _; rfl) : PS X (.Assign [.Name y py] (.ListComp elt [⟨.Name x px, iter, ifs, 0⟩] sc pos) spos) (tSetC i (tComp wi tc te)) := by
  obtain ⟨ok, nN, hl, hT⟩ := compChk_ok cc
  subst hN
  intro pins s σ H D0 I h
  obtain ⟨cl, e1, e2, e3⟩ := closure_of (sc := sc) (env := X.env) fun y hy hf => I.ok.has y.1 (by
    have := ok.free y hy hf
    rw [← h0] at this
    exact this)
  rw [exec_Assign_Name_used _ _ _ _ hsw]
  refine wpAny_bind (wpAny_standAt (wpAny_bind ?_))
  show wpAny _ X.A (do let _ ← comprehension (.ListComp elt [⟨.Name x px, iter, ifs, 0⟩] sc pos) sc X.env _ (newList []) false (eval iter X.env) (some (assign (.Name y py) X.env))) _ _ s
  refine wpAny_bind (wpAny_mono (wpAny_comprehension_free (use := some (assign (.Name y py) X.env)) (Q := fun _ s' => SP X pins D0 .next s') rfl hs e1 ok.kind ok.names (thn (hi pins s σ H _ I h) fun v s1 h1 => thn h1 fun itv s2 h2 => ?_))
    (fun _ s' hq => wpAny_pure (wpAny_pure hq)) fun _ _ e => e)
  obtain ⟨it, fp, tn, J, H2, rfl, I2, T, st2, f2, w0⟩ := h2
  refine comp_core (RR := compPost (model X.prog X.w) X.A X.xe (some (assign (.Name y py) X.env)) (fun _ s' => SP X pins D0 .next s')) hc h0 ok nN hl hT e2 e3 (hf cl) (he cl) I2 T st2 f2 w0 ?_
  intro D C ys H' s' m q nD I' hm hCn hCS
  show wpAny _ X.A (assign (.Name y py) X.env (.ref D)) _ _ _
  refine wpAny_assign_Name (store_ok2 (v := .ref D) I' hnd hiy (.inl hy) rfl (fun s'' I'' ⟨a, sb, ha⟩ => ?_) (.inr hy))
  have hCa : C ≠ a := by
    rcases ha with z | z
    · rw [z]; exact Nat.ne_of_gt (Nat.lt_of_lt_of_le I2.lt hCS)
    · intro e
      obtain ⟨v, q⟩ := I2.cell _ _ z
      exact absurd (Nat.lt_of_lt_of_le q.lt (e ▸ hCS)) (Nat.lt_irrefl _)
  exact ⟨m, hm.sameBut sb hCa, fun h' sb' => ⟨_, _, Inv.letgo I2 I'' hCS hCn sb', q D nD⟩⟩
end

/-! ### the forms one uses -/
theorem comp_range {lo : Int} {n : Nat} {tc : TT} {te : TE} {σ : St} {H : Hp} {Q : List V → Hp → Prop} (Pv : Nat → List V → Hp → Prop) (h0 : Pv 0 [] H)
    (hs : ∀ i ys H, i < n → Pv i ys H → tc (some (.int (lo + i)) :: σ) H fun b H2 => if b = true then te (some (.int (lo + i)) :: σ) H2 fun y H3 => Pv (i + 1) (ys ++ [y]) H3 else Pv (i + 1) ys H2)
    (hl : ∀ i ys H, i ≤ n → Pv i ys H → ys.length < sizeLine) (hd : ∀ ys H, Pv n ys H → Q ys H) : CompW (Itr lo n) tc te σ H Q := by
  refine ⟨fun i m ys H => m = n - i ∧ i ≤ n ∧ Pv i ys H, ⟨n, by simp, Nat.zero_le _, h0⟩, ?_⟩
  rintro i m ys H ⟨rfl, hi, p⟩
  have hz := hl i ys H hi p
  by_cases hlt : i < n
  · refine .inr ⟨hlt, hz, Pv (i + 1), fun ys' H' p' => ⟨n - (i + 1), by omega, rfl, hlt, p'⟩, fun x H' y => ?_⟩
    obtain ⟨e, y⟩ := y
    subst e y
    exact hs i ys _ hlt p
  · have e : i = n := by omega
    subst e
    exact .inl ⟨Nat.le_refl _, Nat.le_of_lt hz, hd ys H p⟩
theorem comp_list {K : PySem.W.Frag} {a : Addr} {xs : List V} {tc : TT} {te : TE} {σ : St} {H : Hp} {Q : List V → Hp → Prop} (Pv : Nat → List V → Hp → Prop) (h0 : Pv 0 [] H) (hS : ∀ i ys H, i ≤ xs.length → Pv i ys H → SqL K H a xs)
    (hs : ∀ i x ys H, xs[i]? = some x → Pv i ys H → tc (some x :: σ) H fun b H2 => if b = true then te (some x :: σ) H2 fun y H3 => Pv (i + 1) (ys ++ [y]) H3 else Pv (i + 1) ys H2)
    (hl : ∀ i ys H, i ≤ xs.length → Pv i ys H → ys.length < sizeLine) (hd : ∀ ys H, Pv xs.length ys H → Q ys H) : CompW (Itl K a) tc te σ H Q := by
  refine ⟨fun i m ys H => m = xs.length - i ∧ i ≤ xs.length ∧ Pv i ys H, ⟨xs.length, by simp, Nat.zero_le _, h0⟩, ?_⟩
  rintro i m ys H ⟨rfl, hi, p⟩
  have hz := hl i ys H hi p
  have q := hS i ys H hi p
  by_cases hlt : i < xs.length
  · refine .inr ⟨⟨xs, xs[i], q, by simp [hlt]⟩, hz, Pv (i + 1), fun ys' H' p' => ⟨xs.length - (i + 1), by omega, rfl, hlt, p'⟩, fun x H' y => ?_⟩
    obtain ⟨e, y⟩ := y
    subst e
    exact hs i x ys _ (y xs q) p
  · have e : i = xs.length := by omega
    subst e
    exact .inl ⟨⟨xs, q, Nat.le_refl _⟩, Nat.le_of_lt hz, hd ys H p⟩
theorem comp_tup {K : PySem.W.Frag} {a : Addr} {xs : List V} {tc : TT} {te : TE} {σ : St} {H : Hp} {Q : List V → Hp → Prop} (Pv : Nat → List V → Hp → Prop) (h0 : Pv 0 [] H) (hS : ∀ i ys H, i ≤ xs.length → Pv i ys H → SqT K H a xs)
    (hs : ∀ i x ys H, xs[i]? = some x → Pv i ys H → tc (some x :: σ) H fun b H2 => if b = true then te (some x :: σ) H2 fun y H3 => Pv (i + 1) (ys ++ [y]) H3 else Pv (i + 1) ys H2)
    (hl : ∀ i ys H, i ≤ xs.length → Pv i ys H → ys.length < sizeLine) (hd : ∀ ys H, Pv xs.length ys H → Q ys H) : CompW (Itt K a) tc te σ H Q := by
  refine ⟨fun i m ys H => m = xs.length - i ∧ i ≤ xs.length ∧ Pv i ys H, ⟨xs.length, by simp, Nat.zero_le _, h0⟩, ?_⟩
  rintro i m ys H ⟨rfl, hi, p⟩
  have hz := hl i ys H hi p
  have q := hS i ys H hi p
  by_cases hlt : i < xs.length
  · refine .inr ⟨⟨xs, xs[i], q, by simp [hlt]⟩, hz, Pv (i + 1), fun ys' H' p' => ⟨xs.length - (i + 1), by omega, rfl, hlt, p'⟩, fun x H' y => ?_⟩
    obtain ⟨e, y⟩ := y
    subst e
    exact hs i x ys _ (y xs q) p
  · have e : i = xs.length := by omega
    subst e
    exact .inl ⟨⟨xs, q, Nat.le_refl _⟩, Nat.le_of_lt hz, hd ys H p⟩
end L2

/-! ### own text: further rules for the hand layer -/
namespace L2
open PySem PySem.Spec PyProof.Rows
section
variable {X : Cx}

theorem same_new {H : Hp} {p : Addr} (h : H p = none) (o : HO) : Same H (upd H p o) := fun b u q => by rw [upd_ne (ne_of_none q h)]; exact q
theorem Same.tup {K : PySem.W.Frag} {H H' : Hp} {a : Addr} {xs : List V} (e : Same H H') (h : SqT K H a xs) : SqT K H' a xs := by
  rcases h with (h | ⟨o, h⟩) | h
  · exact .inl (.inl (e _ _ h))
  · exact .inl (.inr ⟨o, e _ _ h⟩)
  · exact .inr h

/-! is, is not of bools -/
theorem op_isB : OpR X (compareOp .Is) (fun x y H Q => ∃ c d, x = .bl c ∧ y = .bl d ∧ Q (.bl (c == d)) H) := by
  intro pins s σ H x y v u Q I rx ry h
  obtain ⟨c, d, rfl, rfl, q⟩ := h
  cases rx; cases ry
  exact is_bool ⟨.bl _, H, I, rfl, q⟩
theorem op_isnotB : OpR X (compareOp .IsNot) (fun x y H Q => ∃ c d, x = .bl c ∧ y = .bl d ∧ Q (.bl (c != d)) H) := by
  intro pins s σ H x y v u Q I rx ry h
  obtain ⟨c, d, rfl, rfl, q⟩ := h
  cases rx; cases ry
  exact isnot_bool ⟨.bl _, H, I, rfl, q⟩

/-! isinstance(x, T), T a built-in type -/
theorem call_isi {X : Cx} : CallR X (.builtin "isinstance") (fun vs H Q => ∃ x T t b, vs = [x, .ty T] ∧ TyOf X.K H x t ∧ PySem.W.kitOne X.K t (.type T) = some b ∧ Q (.bl b) H) := by
  intro pins s σ H vs us Q I r h
  obtain ⟨x, T, t, b, rfl, ty, e, q⟩ := h
  obtain ⟨u, u', rfl, r1, r2⟩ := vals2 r
  cases r2
  exact isinst_ok I r1 ty e fun tk => ⟨.bl b, H, I.tok tk, rfl, q⟩
theorem kit_same {K : PySem.W.Frag} (T : String) : PySem.W.kitOne K (.type T) (.type T) = some true := by
  unfold PySem.W.kitOne
  rw [if_pos (by simp)]

theorem kit_of {K : PySem.W.Frag} {T U : String} {b : Bool} (h : (if (Value.type T == Value.type U) = true then some true else if PySem.W.kitMeta U = true then (fastBuiltinMro T).map (·.contains (.type U)) else none) = some b) : PySem.W.kitOne K (.type T) (.type U) = some b := h
theorem kit_int_bool {K : PySem.W.Frag} : PySem.W.kitOne K (.type "int") (.type "bool") = some false := kit_of (by decide +kernel)
theorem kit_bool_int {K : PySem.W.Frag} : PySem.W.kitOne K (.type "bool") (.type "int") = some true := kit_of (by decide +kernel)
theorem kit_none_int {K : PySem.W.Frag} : PySem.W.kitOne K (.type "NoneType") (.type "int") = some false := kit_of (by decide +kernel)
theorem kit_str_int {K : PySem.W.Frag} : PySem.W.kitOne K (.type "str") (.type "int") = some false := kit_of (by decide +kernel)
theorem kit_list_int {K : PySem.W.Frag} : PySem.W.kitOne K (.type "list") (.type "int") = some false := kit_of (by decide +kernel)
theorem kit_tuple_int {K : PySem.W.Frag} : PySem.W.kitOne K (.type "tuple") (.type "int") = some false := kit_of (by decide +kernel)
theorem kit_none_tuple {K : PySem.W.Frag} : PySem.W.kitOne K (.type "NoneType") (.type "tuple") = some false := kit_of (by decide +kernel)
theorem kit_bool_tuple {K : PySem.W.Frag} : PySem.W.kitOne K (.type "bool") (.type "tuple") = some false := kit_of (by decide +kernel)
theorem kit_int_tuple {K : PySem.W.Frag} : PySem.W.kitOne K (.type "int") (.type "tuple") = some false := kit_of (by decide +kernel)
theorem kit_str_tuple {K : PySem.W.Frag} : PySem.W.kitOne K (.type "str") (.type "tuple") = some false := kit_of (by decide +kernel)
theorem kit_list_tuple {K : PySem.W.Frag} : PySem.W.kitOne K (.type "list") (.type "tuple") = some false := kit_of (by decide +kernel)

/-! all of a list of bools -/
theorem all_bls (bs : List Bool) : (List.range bs.length).all (fun i => bs.getD i false) = bs.all id := by
  induction bs with
  | nil => rfl
  | cons b r ih =>
    rw [List.length_cons, List.range_succ_eq_map, List.all_cons, List.all_map, List.all_cons]
    have : ((fun i => (b :: r).getD i false) ∘ Nat.succ) = fun i => r.getD i false := by funext i; simp
    rw [this, ih]
    simp
theorem call_all_bl (hc : X.calm = true) : CallR X (.builtin "all") (fun vs H Q => ∃ (l : Addr) (bs : List Bool), vs = [.ref l] ∧ SqL X.K H l (bs.map V.bl) ∧ Q (.bl (bs.all id)) H) := by
  intro pins s σ H vs us Q I r h
  obtain ⟨l, bs, rfl, hl, q⟩ := h
  obtain ⟨u, rfl, ru⟩ := vals1 r
  cases ru
  obtain ⟨its, rv, p, hz⟩ := I.list hl
  have hlt : l < s.heap.objs.size := by obtain ⟨o, n, e, _⟩ := p; exact Heap.lt_size e
  refine call_all_walk (wpAny_pyIter_list p.isList ?_)
  have hW : Walks X.prog X.w X.A.in1 s.heap.objs.size [s.heap.objs.size, l] [s.heap.objs.size] its.toArray.size (fun i v => its.toArray[i]? = some v) (fun i h => h.IsListIter s.heap.objs.size l i ∧ h.IsList l its.toArray) :=
    Walks.list (A := X.A.in1) (show X.A.in1.handled = none from I.ok.hd hc) _ _ (Nat.ne_of_lt hlt) _
  refine ⟨_, _, _, _, _, _, fun i => bs.getD i false, rfl, hW, ⟨⟨_, Heap.get?_push_size _ rfl, rfl, rfl⟩, Heap.IsList.at p.isList fun o e => Heap.get?_push_of_some _ e⟩, ?_, fun h' tk hk => ?_⟩
  · intro i v s' Q' E' hv hq
    have hv' : its[i]? = some v := by simpa using hv
    have hlen := rv.length
    have hi : i < bs.length := by
      have := (List.getElem?_eq_some_iff.mp hv').1
      rw [List.length_map] at hlen
      omega
    obtain ⟨u', hu', ru'⟩ := rv.get (i := i) (x := .bl (bs.getD i false)) (by rw [List.getElem?_map, List.getElem?_eq_getElem hi]; simp [hi])
    rw [hv'] at hu'
    cases hu'
    cases ru'
    exact wpAny_truthy_bool hq
  · have e : its.toArray.size = bs.length := by rw [List.size_toArray, ← rv.length, List.length_map]
    rw [e, all_bls]
    have I1 : Inv X pins σ H { s with heap := s.heap.push { cls := .type "list_iterator", data := .fields #[.ref l, .int 0 0] } } := I.kept (t' := s.toks) fun b o e => Heap.get?_push_of_some _ e
    refine ⟨.bl _, H, I1.turned (t' := tk) (it := s.heap.objs.size) (fun b o hb e => hk b o (by simpa using hb) e) I.fresh (Nat.ne_of_gt I.lt) (.inr I.sz) (fun y c e z => ?_) (fun p hp z => ?_), rfl, q⟩
    · obtain ⟨v, q'⟩ := I.cell y c e
      exact absurd q'.lt (z ▸ Nat.lt_irrefl _)
    · exact absurd (Heap.lt_size (I.pin p hp).1) (z ▸ Nat.lt_irrefl _)

/-! range(n) as a value, list of it -/
theorem call_rng1 : CallR X (.type "range") (fun vs H Q => ∃ j : Int, vs = [.int j] ∧ ∀ p, H p = none → Q (.ref p) (upd H p (.rng 0 j))) := by
  intro pins s σ H vs us Q I r h
  obtain ⟨j, rfl, q⟩ := h
  obtain ⟨u, rfl, ru⟩ := vals1 r
  obtain ⟨t, rfl⟩ := ru
  refine call_range_1 ⟨.ref s.heap.objs.size, _, I.laid (o := .rng 0 j) (fun b o e => Heap.get?_push_of_some _ e) (Nat.le_refl _) ⟨_, _, _, Heap.get?_push_size _ rfl⟩, rfl, q _ I.fresh⟩
theorem call_rng2 : CallR X (.type "range") (fun vs H Q => ∃ i j : Int, vs = [.int i, .int j] ∧ ∀ p, H p = none → Q (.ref p) (upd H p (.rng i j))) := by
  intro pins s σ H vs us Q I r h
  obtain ⟨i, j, rfl, q⟩ := h
  obtain ⟨u, u', rfl, ru, ru'⟩ := vals2 r
  obtain ⟨t, rfl⟩ := ru
  obtain ⟨t', rfl⟩ := ru'
  refine call_range_2 ⟨.ref s.heap.objs.size, _, I.laid (o := .rng i j) (fun b o e => Heap.get?_push_of_some _ e) (Nat.le_refl _) ⟨_, _, _, Heap.get?_push_size _ rfl⟩, rfl, q _ I.fresh⟩
def rngV (lo hi : Int) : List V := (List.range (hi - lo).toNat).map fun i => V.int (lo + (i : Nat))
theorem vals_items {lo : Int} : ∀ {n : Nat} {its : List Value}, its.length = n → (∀ i v, its[i]? = some v → ∃ t, v = Value.int (lo + (i : Nat) * 1) t) → Vals ((List.range n).map fun i => V.int (lo + (i : Nat))) its := by
  intro n
  induction n with
  | zero =>
    intro its h _
    rw [List.length_eq_zero_iff.mp h]
    exact .nil
  | succ n ih =>
    intro its h f
    have hne : its ≠ [] := by intro z; rw [z] at h; simp at h
    have e : its.dropLast ++ [its.getLast hne] = its := List.dropLast_concat_getLast hne
    rw [List.range_succ, List.map_append]
    rw [← e]
    have hl : its.dropLast.length = n := by rw [List.length_dropLast]; omega
    refine Vals.append (ih hl fun i v hv => f i v ?_) (.cons ?_ .nil)
    · have hi := (List.getElem?_eq_some_iff.mp hv).1
      rw [← e, List.getElem?_append_left hi]
      exact hv
    · obtain ⟨t, ht⟩ := f n (its.getLast hne) (by
        have e2 : (its.dropLast ++ [its.getLast hne])[n]? = some (its.getLast hne) := by
          rw [List.getElem?_append_right (by omega), hl]
          simp
        rw [e] at e2
        exact e2)
      exact ⟨t, by rw [ht, Int.mul_one]⟩
theorem call_list_rng (hc : X.calm = true) : CallR X (.type "list") (fun vs H Q => ∃ p lo hi, vs = [.ref p] ∧ H p = some (.rng lo hi) ∧ (-(2 ^ 62) ≤ lo ∧ lo < 2 ^ 62 ∧ -(2 ^ 62) ≤ hi ∧ hi < 2 ^ 62) ∧ (hi - lo).toNat ≤ 1000 ∧ ∀ l, H l = none → Q (.ref l) (upd H l (.lst (rngV lo hi)))) := by
  intro pins s σ H vs us Q I r h
  obtain ⟨p, lo, hi, rfl, hp, ⟨b1, b2, b3, b4⟩, hz, q⟩ := h
  obtain ⟨u, rfl, ru⟩ := vals1 r
  cases ru
  obtain ⟨t, u, v, e⟩ := (show ObjOk X.prog X.w H s.heap p (.rng lo hi) from I.hok p _ hp)
  have hn : Builtin.Range.rangeSize lo hi 1 = (((hi - lo).toNat : Nat) : Int) := by rw [rangeSize_one]; split <;> omega
  refine call_list_range (I.ok.hd hc) e (small_one b1 b2 b3 b4) hn (Nat.le_trans hz (by decide)) fun h' tk acc' c' hk hS hacc => ?_
  refine ⟨.ref s.heap.objs.size, _, I.laid (o := .lst (rngV lo hi)) hk (Nat.le_refl _) ?_, rfl, q _ I.fresh⟩
  have h1000 : (1000 : Nat) ≤ sizeLine := by decide
  refine ⟨by unfold rngV; rw [List.length_map, List.length_range]; omega, acc'.toList, c', ?_, by simpa using hS⟩
  exact vals_items (by rw [Array.length_toList]; exact hacc.1) fun i v hv => hacc.2 i v (by simpa using hv)
end

/-! t * n -/
section
open PySem.SeqAt
open AutoSeq1 (wpAny_loadPart')
theorem noFill_tuple_mul : fillsNumberSlot (.type "tuple") "mul" = pure false :=
  PySem.fillsNumberSlot_seq (id := "tuple.__mul__") (r := some (.builtin "tuple.__rmul__")) PySem.F.slot_tuple_mul.lookup (by decide +kernel) PySem.F.slot_tuple_rmul.lookup (by decide +kernel)
theorem repeat_tuple : seqRepeat? (.type "tuple") = pure (some (.builtin "tuple.__mul__")) := by
  unfold seqRepeat?
  rw [PySem.seqSlot_of (T := "tuple") (name := "__mul__") (id := "tuple.__mul__") PySem.F.slot_tuple_mul.lookup (by decide +kernel), PySem.seqSlot_of (T := "tuple") (name := "__rmul__") (id := "tuple.__rmul__") PySem.F.slot_tuple_rmul.lookup (by decide +kernel)]
  rfl
theorem int_rmul_tup (a : Int) (t : Tok) (l : Addr) (items : Array Value) (n : Nat) (dd : Option Addr) (sl : Array (Option Value)) :
    Meets (Builtin.«int.__rmul__» ⟨[.int a t, .ref l], []⟩) (fun _ R s => s.heap.get? l = some { cls := .type "tuple", dict := dd, data := .seq items n, slots := sl } ∧ R (.ok (.ret Value.notImplemented)) s) :=
  .of_wp fun prog w A R s h => by obtain ⟨hp, g, d, tk, os⟩ := s; obtain ⟨hl, h⟩ := h; wp_walk; exact ⟨_, rfl, h⟩
theorem tup_mul1 (l : Addr) (items : Array Value) (n : Nat) (dd : Option Addr) (sl : Array (Option Value)) (u : Tok) :
    Meets (Builtin.«tuple.__mul__» ⟨[.ref l, .int 1 u], []⟩) (fun _ R s => s.heap.get? l = some { cls := .type "tuple", dict := dd, data := .seq items n, slots := sl } ∧ R (.ok (.ret (.ref l))) s) :=
  .of_wp fun prog w A R s h => by
    obtain ⟨hp, g, d, tk, os⟩ := s; obtain ⟨hl, h⟩ := h
    have f1 := AutoSeq1.idx_int; have f2 := AutoSeq1.sub_tuple_tuple
    wp_walk using wpAny_loadPart' hl
    exact ⟨_, rfl, h⟩
theorem tup_mulN (l : Addr) (items : Array Value) (n : Nat) (dd : Option Addr) (sl : Array (Option Value)) (x : Int) (u : Tok) (hc0 : ¬ (items.isEmpty || x == 1) = true) (h0 : ¬ (decide (x ≤ 0) || items.isEmpty) = true)
    (h1 : ¬ (decide (x < -(2 ^ 63)) || decide (x ≥ 2 ^ 63)) = true) (hbig : ¬ ((items.size : Int) * x > (2 ^ 63 - 1) / 8)) (hmany : ¬ Builtin.Tuple.tupleTooMany ((items.size : Int) * x) = true)
    (hsz : ((List.replicate x.toNat items).foldl (· ++ ·) #[]).size ≤ sizeLine) :
    Meets (Builtin.«tuple.__mul__» ⟨[.ref l, .int x u], []⟩) (fun _ R s => s.heap.get? l = some { cls := .type "tuple", dict := dd, data := .seq items n, slots := sl } ∧
      R (.ok (.ret (.ref s.heap.objs.size))) { s with heap := s.heap.push { cls := .type "tuple", data := .seq ((List.replicate x.toNat items).foldl (· ++ ·) #[]) } }) :=
  .of_wp fun prog w A R s h => by
    obtain ⟨hp, g, d, tk, os⟩ := s; obtain ⟨hl, h⟩ := h
    have f1 := AutoSeq1.idx_int; have f2 := AutoSeq1.sub_tuple_tuple
    wp_walk using wpAny_loadPart' hl
    rw [if_neg h1]
    wp_walk using wpAny_loadPart' hl
    rw [if_neg hbig]
    wp_walk using wpAny_loadPart' hl
    exact ⟨_, rfl, h⟩
end
end L2

/-! ### own text: tuples as data -/
namespace L2
open PySem PySem.Spec PyProof.Rows
section
variable {X : Cx}
/-! t * n, n ≥ 1 -/
theorem op_repT : OpR X (binaryOp .Mult) (fun x y H Q => ∃ (a : Addr) (xs : List V) (k : Int), x = .ref a ∧ y = .int k ∧ SqT X.K H a xs ∧ xs ≠ [] ∧ 1 ≤ k ∧ k ≤ 1000 ∧ xs.length ≤ 1000 ∧
    ∀ p H', Same H H' → SqT X.K H' p (List.replicate k.toNat xs).flatten → Q (.ref p) H') := by
  intro pins s σ H x y v u Q I rx ry h
  obtain ⟨a, xs, k, rfl, rfl, ha, hne, h1, h2, h3, q⟩ := h
  cases rx
  obtain ⟨t, rfl⟩ := ry
  obtain ⟨its, r, p, hz⟩ := I.tuple ha
  obtain ⟨⟨cls, dd, data, sl⟩, ho, hc, n, hd⟩ := id p
  simp only at hc hd
  subst hc hd
  have hln := r.length
  have hits : its ≠ [] := fun z => hne (r.nil_iff.mp z)
  have hemp : its.toArray.isEmpty = false := by
    cases its with
    | nil => exact absurd rfl hits
    | cons _ _ => rfl
  refine wpAny_binaryOp_repeat_ref (T := "tuple") (U := "int") (by decide) ⟨_, ho, rfl⟩ (fun s' => typeIs_int s' k t) noFill_tuple_mul F.fills_int_mul F.slot_int_rmul repeat_tuple F.slot_int_index.lookup
    (call_meets F.slot_int_rmul (typeIs_int s k t) F.entry_int_rmul (F.args_int_rmul_2 _ _) (int_rmul_tup k t a its.toArray n dd sl) ⟨ho, rfl, ⟨_, ho, rfl⟩, ?_⟩)
  by_cases hk1 : k = 1
  · subst hk1
    refine call_meets PySem.F.slot_tuple_mul ⟨_, ho, rfl⟩ PySem.F.entry_tuple_mul (PySem.F.args_tuple_mul_2 _ _) (tup_mul1 a its.toArray n dd sl t) ⟨ho, ?_⟩
    refine ⟨.ref a, H, I, rfl, q a H (Same.refl H) ?_⟩
    have : (List.replicate (1 : Int).toNat xs).flatten = xs := by simp
    rw [this]; exact ha
  · have hsz : (its.length : Int) * k ≤ 1000000 := by
      have e1 : (its.length : Int) ≤ 1000 := by omega
      have : (its.length : Int) * k ≤ 1000 * 1000 := Int.mul_le_mul e1 h2 (by omega) (by omega)
      omega
    have hfold : (List.replicate k.toNat its.toArray).foldl (· ++ ·) #[] = (List.replicate k.toNat its).flatten.toArray := by
      have := foldl_rep its k.toNat []
      rw [List.nil_append] at this
      exact this
    have hlen : (List.replicate k.toNat its).flatten.length ≤ 1000000 := by
      rw [len_rep]
      have e1 : k.toNat ≤ 1000 := by omega
      have e2 : its.length ≤ 1000 := by omega
      exact Nat.le_trans (Nat.mul_le_mul e1 e2) (by omega)
    have hline : (1000000 : Nat) ≤ sizeLine := by decide
    refine call_meets PySem.F.slot_tuple_mul ⟨_, ho, rfl⟩ PySem.F.entry_tuple_mul (PySem.F.args_tuple_mul_2 _ _) (tup_mulN a its.toArray n dd sl k t ?_ ?_ ?_ ?_ ?_ ?_) ⟨ho, ?_⟩
    · rw [hemp, Bool.false_or]
      exact Bool.eq_false_iff.mp (beq_eq_false_iff_ne.mpr hk1)
    · rw [hemp, Bool.or_false]
      exact fun z => absurd (of_decide_eq_true z) (by omega)
    · rw [decide_eq_false (show ¬ k < -(2 ^ 63) by omega), decide_eq_false (show ¬ k ≥ 2 ^ 63 by omega)]
      exact Bool.false_ne_true
    · rw [List.size_toArray]
      omega
    · unfold Builtin.Tuple.tupleTooMany
      rw [List.size_toArray]
      exact fun z => absurd (of_decide_eq_true z) (by omega)
    · rw [hfold, List.size_toArray]
      omega
    · rw [hfold]
      refine ⟨.ref s.heap.objs.size, _, I.laid (t' := s.toks) (o := .tup (List.replicate k.toNat xs).flatten) (fun b ob q => Heap.get?_push_of_some _ q) (Nat.le_refl _) ?_, rfl, q _ _ (same_new I.fresh _) (SqT.of upd_same)⟩
      have hr := r.rep k.toNat
      exact ⟨by rw [hr.length]; omega, _, hr, IsTupD.new _ _⟩

/-! t + u, whatever they are -/
theorem cat_tup0 {prog : Program} {w : World} {A : Around} {E : Value → Shared → Prop} {s : Shared} {t b : Addr} {ws : List Value} {Q : Value → Shared → Prop} (ht : IsTup s.heap t ([] : List Value).toArray) (hb : IsTup s.heap b ws.toArray) (h : Q (.ref b) s) : wpAny (model prog w) A (binaryOp .Add (.ref t) (.ref b)) Q E s := by
  obtain ⟨⟨cls, dd, data, sl⟩, ho, hc, n, hd⟩ := id ht
  obtain ⟨⟨cls2, dd2, data2, sl2⟩, ho2, hc2, n2, hd2⟩ := id hb
  simp only at hc hd hc2 hd2
  subst hc hd hc2 hd2
  exact concat_meets ⟨_, ho, rfl⟩ ⟨_, ho2, rfl⟩ noFill_tuple_add seq_tuple_add PySem.F.slot_tuple_add PySem.F.entry_tuple_add (PySem.F.args_tuple_add_2 _ _)
    (tuple_addW0 t b ([] : List Value).toArray ws.toArray n n2 dd dd2 sl sl2 rfl) ⟨ho, ho2, h⟩
def rCatA (K : PySem.W.Frag) : R2 := fun x y H Q => ∃ a b xs ys, x = .ref a ∧ y = .ref b ∧ SqT K H a xs ∧ SqT K H b ys ∧ xs.length + ys.length ≤ 1000 ∧ ∀ p H', Same H H' → SqT K H' p (xs ++ ys) → Q (.ref p) H'
theorem op_catA : OpR X (binaryOp .Add) (rCatA X.K) := by
  intro pins s σ H x y v u Q I rx ry h
  obtain ⟨a, b, xs, ys, rfl, rfl, ha, hb, hz, q⟩ := h
  have hline : (1000 : Nat) ≤ sizeLine := by decide
  by_cases hx : xs = []
  · subst hx
    cases rx
    cases ry
    obtain ⟨its, r1, p1, _⟩ := I.tuple ha
    obtain ⟨its2, r2, p2, _⟩ := I.tuple hb
    have e1 : its = [] := r1.nil_iff.mpr rfl
    subst e1
    exact cat_tup0 p1 p2 ⟨.ref b, H, I, rfl, q b H (Same.refl H) hb⟩
  · refine op_catT pins s σ H _ _ v u Q I rx ry ⟨a, b, xs, ys, rfl, rfl, ha, hb, hx, by omega, fun hy => ?_, fun hy p hp => ?_⟩
    · refine q a H (Same.refl H) ?_
      rw [hy, List.append_nil]; exact ha
    · exact q p _ (same_new hp _) (SqT.of upd_same)

/-! t[lo:hi], whatever it is -/
theorem getItem_tuple_whole {prog : Program} {w : World} {A : Around} {E : Value → Shared → Prop} {s : Shared} {t sl : Addr} {items : Array Value} {vl vu : Value} {lo hi : Option Int} {Q : Value → Shared → Prop} (ht : IsTup s.heap t items) (hs : s.heap.IsSliceOf sl vl vu .none) (pl : IsPart vl lo) (pu : IsPart vu hi)
    (hw : HT.sIx items.size 0 lo = 0 ∧ HT.sIx items.size items.size hi = items.size) (h : Q (.ref t) s) : wpAny (model prog w) A (getItem (.ref t) (.ref sl)) Q E s := by
  obtain ⟨os, hos, hcs, hds⟩ := id hs
  have hTs : s.TypeIs (.ref sl) "slice" := ⟨os, hos, hcs⟩
  obtain ⟨ot, hot, hct, hdt⟩ := id ht
  unfold getItem
  try with_reducible refine wpAny_holding ?_
  first | refine wpAny_bind (wpAny_pure ?_) | skip
  refine wpAny_bind (wpAny_sequenceKey ht.typeIs (by decide) ?_)
  refine wpAny_bind (wpAny_callSpecial?_slot (name := Str.ofString "__getitem__") ht.typeIs PyProof.Rows.slot_tuple_getitem
    (wpAny_call_entry PyProof.Rows.slot_tuple_getitem ht.typeIs entry_tuple_getitem ?_ (args_tuple_getitem _ _)))
  show wpAny _ _ (Builtin.Tuple.tupleItemsOf (.ref t) >>= _) _ _ s
  refine wpAny_bind (tupleItemsOf_ ht ?_)
  refine wpAny_bind (wpAny_typeOf hTs ?_)
  rw [if_pos (by decide)]
  refine wpAny_bind (HT.sliceApplied_gen hs pl pu ?_)
  have hyes : ((((HT.sIx items.size 0 lo : Nat) : Int) == 0 && (1 : Int) == 1 && (HT.sIx items.size items.size hi - HT.sIx items.size 0 lo) == items.size) = true) := by
    rw [hw.1, hw.2]
    simp
  show wpAny _ _ (if (((HT.sIx items.size 0 lo : Nat) : Int) == 0 && (1 : Int) == 1 && (HT.sIx items.size items.size hi - HT.sIx items.size 0 lo) == items.size) = true then _ else _) _ _ s
  rw [if_pos hyes]
  refine wpAny_bind (m := Builtin.Tuple.tupleIsExact (.ref t)) ?_
  unfold Builtin.Tuple.tupleIsExact
  refine wpAny_bind (wpAny_typeOf ht.typeIs (wpAny_pure ?_))
  rw [if_pos (by decide)]
  exact wpAny_bind (wpAny_rule (wpAny_pure ⟨_, rfl, wpAny_pure h⟩))
def rSlA (K : PySem.W.Frag) : V → Option Int → Option Int → Hp → VK → Prop := fun x lo hi H Q => ∃ a xs, x = .ref a ∧ SqT K H a xs ∧ ∀ p H', Same H H' → SqT K H' p (cutV xs lo hi) → Q (.ref p) H'
theorem sl_tupA : SlR X (rSlA X.K) := by
  intro pins s σ H x v vl vu lo hi sl Q I rx hs pl pu h
  obtain ⟨a, xs, rfl, hx, q⟩ := h
  by_cases hw : HT.sIx xs.length 0 lo = 0 ∧ HT.sIx xs.length xs.length hi = xs.length
  · cases rx
    obtain ⟨its, r, ht, hz⟩ := I.tuple hx
    have hlen : its.toArray.size = xs.length := by rw [List.size_toArray]; exact r.length.symm
    refine ⟨"tuple", _, PyProof.Rows.slot_tuple_getitem.lookup, ht.typeIs, ?_⟩
    refine getItem_tuple_whole ht hs pl pu (by rw [hlen]; exact hw) ⟨.ref a, H, I, rfl, q a H (Same.refl H) ?_⟩
    have e : cutV xs lo hi = xs := by
      unfold cutV
      rw [hw.1, hw.2]
      simp
    rw [e]; exact hx
  · exact sl_tup pins s σ H _ v vl vu lo hi sl Q I rx hs pl pu ⟨a, xs, rfl, hx, hw, fun p hp => q p _ (same_new hp _) (SqT.of upd_same)⟩
end
end L2

/-! ### own text: tuples of tuples of ints as plain data, and == of them -/
namespace L2
open PySem PySem.Spec PyProof.Rows
/-- plain data: ints and tuples -/
inductive Dt where
  | int (i : Int)
  | tup (l : List Dt)
mutual
def Den (K : PySem.W.Frag) (H : Hp) : Dt → V → Prop
  | .int i, v => v = .int i
  | .tup ds, v => ∃ a xs, v = .ref a ∧ SqT K H a xs ∧ DenL K H ds xs
def DenL (K : PySem.W.Frag) (H : Hp) : List Dt → List V → Prop
  | [], xs => xs = []
  | d :: ds, xs => ∃ x r, xs = x :: r ∧ Den K H d x ∧ DenL K H ds r
end
mutual
def Dt.dep : Dt → Nat
  | .int _ => 0
  | .tup ds => depL ds + 1
def depL : List Dt → Nat
  | [] => 0
  | d :: ds => max d.dep (depL ds)
end
/-- every tuple that is read stays -/
abbrev TK (K : PySem.W.Frag) (H H' : Hp) : Prop := ∀ a xs, SqT K H a xs → SqT K H' a xs
theorem Same.tk {K : PySem.W.Frag} {H H' : Hp} (e : Same H H') : TK K H H' := fun _ _ h => e.tup h
theorem TK.trans {K : PySem.W.Frag} {H H1 H2 : Hp} (a : TK K H H1) (b : TK K H1 H2) : TK K H H2 := fun c xs h => b c xs (a c xs h)
theorem tk_upd {K : PySem.W.Frag} {H : Hp} {l : Addr} {xs : List V} {o : HO} (h : H l = some (.lst xs)) : TK K H (upd H l o) := fun a ys hs => by
  rcases hs with (z | ⟨ob, z⟩) | z
  · exact .inl (.inl (by rw [upd_ne (ne_of z h (by intro q; cases q))]; exact z))
  · exact .inl (.inr ⟨ob, by rw [upd_ne (ne_of z h (by intro q; cases q))]; exact z⟩)
  · exact .inr z
section
variable {K : PySem.W.Frag} {H H' : Hp}
mutual
theorem Den.mono (e : TK K H H') : ∀ (d : Dt) {v : V}, Den K H d v → Den K H' d v
  | .int _, _, h => by unfold Den at h ⊢; exact h
  | .tup ds, v, h => by
    unfold Den at h ⊢
    obtain ⟨a, xs, r, hs, hd⟩ := h
    exact ⟨a, xs, r, e _ _ hs, DenL.mono e ds hd⟩
theorem DenL.mono (e : TK K H H') : ∀ (ds : List Dt) {xs : List V}, DenL K H ds xs → DenL K H' ds xs
  | [], _, h => by unfold DenL at h ⊢; exact h
  | d :: ds, _, h => by
    unfold DenL at h ⊢
    obtain ⟨x, r, e1, h1, h2⟩ := h
    exact ⟨x, r, e1, Den.mono e d h1, DenL.mono e ds h2⟩
end
theorem den_int {i : Int} : Den K H (.int i) (.int i) := by unfold Den; rfl
theorem den_tup {a : Addr} {xs : List V} {ds : List Dt} (h : SqT K H a xs) (hd : DenL K H ds xs) : Den K H (.tup ds) (.ref a) := by unfold Den; exact ⟨a, xs, rfl, h, hd⟩
theorem of_den_tup {ds : List Dt} {v : V} (h : Den K H (.tup ds) v) : ∃ a xs, v = .ref a ∧ SqT K H a xs ∧ DenL K H ds xs := by unfold Den at h; exact h
theorem of_den_int {i : Int} {v : V} (h : Den K H (.int i) v) : v = .int i := by unfold Den at h; exact h
theorem denL_nil : DenL K H [] [] := by unfold DenL; rfl
theorem denL_cons {d : Dt} {ds : List Dt} {x : V} {xs : List V} (h : Den K H d x) (hs : DenL K H ds xs) : DenL K H (d :: ds) (x :: xs) := by unfold DenL; exact ⟨x, xs, rfl, h, hs⟩
theorem of_denL_nil {xs : List V} (h : DenL K H [] xs) : xs = [] := by unfold DenL at h; exact h
theorem of_denL_cons {d : Dt} {ds : List Dt} {xs : List V} (h : DenL K H (d :: ds) xs) : ∃ x r, xs = x :: r ∧ Den K H d x ∧ DenL K H ds r := by unfold DenL at h; exact h
theorem denL_length : ∀ {ds : List Dt} {xs : List V}, DenL K H ds xs → xs.length = ds.length
  | [], _, h => by rw [of_denL_nil h]; rfl
  | _ :: ds, _, h => by
    obtain ⟨x, r, rfl, _, h2⟩ := of_denL_cons h
    rw [List.length_cons, List.length_cons, denL_length h2]
theorem denL_get : ∀ {ds : List Dt} {xs : List V} {i : Nat} {d : Dt}, DenL K H ds xs → ds[i]? = some d → ∃ x, xs[i]? = some x ∧ Den K H d x
  | [], _, _, _, _, e => by simp at e
  | _ :: ds, _, 0, _, h, e => by
    obtain ⟨x, r, rfl, h1, _⟩ := of_denL_cons h
    simp at e
    subst e
    exact ⟨x, rfl, h1⟩
  | _ :: ds, _, i + 1, d, h, e => by
    obtain ⟨x, r, rfl, _, h2⟩ := of_denL_cons h
    obtain ⟨y, e1, e2⟩ := denL_get (i := i) (d := d) h2 (by simpa using e)
    exact ⟨y, by simpa using e1, e2⟩
theorem denL_append : ∀ {ds es : List Dt} {xs ys : List V}, DenL K H ds xs → DenL K H es ys → DenL K H (ds ++ es) (xs ++ ys)
  | [], _, _, _, h, h' => by rw [of_denL_nil h]; exact h'
  | _ :: ds, _, _, _, h, h' => by
    obtain ⟨x, r, rfl, h1, h2⟩ := of_denL_cons h
    exact denL_cons h1 (denL_append h2 h')
theorem denL_ints : ∀ (ns : List Int), DenL K H (ns.map Dt.int) (ns.map V.int)
  | [] => denL_nil
  | n :: ns => denL_cons den_int (denL_ints ns)
theorem of_denL_ints : ∀ {ns : List Int} {xs : List V}, DenL K H (ns.map Dt.int) xs → xs = ns.map V.int
  | [], _, h => of_denL_nil h
  | n :: ns, _, h => by
    obtain ⟨x, r, rfl, h1, h2⟩ := of_denL_cons h
    rw [of_den_int h1, of_denL_ints h2]
    rfl
theorem denL_mem : ∀ {ds : List Dt} {xs : List V} {x : V}, DenL K H ds xs → x ∈ xs → ∃ d ∈ ds, Den K H d x
  | [], _, _, h, hx => by rw [of_denL_nil h] at hx; simp at hx
  | d :: ds, _, x, h, hx => by
    obtain ⟨y, r, rfl, h1, h2⟩ := of_denL_cons h
    rcases List.mem_cons.mp hx with z | z
    · exact ⟨d, List.mem_cons_self, z ▸ h1⟩
    · obtain ⟨e, he, hd⟩ := denL_mem h2 z
      exact ⟨e, List.mem_cons_of_mem _ he, hd⟩
end

section
variable {X : Cx} {pins : List (Addr × Obj)} {σ : St} {H : Hp} {s : Shared}
mutual
theorem den_inj (I : Inv X pins σ H s) : ∀ (d e : Dt) {v : V}, Den X.K H d v → Den X.K H e v → d = e
  | .int i, .int j, v, h, h' => by
    have e1 := of_den_int h
    have e2 := of_den_int h'
    rw [e1] at e2
    cases e2; rfl
  | .int i, .tup es, v, h, h' => by
    have e1 := of_den_int h
    obtain ⟨a, xs, e2, _⟩ := of_den_tup h'
    rw [e1] at e2; cases e2
  | .tup ds, .int j, v, h, h' => by
    have e1 := of_den_int h'
    obtain ⟨a, xs, e2, _⟩ := of_den_tup h
    rw [e1] at e2; cases e2
  | .tup ds, .tup es, v, h, h' => by
    obtain ⟨a, xs, e1, s1, d1⟩ := of_den_tup h
    obtain ⟨b, ys, e2, s2, d2⟩ := of_den_tup h'
    rw [e1] at e2; cases e2
    have := I.tuple_inj s1 s2
    subst this
    rw [denL_inj I ds es d1 d2]
theorem denL_inj (I : Inv X pins σ H s) : ∀ (ds es : List Dt) {xs : List V}, DenL X.K H ds xs → DenL X.K H es xs → ds = es
  | [], [], _, _, _ => rfl
  | [], e :: es, xs, h, h' => by
    obtain ⟨x, r, e1, _⟩ := of_denL_cons h'
    rw [of_denL_nil h] at e1; cases e1
  | d :: ds, [], xs, h, h' => by
    obtain ⟨x, r, e1, _⟩ := of_denL_cons h
    rw [of_denL_nil h'] at e1; cases e1
  | d :: ds, e :: es, xs, h, h' => by
    obtain ⟨x, r, rfl, h1, h2⟩ := of_denL_cons h
    obtain ⟨y, r', e1, h1', h2'⟩ := of_denL_cons h'
    cases e1
    rw [den_inj I d e h1 h1', denL_inj I ds es h2 h2']
end
theorem all_shift (b : Bool) (e : Nat → Bool) (n m : Nat) : ((List.range (min (n + 1) (m + 1))).all (fun j => match j with | 0 => b | j + 1 => e j) && (n + 1) == (m + 1)) = (b && ((List.range (min n m)).all e && n == m)) := by
  have h1 : min (n + 1) (m + 1) = min n m + 1 := by omega
  have h2 : ((n + 1) == (m + 1)) = (n == m) := by
    rw [Bool.eq_iff_iff]; simp
  rw [h1, h2, List.range_succ_eq_map, List.all_cons, List.all_map, Bool.and_assoc]
  rfl
mutual
theorem eqAt_D (I : Inv X pins σ H s) : ∀ (d e : Dt) {A : Around} {v w : V} {u u' : Value}, Den X.K H d v → Den X.K H e w → RelV v u → RelV w u' → A.units + d.dep < cLine → ∃ b, SeqAt.EqAt A s u u' b ∧ (b = true ↔ d = e)
  | .int i, .int j, A, v, w, u, u', h, h', r, r', hu => by
    rw [of_den_int h] at r
    rw [of_den_int h'] at r'
    obtain ⟨t, rfl⟩ := r
    obtain ⟨t', rfl⟩ := r'
    exact ⟨_, SeqAt.EqAt.int_int i t j t', by simp⟩
  | .int i, .tup es, A, v, w, u, u', h, h', r, r', hu => by
    rw [of_den_int h] at r
    obtain ⟨t, rfl⟩ := r
    obtain ⟨a, xs, rfl, s1, _⟩ := of_den_tup h'
    cases r'
    obtain ⟨its, _, p, _⟩ := I.tuple s1
    have hu' : A.units < cLine := by omega
    exact ⟨false, SeqAt.EqAt.int_tuple i t p hu', by simp⟩
  | .tup ds, .int j, A, v, w, u, u', h, h', r, r', hu => by
    rw [of_den_int h'] at r'
    obtain ⟨t, rfl⟩ := r'
    obtain ⟨a, xs, rfl, s1, _⟩ := of_den_tup h
    cases r
    obtain ⟨its, _, p, _⟩ := I.tuple s1
    have hu' : A.units < cLine := by omega
    exact ⟨false, SeqAt.EqAt.tuple_int j t p hu', by simp⟩
  | .tup ds, .tup es, A, v, w, u, u', h, h', r, r', hu => by
    obtain ⟨a, xs, rfl, s1, d1⟩ := of_den_tup h
    obtain ⟨b, ys, rfl, s2, d2⟩ := of_den_tup h'
    cases r
    cases r'
    by_cases hab : a = b
    · subst hab
      have := den_inj I (.tup ds) (.tup es) h h'
      exact ⟨true, SeqAt.EqAt.same _, by simp [this]⟩
    · obtain ⟨its, r1, p1, _⟩ := I.tuple s1
      obtain ⟨its2, r2, p2, _⟩ := I.tuple s2
      have hu1 : A.units < cLine := by omega
      have hu2 : A.in1.units + depL ds < cLine := by
        have : A.in1.units = A.units + 1 := rfl
        have h3 : (Dt.tup ds).dep = depL ds + 1 := by rw [Dt.dep]
        omega
      obtain ⟨e, he, hq⟩ := eqAt_DL I ds es (A := A.in1) d1 d2 r1 r2 hu2
      refine ⟨_, SeqAt.EqAt.of_refs hab (SeqAt.RcAt.tuples p1 p2 hu1 (e := e) fun j h1 h2 => ?_), ?_⟩
      · have := he j (by simpa using h1) (by simpa using h2)
        simpa using this
      · rw [List.size_toArray, List.size_toArray, hq]
        constructor
        · intro z; rw [z]
        · intro z; cases z; rfl
theorem eqAt_DL (I : Inv X pins σ H s) : ∀ (ds es : List Dt) {A : Around} {xs ys : List V} {us us' : List Value}, DenL X.K H ds xs → DenL X.K H es ys → Vals xs us → Vals ys us' → A.units + depL ds < cLine →
    ∃ e : Nat → Bool, (∀ j (h1 : j < us.length) (h2 : j < us'.length), SeqAt.EqAt A s us[j] us'[j] (e j)) ∧ (((List.range (min us.length us'.length)).all e && us.length == us'.length) = true ↔ ds = es)
  | [], [], A, xs, ys, us, us', h, h', r, r', hu => by
    rw [of_denL_nil h] at r
    rw [of_denL_nil h'] at r'
    cases r
    cases r'
    exact ⟨fun _ => true, fun j h1 => absurd h1 (by simp), by simp⟩
  | [], e :: es, A, xs, ys, us, us', h, h', r, r', hu => by
    rw [of_denL_nil h] at r
    obtain ⟨x, q, rfl, _⟩ := of_denL_cons h'
    cases r
    cases r'
    exact ⟨fun _ => true, fun j h1 => absurd h1 (by simp), by simp⟩
  | d :: ds, [], A, xs, ys, us, us', h, h', r, r', hu => by
    rw [of_denL_nil h'] at r'
    obtain ⟨x, q, rfl, _⟩ := of_denL_cons h
    cases r
    cases r'
    exact ⟨fun _ => true, fun j _ h2 => absurd h2 (by simp), by simp⟩
  | d :: ds, e :: es, A, xs, ys, us, us', h, h', r, r', hu => by
    obtain ⟨x, q, rfl, h1, h2⟩ := of_denL_cons h
    obtain ⟨y, q', rfl, h1', h2'⟩ := of_denL_cons h'
    cases r with
    | cons rx rr =>
      cases r' with
      | cons ry rr' =>
        have hd : depL (d :: ds) = max d.dep (depL ds) := by rw [depL]
        obtain ⟨b, hb, hbi⟩ := eqAt_D I d e (A := A) h1 h1' rx ry (by omega)
        obtain ⟨f, hf, hfi⟩ := eqAt_DL I ds es (A := A) h2 h2' rr rr' (by omega)
        refine ⟨fun j => match j with | 0 => b | j + 1 => f j, fun j j1 j2 => ?_, ?_⟩
        · cases j with
          | zero => exact hb
          | succ j => exact hf j (by simpa using j1) (by simpa using j2)
        · rw [List.length_cons, List.length_cons, all_shift, Bool.and_eq_true, hbi, hfi]
          constructor
          · rintro ⟨z1, z2⟩; rw [z1, z2]
          · intro z; cases z; exact ⟨rfl, rfl⟩
end
end
section
variable {X : Cx}
/-- t == u of tuples (two ints: op_eq) -/
theorem op_eqD (hu : X.A.units + 20 < cLine) : OpR X (compareOp .Eq) (fun x y H Q => ∃ ds es, Den X.K H (.tup ds) x ∧ Den X.K H (.tup es) y ∧ depL ds ≤ 10 ∧ ∀ b, (b = true ↔ ds = es) → Q (.bl b) H) := by
  intro pins s σ H x y v u Q I rx ry h
  obtain ⟨ds, es, h1, h2, hd, q⟩ := h
  obtain ⟨a, xs, rfl, s1, d1⟩ := of_den_tup h1
  obtain ⟨b, ys, rfl, s2, d2⟩ := of_den_tup h2
  cases rx
  cases ry
  obtain ⟨its, r1, p1, _⟩ := I.tuple s1
  obtain ⟨its2, r2, p2, _⟩ := I.tuple s2
  have hin : X.A.in1.units = X.A.units + 1 := rfl
  obtain ⟨e, he, hq⟩ := eqAt_DL I ds es (A := X.A.in1) d1 d2 r1 r2 (by omega)
  refine SeqAt.eq_tupleAt p1 p2 (by omega) (e := e) (fun j j1 j2 => ?_) ⟨.bl _, H, I, rfl, q _ ?_⟩
  · have := he j (by simpa using j1) (by simpa using j2)
    simpa using this
  · rw [List.size_toArray, List.size_toArray]
    exact hq
end
/-! ### within a comprehension: the written part K named, so that a reading does not speak of the block -/
section
variable {X : Cx} {o e : Expr} {es : List Expr} {to : TE} {t : TA} {name : Str} {apos cpos : Pos} {T id : String} {r : V → List V → Hp → VK → Prop}
theorem pe_bmK (K : PySem.W.Frag) (pa : PlainAttrs T) (slot : Slot T name id) (hty : typeOf (.builtin id) = pure (.type "method_descriptor")) (hm : MtR X id r) (ho : PE X o to) (ha : PA X (e :: es) t) (hK : X.K = K := by rfl)
    (hbase : attributeBase o name X.env (eval o X.env) = eval o X.env := by rfl)
    (hfew : ((backTo cpos (starEach (e :: es) X.env)).all (fun x => !x.1) && (backToKw cpos (keywordEach [] X.env)).all (fun x => x.1.isSome)
      && decide ((e :: es).length + ([] : List Keyword).length + (if ([] : List Keyword).isEmpty then 0 else 1) < 30)) = true := by rfl)
    (hline : (apos.endLine == cpos.line) = true := by rfl) (hs : starEach (e :: es) X.env = (false, eval e X.env) :: starEach es X.env := by rfl) (hplain : (backTo cpos (starEach es X.env)).any (·.1) = false := by rfl) :
    PE X (.Call (.Attribute o name apos) (e :: es) [] cpos) (tBM K T r to t) := by
  subst hK
  exact pe_bm pa slot hty hm ho ha hbase hfew hline hs hplain
theorem ix_listK (K : PySem.W.Frag) (hK : X.K = K := by rfl) : IxR X (rIxL K) := by subst hK; exact ix_list
theorem ix_tupK (K : PySem.W.Frag) (hK : X.K = K := by rfl) : IxR X (rIxT K) := by subst hK; exact ix_tup
theorem op_catK (K : PySem.W.Frag) (hK : X.K = K := by rfl) : OpR X (binaryOp .Add) (rCatA K) := by subst hK; exact op_catA
theorem sl_tupK (K : PySem.W.Frag) (hK : X.K = K := by rfl) : SlR X (rSlA K) := by subst hK; exact sl_tupA
theorem op_inK (K : PySem.W.Frag) (hK : X.K = K := by rfl) : OpR X (compareOp .In) (rIn K false) := by subst hK; exact op_in_seq
theorem op_notInK (K : PySem.W.Frag) (hK : X.K = K := by rfl) : OpR X (compareOp .NotIn) (rIn K true) := by subst hK; exact op_notIn_seq
theorem call_lenK (K : PySem.W.Frag) (hK : X.K = K := by rfl) : CallR X (.builtin "len") (fun xs H Q => ∃ p ys, xs = [.ref p] ∧ (SqL K H p ys ∨ SqT K H p ys) ∧ Q (.int ys.length) H) := by subst hK; exact call_len_seq
theorem call_tupleK (K : PySem.W.Frag) (hK : X.K = K := by rfl) : CallR X (.type "tuple") (fun xs H Q => ∃ p ys, xs = [.ref p] ∧ ((SqL K H p ys ∧ ∀ l, H l = none → Q (.ref l) (upd H l (.tup ys))) ∨ (SqT K H p ys ∧ Q (.ref p) H))) := by subst hK; exact call_tuple_of
theorem call_listK (K : PySem.W.Frag) (hK : X.K = K := by rfl) : CallR X (.type "list") (fun xs H Q => ∃ p ys, xs = [.ref p] ∧ (SqL K H p ys ∨ SqT K H p ys) ∧ ∀ l, H l = none → Q (.ref l) (upd H l (.lst ys))) := by subst hK; exact call_list_of
theorem call_isiK (K : PySem.W.Frag) (hK : X.K = K := by rfl) : CallR X (.builtin "isinstance") (fun vs H Q => ∃ x T t b, vs = [x, .ty T] ∧ TyOf K H x t ∧ PySem.W.kitOne K t (.type T) = some b ∧ Q (.bl b) H) := by subst hK; exact call_isi
end
theorem tyes {σ : St} {H : Hp} {A B : Hp → Prop} (h : A H) : tYes σ H (fun b H2 => if b = true then A H2 else B H2) := by
  show (if true = true then A H else B H)
  rw [if_pos rfl]
  exact h
/-! ### isinstance of whatever tuple or list is read -/
inductive TyX (K : PySem.W.Frag) (H : Hp) : V → Value → Prop where
  | of {v : V} {t : Value} (h : TyOf K H v t) : TyX K H v t
  | tup {a : Addr} {xs : List V} (h : SqT K H a xs) : TyX K H (.ref a) (.type "tuple")
  | lst {a : Addr} {xs : List V} (h : SqL K H a xs) : TyX K H (.ref a) (.type "list")
theorem call_isiX {X : Cx} (K : PySem.W.Frag) (hK : X.K = K := by rfl) : CallR X (.builtin "isinstance") (fun vs H Q => ∃ x T t b, vs = [x, .ty T] ∧ TyX K H x t ∧ PySem.W.kitOne K t (.type T) = some b ∧ Q (.bl b) H) := by
  subst hK
  intro pins s σ H vs us Q I r h
  obtain ⟨x, T, t, b, rfl, ty, e, q⟩ := h
  obtain ⟨u, u', rfl, r1, r2⟩ := vals2 r
  cases r2
  have fin : ∀ tk, EP X pins σ Q (.bool b) { s with toks := tk } := fun tk => ⟨.bl b, H, I.tok tk, rfl, q⟩
  cases ty with
  | of h => exact isinst_ok I r1 h e fin
  | tup h =>
    cases r1
    obtain ⟨its, _, p, _⟩ := I.tuple h
    obtain ⟨o, h1, h2, _⟩ := p
    exact PySem.W.kia_one PySem.W.kitx_tuple I.kIn ⟨o, h1, h2⟩ e (fun z => nomatch z) fin
  | lst h =>
    cases r1
    obtain ⟨its, _, p, _⟩ := I.list h
    obtain ⟨o, n, h1, h2, _⟩ := p
    exact PySem.W.kia_one PySem.W.kitx_list I.kIn ⟨o, h1, h2⟩ e (fun z => nomatch z) fin
/-- a new object: its heap under a name of its own -/
@[elab_as_elim] theorem alloc {H : Hp} {p : Addr} {o : HO} {G : Hp → Prop} (hp : H p = none) (h : ∀ H', Same H H' → H' p = some o → G H') : G (upd H p o) := h _ (same_new hp _) upd_same
end L2

/-! ### own text: == and != of tuples and lists, in, not in, max and min of lists -/
namespace L2
open PySem PySem.Spec PyProof.Rows
section
variable {X : Cx}
/-- two readings as one -/
def rD (K : PySem.W.Frag) (f : Bool → Bool) : R2 := fun x y H Q => ∃ ds es, Den K H (.tup ds) x ∧ Den K H (.tup es) y ∧ depL ds ≤ 10 ∧ ∀ b, (b = true ↔ ds = es) → Q (.bl (f b)) H
theorem op_eqDK (K : PySem.W.Frag) (hu : X.A.units + 20 < cLine) (hK : X.K = K := by rfl) : OpR X (compareOp .Eq) (rD K id) := by
  subst hK
  exact op_eqD hu
theorem op_neDK (K : PySem.W.Frag) (hu : X.A.units + 20 < cLine) (hK : X.K = K := by rfl) : OpR X (compareOp .NotEq) (rD K (! ·)) := by
  subst hK
  intro pins s σ H x y v u Q I rx ry h
  obtain ⟨ds, es, h1, h2, hd, q⟩ := h
  obtain ⟨a, xs, rfl, s1, d1⟩ := of_den_tup h1
  obtain ⟨b, ys, rfl, s2, d2⟩ := of_den_tup h2
  cases rx
  cases ry
  obtain ⟨its, r1, p1, _⟩ := I.tuple s1
  obtain ⟨its2, r2, p2, _⟩ := I.tuple s2
  have hin : X.A.in1.units = X.A.units + 1 := rfl
  obtain ⟨e, he, hq⟩ := eqAt_DL I ds es (A := X.A.in1) d1 d2 r1 r2 (by omega)
  refine SeqAt.RcNeAt.tuples p1 p2 (by omega) (e := e) (fun j j1 j2 => ?_) X.prog X.w X.xe _ ⟨.bl _, H, I, rfl, q _ ?_⟩
  · have := he j (by simpa using j1) (by simpa using j2)
    simpa using this
  · rw [List.size_toArray, List.size_toArray]
    exact hq
/-- lists of plain data -/
def rDL (K : PySem.W.Frag) (f : Bool → Bool) : R2 := fun x y H Q => ∃ a b xs ys ds es, x = .ref a ∧ y = .ref b ∧ SqL K H a xs ∧ SqL K H b ys ∧ DenL K H ds xs ∧ DenL K H es ys ∧ depL ds ≤ 10 ∧ ∀ b, (b = true ↔ ds = es) → Q (.bl (f b)) H
theorem op_eqLK (K : PySem.W.Frag) (hu : X.A.units + 20 < cLine) (hK : X.K = K := by rfl) : OpR X (compareOp .Eq) (rDL K id) := by
  subst hK
  intro pins s σ H x y v u Q I rx ry h
  obtain ⟨a, b, xs, ys, ds, es, rfl, rfl, s1, s2, d1, d2, hd, q⟩ := h
  cases rx
  cases ry
  obtain ⟨its, r1, p1, _⟩ := I.list s1
  obtain ⟨its2, r2, p2, _⟩ := I.list s2
  have hin : X.A.in1.units = X.A.units + 1 := rfl
  obtain ⟨e, he, hq⟩ := eqAt_DL I ds es (A := X.A.in1) d1 d2 r1 r2 (by omega)
  by_cases hl : its.length = its2.length
  · refine SeqAt.eq_listAt p1.isList p2.isList (by simpa using hl) (by omega) (e := e) (fun j j1 j2 => ?_) ⟨.bl _, H, I, rfl, q _ ?_⟩
    · have := he j (by simpa using j1) (by simpa using j2)
      simpa using this
    · rw [← hq, List.size_toArray, hl]
      simp
  · refine SeqAt.eq_list_lengthsAt p1.isList p2.isList (by simpa using hl) (by omega) ⟨.bl false, H, I, rfl, q false ?_⟩
    rw [← hq]
    simp [hl]
theorem op_neLK (K : PySem.W.Frag) (hu : X.A.units + 20 < cLine) (hK : X.K = K := by rfl) : OpR X (compareOp .NotEq) (rDL K (! ·)) := by
  subst hK
  intro pins s σ H x y v u Q I rx ry h
  obtain ⟨a, b, xs, ys, ds, es, rfl, rfl, s1, s2, d1, d2, hd, q⟩ := h
  cases rx
  cases ry
  obtain ⟨its, r1, p1, _⟩ := I.list s1
  obtain ⟨its2, r2, p2, _⟩ := I.list s2
  have hin : X.A.in1.units = X.A.units + 1 := rfl
  obtain ⟨e, he, hq⟩ := eqAt_DL I ds es (A := X.A.in1) d1 d2 r1 r2 (by omega)
  by_cases hl : its.length = its2.length
  · refine SeqAt.RcNeAt.lists p1.isList p2.isList (by simpa using hl) (by omega) (e := e) (fun j j1 j2 => ?_) X.prog X.w X.xe _ ⟨.bl _, H, I, rfl, q _ ?_⟩
    · have := he j (by simpa using j1) (by simpa using j2)
      simpa using this
    · rw [← hq, List.size_toArray, hl]
      simp
  · refine SeqAt.RcNeAt.lists_lengths p1.isList p2.isList (by simpa using hl) (by omega) X.prog X.w X.xe _ ⟨.bl true, H, I, rfl, q false ?_⟩
    rw [← hq]
    simp [hl]
end

/-! in, not in -/
section
open Classical
variable {X : Cx} {pins : List (Addr × Obj)} {σ : St} {H : Hp} {s : Shared}
/-- the answer of an item, read off its value -/
noncomputable def eqD (K : PySem.W.Frag) (H : Hp) (d : Dt) (u : Value) : Bool := decide (∃ v, RelV v u ∧ Den K H d v)
theorem eqD_at (I : Inv X pins σ H s) {A : Around} {d e : Dt} {v w : V} {u u' : Value} (h : Den X.K H d v) (h' : Den X.K H e w) (r : RelV v u) (r' : RelV w u') (hu : A.units + e.dep < cLine) : SeqAt.EqAt A s u' u (eqD X.K H d u') := by
  obtain ⟨b, hb, hi⟩ := eqAt_D I e d h' h r' r hu
  have : eqD X.K H d u' = b := by
    unfold eqD
    cases b with
    | true =>
      have e1 : e = d := hi.mp rfl
      exact decide_eq_true ⟨w, r', e1 ▸ h'⟩
    | false =>
      refine decide_eq_false fun ⟨z, rz, hz⟩ => ?_
      have : z = w := rz.inj r'
      subst this
      have := hi.mpr (den_inj I e d h' hz)
      cases this
  rw [this]
  exact hb
theorem any_eqD (I : Inv X pins σ H s) {d : Dt} : ∀ {es : List Dt} {ys : List V} {us : List Value}, DenL X.K H es ys → Vals ys us → (us.any (eqD X.K H d) = true ↔ d ∈ es)
  | [], _, _, h, r => by
    rw [of_denL_nil h] at r
    cases r
    simp
  | e :: es, _, _, h, r => by
    obtain ⟨y, q, rfl, h1, h2⟩ := of_denL_cons h
    cases r with
    | @cons _ u _ us r1 r2 =>
      rw [List.any_cons, Bool.or_eq_true, any_eqD I h2 r2, List.mem_cons]
      have : eqD X.K H d u = true ↔ d = e := by
        unfold eqD
        rw [decide_eq_true_eq]
        constructor
        · rintro ⟨z, rz, hz⟩
          have : z = y := rz.inj r1
          subst this
          exact den_inj I d e hz h1
        · intro z
          exact ⟨y, r1, z ▸ h1⟩
      rw [this]
theorem den_mem_val {K : PySem.W.Frag} {H : Hp} : ∀ {es : List Dt} {ys : List V} {us : List Value} {u : Value}, DenL K H es ys → Vals ys us → u ∈ us → ∃ e w, e ∈ es ∧ Den K H e w ∧ RelV w u
  | [], _, _, _, h, r, hu => by
    rw [of_denL_nil h] at r
    cases r
    simp at hu
  | e :: es, _, _, u, h, r, hu => by
    obtain ⟨y, q, rfl, h1, h2⟩ := of_denL_cons h
    cases r with
    | cons r1 r2 =>
      rcases List.mem_cons.mp hu with z | z
      · subst z
        exact ⟨e, y, List.mem_cons_self, h1, r1⟩
      · obtain ⟨e', w, a, b, c⟩ := den_mem_val h2 r2 z
        exact ⟨e', w, List.mem_cons_of_mem _ a, b, c⟩
theorem dep_le : ∀ {es : List Dt} {e : Dt}, e ∈ es → e.dep ≤ depL es
  | [], _, h => nomatch h
  | d :: es, e, h => by
    rw [depL]
    rcases List.mem_cons.mp h with z | z
    · subst z; omega
    · have := dep_le z; omega
end
section
variable {X : Cx}
/-- x in a list or tuple of plain data -/
def rInD (K : PySem.W.Frag) (f : Bool → Bool) : R2 := fun x y H Q => ∃ p ys d es, y = .ref p ∧ (SqL K H p ys ∨ SqT K H p ys) ∧ Den K H d x ∧ DenL K H es ys ∧ depL es ≤ 10 ∧ ∀ b, (b = true ↔ d ∈ es) → Q (.bl (f b)) H
theorem op_inDK (K : PySem.W.Frag) (hu : X.A.units + 20 < cLine) (hK : X.K = K := by rfl) : OpR X (compareOp .In) (rInD K id) := by
  subst hK
  intro pins s σ H x y v u Q I rx ry h
  obtain ⟨p, ys, d, es, rfl, hs, hd, he, hdep, q⟩ := h
  cases ry
  have hin : X.A.in1.units = X.A.units + 1 := rfl
  rcases hs with hs | hs
  · obtain ⟨its, r1, p1, _⟩ := I.list hs
    refine SeqAt.in_listAt (eqD X.K H d) p1.isList (fun z hz => ?_) ⟨.bl _, H, I, rfl, q _ ?_⟩
    · obtain ⟨e, w, m1, m2, m3⟩ := den_mem_val he r1 (by simpa using hz)
      exact eqD_at I hd m2 rx m3 (by have := dep_le m1; omega)
    · show its.toArray.any (eqD X.K H d) = true ↔ d ∈ es
      rw [List.any_toArray]
      exact any_eqD I he r1
  · obtain ⟨its, r1, p1, _⟩ := I.tuple hs
    refine SeqAt.in_tupleAt (eqD X.K H d) p1 (fun z hz => ?_) ⟨.bl _, H, I, rfl, q _ ?_⟩
    · obtain ⟨e, w, m1, m2, m3⟩ := den_mem_val he r1 (by simpa using hz)
      exact eqD_at I hd m2 rx m3 (by have := dep_le m1; omega)
    · show its.toArray.any (eqD X.K H d) = true ↔ d ∈ es
      rw [List.any_toArray]
      exact any_eqD I he r1
theorem op_notInDK (K : PySem.W.Frag) (hu : X.A.units + 20 < cLine) (hK : X.K = K := by rfl) : OpR X (compareOp .NotIn) (rInD K (! ·)) := by
  subst hK
  intro pins s σ H x y v u Q I rx ry h
  obtain ⟨p, ys, d, es, rfl, hs, hd, he, hdep, q⟩ := h
  cases ry
  have hin : X.A.in1.units = X.A.units + 1 := rfl
  rcases hs with hs | hs
  · obtain ⟨its, r1, p1, _⟩ := I.list hs
    refine SeqAt.notIn_listAt (eqD X.K H d) p1.isList (fun z hz => ?_) ⟨.bl _, H, I, rfl, q _ ?_⟩
    · obtain ⟨e, w, m1, m2, m3⟩ := den_mem_val he r1 (by simpa using hz)
      exact eqD_at I hd m2 rx m3 (by have := dep_le m1; omega)
    · rw [List.any_toArray]
      exact any_eqD I he r1
  · obtain ⟨its, r1, p1, _⟩ := I.tuple hs
    refine SeqAt.notIn_tupleAt (eqD X.K H d) p1 (fun z hz => ?_) ⟨.bl _, H, I, rfl, q _ ?_⟩
    · obtain ⟨e, w, m1, m2, m3⟩ := den_mem_val he r1 (by simpa using hz)
      exact eqD_at I hd m2 rx m3 (by have := dep_le m1; omega)
    · rw [List.any_toArray]
      exact any_eqD I he r1
end

/-! max, min of a list of ints -/
section
variable {X : Cx}
theorem walks_ints {pins : List (Addr × Obj)} {σ : St} {H : Hp} {s : Shared} {l : Addr} {its : List Value} (I : Inv X pins σ H s) (hc : X.calm = true) (p : PlainL s.heap l its.toArray) :
    Walks X.prog X.w X.A.in1 s.heap.objs.size [s.heap.objs.size, l] [s.heap.objs.size] its.toArray.size (fun i v => its.toArray[i]? = some v) (fun i h => h.IsListIter s.heap.objs.size l i ∧ h.IsList l its.toArray) :=
  Walks.list (A := X.A.in1) (show X.A.in1.handled = none from I.ok.hd hc) _ _ (by obtain ⟨o, n, e, _⟩ := p; exact Nat.ne_of_lt (Heap.lt_size e)) _
theorem Inv.iterd {pins : List (Addr × Obj)} {σ : St} {H : Hp} {s : Shared} {o : Obj} {h' : Heap} {tk : Nat} (I : Inv X pins σ H s) (hk : ∀ b ob, b ∉ [s.heap.objs.size] → (s.heap.push o).get? b = some ob → h'.get? b = some ob) : Inv X pins σ H { s with heap := h', toks := tk } := by
  have I1 : Inv X pins σ H { s with heap := s.heap.push o } := I.kept (t' := s.toks) fun b o e => Heap.get?_push_of_some _ e
  have J := I1.turned (t' := tk) (h' := h') (it := s.heap.objs.size) (fun b o hb e => hk b o (by simpa using hb) e) I.fresh (Nat.ne_of_gt I.lt) (.inr I.sz) (fun y c e z => by
      obtain ⟨v, q'⟩ := I.cell y c e
      exact absurd q'.lt (z ▸ Nat.lt_irrefl _)) (fun p hp z => absurd (Heap.lt_size (I.pin p hp).1) (z ▸ Nat.lt_irrefl _))
  exact J
theorem int_at {ns : List Int} {its : List Value} {i : Nat} {v : Value} (r : Vals (ns.map V.int) its) (h : its.toArray[i]? = some v) : ∃ t, v = .int (ns.getD i 0) t ∧ i < ns.length := by
  have hv' : its[i]? = some v := by simpa using h
  have hlen := r.length
  have hi : i < ns.length := by
    have := (List.getElem?_eq_some_iff.mp hv').1
    rw [List.length_map] at hlen
    omega
  obtain ⟨u', hu', ru'⟩ := r.get (i := i) (x := .int (ns.getD i 0)) (by rw [List.getElem?_map, List.getElem?_eq_getElem hi]; simp [hi])
  rw [hv'] at hu'
  cases hu'
  obtain ⟨t, rfl⟩ := ru'
  exact ⟨t, rfl, hi⟩
theorem getD_mem {ns : List Int} {i : Nat} (h : i < ns.length) : ns.getD i 0 ∈ ns := by
  have : ns.getD i 0 = ns[i] := by simp [List.getD, h]
  rw [this]; exact List.getElem_mem h
theorem mem_getD {ns : List Int} {a : Int} (h : a ∈ ns) : ∃ i, i < ns.length ∧ ns.getD i 0 = a := by
  obtain ⟨i, hi, e⟩ := List.mem_iff_getElem.mp h
  exact ⟨i, hi, by simp [List.getD, hi, e]⟩
theorem call_maxL (K : PySem.W.Frag) (hc : X.calm = true := by rfl) (hK : X.K = K := by rfl) : CallR X (.builtin "max") (fun vs H Q => ∃ (l : Addr) (ns : List Int), vs = [.ref l] ∧ SqL K H l (ns.map V.int) ∧ ns ≠ [] ∧ ∀ M, M ∈ ns → (∀ a ∈ ns, a ≤ M) → Q (.int M) H) := by
  subst hK
  intro pins s σ H vs us Q I r h
  obtain ⟨l, ns, rfl, hl, hne, q⟩ := h
  obtain ⟨u, rfl, ru⟩ := vals1 r
  cases ru
  obtain ⟨its, rv, p, hz⟩ := I.list hl
  have hlen : its.length = ns.length := by rw [← rv.length, List.length_map]
  have hpos : 0 < ns.length := List.length_pos_iff.mpr hne
  refine call_max_walk (wpAny_pyIter_list p.isList ?_)
  refine ⟨_, _, _, _, _, _, fun i j => decide (ns.getD i 0 > ns.getD j 0), rfl, walks_ints I hc p, ⟨⟨_, Heap.get?_push_size _ rfl, rfl, rfl⟩, Heap.IsList.at p.isList fun o e => Heap.get?_push_of_some _ e⟩, fun b hb => ?_, by rw [List.size_toArray, hlen]; exact hpos, ?_, fun v h' tk hP hk => ?_⟩
  · have hlt : l < s.heap.objs.size := by obtain ⟨o, n, e, _⟩ := p; exact Heap.lt_size e
    rw [Heap.size_push]
    rcases List.mem_cons.mp hb with z | z
    · rw [z]; exact Nat.lt_succ_self _
    · rw [List.mem_singleton.mp z]; exact Nat.lt_succ_of_lt hlt
  · intro i j vi vj s' Q' E' hi hj hq
    obtain ⟨t, rfl, _⟩ := int_at rv hi
    obtain ⟨t', rfl, _⟩ := int_at rv hj
    exact gt_int hq
  · obtain ⟨t, rfl, hi⟩ := int_at rv hP
    obtain ⟨_, hbest⟩ := argBest_gt (fun i => ns.getD i 0) (its.toArray.size - 1)
    have J : Inv X pins σ H { s with heap := h', toks := tk } := Inv.iterd I hk
    refine ⟨.int _, H, J, ⟨t, rfl⟩, q _ (getD_mem hi) fun a ha => ?_⟩
    obtain ⟨j, hj, rfl⟩ := mem_getD ha
    exact hbest j (by rw [List.size_toArray, hlen]; omega)
theorem call_minL (K : PySem.W.Frag) (hc : X.calm = true := by rfl) (hK : X.K = K := by rfl) : CallR X (.builtin "min") (fun vs H Q => ∃ (l : Addr) (ns : List Int), vs = [.ref l] ∧ SqL K H l (ns.map V.int) ∧ ns ≠ [] ∧ ∀ M, M ∈ ns → (∀ a ∈ ns, M ≤ a) → Q (.int M) H) := by
  subst hK
  intro pins s σ H vs us Q I r h
  obtain ⟨l, ns, rfl, hl, hne, q⟩ := h
  obtain ⟨u, rfl, ru⟩ := vals1 r
  cases ru
  obtain ⟨its, rv, p, hz⟩ := I.list hl
  have hlen : its.length = ns.length := by rw [← rv.length, List.length_map]
  have hpos : 0 < ns.length := List.length_pos_iff.mpr hne
  refine call_min_walk (wpAny_pyIter_list p.isList ?_)
  refine ⟨_, _, _, _, _, _, fun i j => decide (ns.getD i 0 < ns.getD j 0), rfl, walks_ints I hc p, ⟨⟨_, Heap.get?_push_size _ rfl, rfl, rfl⟩, Heap.IsList.at p.isList fun o e => Heap.get?_push_of_some _ e⟩, fun b hb => ?_, by rw [List.size_toArray, hlen]; exact hpos, ?_, fun v h' tk hP hk => ?_⟩
  · have hlt : l < s.heap.objs.size := by obtain ⟨o, n, e, _⟩ := p; exact Heap.lt_size e
    rw [Heap.size_push]
    rcases List.mem_cons.mp hb with z | z
    · rw [z]; exact Nat.lt_succ_self _
    · rw [List.mem_singleton.mp z]; exact Nat.lt_succ_of_lt hlt
  · intro i j vi vj s' Q' E' hi hj hq
    obtain ⟨t, rfl, _⟩ := int_at rv hi
    obtain ⟨t', rfl, _⟩ := int_at rv hj
    exact lt_int hq
  · obtain ⟨t, rfl, hi⟩ := int_at rv hP
    obtain ⟨_, hbest⟩ := argBest_lt (fun i => ns.getD i 0) (its.toArray.size - 1)
    have J : Inv X pins σ H { s with heap := h', toks := tk } := Inv.iterd I hk
    refine ⟨.int _, H, J, ⟨t, rfl⟩, q _ (getD_mem hi) fun a ha => ?_⟩
    obtain ⟨j, hj, rfl⟩ := mem_getD ha
    exact hbest j (by rw [List.size_toArray, hlen]; omega)
end
end L2

/-! ### own text: the tree of a sort, walked by the answers of an order -/
namespace L2
open PySem PySem.W PyProof.Rows
def runT {α : Type} (ans : Nat → Nat → Bool) : KasT α → α
  | .ret a => a
  | .ask i j k => runT ans (k (ans i j))
theorem runT_bind {α β : Type} (ans : Nat → Nat → Bool) (f : α → KasT β) : ∀ t : KasT α, runT ans (t.bind f) = runT ans (f (runT ans t))
  | .ret _ => rfl
  | .ask i j k => runT_bind ans f (k (ans i j))
/-- all that is asked lies below n -/
inductive Asks (n : Nat) {α : Type} : KasT α → Prop where
  | ret (a : α) : Asks n (.ret a)
  | ask {i j : Nat} {k : Bool → KasT α} : i < n → j < n → (∀ b, Asks n (k b)) → Asks n (.ask i j k)
theorem Asks.bind {n : Nat} {α β : Type} {t : KasT α} {f : α → KasT β} (h : Asks n t) (hf : ∀ a, Asks n (f a)) : Asks n (t.bind f) := by
  induction h with
  | ret a => exact hf a
  | ask hi hj _ ih => exact .ask hi hj ih
/-- .. where the answers are those that come -/
theorem kasWp_run {n : Nat} {α : Type} {cmp : Nat → Nat → (Bool → Shared → Prop) → Shared → Prop} {ans : Nat → Nat → Bool} {Q : α → Shared → Prop} {s : Shared} (hc : ∀ i j C, i < n → j < n → C (ans i j) s → cmp i j C s) {t : KasT α} (h : Asks n t) : Q (runT ans t) s → t.kasWp cmp Q s := by
  induction h with
  | ret a => exact fun q => q
  | @ask i j k hi hj _ ih => exact fun q => hc i j _ hi hj (ih (ans i j) q)

/-- a strict order of the names below n -/
structure Ord (n : Nat) (ans : Nat → Nat → Bool) : Prop where
  irr : ∀ a, a < n → ans a a = false
  neg : ∀ a b c, a < n → b < n → c < n → ans b a = false → ans c b = false → ans c a = false
  asy : ∀ a b, a < n → b < n → ans a b = true → ans b a = false
section
variable {n : Nat} {ans : Nat → Nat → Bool} {p : Array Nat}
/-- an array of names below n, all n of them, each once -/
structure Pm (n : Nat) (p : Array Nat) : Prop where
  perm : p.Perm (List.range n).toArray
theorem Pm.size (h : Pm n p) : p.size = n := by rw [h.perm.size_eq]; simp
theorem Pm.lt (h : Pm n p) (hn : 0 < n) (k : Nat) : p.getD k 0 < n := by
  unfold Array.getD
  split
  · rename_i hk
    have : p[k] ∈ (List.range n).toArray := h.perm.mem_iff.mp (Array.getElem_mem hk)
    simpa using this
  · exact hn
theorem Pm.mirror (h : Pm n p) (i j : Nat) : Pm n (kas_rev p i j) := ⟨(mirror_perm _ _ _ _).trans h.perm⟩
theorem Pm.bubble (h : Pm n p) (k d : Nat) : Pm n (bubble p k d) := ⟨(bubble_perm _ _ _).trans h.perm⟩
/-- rising up to k; falling up to k -/
def Up (ans : Nat → Nat → Bool) (p : Array Nat) (k : Nat) : Prop := ∀ i j, i ≤ j → j < k → ans (p.getD j 0) (p.getD i 0) = false
def Dn (ans : Nat → Nat → Bool) (p : Array Nat) (k : Nat) : Prop := ∀ i j, i ≤ j → j < k → ans (p.getD i 0) (p.getD j 0) = false
theorem getD_of (p : Array Nat) (k : Nat) : p.getD k 0 = (p[k]?).getD 0 := by
  unfold Array.getD
  split
  · rename_i h; rw [Array.getElem?_eq_getElem h]; rfl
  · rename_i h; rw [Array.getElem?_eq_none (by omega)]; rfl
theorem rev_at {i j : Nat} (hj : j ≤ p.size) (k : Nat) : (kas_rev p i j).getD k 0 = if i ≤ k ∧ k < j then p.getD (i + j - 1 - k) 0 else p.getD k 0 := by
  rw [getD_of, kas_rev, getElem?_mirror_all hj, getD_of, getD_of]
  split <;> rfl
theorem bub_at {src d : Nat} (hs : src < p.size) (hd : d ≤ src) (k : Nat) : (PyProof.Rows.bubble p src d).getD k 0 = if k = src - d then p.getD src 0 else if src - d < k ∧ k ≤ src then p.getD (k - 1) 0 else p.getD k 0 := by
  rw [getD_of, getElem?_bubble hs d hd, getD_of, getD_of, getD_of]
  split
  · rfl
  · split <;> rfl
variable (O : Ord n ans) (hn : 0 < n)
include O hn
theorem up_snoc {k : Nat} (P : Pm n p) (h : Up ans p k) (h1 : 1 ≤ k) (hk : ans (p.getD k 0) (p.getD (k - 1) 0) = false) : Up ans p (k + 1) := fun i j hij hj => by
  by_cases e : j = k
  · subst e
    by_cases e2 : i = j
    · subst e2; exact O.irr _ (P.lt hn _)
    · exact O.neg _ _ _ (P.lt hn _) (P.lt hn _) (P.lt hn _) (h i (j - 1) (by omega) (by omega)) hk
  · exact h i j hij (by omega)
theorem asc_ok (P : Pm n p) : ∀ (f m : Nat), 1 ≤ m → Up ans p m → m ≤ runT ans (kas_asc p f m) ∧ runT ans (kas_asc p f m) ≤ m + f ∧ Up ans p (runT ans (kas_asc p f m)) ∧
    (runT ans (kas_asc p f m) < m + f → ans (p.getD (runT ans (kas_asc p f m)) 0) (p.getD (runT ans (kas_asc p f m) - 1) 0) = true)
  | 0, m, _, h => ⟨Nat.le_refl _, Nat.le_refl _, h, fun z => absurd z (Nat.lt_irrefl _)⟩
  | f + 1, m, h1, h => by
    have e : runT ans (kas_asc p (f + 1) m) = if ans (p.getD m 0) (p.getD (m - 1) 0) = true then m else runT ans (kas_asc p f (m + 1)) := by
      show runT ans (if ans (p.getD m 0) (p.getD (m - 1) 0) = true then KasT.ret m else kas_asc p f (m + 1)) = _
      split <;> rfl
    rw [e]
    by_cases c : ans (p.getD m 0) (p.getD (m - 1) 0) = true
    · rw [if_pos c]
      exact ⟨Nat.le_refl _, by omega, h, fun _ => c⟩
    · rw [if_neg c]
      obtain ⟨a1, a2, a3, a4⟩ := asc_ok P f (m + 1) (by omega) (up_snoc O hn P h h1 (Bool.eq_false_iff.mpr c))
      exact ⟨by omega, by omega, a3, fun z => a4 (by omega)⟩
/-- the last q + 1 are alike -/
def Eqs (ans : Nat → Nat → Bool) (p : Array Nat) (m q : Nat) : Prop := ∀ i, m - (q + 1) ≤ i → i < m → ans (p.getD i 0) (p.getD (m - 1) 0) = false ∧ ans (p.getD (m - 1) 0) (p.getD i 0) = false
theorem seg_rev {m q : Nat} (P : Pm n p) (h : Dn ans p m) (e : Eqs ans p m q) (hq : q < m) (hm : m ≤ n) : Dn ans (kas_rev p (m - (q + 1)) m) m := fun i j hij hj => by
  have hz : m ≤ p.size := by rw [P.size]; exact hm
  rw [rev_at hz, rev_at hz]
  by_cases ci : m - (q + 1) ≤ i ∧ i < m
  · have cj : m - (q + 1) ≤ j ∧ j < m := by omega
    rw [if_pos ci, if_pos cj]
    exact O.neg _ _ _ (P.lt hn _) (P.lt hn _) (P.lt hn _) (e _ (by omega) (by omega)).2 (e _ (by omega) (by omega)).1
  · rw [if_neg ci]
    by_cases cj : m - (q + 1) ≤ j ∧ j < m
    · rw [if_pos cj]
      exact h _ _ (by omega) (by omega)
    · rw [if_neg cj]
      exact h i j hij hj
theorem dn_rev {m : Nat} (P : Pm n p) (h : Dn ans p m) (hm : m ≤ n) : Up ans (kas_rev p 0 m) m := fun i j hij hj => by
  have hz : m ≤ p.size := by rw [P.size]; exact hm
  rw [rev_at hz, rev_at hz, if_pos ⟨by omega, by omega⟩, if_pos ⟨by omega, by omega⟩]
  exact h _ _ (by omega) (by omega)
theorem dn_snoc {m : Nat} (P : Pm n p) (h : Dn ans p m) (h1 : 1 ≤ m) (hk : ans (p.getD (m - 1) 0) (p.getD m 0) = false) : Dn ans p (m + 1) := fun i j hij hj => by
  by_cases e : j = m
  · subst e
    by_cases e2 : i = j
    · subst e2; exact O.irr _ (P.lt hn _)
    · exact O.neg _ _ _ (P.lt hn _) (P.lt hn _) (P.lt hn _) hk (h i (j - 1) (by omega) (by omega))
  · exact h i j hij (by omega)
omit O hn in
theorem desc_run (f : Nat) (p : Array Nat) (m q : Nat) : runT ans (kas_desc (f + 1) p m q) = if ans (p.getD m 0) (p.getD (m - 1) 0) = true then (if q > 0 then runT ans (kas_desc f (kas_rev p (m - (q + 1)) m) (m + 1) 0) else runT ans (kas_desc f p (m + 1) 0))
    else if ans (p.getD (m - 1) 0) (p.getD m 0) = true then (p, m, q) else runT ans (kas_desc f p (m + 1) (q + 1)) := by
  show runT ans (if ans (p.getD m 0) (p.getD (m - 1) 0) = true then (if q > 0 then kas_desc f (kas_rev p (m - (q + 1)) m) (m + 1) 0 else kas_desc f p (m + 1) 0)
    else .ask (p.getD (m - 1) 0) (p.getD m 0) fun d => if d = true then .ret (p, m, q) else kas_desc f p (m + 1) (q + 1)) = _
  split
  · split <;> rfl
  · show runT ans (if ans (p.getD (m - 1) 0) (p.getD m 0) = true then KasT.ret (p, m, q) else kas_desc f p (m + 1) (q + 1)) = _
    split <;> rfl
theorem desc_ok : ∀ (f : Nat) (p : Array Nat) (m q : Nat), Pm n p → 1 ≤ m → m + f ≤ n → Dn ans p m → Eqs ans p m q → q < m →
    ∃ p' m' q', runT ans (kas_desc f p m q) = (p', m', q') ∧ Pm n p' ∧ 1 ≤ m' ∧ m' ≤ m + f ∧ Dn ans p' m' ∧ Eqs ans p' m' q' ∧ q' < m'
  | 0, p, m, q, P, h1, _, h, e, hq => ⟨p, m, q, rfl, P, h1, Nat.le_refl _, h, e, hq⟩
  | f + 1, p, m, q, P, h1, hm, h, e, hq => by
    rw [desc_run]
    have one : ∀ {p' : Array Nat}, Pm n p' → Eqs ans p' (m + 1) 0 := fun {p'} P' i hi hi2 => by
      have : i = m := by omega
      subst this
      exact ⟨O.irr _ (P'.lt hn _), O.irr _ (P'.lt hn _)⟩
    by_cases c : ans (p.getD m 0) (p.getD (m - 1) 0) = true
    · rw [if_pos c]
      have c' := O.asy _ _ (P.lt hn _) (P.lt hn _) c
      by_cases cq : q > 0
      · rw [if_pos cq]
        have hz : m ≤ p.size := by rw [P.size]; omega
        have P' := P.mirror (m - (q + 1)) m
        have d := seg_rev O hn P h e hq (by omega)
        have last : ans ((kas_rev p (m - (q + 1)) m).getD (m - 1) 0) ((kas_rev p (m - (q + 1)) m).getD m 0) = false := by
          rw [rev_at hz, rev_at hz, if_pos ⟨by omega, by omega⟩, if_neg (by omega)]
          exact O.neg _ _ _ (P.lt hn _) (P.lt hn _) (P.lt hn _) c' (e _ (by omega) (by omega)).1
        obtain ⟨p', m', q', e1, a1, a2, a3, a4⟩ := desc_ok f _ (m + 1) 0 P' (by omega) (by omega) (dn_snoc O hn P' d h1 last) (one P') (by omega)
        exact ⟨p', m', q', e1, a1, a2, by omega, a4⟩
      · rw [if_neg cq]
        obtain ⟨p', m', q', e1, a1, a2, a3, a4⟩ := desc_ok f _ (m + 1) 0 P (by omega) (by omega) (dn_snoc O hn P h h1 c') (one P) (by omega)
        exact ⟨p', m', q', e1, a1, a2, by omega, a4⟩
    · rw [if_neg c]
      have c' := Bool.eq_false_iff.mpr c
      by_cases d : ans (p.getD (m - 1) 0) (p.getD m 0) = true
      · rw [if_pos d]
        exact ⟨p, m, q, rfl, P, h1, by omega, h, e, hq⟩
      · rw [if_neg d]
        have d' := Bool.eq_false_iff.mpr d
        have e' : Eqs ans p (m + 1) (q + 1) := fun i hi hi2 => by
          have em : m + 1 - 1 = m := by omega
          rw [em]
          by_cases im : i = m
          · subst im; exact ⟨O.irr _ (P.lt hn _), O.irr _ (P.lt hn _)⟩
          · have z := e i (by omega) (by omega)
            exact ⟨O.neg _ _ _ (P.lt hn _) (P.lt hn _) (P.lt hn _) d' z.1, O.neg _ _ _ (P.lt hn _) (P.lt hn _) (P.lt hn _) z.2 c'⟩
        obtain ⟨p', m', q', e1, a1, a2, a3, a4⟩ := desc_ok f _ (m + 1) (q + 1) P (by omega) (by omega) (dn_snoc O hn P h h1 d') e' (by omega)
        exact ⟨p', m', q', e1, a1, a2, by omega, a4⟩
theorem tail_ok {m : Nat} (P : Pm n p) (h : Dn ans p m) (h1 : 1 ≤ m) (hm : m ≤ n) : ∃ k p', runT ans (kas_tail3 m n p) = (k, p') ∧ Pm n p' ∧ 1 ≤ k ∧ k ≤ n ∧ Up ans p' k := by
  have P' := P.mirror 0 m
  obtain ⟨a1, a2, a3, _⟩ := asc_ok O hn P' (n - m) m h1 (dn_rev O hn P h hm)
  refine ⟨_, _, ?_, P', ?_, ?_, a3⟩
  · unfold kas_tail3
    rw [runT_bind]
    rfl
  · omega
  · omega
theorem descPart_ok {m : Nat} (P : Pm n p) (h : Dn ans p (m + 1)) (hm : m + 1 ≤ n) : ∃ k p', runT ans (kas_descPart m n p) = (k, p') ∧ Pm n p' ∧ 1 ≤ k ∧ k ≤ n ∧ Up ans p' k := by
  have one : Eqs ans p (m + 1) 0 := fun i hi hi2 => by
    have : i = m := by omega
    subst this
    exact ⟨O.irr _ (P.lt hn _), O.irr _ (P.lt hn _)⟩
  obtain ⟨p', m', q', e1, a1, a2, a3, a4, a5, a6⟩ := desc_ok O hn (n - (m + 1)) p (m + 1) 0 P (by omega) (by omega) h one (by omega)
  unfold kas_descPart
  rw [runT_bind, e1]
  dsimp only
  by_cases cq : q' > 0
  · rw [if_pos cq]
    exact tail_ok O hn (a1.mirror _ _) (seg_rev O hn a1 a4 a5 a6 (by omega)) a2 (by omega)
  · rw [if_neg cq]
    exact tail_ok O hn a1 a4 a2 (by omega)
theorem count_ok (P : Pm n p) : ∃ k p', runT ans (kas_count n p) = (k, p') ∧ Pm n p' ∧ 1 ≤ k ∧ k ≤ n ∧ Up ans p' k := by
  have u1 : Up ans p 1 := fun i j hij hj => by
    have : i = j := by omega
    subst this; exact O.irr _ (P.lt hn _)
  obtain ⟨a1, a2, a3, a4⟩ := asc_ok O hn P (n - 1) 1 (Nat.le_refl _) u1
  unfold kas_count
  rw [runT_bind]
  generalize runT ans (kas_asc p (n - 1) 1) = m at a1 a2 a3 a4
  by_cases c : (m == n) = true
  · rw [if_pos c]
    exact ⟨m, p, rfl, P, a1, by omega, a3⟩
  · rw [if_neg c]
    have hne : m ≠ n := by simpa using c
    have hlt : m < n := by omega
    have hd := a4 (by omega)
    by_cases c1 : m > 1
    · rw [if_pos c1]
      show ∃ k p', runT ans (if ans (p.getD 0 0) (p.getD (m - 1) 0) = true then KasT.ret (m, p) else kas_descPart m n (kas_rev p 0 m)) = (k, p') ∧ _
      by_cases c2 : ans (p.getD 0 0) (p.getD (m - 1) 0) = true
      · rw [if_pos c2]
        exact ⟨m, p, rfl, P, a1, by omega, a3⟩
      · rw [if_neg c2]
        have c2' := Bool.eq_false_iff.mpr c2
        have hz : m ≤ p.size := by rw [P.size]; omega
        -- all of the run are alike
        have same : ∀ i j, i < m → j < m → ans (p.getD i 0) (p.getD j 0) = false := fun i j hi hj =>
          O.neg _ _ _ (P.lt hn _) (P.lt hn _) (P.lt hn _) (a3 0 j (by omega) hj |> fun z => (O.neg _ _ _ (P.lt hn j) (P.lt hn (m - 1)) (P.lt hn 0) (a3 j (m - 1) (by omega) (by omega)) c2')) (a3 0 i (by omega) hi |> fun _ => O.neg _ _ _ (P.lt hn 0) (P.lt hn (m - 1)) (P.lt hn i) (a3 0 (m - 1) (by omega) (by omega)) (by
            by_cases q : ans (p.getD i 0) (p.getD (m - 1) 0) = true
            · have z1 := a3 0 i (by omega) hi
              have z2 := O.neg _ _ _ (P.lt hn (m - 1)) (P.lt hn 0) (P.lt hn i) c2' (by
                exact (by
                  by_cases q2 : ans (p.getD i 0) (p.getD 0 0) = true
                  · rw [z1] at q2; cases q2
                  · exact Bool.eq_false_iff.mpr q2))
              exact z2
            · exact Bool.eq_false_iff.mpr q))
        refine descPart_ok O hn (P.mirror 0 m) (fun i j hij hj => ?_) (by omega)
        rw [rev_at hz, rev_at hz]
        by_cases cj : j = m
        · subst cj
          rw [if_neg (by omega : ¬ (0 ≤ j ∧ j < j))]
          by_cases ci : i = j
          · subst ci; rw [if_neg (by omega)]; exact O.irr _ (P.lt hn _)
          · rw [if_pos ⟨by omega, by omega⟩]
            exact O.neg _ _ _ (P.lt hn _) (P.lt hn _) (P.lt hn _) (O.asy _ _ (P.lt hn _) (P.lt hn _) hd) (same _ _ (by omega) (by omega))
        · rw [if_pos ⟨by omega, by omega⟩, if_pos ⟨by omega, by omega⟩]
          exact same _ _ (by omega) (by omega)
    · rw [if_neg c1]
      have m1 : m = 1 := by omega
      subst m1
      refine descPart_ok O hn P (fun i j hij hj => ?_) (by omega)
      by_cases e : i = j
      · subst e; exact O.irr _ (P.lt hn _)
      · have ei : i = 0 := by omega
        have ej : j = 1 := by omega
        subst ei ej
        exact O.asy _ _ (P.lt hn _) (P.lt hn _) hd
theorem place_ok {k : Nat} (P : Pm n p) (u : Up ans p k) : ∀ (f l r : Nat), l ≤ r → r ≤ k → r - l ≤ f → (∀ i, i < l → ans (p.getD k 0) (p.getD i 0) = false) → (∀ i, r ≤ i → i < k → ans (p.getD k 0) (p.getD i 0) = true) →
    runT ans (kas_place p k f l r) ≤ k ∧ (∀ i, i < runT ans (kas_place p k f l r) → ans (p.getD k 0) (p.getD i 0) = false) ∧ (∀ i, runT ans (kas_place p k f l r) ≤ i → i < k → ans (p.getD k 0) (p.getD i 0) = true)
  | 0, l, r, h1, h2, h3, a, b => by
    have : l = r := by omega
    subst this
    exact ⟨h2, a, b⟩
  | f + 1, l, r, h1, h2, h3, a, b => by
    by_cases c : l ≥ r
    · have e : runT ans (kas_place p k (f + 1) l r) = l := by
        show runT ans (if l ≥ r then KasT.ret l else _) = l
        rw [if_pos c]; rfl
      rw [e]
      have : l = r := by omega
      subst this
      exact ⟨h2, a, b⟩
    · have e : runT ans (kas_place p k (f + 1) l r) = if ans (p.getD k 0) (p.getD ((l + r) / 2) 0) = true then runT ans (kas_place p k f l ((l + r) / 2)) else runT ans (kas_place p k f ((l + r) / 2 + 1) r) := by
        show runT ans (if l ≥ r then KasT.ret l else _) = _
        rw [if_neg c]
        show runT ans (if ans (p.getD k 0) (p.getD ((l + r) / 2) 0) = true then kas_place p k f l ((l + r) / 2) else kas_place p k f ((l + r) / 2 + 1) r) = _
        split <;> rfl
      rw [e]
      by_cases d : ans (p.getD k 0) (p.getD ((l + r) / 2) 0) = true
      · rw [if_pos d]
        refine place_ok P u f l ((l + r) / 2) (by omega) (by omega) (by omega) a fun i hi hk => ?_
        by_cases q : ans (p.getD k 0) (p.getD i 0) = true
        · exact q
        · have := O.neg _ _ _ (P.lt hn ((l + r) / 2)) (P.lt hn i) (P.lt hn k) (u _ _ hi hk) (Bool.eq_false_iff.mpr q)
          rw [this] at d; cases d
      · rw [if_neg d]
        refine place_ok P u f ((l + r) / 2 + 1) r (by omega) h2 (by omega) (fun i hi => ?_) b
        exact O.neg _ _ _ (P.lt hn i) (P.lt hn ((l + r) / 2)) (P.lt hn k) (u _ _ (by omega) (by omega)) (Bool.eq_false_iff.mpr d)
theorem bin_ok : ∀ (f : Nat) (p : Array Nat) (k : Nat), Pm n p → 1 ≤ k → k + f ≤ n → Up ans p k → Pm n (runT ans (kas_bin f p k)) ∧ Up ans (runT ans (kas_bin f p k)) (k + f)
  | 0, p, k, P, _, _, u => ⟨P, u⟩
  | f + 1, p, k, P, h1, hk, u => by
    have e : runT ans (kas_bin (f + 1) p k) = runT ans (kas_bin f (PyProof.Rows.bubble p k (k - runT ans (kas_place p k k 0 k))) (k + 1)) := by
      show runT ans ((kas_place p k k 0 k).bind fun l => kas_bin f (PyProof.Rows.bubble p k (k - l)) (k + 1)) = _
      rw [runT_bind]
    rw [e]
    obtain ⟨a1, a2, a3⟩ := place_ok O hn P u k 0 k (Nat.zero_le _) (Nat.le_refl _) (by omega) (fun i hi => absurd hi (Nat.not_lt_zero _)) (fun i h1 h2 => absurd h1 (by omega))
    generalize runT ans (kas_place p k k 0 k) = l at a1 a2 a3
    have P' := P.bubble k (k - l)
    have hs : k < p.size := by rw [P.size]; omega
    have u' : Up ans (PyProof.Rows.bubble p k (k - l)) (k + 1) := fun i j hij hj => by
      rw [bub_at hs (by omega), bub_at hs (by omega)]
      have ekl : k - (k - l) = l := by omega
      rw [ekl]
      by_cases ci : i = l
      · rw [if_pos ci]
        by_cases cj : j = l
        · rw [if_pos cj]; exact O.irr _ (P.lt hn _)
        · rw [if_neg cj, if_pos ⟨by omega, by omega⟩]
          exact O.asy _ _ (P.lt hn _) (P.lt hn _) (a3 _ (by omega) (by omega))
      · rw [if_neg ci]
        by_cases cj : j = l
        · rw [if_pos cj, if_neg (by omega)]
          exact a2 i (by omega)
        · rw [if_neg cj]
          by_cases ci2 : l < i ∧ i ≤ k
          · rw [if_pos ci2, if_pos ⟨by omega, by omega⟩]
            exact u _ _ (by omega) (by omega)
          · rw [if_neg ci2]
            by_cases cj2 : l < j ∧ j ≤ k
            · rw [if_pos cj2]
              exact u _ _ (by omega) (by omega)
            · rw [if_neg cj2]
              exact u _ _ hij (by omega)
    have := bin_ok f _ (k + 1) P' (by omega) (by omega) u'
    rw [show k + 1 + f = k + (f + 1) by omega] at this
    exact this
theorem sort_ok : Pm n (runT ans (kas_sort n)) ∧ Up ans (runT ans (kas_sort n)) n := by
  have P0 : Pm n (List.range n).toArray := ⟨Array.Perm.refl _⟩
  obtain ⟨k, p', e, P', h1, hk, u⟩ := count_ok O hn P0
  unfold kas_sort
  rw [runT_bind, e]
  dsimp only
  by_cases c : k < n
  · rw [if_pos c]
    have em : max k 1 = k := by omega
    rw [em]
    have := bin_ok O hn (n - k) p' k P' h1 (by omega) u
    rw [show k + (n - k) = n by omega] at this
    exact this
  · rw [if_neg c]
    have : k = n := by omega
    subst this
    exact ⟨P', u⟩
end
/-! what is asked lies below n; what comes out is as R says -/
inductive AsksR (n : Nat) {α : Type} (R : α → Prop) : KasT α → Prop where
  | ret {a : α} : R a → AsksR n R (.ret a)
  | ask {i j : Nat} {k : Bool → KasT α} : i < n → j < n → (∀ b, AsksR n R (k b)) → AsksR n R (.ask i j k)
theorem AsksR.bind {n : Nat} {α β : Type} {R : α → Prop} {S : β → Prop} {t : KasT α} {f : α → KasT β} (h : AsksR n R t) (hf : ∀ a, R a → AsksR n S (f a)) : AsksR n S (t.bind f) := by
  induction h with
  | ret h => exact hf _ h
  | ask hi hj _ ih => exact .ask hi hj ih
theorem AsksR.asks {n : Nat} {α : Type} {R : α → Prop} {t : KasT α} (h : AsksR n R t) : Asks n t := by
  induction h with
  | ret _ => exact .ret _
  | ask hi hj _ ih => exact .ask hi hj ih
section
variable {n : Nat} (hn : 0 < n)
include hn
theorem asks_asc {p : Array Nat} (P : Pm n p) : ∀ f m, AsksR n (fun _ => True) (kas_asc p f m)
  | 0, m => .ret trivial
  | f + 1, m => .ask (P.lt hn _) (P.lt hn _) fun b => by
    cases b with
    | true => exact .ret trivial
    | false => exact asks_asc P f (m + 1)
theorem asks_tail {p : Array Nat} (P : Pm n p) (m : Nat) : AsksR n (fun r : Nat × Array Nat => Pm n r.2) (kas_tail3 m n p) := (asks_asc hn (P.mirror 0 m) _ _).bind fun _ _ => .ret (P.mirror 0 m)
theorem asks_desc : ∀ (f : Nat) (p : Array Nat) (m q : Nat), Pm n p → AsksR n (fun r : Array Nat × Nat × Nat => Pm n r.1) (kas_desc f p m q)
  | 0, p, m, q, P => .ret P
  | f + 1, p, m, q, P => .ask (P.lt hn _) (P.lt hn _) fun b => by
    cases b with
    | true =>
      show AsksR n _ (if q > 0 then kas_desc f (kas_rev p (m - (q + 1)) m) (m + 1) 0 else kas_desc f p (m + 1) 0)
      split
      · exact asks_desc f _ _ _ (P.mirror _ _)
      · exact asks_desc f _ _ _ P
    | false =>
      refine .ask (P.lt hn _) (P.lt hn _) fun d => ?_
      cases d with
      | true => exact .ret P
      | false => exact asks_desc f _ _ _ P
theorem asks_descPart {p : Array Nat} (P : Pm n p) (m : Nat) : AsksR n (fun r : Nat × Array Nat => Pm n r.2) (kas_descPart m n p) := by
  unfold kas_descPart
  refine (asks_desc hn _ _ _ _ P).bind fun r hr => ?_
  split
  · exact asks_tail hn (hr.mirror _ _) _
  · exact asks_tail hn hr _
theorem asks_count {p : Array Nat} (P : Pm n p) : AsksR n (fun r : Nat × Array Nat => Pm n r.2) (kas_count n p) := by
  unfold kas_count
  refine (asks_asc hn P _ _).bind fun m _ => ?_
  split
  · exact .ret P
  · split
    · refine .ask (P.lt hn _) (P.lt hn _) fun b => ?_
      cases b with
      | true => exact .ret P
      | false => exact asks_descPart hn (P.mirror 0 m) m
    · exact asks_descPart hn P m
theorem asks_place {p : Array Nat} (P : Pm n p) (k : Nat) : ∀ f l r, AsksR n (fun _ => True) (kas_place p k f l r)
  | 0, _, _ => .ret trivial
  | f + 1, l, r => by
    unfold kas_place
    split
    · exact .ret trivial
    · refine .ask (P.lt hn _) (P.lt hn _) fun b => ?_
      cases b with
      | true => exact asks_place P k f _ _
      | false => exact asks_place P k f _ _
theorem asks_bin : ∀ (f : Nat) (p : Array Nat) (k : Nat), Pm n p → AsksR n (fun _ => True) (kas_bin f p k)
  | 0, _, _, _ => .ret trivial
  | f + 1, p, k, P => (asks_place hn P k _ _ _).bind fun l _ => asks_bin f _ _ (P.bubble _ _)
theorem asks_sort : Asks n (kas_sort n) := by
  have P0 : Pm n (List.range n).toArray := ⟨Array.Perm.refl _⟩
  have : AsksR n (fun _ => True) (kas_sort n) := by
    unfold kas_sort
    refine (asks_count hn P0).bind fun r hr => ?_
    split
    · exact asks_bin hn _ _ _ hr
    · exact .ret trivial
  exact this.asks
end
end L2

/-! ### own text: sorted, by any order that the comparisons tell -/
namespace L2
open PySem PySem.W PyProof.Rows
section
variable {prog : Program} {w : World} {A : Around} {E : Value → Shared → Prop} {s : Shared}
/-- what comes out -/
def SortOut (ans : Nat → Nat → Bool) (vs : List Value) (out : Array Value) : Prop := ∃ p : Array Nat, Pm vs.length p ∧ Up ans p vs.length ∧ out = List.toArray (p.toList.map fun i => vs.getD i Value.none)
/-- the heap while the items are compared -/
def cmpHeap (h : Heap) (a : Addr) (vs : List Value) : Heap := ((h.update a (Obj.mapSeq fun _ => (#[] : Array Value))).push (seqObj "tuple" vs.toArray 0)).push (seqObj "list" #[] 0)
theorem map_range_getD : ∀ (vs : List Value), (List.range vs.length).map (fun i => vs.getD i Value.none) = vs := by
  intro vs
  refine List.ext_getElem? fun i => ?_
  rw [List.getElem?_map]
  by_cases h : i < vs.length
  · rw [List.getElem?_range h, List.getElem?_eq_getElem h]
    simp [h]
  · rw [List.getElem?_eq_none (by simpa using h), List.getElem?_eq_none (by simpa using h)]
    rfl
theorem zip_snd : ∀ (vs : List Value), (vs.zip vs).map (fun x => x.2) = vs
  | [] => rfl
  | v :: vs => by rw [List.zip_cons_cons, List.map_cons, zip_snd vs]
theorem list_sortG {a : Addr} {vs : List Value} {n : Nat} {ans : Nat → Nat → Bool} {P : PySem.Fin → Shared → Prop} (ho : s.heap.get? a = some (seqObj "list" vs.toArray n)) (h64 : vs.length < 64) (O : 0 < vs.length → Ord vs.length ans)
    (hk : 2 ≤ vs.length → wpAny (model prog w) A (keyKind' vs.toArray) (fun κ s' => s' = { s with heap := cmpHeap s.heap a vs } ∧ ∀ i j C, i < vs.length → j < vs.length → C (ans i j) s' → kas_ask prog w A κ vs i j C s') (fun _ _ => False) { s with heap := cmpHeap s.heap a vs })
    (h : ∀ out, SortOut ans vs out → P (.done (.ret .none)) { s with heap := sortedHeap s.heap a vs out }) : wpAny (model prog w) A (Builtin.«list.sort» ⟨[.ref a], []⟩) P E s := by
  have ha : a < s.heap.objs.size := Heap.lt_size ho
  obtain ⟨e1, ho1⟩ : ∃ e1, (s.heap.update a (Obj.mapSeq fun _ => (#[] : Array Value))).get? a = some (seqObj "list" #[] e1) := ⟨_, get?_update_seq ho fun _ => #[]⟩
  rw [list_sort_plain]
  refine wpAny_bind (listItems_at ho rfl ?_)
  refine wpAny_bind (listUpdate_at ho rfl ?_ (by rw [List.size_toArray, sizeLine_eq]; omega) (Nat.zero_le _))
  refine wpAny_bind (seqEpoch_at ho1 rfl ?_)
  refine wpAny_bind (wpAny_newTuple ?_ (by show vs.length ≤ _; rw [sizeLine_eq]; omega))
  refine wpAny_bind (wpAny_newList ?_ (Nat.zero_le _))
  refine wpAny_holding ?_
  have ho6 : (cmpHeap s.heap a vs).get? a = some (seqObj "list" #[] e1) := Heap.get?_push_of_some _ (Heap.get?_push_of_some _ ho1)
  show wpAny (model prog w) A _ P E { s with heap := cmpHeap s.heap a vs }
  dsimp only
  have hsz : vs.toArray.size = vs.length := by simp
  by_cases h2 : vs.toArray.size < 2
  · rw [if_pos h2, if_pos h2]
    refine wpAny_bind (wpAny_pure ?_)
    rw [StateT.run_pure]
    refine wpAny_bind (wpAny_pure ?_)
    dsimp only
    refine wpAny_bind (seqEpoch_at ho6 rfl ?_)
    refine wpAny_bind (listUpdate_at ho6 rfl ?_ (Nat.zero_le _) (by rw [Array.size_map]; show (pairsOf vs).size ≤ _; rw [pairsOf_size, sizeLine_eq]; omega))
    simp only [bne_self_eq_false, Bool.false_eq_true, if_false]
    have e : ((vs.toArray.zip vs.toArray).map (·.2)) = vs.toArray := by
      apply Array.toList_inj.mp
      simp
      exact zip_snd vs
    refine wpAny_pure ?_
    have := h vs.toArray ⟨(List.range vs.length).toArray, ⟨Array.Perm.refl _⟩, fun i j hij hj => ?_, ?_⟩
    · show P _ { s with heap := (cmpHeap s.heap a vs).update a (Obj.mapSeq fun _ => (vs.toArray.zip vs.toArray).map (·.2)) }
      rw [e]
      exact this
    · have hpos : 0 < vs.length := by omega
      have : i = j := by omega
      subst this
      have P0 : Pm vs.length (List.range vs.length).toArray := ⟨Array.Perm.refl _⟩
      exact (O hpos).irr _ (P0.lt hpos _)
    · have := map_range_getD vs
      rw [this]
  · rw [if_neg h2, if_neg h2]
    have hl2 : 2 ≤ vs.length := by omega
    have hpos : 0 < vs.length := by omega
    refine wpAny_bind (wpAny_mono (hk hl2) (fun κ s0 hk => ?_) fun _ _ x => x.elim)
    obtain ⟨rfl, ask⟩ := hk
    obtain ⟨Pr, ur⟩ := sort_ok (O hpos) hpos
    have run : (kas_sort vs.length).kasWp (kas_ask prog w A κ vs) (fun p s' => s' = { s with heap := cmpHeap s.heap a vs } ∧ p = runT ans (kas_sort vs.length)) { s with heap := cmpHeap s.heap a vs } := kasWp_run (n := vs.length) (ans := ans) ask (asks_sort hpos) ⟨rfl, rfl⟩
    refine wpAny_bind (wpAny_mono (kat_run (Q := fun st' s' => arrOf st' = (runT ans (kas_sort vs.length)).map (kas_item (vs.toArray.zip vs.toArray)) ∧ failedOf st' = none ∧ s' = { s with heap := cmpHeap s.heap a vs })
      rfl hl2 h64 (fun p' st' s' a1 a2 a3 a4 => ⟨by rw [a2, a4.2], a3, a4.1⟩) run) ?_ fun _ _ e => e)
    rintro ⟨⟨⟩, st'⟩ s' ⟨har, hf, rfl⟩
    dsimp only
    have hout := kat_snds rfl har
    have hz : (List.toArray ((runT ans (kas_sort vs.length)).toList.map fun i => vs.getD i Value.none)).size = vs.length := by rw [List.size_toArray, List.length_map, Array.length_toList, Pr.size]
    rw [hout]
    refine wpAny_bind (seqEpoch_at ho6 rfl ?_)
    refine wpAny_bind (listUpdate_at ho6 rfl ?_ (Nat.zero_le _) (Nat.le_trans (Nat.le_of_eq hz) (by rw [sizeLine_eq]; omega)))
    rw [hf]
    simp only [bne_self_eq_false, Bool.false_eq_true, if_false]
    exact wpAny_pure (h _ ⟨_, Pr, ur, rfl⟩)
/-- the heap within sorted: a list, and the copy that is sorted -/
def copyHeap (h : Heap) (vs : List Value) : Heap := ((h.push (seqObj "list" #[] 0)).update h.objs.size (Obj.mapSeq (· ++ vs.toArray))).push (seqObj "list" vs.toArray 0)
theorem sortedG {l : Addr} {vs : List Value} {ans : Nat → Nat → Bool} {Q : Value → Shared → Prop} (hl : s.heap.IsList l vs.toArray) (h64 : vs.length < 64) (O : 0 < vs.length → Ord vs.length ans)
    (hk : 2 ≤ vs.length → ∀ h', (∀ b o, s.heap.get? b = some o → h'.get? b = some o) → wpAny (model prog w) A.in1.in1 (keyKind' vs.toArray) (fun κ s' => s' = { s with heap := h' } ∧ ∀ i j C, i < vs.length → j < vs.length → C (ans i j) s' → kas_ask prog w A.in1.in1 κ vs i j C s') (fun _ _ => False) { s with heap := h' })
    (h : ∀ out, SortOut ans vs out → Q (.ref (s.heap.objs.size + 1)) { s with heap := sortedAll s.heap vs out }) : wpAny (model prog w) A (call (.builtin "sorted") [.ref l]) Q E s := by
  refine Calls.call_function_entry kind_sorted plain_sorted entry_sorted (args_sorted1 _) ?_
  unfold Builtin.«sorted»
  refine wpAny_bind (m := checkCount "sorted" 1 1 _) (wpAny_pure ?_)
  refine wpAny_bind (collect_list hl ?_ (by rw [sizeLine_eq]; omega))
  refine wpAny_bind (wpAny_newList ?_ (by rw [sizeLine_eq]; omega))
  have hsz : ((s.heap.push (seqObj "list" #[] 0)).update s.heap.objs.size (Obj.mapSeq (· ++ vs.toArray))).objs.size = s.heap.objs.size + 1 := by
    rw [Heap.size_update, size_push']
  have hoL : (((s.heap.push (seqObj "list" #[] 0)).update s.heap.objs.size (Obj.mapSeq (· ++ vs.toArray))).push (seqObj "list" vs.toArray 0)).get? (s.heap.objs.size + 1) = some (seqObj "list" vs.toArray 0) := by
    rw [← hsz]; exact Heap.get?_push_size _ rfl
  have keep : ∀ b o, s.heap.get? b = some o → (cmpHeap (copyHeap s.heap vs) (s.heap.objs.size + 1) vs).get? b = some o := fun b o q => by
    have hlt : b < s.heap.objs.size := Heap.lt_size q
    have e1 : (copyHeap s.heap vs).get? b = some o := by
      unfold copyHeap
      rw [Heap.get?_push_ne _ _ _ (by rw [hsz]; exact Nat.ne_of_lt (Nat.lt_succ_of_lt hlt)), Heap.get?_update_ne _ _ _ _ (Nat.ne_of_lt hlt), Heap.get?_push_ne _ _ _ (Nat.ne_of_lt hlt)]
      exact q
    have e2 : ((copyHeap s.heap vs).update (s.heap.objs.size + 1) (Obj.mapSeq fun _ => (#[] : Array Value))).get? b = some o := by
      rw [Heap.get?_update_ne _ _ _ _ (Nat.ne_of_lt (Nat.lt_succ_of_lt hlt))]
      exact e1
    exact Heap.get?_push_of_some _ (Heap.get?_push_of_some _ e2)
  show wpAny _ _ _ _ _ { s with heap := copyHeap s.heap vs }
  rw [hsz]
  refine wpAny_bind (wpAny_holding (wpAny_call_entry slot_list_sort ⟨_, hoL, rfl⟩ entry_list_sort (list_sortG (s := { s with heap := copyHeap s.heap vs }) hoL h64 O (fun h2 => hk h2 _ keep) fun out ho => ⟨_, rfl, ?_⟩) (args_list_sort _)))
  exact wpAny_pure ⟨_, rfl, h out ho⟩
end

/-! the order of tuples of ints -/
theorem lex_irr : ∀ a : List Int, HT.lexLt a a = false
  | [] => rfl
  | x :: a => by rw [HT.lexLt_cons, if_pos rfl, lex_irr a]
theorem lex_asy : ∀ a b : List Int, HT.lexLt a b = true → HT.lexLt b a = false
  | [], [], h => by cases h
  | [], _ :: _, _ => rfl
  | _ :: _, [], h => by cases h
  | x :: a, y :: b, h => by
    rw [HT.lexLt_cons] at h ⊢
    by_cases e : x = y
    · subst e
      rw [if_pos rfl] at h ⊢
      exact lex_asy a b h
    · rw [if_neg e] at h
      rw [if_neg (Ne.symm e)]
      have := of_decide_eq_true h
      exact decide_eq_false (by omega)
theorem lex_neg : ∀ a b c : List Int, HT.lexLt b a = false → HT.lexLt c b = false → HT.lexLt c a = false
  | [], b, c, h1, h2 => by
    cases c with
    | nil => rfl
    | cons _ _ => rfl
  | x :: a, [], c, h1, h2 => by cases h1
  | x :: a, y :: b, [], h1, h2 => by cases h2
  | x :: a, y :: b, z :: c, h1, h2 => by
    rw [HT.lexLt_cons] at h1 h2 ⊢
    by_cases e1 : y = x
    · subst e1
      rw [if_pos rfl] at h1
      by_cases e2 : z = y
      · subst e2
        rw [if_pos rfl] at h2 ⊢
        exact lex_neg a b c h1 h2
      · rw [if_neg e2] at h2 ⊢
        exact h2
    · rw [if_neg e1] at h1
      have g1 := of_decide_eq_false h1
      by_cases e2 : z = y
      · subst e2
        rw [if_neg e1]
        exact h1
      · rw [if_neg e2] at h2
        have g2 := of_decide_eq_false h2
        rw [if_neg (by omega)]
        exact decide_eq_false (by omega)
theorem lex_tot : ∀ a b : List Int, HT.lexLt a b = false → HT.lexLt b a = false → a = b
  | [], [], _, _ => rfl
  | [], _ :: _, h, _ => by cases h
  | _ :: _, [], _, h => by cases h
  | x :: a, y :: b, h1, h2 => by
    rw [HT.lexLt_cons] at h1 h2
    by_cases e : x = y
    · subst e
      rw [if_pos rfl] at h1 h2
      rw [lex_tot a b h1 h2]
    · rw [if_neg e] at h1
      rw [if_neg (Ne.symm e)] at h2
      have := of_decide_eq_false h1
      have := of_decide_eq_false h2
      omega
theorem lex_ord (rows : List (List Int)) (n : Nat) : Ord n fun i j => HT.lexLt (rows.getD i []) (rows.getD j []) :=
  ⟨fun a _ => lex_irr _, fun a b c _ _ _ h1 h2 => lex_neg _ _ _ h1 h2, fun a b _ _ h => lex_asy _ _ h⟩
/-- rising lists of tuples -/
def Rows (rows : List (List Int)) : Prop := rows.Pairwise fun a b => HT.lexLt b a = false
theorem rows_unique : ∀ {a b : List (List Int)}, a.Perm b → Rows a → Rows b → a = b
  | [], b, h, _, _ => (List.nil_perm.mp h).symm
  | x :: a, [], h, _, _ => by have := h.length_eq; simp at this
  | x :: a, y :: b, h, ha, hb => by
    have xy : x = y := by
      have hx : x ∈ y :: b := h.mem_iff.mp List.mem_cons_self
      have hy : y ∈ x :: a := h.mem_iff.mpr List.mem_cons_self
      rcases List.mem_cons.mp hx with e | e
      · exact e
      · rcases List.mem_cons.mp hy with e' | e'
        · exact e'.symm
        · exact lex_tot _ _ ((List.pairwise_cons.mp hb).1 x e) ((List.pairwise_cons.mp ha).1 y e')
    subst xy
    rw [rows_unique (List.perm_cons x |>.mp h) (List.pairwise_cons.mp ha).2 (List.pairwise_cons.mp hb).2]
/-- a pair of int tuples is compared -/
theorem katlex_ints {prog : Program} {w : World} {A : Around} {s : Shared} {Q : Bool → Shared → Prop} : ∀ (us ws : List Value) (ns ms : List Int) (i : Nat), Vals (ns.map V.int) us → Vals (ms.map V.int) ws → ns.length = ms.length → Q (HT.lexLt ns ms) s →
    KatLex prog w A true false Q (us.zip ws) i s
  | us, ws, [], [], i, r1, r2, _, h => by
    cases r1
    exact kat_nil h
  | us, ws, [], _ :: _, i, _, _, hl, _ => by simp at hl
  | us, ws, _ :: _, [], i, _, _, hl, _ => by simp at hl
  | us, ws, n :: ns, m :: ms, i, r1, r2, hl, h => by
    cases r1 with
    | cons r1 r1' =>
      cases r2 with
      | cons r2 r2' =>
        obtain ⟨t, rfl⟩ := r1
        obtain ⟨t', rfl⟩ := r2
        rw [List.zip_cons_cons]
        refine kat_cons (wpAny_eqBool_int ?_)
        rw [HT.lexLt_cons] at h
        by_cases e : n = m
        · subst e
          rw [if_pos rfl] at h
          have : (n == n) = true := by simp
          rw [this]
          exact kat_yes (katlex_ints _ _ ns ms (i + 1) r1' r2' (by simpa using hl) h)
        · rw [if_neg e] at h
          have : (n == m) = false := by simpa using e
          rw [this]
          refine kat_no ?_
          cases hi : (true && i == 0) with
          | true => exact oneLt_int h
          | false => exact kat_one _ _ (lt_int h)
end L2

/-! ### own text: sorted of lists of tuples of ints, and of lists of ints -/
namespace L2
open PySem PySem.W PyProof.Rows
/-- a tuple of ints -/
def rowD (ns : List Int) : Dt := .tup (ns.map Dt.int)
section
variable {X : Cx} {pins : List (Addr × Obj)} {σ : St} {H : Hp} {s : Shared}
/-- the tuples of a list, as they stand in the heap -/
theorem rows_at (I : Inv X pins σ H s) : ∀ {rows : List (List Int)} {xs : List V} {its : List Value}, DenL X.K H (rows.map rowD) xs → Vals xs its →
    ∀ i, i < rows.length → ∃ a us, its.getD i Value.none = .ref a ∧ xs.getD i .non = .ref a ∧ SqT X.K H a ((rows.getD i []).map V.int) ∧ Vals ((rows.getD i []).map V.int) us ∧ IsTup s.heap a us.toArray
  | [], _, _, _, _, i, hi => absurd hi (Nat.not_lt_zero _)
  | r :: rows, _, _, h, hv, i, hi => by
    rw [List.map_cons] at h
    obtain ⟨x, q, rfl, h1, h2⟩ := of_denL_cons h
    cases hv with
    | @cons _ u _ us rx rxs =>
      cases i with
      | zero =>
        obtain ⟨a, zs, rfl, hs, hz⟩ := of_den_tup h1
        rw [of_denL_ints hz] at hs
        cases rx
        obtain ⟨ws, r1, p1, _⟩ := I.tuple hs
        exact ⟨a, ws, rfl, rfl, hs, r1, p1⟩
      | succ i =>
        obtain ⟨a, ws, e1, e2, e3, e4, e5⟩ := rows_at I h2 rxs i (by simpa using hi)
        exact ⟨a, ws, by simpa using e1, by simpa using e2, by simpa using e3, by simpa using e4, e5⟩
theorem rows_firsts (I : Inv X pins σ H s) {h' : Heap} (keep : ∀ b o, s.heap.get? b = some o → h'.get? b = some o) : ∀ {rows : List (List Int)} {xs : List V} {its : List Value}, DenL X.K H (rows.map rowD) xs → Vals xs its → (∀ r ∈ rows, 0 < r.length) →
    ∃ fs, KatTups h' its fs ∧ fs.length = its.length ∧ ∀ v ∈ fs, ∃ n t, v = .int n t
  | [], _, _, h, hv, _ => by
    rw [of_denL_nil h] at hv
    cases hv
    exact ⟨[], KatTups.nil, rfl, fun _ h => nomatch h⟩
  | r :: rows, _, _, h, hv, hp => by
    rw [List.map_cons] at h
    obtain ⟨x, q, rfl, h1, h2⟩ := of_denL_cons h
    cases hv with
    | @cons _ u _ us rx rxs =>
      obtain ⟨fs, k1, k2, k3⟩ := rows_firsts I keep h2 rxs fun r hr => hp r (List.mem_cons_of_mem _ hr)
      obtain ⟨a, zs, rfl, hs, hz⟩ := of_den_tup h1
      rw [of_denL_ints hz] at hs
      cases rx
      obtain ⟨ws, r1, ⟨o, e, hc, n, hd⟩, _⟩ := I.tuple hs
      cases r with
      | nil => exact absurd (hp [] List.mem_cons_self) (by simp)
      | cons z r =>
        cases r1 with
        | @cons _ w _ ws rz _ =>
          obtain ⟨t, rfl⟩ := rz
          refine ⟨.int z t :: fs, KatTups.cons (keep _ _ e) hc hd (by simp) k1, by simp [k2], fun v hv => ?_⟩
          rcases List.mem_cons.mp hv with e | e
          · exact ⟨z, t, e⟩
          · exact k3 v e
theorem vals_pick {xs : List V} {its : List Value} (r : Vals xs its) : ∀ (l : List Nat), (∀ i ∈ l, i < xs.length) → Vals (l.map fun i => xs.getD i .non) (l.map fun i => its.getD i Value.none)
  | [], _ => .nil
  | i :: l, h => by
    have hi := h i List.mem_cons_self
    obtain ⟨u, eu, ru⟩ := r.get (i := i) (List.getElem?_eq_getElem hi)
    have e1 : xs.getD i .non = xs[i] := by simp [hi]
    have e2 : its.getD i Value.none = u := by simp [eu]
    rw [List.map_cons, List.map_cons, e1, e2]
    exact .cons ru (vals_pick r l fun i hi => h i (List.mem_cons_of_mem _ hi))
theorem denL_pick {K : PySem.W.Frag} {ds : List Dt} {xs : List V} (d : DenL K H ds xs) : ∀ (l : List Nat), (∀ i ∈ l, i < ds.length) → DenL K H (l.map fun i => ds.getD i (.int 0)) (l.map fun i => xs.getD i .non)
  | [], _ => denL_nil
  | i :: l, h => by
    have hi := h i List.mem_cons_self
    obtain ⟨x, ex, hx⟩ := denL_get d (List.getElem?_eq_getElem hi)
    have e1 : ds.getD i (.int 0) = ds[i] := by simp [hi]
    have e2 : xs.getD i .non = x := by simp [ex]
    rw [List.map_cons, List.map_cons, e1, e2]
    exact denL_cons hx (denL_pick d l fun i hi => h i (List.mem_cons_of_mem _ hi))
theorem pick_range {α : Type} (z : α) (l : List α) : (List.range l.length).map (fun i => l.getD i z) = l := by
  refine List.ext_getElem? fun i => ?_
  rw [List.getElem?_map]
  by_cases h : i < l.length
  · rw [List.getElem?_range h, List.getElem?_eq_getElem h]
    simp [h]
  · rw [List.getElem?_eq_none (by simpa using h), List.getElem?_eq_none (by simpa using h)]
    rfl
theorem pm_list {n : Nat} {p : Array Nat} (h : Pm n p) : p.toList.Perm (List.range n) := by
  have := Array.perm_iff_toList_perm.mp h.perm
  simpa using this
/-- sorted, of a list of tuples of n ints, n > 0 -/
def rSortT (K : PySem.W.Frag) : List V → Hp → VK → Prop := fun vs H Q => ∃ (l : Addr) (xs : List V) (rows : List (List Int)) (n : Nat), vs = [.ref l] ∧ SqL K H l xs ∧ DenL K H (rows.map rowD) xs ∧ (∀ r ∈ rows, r.length = n) ∧ 0 < n ∧ rows.length < 64 ∧
  ∀ (l' : Addr) (xs' : List V) (rows' : List (List Int)), H l' = none → DenL K H (rows'.map rowD) xs' → rows'.Perm rows → Rows rows' → Q (.ref l') (upd H l' (.lst xs'))
theorem call_sortedT (K : PySem.W.Frag) (hK : X.K = K := by rfl) : CallR X (.builtin "sorted") (rSortT K) := by
  subst hK
  intro pins s σ H vs us Q I r h
  obtain ⟨l, xs, rows, n, rfl, hS, hD, hn, hpos, h64, q⟩ := h
  obtain ⟨u, rfl, ru⟩ := vals1 r
  cases ru
  obtain ⟨its, r1, pl, hz⟩ := I.list hS
  have hl1 : xs.length = rows.length := by rw [denL_length hD, List.length_map]
  have hl2 : its.length = rows.length := by rw [← r1.length, hl1]
  refine sortedG (ans := fun i j => HT.lexLt (rows.getD i []) (rows.getD j [])) pl.isList (by omega) (fun _ => lex_ord rows _) (fun h2 h' keep => ?_) (fun out ho => ?_)
  · obtain ⟨fs, k1, k2, k3⟩ := rows_firsts I keep hD r1 (fun r hr => by rw [hn r hr]; exact hpos)
    refine kat_kind (T := Value.type "int") k1 (by omega) (fun v hv => ?_) (by decide) ⟨rfl, fun i j C hi hj hC => ?_⟩
    · obtain ⟨z, t, rfl⟩ := k3 v hv
      exact .now
    · obtain ⟨a, ua, ea, _, _, va, ⟨oa, ga, ca, na, da⟩⟩ := rows_at I hD r1 i (by omega)
      obtain ⟨b, ub, eb, _, _, vb, ⟨ob, gb, cb, nb, db⟩⟩ := rows_at I hD r1 j (by omega)
      show wpAny _ _ (keyLt' _ (its.getD i Value.none) (its.getD j Value.none)) C _ _
      rw [ea, eb]
      have la : (rows.getD i []).length = n := hn _ (by rw [show rows.getD i [] = rows[i]'(by omega) by simp [show i < rows.length by omega]]; exact List.getElem_mem _)
      have lb : (rows.getD j []).length = n := hn _ (by rw [show rows.getD j [] = rows[j]'(by omega) by simp [show j < rows.length by omega]]; exact List.getElem_mem _)
      have lua : ua.length = n := by rw [← va.length, List.length_map, la]
      have lub : ub.length = n := by rw [← vb.length, List.length_map, lb]
      refine kat_lt (keep _ _ ga) da (keep _ _ gb) db ?_
      have e0 : decide (ua.toArray.size < ub.toArray.size) = false := by simp [lua, lub]
      rw [e0]
      exact katlex_ints ua ub _ _ 0 va vb (by rw [la, lb]) hC
  · obtain ⟨p, P, up, rfl⟩ := ho
    rw [hl2] at P up
    obtain ⟨e, he⟩ := sortedAll_at s.heap its (List.toArray (p.toList.map fun i => its.getD i Value.none))
    have hpl : ∀ i ∈ p.toList, i < rows.length := fun i hi => by simpa using (pm_list P).mem_iff.mp hi
    have hlen : p.toList.length = rows.length := by rw [Array.length_toList, P.size]
    have key : DenL X.K H ((p.toList.map fun i => rows.getD i []).map rowD) (p.toList.map fun i => xs.getD i .non) := by
      have := denL_pick hD p.toList fun i hi => by rw [List.length_map]; exact hpl i hi
      have e : (p.toList.map fun i => rows.getD i []).map rowD = p.toList.map fun i => (rows.map rowD).getD i (.int 0) := by
        rw [List.map_map]
        refine List.map_congr_left fun i hi => ?_
        have := hpl i hi
        simp [this]
      rw [e]
      exact this
    refine ⟨.ref (s.heap.objs.size + 1), _, I.laid (t' := s.toks) (o := .lst (p.toList.map fun i => xs.getD i .non)) (fun b o q => sortedAll_old q) (Nat.le_succ _) ?_, rfl, q _ _ (p.toList.map fun i => rows.getD i []) (I.hok.fresh (Nat.le_succ _)) key ?_ ?_⟩
    · refine ⟨by rw [List.length_map, hlen, ← hl1]; exact hz, _, e, vals_pick r1 _ fun i hi => by rw [hl1]; exact hpl i hi, he⟩
    · have := (pm_list P).map fun i => rows.getD i []
      rw [pick_range] at this
      exact this
    · unfold Rows
      rw [List.pairwise_map, List.pairwise_iff_getElem]
      intro i j hi hj hij
      have := up i j (Nat.le_of_lt hij) (by omega)
      have ei : p.getD i 0 = p.toList[i] := by
        have : i < p.size := by simpa using hi
        simp [Array.getD, this]
      have ej : p.getD j 0 = p.toList[j] := by
        have : j < p.size := by simpa using hj
        simp [Array.getD, this]
      rw [ei, ej] at this
      exact this
/-- sorted, of a list of ints -/
def rSortI (K : PySem.W.Frag) : List V → Hp → VK → Prop := fun vs H Q => ∃ (l : Addr) (ns : List Int), vs = [.ref l] ∧ SqL K H l (ns.map V.int) ∧ ns.length < 64 ∧
  ∀ (l' : Addr) (ns' : List Int), H l' = none → ns'.Perm ns → ns'.Pairwise (· ≤ ·) → Q (.ref l') (upd H l' (.lst (ns'.map V.int)))
end
end L2

/-! ### own text: more of the built-in names, for the later laws -/
namespace L2
open PySem PySem.Spec PyProof.Rows
section
variable {X : Cx}
theorem ints_vals : ∀ {us : List Value} {ns : List Int}, IntsAre us ns → Vals (ns.map V.int) us
  | _, _, .nil => .nil
  | _, _, .cons n t r => .cons ⟨t, rfl⟩ (ints_vals r)
/-- sorted, of a list of ints -/
theorem call_sortedI (K : PySem.W.Frag) (hK : X.K = K := by rfl) : CallR X (.builtin "sorted") (rSortI K) := by
  subst hK
  intro pins s σ H vs us Q I r h
  obtain ⟨l, ns, rfl, hS, h64, q⟩ := h
  obtain ⟨u, rfl, ru⟩ := vals1 r
  cases ru
  obtain ⟨its, r1, pl, hz⟩ := I.list hS
  have hl : its.length = ns.length := by rw [← r1.length, List.length_map]
  refine sorted_ints pl.isList (intsAre_of r1) (by omega) fun out ns' hi perm srt => ?_
  obtain ⟨e, he⟩ := sortedAll_at s.heap its out
  have rv := ints_vals hi
  refine ⟨.ref (s.heap.objs.size + 1), _, I.laid (t' := s.toks) (o := .lst (ns'.map V.int)) (fun b o q => sortedAll_old q) (Nat.le_succ _) ?_, rfl, q _ ns' (I.hok.fresh (Nat.le_succ _)) perm srt⟩
  refine ⟨?_, out.toList, e, rv, by simpa using he⟩
  rw [List.length_map, perm.length_eq]
  rw [List.length_map] at hz
  exact hz
end
section
open PySem.SeqAt PySem.MeetsSeq
open AutoSeq1 (wpAny_loadPart')
theorem wpAny_forIn_rng {M : Model} {A : Around} {E : Value → Shared → Prop} {s : Shared} {β : Type} {r : Std.Legacy.Range} {b : β} {f : Nat → β → Sem (ForInStep β)} (I : List Nat → β → Shared → Prop) {Q : β → Shared → Prop}
    (turn : ∀ x rest b s, I (x :: rest) b s → wpAny M A (f x b) (fun r s' => match r with | .yield b' => I rest b' s' | .done b' => Q b' s') E s) (fin : ∀ b s, I [] b s → Q b s) (h : I (List.range' r.start r.size r.step) b s) : wpAny M A (forIn r b f) Q E s := by
  rw [Std.Legacy.Range.forIn_eq_forIn_range']
  exact wpAny_forIn_list f I Q turn fin _ b h
theorem tuple_indexM (l : Addr) (items : Array Value) (n : Nat) (dd : Option Addr) (sl : Array (Option Value)) (x : Value) (e : Value → Bool) (j : Nat) (hj : j < items.size) (hb : e items[j] = true) (ha : ∀ i (hi : i < items.size), i < j → e items[i] = false) :
    Meets (Builtin.«tuple.index» ⟨[.ref l, x], []⟩)
      (fun A R s => s.heap.get? l = some { cls := .type "tuple", dict := dd, data := .seq items n, slots := sl } ∧ (∀ y, y ∈ items → EqAt A.in1 s y x (e y)) ∧ R (.ok (.ret (.int (j : Nat) s.toks))) { s with toks := s.toks + 1 }) :=
  .of_wp fun prog w A R s h => by
    obtain ⟨hp, g, d, tk, os⟩ := s; obtain ⟨hl, he, h⟩ := h
    wp_walk using wpAny_loadPart' hl, wpAny_forIn_rng (fun rest (b : Option PySem.Fin × Unit) s' => s' = ⟨hp, g, d, tk, os⟩ ∧ b.1 = none ∧ ∃ i, i ≤ j ∧ rest = (List.range' 0 items.size).drop i)
    case turn =>
      rintro y rest b s' ⟨rfl, hb1, i, hi, hr⟩
      have hlt : i < items.size := by omega
      rw [List.drop_eq_getElem_cons (by simpa using hlt)] at hr
      injection hr with h1 h2
      have hy : y = i := by simpa using h1
      subst hy
      rw [Array.getElem?_eq_getElem hlt]
      refine wpAny_bind (he items[y] (Array.getElem_mem hlt) prog w _ _ ?_)
      by_cases c : y = j
      · subst c
        rw [hb]
        wp_walk
        exact ⟨_, rfl, h⟩
      · rw [ha y hlt (by omega)]
        wp_walk
        exact ⟨rfl, rfl, y + 1, by omega, h2⟩
    case fin =>
      rintro b s' ⟨rfl, hb1, i, hi, hr⟩
      have : (List.range' 0 items.size).drop i ≠ [] := by
        intro z
        have := congrArg List.length z
        rw [List.length_drop, List.length_range'] at this
        simp at this
        omega
      exact absurd hr.symm this
    case h =>
      exact ⟨rfl, rfl, 0, Nat.zero_le _, by simp⟩
end
section
variable {X : Cx}
/-- t.index(k), t a tuple of ints that has k -/
def rTIndex (K : PySem.W.Frag) : V → List V → Hp → VK → Prop := fun x vs H Q => ∃ (p : Addr) (ns : List Int) (k : Int) (j : Nat), x = .ref p ∧ vs = [.int k] ∧ SqT K H p (ns.map V.int) ∧ j < ns.length ∧ ns.getD j 0 = k ∧ (∀ i, i < j → ns.getD i 0 ≠ k) ∧ Q (.int j) H
theorem eqU_at {k : Int} {ns : List Int} {its : List Value} {i : Nat} (r : Vals (ns.map V.int) its) (hi : i < its.length) : eqU (.int k) its[i] = (ns.getD i 0 == k) := by
  have hl : its.length = ns.length := by rw [← r.length, List.length_map]
  obtain ⟨u, hu, ru⟩ := r.get (i := i) (x := .int (ns.getD i 0)) (by rw [List.getElem?_map, List.getElem?_eq_getElem (by omega)]; simp [show i < ns.length by omega])
  rw [List.getElem?_eq_getElem hi] at hu
  cases hu
  rw [eqU_of ru rfl]
  rfl
theorem flat_allI : ∀ (ns : List Int), (ns.map V.int).all flatV = true
  | [] => rfl
  | z :: ns => by rw [List.map_cons, List.all_cons, flat_allI ns]; rfl
theorem mt_tindexK (K : PySem.W.Frag) (hK : X.K = K := by rfl) : MtR X "tuple.index" (rTIndex K) := by
  subst hK
  intro pins s σ H x xs v us Q I rx rs h
  obtain ⟨p, ns, k, j, rfl, rfl, hS, hj, e1, e2, q⟩ := h
  cases rx
  obtain ⟨u, rfl, ru⟩ := vals1 rs
  obtain ⟨its, r1, ht, hz⟩ := I.tuple hS
  have hl : its.length = ns.length := by rw [← r1.length, List.length_map]
  obtain ⟨⟨cls, dd, data, sl⟩, ho, hc, n, hd⟩ := id ht
  simp only at hc hd
  subst hc hd
  refine call_meets PySem.F.slot_tuple_index ⟨_, ho, rfl⟩ PySem.F.entry_tuple_index (PySem.F.args_tuple_index_2 _ _) (tuple_indexM p its.toArray n dd sl u (eqU (.int k)) j (by simpa [hl] using hj) ?_ ?_) ⟨ho, fun y hy => mem_eqAt ru rfl r1 (flat_allI ns) y (by simpa using hy), ⟨.int j, H, I.tok _, ⟨_, rfl⟩, q⟩⟩
  · have := eqU_at (k := k) r1 (show j < its.length by omega)
    simp only [List.getElem_toArray]
    rw [this, e1]
    simp
  · intro i hi hlt
    have hi' : i < its.length := by simpa using hi
    have := eqU_at (k := k) r1 hi'
    simp only [List.getElem_toArray]
    rw [this]
    simpa using e2 i hlt
/-- a method of a tracked tuple -/
def tBMT (r : V → List V → Hp → VK → Prop) (to : TE) (t : TA) : TE := fun σ H Q => to σ H fun x H1 => (∃ p xs, x = .ref p ∧ H1 p = some (.tup xs)) ∧ t σ H1 fun xs H2 => r x xs H2 Q
theorem pe_bmT {o e : Expr} {es : List Expr} {to : TE} {t : TA} {name : Str} {apos cpos : Pos} {id : String} {r : V → List V → Hp → VK → Prop} (slot : Slot "tuple" name id) (hty : typeOf (.builtin id) = pure (.type "method_descriptor")) (hm : MtR X id r) (ho : PE X o to) (ha : PA X (e :: es) t)
    (hbase : attributeBase o name X.env (eval o X.env) = eval o X.env := by rfl)
    (hfew : ((backTo cpos (starEach (e :: es) X.env)).all (fun x => !x.1) && (backToKw cpos (keywordEach [] X.env)).all (fun x => x.1.isSome) && decide ((e :: es).length + ([] : List Keyword).length + (if ([] : List Keyword).isEmpty then 0 else 1) < 30)) = true := by rfl)
    (hline : (apos.endLine == cpos.line) = true := by rfl) (hs : starEach (e :: es) X.env = (false, eval e X.env) :: starEach es X.env := by rfl) (hplain : (backTo cpos (starEach es X.env)).any (·.1) = false := by rfl) :
    PE X (.Call (.Attribute o name apos) (e :: es) [] cpos) (tBMT r to t) := by
  intro pins s σ H Q I h
  refine wpAny_Call_method_late hbase hfew hline rfl (thn (ho pins s σ H _ I h) fun v s1 ⟨x, H1, I1, r1, ⟨p, xs, ex, hp⟩, q1⟩ => ?_)
  subst ex
  cases r1
  obtain ⟨_, its, _, ob, e1, c1, d1, _⟩ := (show ObjOk X.prog X.w H1 s1.heap p (.tup xs) from I1.hok p _ hp)
  refine ⟨"tuple", id, PySem.F.plainAttrs_tuple, slot, hty, ⟨ob, e1, c1⟩, fun a e => (by cases e; exact ⟨ob, e1, d1⟩), ?_⟩
  have hA := ha cpos pins s1 σ H1 _ I1 q1
  rw [hs] at hA ⊢
  refine Calls.callWith_builtin (by show (false || (backTo cpos (starEach es X.env)).any (·.1)) = false; rw [hplain] <;> rfl) (Calls.evalArgs_plain ?_)
  exact thn hA fun us s2 ⟨vs, H2, I2, r2, q2⟩ => hm pins s2 σ H2 (.ref p) vs (.ref p) us Q I2 rfl r2 q2
end
end L2

/-! ### own text: list comprehensions whose target is a pair of names -/
namespace L2
open PySem PySem.Spec PyProof.Rows
structure CompOkG (outer sc : Scope) : Prop where
  kind : sc.kind = .function
  names : ∀ y ∈ sc.names, y.2 = .local → sc.names.lookup y.1 = some .local
  nocell : ∀ y ∈ sc.names, y.2 ≠ .cell
  free : ∀ y ∈ sc.names, y.2 = .free → outer.names.lookup y.1 = some .cell ∨ outer.names.lookup y.1 = some .free
/-- as CompW, the target's own store kept: wd names of its own -/
def CompWG (J : It) (g : TG) (wd : Nat) (tc : TT) (te : TE) (σ : St) (H1 : Hp) (Q : List V → Hp → Prop) : Prop :=
  ∃ W : Nat → Nat → List V → Hp → Prop, (∃ m, W 0 m [] H1) ∧ ∀ i m ys H, W i m ys H →
    (J.stop i H ∧ ys.length ≤ sizeLine ∧ Q ys H) ∨
    (J.go i H ∧ ys.length < sizeLine ∧ ∃ N : List V → Hp → Prop, (∀ ys' H', N ys' H' → ∃ m', m' < m ∧ W (i + 1) m' ys' H') ∧
      ∀ x H', J.yld i H x H' → ∀ v0 : St, v0.length = wd → g x (v0 ++ σ) H' fun σ' H2 => ∃ v1 : St, v1.length = wd ∧ σ' = v1 ++ σ ∧ tc σ' H2 fun b H3 => if b = true then te σ' H3 fun y H4 => N (ys ++ [y]) H4 else N ys H3)
section
variable {X : Cx} {pins : List (Addr × Obj)} {σ : St} {H : Hp} {s : Shared}

theorem comp_coreG {elt iter tg : Expr} {wd : Nat} {g : TG} {pos : Pos} {ifs : List Expr} {sc sc0 : Scope} {cl : List (Str × Addr)} {N' : List Str} {tc : TT} {te : TE} {J : It} {fp : List Addr} {it : Addr} {tn : Nat → Heap → Prop} {Q : List V → Hp → Prop}
    {RR : Value → Addr → Result → Shared → Prop} {E : Value → Shared → Prop}
    (hc : X.calm = true) (h0 : X.env.scope = sc0) (ok : CompOkG sc0 sc) (nT : ∀ i y, N'[i + wd]? = some y → sc.names.lookup y ≠ some .local) (hN : N'.length = X.N.length + wd)
    (hT : ∀ i y, N'[i + wd]? = some y → sc.names.lookup y = some .free → X.N[i]? = some y)
    (hcl2 : ∀ x c, cl.lookup x = some c → X.env.cells.lookup x = some c) (hcl3 : ∀ x, sc.names.lookup x = some .free → ∃ c, cl.lookup x = some c)
    (hf : ∀ C s H fp, PF (X.comp N' sc cl C s H fp) ifs tc) (he : ∀ C s H fp, PE (X.comp N' sc cl C s H fp) elt te) (hg : ∀ C s H fp, PG (X.comp N' sc cl C s H fp) tg g)
    (I : Inv X pins σ H s) (T : Turn X.prog X.w X.K tg J fp it tn) (st : tn 0 s.heap) (f2 : ∀ b ∈ fp, FpOk X pins H b) (w0 : CompWG J g wd tc te σ H Q)
    (fin : ∀ (D C : Addr) (ys : List V) (H' : Hp) (s' : Shared) (m : Str → Option Value), Q ys H' → H' D = none → Inv X pins σ (upd H' D (.lst ys)) s' → s'.heap.Ns C m → upd H' D (.lst ys) C = none → s.heap.objs.size ≤ C → RR (.ref D) C (.ok .next) s') :
    wpAny (model X.prog X.w) X.A (newList []) (fun acc s₃ => wpAny (model X.prog X.w) X.A (newFunctionEnv sc X.env.globals cl [] X.env.qual none .none (some X.env)) (fun cenv s₄ =>
      codeAny (model X.prog X.w) X.A (.compStart (.ListComp elt [⟨tg, iter, ifs, 0⟩] sc pos) 0 (.ref it) acc { cenv with scope := relabel sc X.env }) (RR acc cenv.locals) s₄) E s₃) E s := by
  refine wpAny_newObj_type (wpAny_newFunctionEnv ok.nocell (by intro y hy; simp at hy) (fun h₁ hns₁ hsb₁ => ?_) ok.kind)
  dsimp only at hns₁ hsb₁ ⊢
  generalize hH2 : s.heap.push { cls := .type "list", dict := none, data := .seq ([] : List Value).toArray } = H2 at hns₁ hsb₁ ⊢
  have hC : H2.objs.size = s.heap.objs.size + 1 := by rw [← hH2, Heap.size_push]
  have hDC : s.heap.objs.size ≠ H2.objs.size := by rw [hC]; exact Nat.ne_of_lt (Nat.lt_succ_self _)
  generalize hCC : H2.objs.size = C at hns₁ hsb₁ hC hDC ⊢
  generalize hDD : s.heap.objs.size = D at hC hDC ⊢
  have hDS : s.heap.objs.size ≤ D := Nat.le_of_eq hDD
  have hCS : s.heap.objs.size ≤ C := by omega
  have old : ∀ b o, s.heap.get? b = some o → h₁.get? b = some o := fun b o e => by
    have hb := Heap.lt_size e
    exact hsb₁.extBut b o (Nat.ne_of_lt (Nat.lt_of_lt_of_le hb hCS)) (Heap.get?_push_of_some _ (hH2 ▸ Heap.get?_push_of_some _ e))
  have hacc : h₁.get? D = some { cls := .type "list", data := .seq ([] : List Value).toArray } := hsb₁.extBut _ _ hDC (Heap.get?_push_of_some _ (by rw [← hH2, ← hDD]; exact Heap.get?_push_size _ rfl))
  have fpS : ∀ b ∈ fp, b < s.heap.objs.size := fun b hb => by
    obtain ⟨o, e, _⟩ := T.obj 0 _ st b hb
    exact Heap.lt_size e
  have scne : ∀ c y, X.env.cells.lookup y = some c → c < s.heap.objs.size := fun c y e => by
    obtain ⟨v, q⟩ := I.cell y c e
    exact q.lt
  have frsS : ∀ b ∈ frs X.stack, b < s.heap.objs.size := fun b hb => by
    obtain ⟨_, o, ho, _⟩ := I.stack.mem hb
    exact Heap.lt_size ho
  have relk : ∀ y, (relabel sc X.env).names.lookup y = some .cell ∨ (relabel sc X.env).names.lookup y = some .free → sc.names.lookup y = some .free := fun y hy => relabel_look ok.nocell hy
  -- the block's context
  have okc : (X.comp N' sc cl C s H fp).Ok :=
    ⟨I.ok.mod, ok.kind, I.ok.glob, I.ok.blt, hCS, fun y z c h1 h2 => I.ok.inj y z c (hcl2 y c h1) (hcl2 z c h2), fun y hy => hcl3 y (relk y hy), (fun y c hf _ => nomatch hf),
      I.ok.hd, I.ok.frames, .inl rfl, fun b hb => ⟨Nat.ne_of_lt (Nat.lt_of_lt_of_le (fpS b hb) hCS), fun y c e => (f2 b hb).2.2.2.2.1 y c (hcl2 y c e)⟩, I.bs, Nat.le_trans I.ok.bsz I.sz,
      fun b o e hb => by
        rcases (f2 b hb).2.2.2.1 with z | z
        · exact I.ok.noex b o e z
        · exact absurd (Nat.lt_of_lt_of_le (Heap.lt_size e) (Nat.le_trans I.ok.bsz z)) (Nat.lt_irrefl _),
      fun b hb z => by
        rcases List.mem_cons.mp (I.stkSub b z) with q | q
        · exact (f2 b hb).2.1 q
        · exact (f2 b hb).2.2.1 q,
      I.stack, I.stkFree⟩
  have lenN : N'.length = (List.replicate wd none ++ σ).length := by rw [hN, List.length_append, List.length_replicate, I.len, Nat.add_comm]
  have hDfp : D ∉ fp := fun hm => absurd (Nat.lt_of_lt_of_le (fpS D hm) hDS) (Nat.lt_irrefl _)
  have hDfs : D ∉ frs X.stack := fun hm => absurd (Nat.lt_of_lt_of_le (frsS D hm) hDS) (Nat.lt_irrefl _)
  have I0 : Inv (X.comp N' sc cl C s H fp) [(D, { cls := .type "list", data := .seq ([] : List Value).toArray })] (List.replicate wd none ++ σ) H { s with heap := h₁, toks := s.toks + ([] : List (Str × Value)).length } := by
    refine ⟨okc, rfl, I.bare, Un.kept old, ⟨_, hns₁, fun i y v e1 e2 e3 => ?_⟩, fun y c e => ?_, I.hok.fresh hCS, fun y c e => I.freeC y c (hcl2 y c e), fun p hp => ?_, I.hok.kept old, lenN.symm⟩
    · by_cases hw : i < wd
      · have : (List.replicate wd (none : Option V) ++ σ)[i]? = some none := by
          rw [List.getElem?_append_left (by rw [List.length_replicate]; exact hw), List.getElem?_replicate, if_pos hw]
        rw [this] at e2
        cases e2
      · obtain ⟨i, rfl⟩ : ∃ k, i = k + wd := ⟨i - wd, by omega⟩
        have e2' : σ[i]? = some (some v) := by
          rw [List.getElem?_append_right (by rw [List.length_replicate]; omega), List.length_replicate] at e2
          have : i + wd - wd = i := by omega
          rw [this] at e2
          exact e2
        have hyf : sc.names.lookup y = some .free := by
          rcases e3 with e3 | e3 | e3
          · exact absurd (relabel_local e3) (nT i y e1)
          · exact relk y (.inl e3)
          · exact relk y (.inr e3)
        have hXN := hT i y e1 hyf
        have hk0 := ok.free (y, .free) (PySem.mem_of_lookup hyf) rfl
        have hvis : Vis X.env.scope y := by
          rw [h0]
          exact .inr hk0
        obtain ⟨m, hn, hl⟩ := I.loc
        obtain ⟨u, r, l⟩ := hl i y v hXN e2' hvis
        refine ⟨u, r, ?_⟩
        rcases l with ⟨l, _⟩ | ⟨_, c, ec, hcell⟩
        · exfalso
          have l' : X.env.scope.names.lookup y = some .local := l
          rw [h0] at l'
          rcases hk0 with z | z <;> (have z' : sc0.names.lookup y = _ := z; rw [l'] at z'; cases z')
        · obtain ⟨c', ec'⟩ := hcl3 y hyf
          have := hcl2 y c' ec'
          rw [ec] at this
          cases this
          refine .inr ⟨?_, c, ec', ?_⟩
          · rcases e3 with e3 | e3 | e3
            · have := relabel_local e3
              rw [hyf] at this; cases this
            · exact .inl e3
            · exact .inr e3
          · obtain ⟨o, ho, hd⟩ := hcell
            exact ⟨o, old c o ho, hd⟩
    · obtain ⟨v, o, ho, hd⟩ := I.cell y c (hcl2 y c e)
      exact ⟨v, o, old c o ho, hd⟩
    · have e := List.mem_singleton.mp (show p ∈ [_] from hp)
      subst e
      exact ⟨hacc, I.hok.fresh hDS, hDC, hDfs, fun v z => nomatch z⟩
  have st1 : tn 0 h₁ := T.keep 0 _ _ st fun b _ o e => old b o e
  -- FpOk in the block
  have fpc : ∀ {pl : List (Addr × Obj)} {H' : Hp}, (∀ b ∈ fp, H' b = none) → (∀ p ∈ pl, p.1 ∉ fp) → ∀ b ∈ fp, FpOk (X.comp N' sc cl C s H fp) pl H' b := fun {pl H'} hn hp b hb =>
    ⟨hn b hb, Nat.ne_of_lt (Nat.lt_of_lt_of_le (fpS b hb) hCS), okc.exfs b hb, .inl hb, fun y c e => (f2 b hb).2.2.2.2.1 y c (hcl2 y c e), fun p hp' z => hp p (by simpa using hp') (z ▸ hb)⟩
  have loop : codeAny (model X.prog X.w) X.A (.compLoop (.ListComp elt [⟨tg, iter, ifs, 0⟩] sc pos) 0 (.ref it) (.ref D) (compEnvC sc cl C X.env)) (RR (.ref D) C) { s with heap := h₁, toks := s.toks + ([] : List (Str × Value)).length } := by
    obtain ⟨W, ⟨m0, w00⟩, turn⟩ := w0
    refine comp_loop (fun n s' => ∃ (i : Nat) (ys : List V) (its : List Value) (nn : Nat) (v0 : St) (H' : Hp), v0.length = wd ∧
      Inv (X.comp N' sc cl C s H fp) [(D, { cls := .type "list", data := .seq its.toArray nn })] (v0 ++ σ) H' s' ∧ Vals ys its ∧ tn i s'.heap ∧ (∀ b ∈ fp, H' b = none) ∧ W i n ys H') ?_ m0 ⟨0, [], [], _, List.replicate wd none, H, List.length_replicate, I0, .nil, st1, fun b hb => (f2 b hb).1, w00⟩
    rintro n s3 ⟨i, ys, its, nn, v0, H3, lv0, I3, rv, st3, fr3, w3⟩
    have noD : ∀ p ∈ [(D, ({ cls := .type "list", data := .seq its.toArray nn } : Obj))], p.1 ∉ fp := fun p hp => by
      have e := List.mem_singleton.mp (show p ∈ [_] from hp)
      subst e; exact hDfp
    rcases turn i n ys H3 w3 with ⟨stop, hz, q⟩ | ⟨go, hz, N, hNw, step⟩
    · refine thn (T.done (X.comp N' sc cl C s H fp) rfl rfl rfl hc i _ s3 _ H3 _ I3 (fpc fr3 noD) st3 stop) fun r s4 ⟨hr, I4⟩ => ?_
      subst hr
      obtain ⟨eD, nD, neD, nfD, _⟩ := I4.pin (D, { cls := .type "list", data := .seq its.toArray nn }) (by simp)
      have nD' : H3 D = none := nD
      have hdn : s.heap.get? D = none := Heap.get?_none_of_le hDS
      have un : Un (frs X.stack) fp H (upd H3 D (.lst ys)) s.heap s4.heap := Un.adopt I4.base hdn nD'
      have hok4 : HOk X.prog X.w (upd H3 D (.lst ys)) s4.heap := HOk.adopt I4.hok nD' ⟨hz, its, nn, rv, eD⟩
      have I5 : Inv X pins σ (upd H3 D (.lst ys)) s4 := I.call' I4.os un hok4 I4.bare fun b hb => ⟨(f2 b hb).2.2.2.1, (f2 b hb).2.1, (f2 b hb).2.2.2.2.1, (f2 b hb).2.2.2.2.2⟩
      obtain ⟨m, hm, _⟩ := I4.loc
      exact fin D C ys H3 s4 m q nD' I5 hm (by rw [upd_ne (Ne.symm hDC)]; exact I4.free) hCS
    · refine thn (T.item (X.comp N' sc cl C s H fp) rfl rfl rfl hc i _ s3 _ H3 _ I3 (fpc fr3 noD) st3 go) fun r s4 ⟨u, hr, h4⟩ => ?_
      subst hr
      refine thn h4 fun _ s5 ⟨y, H5, I5, r5, y5, st5, fr5⟩ => ?_
      have I5' := I5.pinned (fpc fr5 noD) (T.obj _ _ st5)
      refine thn (hg C s H fp _ s5 (v0 ++ σ) H5 y u (fun σ' H' => ∃ v1 : St, v1.length = wd ∧ σ' = v1 ++ σ ∧ tc σ' H' fun b H2 => if b = true then te σ' H2 fun y H3 => N (ys ++ [y]) H3 else N ys H2) I5' r5 (step y _ y5 v0 lv0)) fun _ s6 ⟨σ6, H6, I6, v1, lv1, e6, st6⟩ => ?_
      subst e6
      -- back at the loop's head
      have again : ∀ {s9 : Shared} {H9 : Hp} {ys' : List V} {its' : List Value} {nn' m' : Nat}, Inv (X.comp N' sc cl C s H fp) [(D, { cls := .type "list", data := .seq its'.toArray nn' })] (v1 ++ σ) H9 s9 → Vals ys' its' →
          (∀ b ∈ fp, ∀ o, s5.heap.get? b = some o → s9.heap.get? b = some o) → (∀ b ∈ fp, H9 b = none) → m' < n → W (i + 1) m' ys' H9 →
          ∃ m, m < n ∧ ∃ (i : Nat) (ys : List V) (its : List Value) (nn : Nat) (v0 : St) (H' : Hp), v0.length = wd ∧
            Inv (X.comp N' sc cl C s H fp) [(D, { cls := .type "list", data := .seq its.toArray nn })] (v0 ++ σ) H' s9 ∧ Vals ys its ∧ tn i s9.heap ∧ (∀ b ∈ fp, H' b = none) ∧ W i m ys H' :=
        fun {s9 H9 ys' its' nn' m'} I9 rv' k9 fr9 hm w9 => ⟨m', hm, i + 1, ys', its', nn', v1, H9, lv1, I9, rv', T.keep _ _ _ st5 k9, fr9, w9⟩
      have pinfp : ∀ {s9 : Shared} {H9 : Hp} {σ9 : St}, Inv (X.comp N' sc cl C s H fp) ([(D, { cls := .type "list", data := .seq its.toArray nn })] ++ pinsAt fp s5.heap) σ9 H9 s9 →
          (∀ b ∈ fp, ∀ o, s5.heap.get? b = some o → s9.heap.get? b = some o) ∧ (∀ b ∈ fp, H9 b = none) := fun {s9 H9 σ9} I9 =>
        ⟨fun b hb o e => (I9.pin (b, o) (List.mem_append_right _ (List.mem_append_right _ (mem_pinsAt hb e)))).1, fun b hb => by
          obtain ⟨o, e, d⟩ := T.obj _ _ st5 b hb
          exact (I9.pin (b, o) (List.mem_append_right _ (List.mem_append_right _ (mem_pinsAt hb e)))).2.1⟩
      refine thn (hf C s H fp _ s6 (v1 ++ σ) _ _ I6 st6) fun okb s7 ⟨H7, I7, q7⟩ => ?_
      cases okb with
      | false =>
        rw [if_neg Bool.false_ne_true] at q7 ⊢
        obtain ⟨m', hm, w7⟩ := hNw _ _ q7
        obtain ⟨k7, fr7⟩ := pinfp I7
        exact again (I7.pins_of fun p hp => I7.pin p (List.mem_append_right _ (List.mem_append_left _ hp))) rv k7 fr7 hm w7
      | true =>
        rw [if_pos rfl] at q7 ⊢
        refine thn (he C s H fp _ s7 (v1 ++ σ) H7 _ I7 q7) fun uu s8 ⟨yv, H8, I8, r8, q8⟩ => ?_
        obtain ⟨m', hm, w8⟩ := hNw _ _ q8
        obtain ⟨k8, fr8⟩ := pinfp I8
        obtain ⟨eD, nD, neD, nfD, _⟩ := I8.pin (D, { cls := .type "list", data := .seq its.toArray nn }) (by simp)
        have nD' : H8 D = none := nD
        have eD' : s8.heap.get? D = some { cls := .type "list", data := .seq its.toArray nn } := eD
        refine wpAny_list_append_plain (hsz := by rw [List.size_toArray, ← rv.length]; exact Nat.le_of_lt hz) ⟨nn, eD'⟩ fun h9 ⟨nn', e9⟩ sb9 => ?_
        have I9 : Inv (X.comp N' sc cl C s H fp) [] (v1 ++ σ) H8 { s8 with heap := h9 } :=
          (I8.pins_of (pins' := []) fun p hp => nomatch hp).turned (t' := s8.toks) (it := D) (fun b o hb e => (sb9.2 b hb).trans e) nD' hDC (.inr hDS) (fun y' c e z => by
            have := scne c y' (hcl2 y' c e)
            rw [z] at this
            exact absurd (Nat.lt_of_lt_of_le this hDS) (Nat.lt_irrefl _)) (fun p hp => nomatch hp)
        have e9' : h9.get? D = some { cls := .type "list", data := .seq (its ++ [uu]).toArray nn' } := by
          rw [e9]
          simp
        refine again (nn' := nn') (I9.pins_of fun p hp => ?_) (rv.append (.cons r8 .nil)) (fun b hb o e => ?_) fr8 hm w8
        · have e := List.mem_singleton.mp (show p ∈ [_] from hp)
          subst e
          exact ⟨e9', nD', hDC, hDfs, fun v z => nomatch z⟩
        · have hbD : b ≠ D := fun z => hDfp (z ▸ hb)
          exact (sb9.2 b hbD).trans (k8 b hb o e)
  exact codeAny_compStart_list loop (T.self _ 0 _ _ _ st1 loop)


end
def gPair (K : PySem.W.Frag) : TG := gTup K 2 (gCons (gName 0) (gCons (gName 1) gNil))
def tComp2 (K : PySem.W.Frag) (wi : TI) (tc : TT) (te : TE) : TE := fun σ H Q => wi σ H fun J H1 => CompWG J (gPair K) 2 tc te σ H1 fun ys H2 => ∀ p, H2 p = none → Q (.ref p) (upd H2 p (.lst ys))
def compChk2 (N N' : List Str) (sc0 sc : Scope) (x y : Str) : Bool :=
  decide (sc.kind = .function) && sc.names.all (fun z => decide (z.2 ≠ .local) || decide (sc.names.lookup z.1 = some .local)) && decide (sc.names.lookup x = some .local) && decide (sc.names.lookup y = some .local) && sc.names.all (fun z => decide (z.2 ≠ .cell)) &&
  sc.names.all (fun z => decide (z.2 ≠ .free) || (decide (sc0.names.lookup z.1 = some .cell) || decide (sc0.names.lookup z.1 = some .free))) && decide N'.Nodup && decide (N'[0]? = some x) && decide (N'[1]? = some y) &&
  (N'.drop 2).all (fun z => decide (sc.names.lookup z ≠ some .local)) && decide (N'.length = N.length + 2) && ((N'.drop 2).zip N).all (fun p => decide (p.1 = p.2) || decide (sc.names.lookup p.1 ≠ some .free))
section
variable {X : Cx}
/-- [elt for x, y in iter if ..] -/
theorem pe_comp2 {elt iter : Expr} {x y : Str} {px py pt pos : Pos} {kt : Nat} {ifs : List Expr} {sc : Scope} {wi : TI} {tc : TT} {te : TE} (N N' : List Str) (sc0 : Scope) (hi : PI X (.Tuple [.Name x px, .Name y py] kt pt) iter wi)
    (hf : ∀ cl C s H fp, PF (X.comp N' sc cl C s H fp) ifs tc) (he : ∀ cl C s H fp, PE (X.comp N' sc cl C s H fp) elt te)
    (cc : compChk2 N N' sc0 sc x y = true := by decide +kernel) (hc : X.calm = true := by rfl) (h0 : X.env.scope = sc0 := by rfl) (hN : X.N = N := by rfl)
    (hs : ∀ x, foldedSetIterable iter X.env x = pure x := by intro _; rfl) : PE X (.ListComp elt [⟨.Tuple [.Name x px, .Name y py] kt pt, iter, ifs, 0⟩] sc pos) (tComp2 X.K wi tc te) := by
  unfold compChk2 at cc
  simp only [Bool.and_eq_true, Bool.or_eq_true, List.all_eq_true, decide_eq_true_eq] at cc
  obtain ⟨⟨⟨⟨⟨⟨⟨⟨⟨⟨⟨c1, c2⟩, c3⟩, c4⟩, c5⟩, c6⟩, c7⟩, c8⟩, c9⟩, c10⟩, c11⟩, c12⟩ := cc
  have ok : CompOkG sc0 sc := ⟨c1, fun z hz hl => (c2 z hz).elim (fun q => absurd hl q) id, c5, fun z hz hl => (c6 z hz).elim (fun q => absurd hl q) id⟩
  have getd : ∀ {i : Nat} {z : Str}, N'[i + 2]? = some z → (N'.drop 2)[i]? = some z := fun {i z} e => by rw [List.getElem?_drop, Nat.add_comm]; exact e
  have nT : ∀ i z, N'[i + 2]? = some z → sc.names.lookup z ≠ some .local := fun i z e => c10 z (List.mem_of_getElem? (getd e))
  have hT : ∀ i z, N'[i + 2]? = some z → sc.names.lookup z = some .free → N[i]? = some z := fun i z e hfr => by
    have hi : i < N.length := by
      have := (List.getElem?_eq_some_iff.mp e).1
      omega
    have eN : N[i]? = some N[i] := List.getElem?_eq_getElem hi
    rcases c12 _ (zip_get (getd e) eN) with q | q
    · rw [eN, ← (show z = N[i] from q)]
    · exact absurd hfr q
  subst hN
  intro pins s σ H Q I h
  obtain ⟨cl, e1, e2, e3⟩ := closure_of (sc := sc) (env := X.env) fun z hz hf => I.ok.has z.1 (by
    have := ok.free z hz hf
    rw [← h0] at this
    exact this)
  have hg : ∀ C s H fp, PG (X.comp N' sc cl C s H fp) (.Tuple [.Name x px, .Name y py] kt pt) (gPair X.K) := fun C s H fp =>
    pg_tup (X := X.comp N' sc cl C s H fp) hc (pgs_cons (pg_name (i := 0) c7 c8 (.inl (lookup_relabel_local c3)) (.inr (lookup_relabel_local c3))) (pgs_cons (pg_name (i := 1) c7 c9 (.inl (lookup_relabel_local c4)) (.inr (lookup_relabel_local c4))) pgs_nil))
  rw [eval_ListComp]
  refine wpAny_comprehension_free (use := none) rfl hs e1 ok.kind ok.names (thn (hi pins s σ H _ I h) fun v s1 h1 => thn h1 fun itv s2 h2 => ?_)
  obtain ⟨it, fp, tn, J, H2, rfl, I2, T, st2, f2, w0⟩ := h2
  refine comp_coreG (RR := compPost (model X.prog X.w) X.A X.xe none (EP X pins σ Q)) hc h0 ok nT c11 hT e2 e3 (hf cl) (he cl) hg I2 T st2 f2 w0 ?_
  intro D C ys H' s' m q nD I' hm hCn hCS
  exact ⟨m, hm, fun h' sb => ⟨.ref D, _, Inv.letgo I2 I' hCS hCn sb, rfl, q D nD⟩⟩
end
/-- over a tuple of pairs -/
theorem comp2_tup {K : PySem.W.Frag} {a : Addr} {xs : List V} {tc : TT} {te : TE} {σ : St} {H : Hp} {Q : List V → Hp → Prop} (Pv : Nat → List V → Hp → Prop) (h0 : Pv 0 [] H) (hS : ∀ i ys H, i ≤ xs.length → Pv i ys H → SqT K H a xs)
    (hs : ∀ i x ys H, xs[i]? = some x → Pv i ys H → ∃ (t : Addr) (u v : V), x = .ref t ∧ SqT K H t [u, v] ∧ tc (some u :: some v :: σ) H fun b H2 => if b = true then te (some u :: some v :: σ) H2 fun y H3 => Pv (i + 1) (ys ++ [y]) H3 else Pv (i + 1) ys H2)
    (hl : ∀ i ys H, i ≤ xs.length → Pv i ys H → ys.length < sizeLine) (hd : ∀ ys H, Pv xs.length ys H → Q ys H) : CompWG (Itt K a) (gPair K) 2 tc te σ H Q := by
  refine ⟨fun i m ys H => m = xs.length - i ∧ i ≤ xs.length ∧ Pv i ys H, ⟨xs.length, by simp, Nat.zero_le _, h0⟩, ?_⟩
  rintro i m ys H ⟨rfl, hi, p⟩
  have hz := hl i ys H hi p
  have q := hS i ys H hi p
  by_cases hlt : i < xs.length
  · refine .inr ⟨⟨xs, xs[i], q, by simp [hlt]⟩, hz, Pv (i + 1), fun ys' H' p' => ⟨xs.length - (i + 1), by omega, rfl, hlt, p'⟩, fun x H' y v0 lv0 => ?_⟩
    obtain ⟨e, y⟩ := y
    subst e
    obtain ⟨t, u, v, rfl, ht, w⟩ := hs i x ys _ (y xs q) p
    match v0, lv0 with
    | [a0, b0], _ => exact ⟨t, _, rfl, ht, rfl, _, _, rfl, _, _, rfl, rfl, [some u, some v], rfl, rfl, w⟩
  · have e : i = xs.length := by omega
    subst e
    exact .inl ⟨⟨xs, q, Nat.le_refl _⟩, Nat.le_of_lt hz, hd ys H p⟩
end L2

/-! ### own text: min(.., key=len, default=..) of a list of tuples -/
namespace L2
open PySem PySem.Spec PyProof.Rows
theorem min_kd (a v d : Value) : argsOk "min" ⟨[a], [(Str.ofString "key", v), (Str.ofString "default", d)]⟩ := by unfold argsOk; kernel_rfl
section
variable {prog : Program} {w : World} {A : Around} {E : Value → Shared → Prop} {s : Shared} {l I S : Addr} {vs : List Value} {R : Result → Shared → Prop} {kw : List (Str × Value)}
/-- what has been walked, in the heap h -/
structure MinAt (s : Shared) (l I S : Addr) (kf : Nat → Nat) (vs : List Value) (h : Heap) (j i : Nat) (vb : Value) : Prop where
  keep : ∀ b o, s.heap.get? b = some o → h.get? b = some o
  st : ∃ tb c, h.get? S = some (seqObj "list" #[vb, .int (kf i) tb] c)
  it : h.IsListIter I l (j + 1)
  at' : vs[i]? = some vb
  le : i ≤ j
  best : ∀ j', j' ≤ j → kf i ≤ kf j' ∧ (j' < i → kf i < kf j')
theorem minlen_loop (kf : Nat → Nat) (hh : A.handled = none) (hl : s.heap.IsList l vs.toArray) (hlI : l ≠ I) (hSI : S ≠ I) (nI : s.heap.get? I = none) (nS : s.heap.get? S = none)
    (tup : ∀ (i : Nat) (v : Value), vs[i]? = some v → ∃ (t : Addr) (items : Array Value), v = .ref t ∧ IsTup s.heap t items ∧ items.size = kf i ∧ (items.size : Int) < 2 ^ 63)
    (hR : ∀ i v h' tk', vs[i]? = some v → (∀ j, j < vs.length → kf i ≤ kf j ∧ (j < i → kf i < kf j)) → (∀ b o, s.heap.get? b = some o → h'.get? b = some o) → R (.ok (.ret v)) { s with heap := h', toks := tk' }) :
    ∀ (r j i : Nat) (h : Heap) (tk : Nat) (vb : Value), vs.length - (j + 1) = r → j + 1 ≤ vs.length → MinAt s l I S kf vs h j i vb →
      codeAny (model prog w) A (.builtin "min.loop" ⟨[.ref I, .builtin "len", .ref S], kw⟩) R { s with heap := h, toks := tk } := by
  have nm : (toString "min" ++ toString ".loop" : String) = "min.loop" := by decide
  have W := Walks.list (prog := prog) (w := w) (A := A.in1) hh I l hlI vs.toArray
  have sz : vs.toArray.size = vs.length := List.size_toArray ..
  have lst : ∀ h : Heap, (∀ b o, s.heap.get? b = some o → h.get? b = some o) → h.IsList l vs.toArray := fun h k => Heap.IsList.at hl fun o e => k _ o e
  have offI : ∀ {h h' : Heap}, (∀ b o, s.heap.get? b = some o → h.get? b = some o) → (∀ b o, b ∉ [I] → h.get? b = some o → h'.get? b = some o) → ∀ b o, s.heap.get? b = some o → h'.get? b = some o := fun k k' b o e =>
    k' b o (fun z => by rw [List.mem_singleton.mp z, nI] at e; cases e) (k b o e)
  have offS : ∀ {h h' : Heap}, (∀ b o, s.heap.get? b = some o → h.get? b = some o) → Heap.SameBut S h h' → ∀ b o, s.heap.get? b = some o → h'.get? b = some o := fun k k' b o e =>
    (k'.2 b (fun z => by rw [z, nS] at e; cases e)).trans (k b o e)
  intro r
  induction r with
  | zero =>
    intro j i h tk vb hr hj M
    obtain ⟨tb, c, gS⟩ := M.st
    refine codeAny_builtin PySem.F.entry_min_loop ?_ ; rw [Around.under_plainId PySem.F.plain_min_loop _]
    show wpAny _ A.in1 (seqItems? (.ref S) >>= _) _ _ _ ; refine wpAny_bind (wpAny_seqItems gS rfl ?_)
    show wpAny _ A.in1 (tryCatch (pyNext (.ref I)) _ >>= _) _ _ _
    refine wpAny_bind (wpAny_tryCatch (W.done _ _ _ ⟨by rw [sz, show vs.length = j + 1 by omega]; exact M.it, lst h M.keep⟩ fun h' tk' hk' => ?_))
    have gS' := hk' S _ (by simpa using hSI) gS
    show wpAny _ A.in1 (updateSeq S (fun _ => #[]) >>= _) _ _ _ ; refine wpAny_bind (wpAny_updateSeq gS' rfl (wpAny_bind (wpAny_letGo (wpAny_pure ?_))))
    exact hR i vb _ _ M.at' (fun j' hj' => M.best j' (by omega)) (offS (offI M.keep hk') (Heap.SameBut.update ..))
  | succ r ih =>
    intro j i h tk vb hr hj M
    obtain ⟨tb, c, gS⟩ := M.st
    refine codeAny_builtin PySem.F.entry_min_loop ?_ ; rw [Around.under_plainId PySem.F.plain_min_loop _]
    show wpAny _ A.in1 (seqItems? (.ref S) >>= _) _ _ _ ; refine wpAny_bind (wpAny_seqItems gS rfl ?_)
    show wpAny _ A.in1 (tryCatch (pyNext (.ref I)) _ >>= _) _ _ _
    refine wpAny_bind (wpAny_tryCatch (W.item (j + 1) _ _ _ (by rw [sz]; omega) ⟨M.it, lst h M.keep⟩ fun v h' tk' hP hst' hk' => ?_))
    have hv : vs[j + 1]? = some v := by simpa using hP
    have k1 := offI M.keep hk'
    have gS' := hk' S _ (by simpa using hSI) gS
    obtain ⟨t, items, rfl, ht, hn, hf⟩ := tup (j + 1) v hv
    have ht' : IsTup h' t items := by
      obtain ⟨o, e1, e2⟩ := ht
      exact ⟨o, k1 _ _ e1, e2⟩
    show wpAny _ A.in1 (tryCatch (holding [.ref t] (call (.builtin "len") [.ref t])) _ >>= _) _ _ _
    refine wpAny_bind (wpAny_tryCatch (wpAny_holding (len_tuple ht' hf ?_)))
    rw [hn]
    show wpAny _ A.in1 (tryCatch (holding [.ref t, .int (kf (j + 1)) _] (richCompare .Lt (.int (kf (j + 1)) _) (.int (kf i) tb) >>= _)) _ >>= _) _ _ _
    refine wpAny_bind (wpAny_tryCatch (wpAny_holding (wpAny_bind (HT.rcLt_int _ _ _ _ _ _ _ _ _ _ ?_))))
    refine wpAny_bind (wpAny_holding (wpAny_truthy_bool (wpAny_bind (wpAny_letGo (wpAny_pure ?_)))))
    by_cases c1 : ((kf (j + 1) : Nat) : Int) < ((kf i : Nat) : Int)
    · simp only [c1, decide_true, if_true]
      refine wpAny_bind (wpAny_updateSeq gS' rfl (wpAny_bind (wpAny_letGo ?_)))
      rw [nm]
      refine wpAny_pure ⟨plainId_quiet PySem.F.plain_min_loop _, ih (j + 1) (j + 1) _ _ (.ref t) (by omega) (by omega) ⟨offS k1 (Heap.SameBut.update ..), ⟨_, _, get?_update_seq gS' _⟩, ?_, hv, Nat.le_refl _, fun j' hj' => ?_⟩⟩
      · obtain ⟨o, e1, e2⟩ := hst'.1
        exact ⟨o, ((Heap.SameBut.update h' S _).2 I (Ne.symm hSI)).trans e1, e2⟩
      · by_cases e : j' = j + 1
        · rw [e]; exact ⟨Nat.le_refl _, fun z => absurd z (Nat.lt_irrefl _)⟩
        · have := M.best j' (by omega)
          exact ⟨by omega, fun _ => by omega⟩
    · simp only [c1, decide_false, Bool.false_eq_true, if_false]
      refine wpAny_bind (wpAny_letGo ?_)
      rw [nm]
      refine wpAny_pure ⟨plainId_quiet PySem.F.plain_min_loop _, ih (j + 1) i _ _ vb (by omega) (by omega) ⟨k1, ⟨_, _, gS'⟩, hst'.1, M.at', Nat.le_succ_of_le M.le, fun j' hj' => ?_⟩⟩
      by_cases e : j' = j + 1
      · rw [e]; exact ⟨by omega, fun z => absurd z (by have := M.le; omega)⟩
      · exact M.best j' (by omega)
theorem minlen_call {Q : Value → Shared → Prop} {d : Value} (kf : Nat → Nat) (hh : A.handled = none) (hl : s.heap.IsList l vs.toArray) (hne : 0 < vs.length)
    (tup : ∀ (i : Nat) (v : Value), vs[i]? = some v → ∃ (t : Addr) (items : Array Value), v = .ref t ∧ IsTup s.heap t items ∧ items.size = kf i ∧ (items.size : Int) < 2 ^ 63)
    (hQ : ∀ i v h' tk', vs[i]? = some v → (∀ j, j < vs.length → kf i ≤ kf j ∧ (j < i → kf i < kf j)) → (∀ b o, s.heap.get? b = some o → h'.get? b = some o) → Q v { s with heap := h', toks := tk' }) :
    wpAny (model prog w) A (call (.builtin "min") [.ref l] [(Str.ofString "key", .builtin "len"), (Str.ofString "default", d)]) Q E s := by
  have nm : (toString "min" ++ toString ".loop" : String) = "min.loop" := by decide
  obtain ⟨ol, hol, _⟩ := id hl
  have hll : l < s.heap.objs.size := Heap.lt_size hol
  refine kmb_tree PySem.F.kind_min PySem.F.plain_min PySem.F.entry_min (min_kd _ _ _) ?_
  show wpAny _ A.in1 (Builtin.Builtins.bindParams "min" ["key", "default"] 0 ⟨[], [(Str.ofString "key", .builtin "len"), (Str.ofString "default", d)]⟩ >>= _) _ _ s
  refine wpAny_bind (wpAny_of_eq (show Builtin.Builtins.bindParams "min" ["key", "default"] 0 ⟨[], [(Str.ofString "key", .builtin "len"), (Str.ofString "default", d)]⟩ = pure [some (.builtin "len"), some d] from rfl) ?_)
  refine wpAny_bind (wpAny_pure (wpAny_bind (wpAny_pyIter_list hl (wpAny_bind (wpAny_newList ?_ (Nat.zero_le _))))))
  rw [nm]
  generalize hH1 : s.heap.push { cls := .type "list_iterator", data := .fields #[.ref l, .int 0 0] } = H1
  have z1 : H1.objs.size = s.heap.objs.size + 1 := by rw [← hH1]; exact size_push' ..
  have g1 : H1.get? s.heap.objs.size = some { cls := .type "list_iterator", data := .fields #[.ref l, .int 0 0] } := by rw [← hH1]; exact Heap.get?_push_size _ rfl
  have k1 : ∀ b o, s.heap.get? b = some o → H1.get? b = some o := fun b o e => by rw [← hH1]; exact Heap.get?_push_of_some _ e
  have nI : s.heap.get? s.heap.objs.size = none := Heap.get?_none_of_le (Nat.le_refl _)
  have nS : s.heap.get? H1.objs.size = none := Heap.get?_none_of_le (by rw [z1]; exact Nat.le_succ _)
  have hlI : l ≠ s.heap.objs.size := Nat.ne_of_lt hll
  have hSI : H1.objs.size ≠ s.heap.objs.size := by omega
  refine wpAny_pure ⟨plainId_quiet PySem.F.plain_min_loop _, ?_⟩
  show codeAny (model prog w) A (.builtin "min.loop" ⟨[.ref s.heap.objs.size, .builtin "len", .ref H1.objs.size], [("default", d)]⟩) _ _
  generalize hH2 : H1.push (seqObj "list" #[] 0) = H2
  have g2 : H2.get? H1.objs.size = some (seqObj "list" #[] 0) := by rw [← hH2]; exact Heap.get?_push_size _ rfl
  have k2 : ∀ b o, H1.get? b = some o → H2.get? b = some o := fun b o e => by rw [← hH2]; exact Heap.get?_push_of_some _ e
  have k02 : ∀ b o, s.heap.get? b = some o → H2.get? b = some o := fun b o e => k2 b o (k1 b o e)
  have W := Walks.list (prog := prog) (w := w) (A := A.in1) hh s.heap.objs.size l hlI vs.toArray
  have sz : vs.toArray.size = vs.length := List.size_toArray ..
  refine codeAny_builtin PySem.F.entry_min_loop ?_ ; rw [Around.under_plainId PySem.F.plain_min_loop _]
  show wpAny _ A.in1 (seqItems? (.ref H1.objs.size) >>= _) _ _ { s with heap := H2, toks := _ } ; refine wpAny_bind (wpAny_seqItems g2 rfl ?_)
  show wpAny _ A.in1 (tryCatch (pyNext (.ref s.heap.objs.size)) _ >>= _) _ _ _
  refine wpAny_bind (wpAny_tryCatch (W.item 0 _ _ _ (by rw [sz]; exact hne) ⟨⟨_, k2 _ _ g1, rfl, rfl⟩, Heap.IsList.at hl fun o e => k02 _ o e⟩ fun v h' tk' hP hst' hk' => ?_))
  have hv : vs[0]? = some v := by simpa using hP
  have k3 : ∀ b o, s.heap.get? b = some o → h'.get? b = some o := fun b o e => hk' b o (fun z => by rw [List.mem_singleton.mp z, nI] at e; cases e) (k02 b o e)
  have gS' := hk' H1.objs.size _ (by simpa using hSI) g2
  obtain ⟨t, items, rfl, ht, hn, hf⟩ := tup 0 v hv
  have ht' : IsTup h' t items := by
    obtain ⟨o, e1, e2⟩ := ht
    exact ⟨o, k3 _ _ e1, e2⟩
  show wpAny _ A.in1 (tryCatch (holding [.ref t] (call (.builtin "len") [.ref t])) _ >>= _) _ _ _
  refine wpAny_bind (wpAny_tryCatch (wpAny_holding (len_tuple ht' hf ?_)))
  rw [hn]
  refine wpAny_bind (wpAny_updateSeq gS' rfl ?_)
  rw [nm]
  refine wpAny_pure ⟨plainId_quiet PySem.F.plain_min_loop _, minlen_loop kf hh hl hlI hSI nI nS tup hQ _ 0 0 _ _ (.ref t) rfl hne ⟨fun b o e => ?_, ⟨_, _, get?_update_seq gS' _⟩, ?_, hv, Nat.le_refl _, fun j' hj' => ?_⟩⟩
  · exact ((Heap.SameBut.update h' H1.objs.size _).2 b (fun z => by rw [z, nS] at e; cases e)).trans (k3 b o e)
  · obtain ⟨o, e1, e2⟩ := hst'.1
    exact ⟨o, ((Heap.SameBut.update h' H1.objs.size _).2 _ (Ne.symm hSI)).trans e1, e2⟩
  · have e : j' = 0 := by omega
    rw [e]; exact ⟨Nat.le_refl _, fun z => absurd z (Nat.lt_irrefl _)⟩
end
section
variable {X : Cx}
def tMinLen (K : PySem.W.Frag) (te td : TE) : TE := fun σ H Q => te σ H fun x H1 => td σ H1 fun _ H2 => ∃ (l : Addr) (xs : List V) (kf : Nat → Nat), x = .ref l ∧ SqL K H2 l xs ∧ 0 < xs.length ∧
  (∀ (i : Nat) (y : V), xs[i]? = some y → ∃ (t : Addr) (ys : List V), y = .ref t ∧ SqT K H2 t ys ∧ ys.length = kf i) ∧ ∀ (i : Nat) (y : V), xs[i]? = some y → (∀ j, j < xs.length → kf i ≤ kf j ∧ (j < i → kf i < kf j)) → Q y H2
/-- min(e, key=len, default=d), e a list of tuples that is not empty -/
theorem pe_minlen {e d : Expr} {te td : TE} {p pl kp dp pos : Pos} (K : PySem.W.Frag) (he : PE X e te) (hd : PE X d td) (hg : Gl X "min") (hm : X.mg "min" = none) (hgl : Gl X "len") (hml : X.mg "len" = none) (hc : X.calm = true := by rfl) (hK : X.K = K := by rfl)
    (hs : starEach [e] X.env = [(false, eval e X.env)] := by rfl) (hk : keywordEach [⟨some "key", .Name "len" pl, kp⟩, ⟨some "default", d, dp⟩] X.env = [(some ("key" : Str), eval (.Name "len" pl) X.env), (some ("default" : Str), eval d X.env)] := by rfl) :
    PE X (.Call (.Name "min" p) [e] [⟨some "key", .Name "len" pl, kp⟩, ⟨some "default", d, dp⟩] pos) (tMinLen K te td) := by
  subst hK
  intro pins s σ H Q I h
  refine wpAny_Call_Name_kw (ld_blt I hg hm PyProof.Rows.boot_min ?_)
  refine PyProof.Rows.callWith_kw ?_ (by rw [hs]; rfl) (by rw [hs]; rfl) (by rw [hk]; rfl) (by rw [hk]; rfl)
  refine thn (pa_cons he pa_nil (by rw [hs]; rfl) pos pins s σ H (fun vs H1 => match vs with
    | [x] => td σ H1 fun _ H2 => ∃ (l : Addr) (xs : List V) (kf : Nat → Nat), x = .ref l ∧ SqL X.K H2 l xs ∧ 0 < xs.length ∧ (∀ (i : Nat) (y : V), xs[i]? = some y → ∃ (t : Addr) (ys : List V), y = .ref t ∧ SqT X.K H2 t ys ∧ ys.length = kf i) ∧
        ∀ (i : Nat) (y : V), xs[i]? = some y → (∀ j, j < xs.length → kf i ≤ kf j ∧ (j < i → kf i < kf j)) → Q y H2
    | _ => False) I h) fun us s1 ⟨vs, H1, I1, r1, q1⟩ => ?_
  match vs, q1 with
  | [x], q1 =>
  obtain ⟨u, rfl, ru⟩ := vals1 r1
  rw [hk]
  show wpAny _ _ (evalAll [do let v ← eval (.Name "len" pl) X.env; standAt pos; pure v, do let v ← eval d X.env; standAt pos; pure v]) _ _ s1
  refine wpAny_evalAll_cons (wpAny_bind (ld_blt I1 hgl hml PySem.boot_len (wpAny_bind (wpAny_standAt (wpAny_pure ?_)))))
  refine wpAny_evalAll_cons (wpAny_bind (thn (hd pins s1 σ H1 _ I1 q1) fun du s2 ⟨dv, H2, I2, r2, q2⟩ => wpAny_bind (wpAny_standAt (wpAny_pure (wpAny_evalAll_nil ?_)))))
  obtain ⟨l, xs, kf, rfl, hS, hpos, ht, q⟩ := q2
  cases ru
  obtain ⟨its, rv, pl', hz⟩ := I2.list hS
  have hlen := rv.length
  refine minlen_call kf (I2.ok.hd hc) pl'.isList (by omega) (fun i v hv => ?_) (fun i v h' tk' hv hb hk' => ?_)
  · have hi : i < xs.length := by have := (List.getElem?_eq_some_iff.mp hv).1; omega
    obtain ⟨t, ys, e1, hT, hl⟩ := ht i xs[i] (List.getElem?_eq_getElem hi)
    obtain ⟨u', hu', ru'⟩ := rv.get (i := i) (x := xs[i]) (List.getElem?_eq_getElem hi)
    rw [hv] at hu'
    cases hu'
    rw [e1] at ru'
    cases ru'
    obtain ⟨its2, rv2, p2, hz2⟩ := I2.tuple hT
    have hlen2 := rv2.length
    have := line63
    exact ⟨t, its2.toArray, rfl, p2, by rw [List.size_toArray]; omega, by rw [List.size_toArray]; omega⟩
  · have hi : i < xs.length := by have := (List.getElem?_eq_some_iff.mp hv).1; omega
    obtain ⟨u', hu', ru'⟩ := rv.get (i := i) (x := xs[i]) (List.getElem?_eq_getElem hi)
    rw [hv] at hu'
    cases hu'
    exact ⟨xs[i], H2, I2.kept hk', ru', q i xs[i] (List.getElem?_eq_getElem hi) fun j hj => hb j (by omega)⟩
end
end L2

/-! ### own text: errors of own classes that leave a call, and their being taken -/
namespace L2
open PySem PySem.Spec PyProof.Rows
theorem ObjOk.obj {P : Program} {w : World} {H : Hp} {h : Heap} {a : Addr} : ∀ {o : HO}, ObjOk P w H h a o → ∃ ob, h.get? a = some ob
  | .lst _, ⟨_, _, _, _, e⟩ => ⟨_, e⟩
  | .tup _, ⟨_, _, _, _, e, _⟩ => ⟨_, e⟩
  | .dK _, ⟨_, _, _, _, _, _, _, e, _⟩ => ⟨_, e⟩
  | .dT _, ⟨_, _, _, _, _, _, _, e, _⟩ => ⟨_, e⟩
  | .set _ _, ⟨_, _, _, _, e, _⟩ => ⟨_, e⟩
  | .ins _ _ _, ⟨_, _, _, e, _⟩ => ⟨_, e⟩
  | .own _, ⟨_, e⟩ => ⟨_, e⟩
  | .xd _, ⟨_, ⟨_, _, _, e, _⟩, _⟩ => ⟨_, e⟩
  | .rng _ _, ⟨_, _, _, e⟩ => ⟨_, e⟩
  | .frz _ _, ⟨e, _⟩ => ⟨_, e⟩
  | .tbl _, e => ⟨_, e⟩
  | .met _ _, e => ⟨_, e⟩
  | .ext _, ⟨_, e, _⟩ => e
/-- what is left behind where an error of the class C leaves a call -/
def CXe (P : Program) (w : World) (C : Addr) : CXT := fun outer H s E e s' => ∃ (ea : Addr) (H' : Hp) (B : Heap) (a0 : Value), e = .ref ea ∧ s'.os = s.os ∧ AllBare s'.gens ∧ Un (frs outer) [] H H' s.heap s'.heap ∧ HOk P w H' s'.heap ∧
  Heap.FlyingW B outer ea (.ref C) a0 s'.heap ∧ (∀ b o, s'.heap.get? b = some o → b ∉ frs outer → ((∃ o0, s.heap.get? b = some o0) ∨ H' b ≠ none) → B.get? b = some o) ∧ H' ea = none ∧ s.heap.get? ea = none ∧ E e none H'
section
variable {X : Cx} {pins : List (Addr × Obj)} {σ : St} {H : Hp} {s : Shared}
/-- an error that was made here leaves the def -/
theorem raise_leaves {C ea : Addr} {h2 : Heap} {args : List Value} {E : XK} {EE : Value → Shared → Prop} (I : Inv X pins σ H s) (hst : X.stack = X.env :: X.outer) (hfm : X.env.frame = some X.env.locals) (hex : X.ex = []) (hx : Heap.MadeExcOf s.heap h2 ea (.ref C) args) (hE : E (.ref ea) none H) :
    wpAny (model X.prog X.w) X.A (leaving X.env (.ref ea)) (fun _ s' => CXe X.prog X.w C X.outer X.H₀ X.s₀ E (.ref ea) s') EE { s with heap := h2 } := by
  have hin : ∀ env ∈ X.stack, ∀ b, env.frame = some b → b ∈ frs X.stack := fun env he b hb => List.mem_filterMap.mpr ⟨env, he, hb⟩
  have hfun := PySem.W.funFrames_hide I.stack hin
  rw [hst] at hfun
  refine wpAny_leaves_madeW (base := PySem.W.hideAll s.heap (frs X.stack)) (h := s.heap) (by rw [I.ok.frames, hst]) hfm (fun b o q => PySem.W.of_hideAll _ q) (by rw [hst]; exact hfun) hx fun h' t x1 _ _ x4 => ?_
  have outS : ∀ b ∈ frs X.outer, b ∈ frs X.stack := fun b hb => by
    rw [hst]
    obtain ⟨env, he, hf⟩ := List.mem_filterMap.mp hb
    exact List.mem_filterMap.mpr ⟨env, List.mem_cons_of_mem _ he, hf⟩
  have keepB : ∀ b o, s.heap.get? b = some o → b ∉ frs X.stack → h'.get? b = some o := fun b o e hb => x1.1 b o (PySem.W.hideAll_get _ e hb)
  have fram : ∀ b o, s.heap.get? b = some o → b ∈ frs X.stack → ∃ sl, h'.get? b = some { o with slots := sl } := fun b o e hb => by
    obtain ⟨_, o', e', hd⟩ := I.stack.mem hb
    rw [e] at e'
    cases e'
    exact x4 b o (hx.keeps b o e) hd
  have notS : ∀ b o, X.s₀.heap.get? b = some o → b ∉ frs X.outer → b ∉ frs X.stack := fun b o e hb hm => by
    rcases List.mem_cons.mp (I.stkSub b hm) with z | z
    · exact absurd (Nat.lt_of_lt_of_le (Heap.lt_size e) I.ok.above) (by rw [z]; exact Nat.lt_irrefl _)
    · exact hb z
  have trk : ∀ b, H b ≠ none → b ∉ frs X.stack := fun b hn hm => hn (I.stkFree b hm)
  have hb0 := I.base
  rw [hex] at hb0
  refine ⟨ea, H, PySem.W.hideAll s.heap (frs X.stack), .ref t, rfl, I.os, I.bare, ⟨fun b o e n hb hx' => ?_, fun b o e n hb hx' => ?_, hb0.free, fun b o e hx' => ?_, hb0.tups, hb0.frzs, hb0.tbls⟩, fun a o e => ?_, x1, fun b o e hb hc => ?_, ?_, ?_, hE⟩
  · exact keepB b o (hb0.keep b o e n hb hx') (notS b o e hb)
  · obtain ⟨sl, e1⟩ := hb0.slot b o e n hb hx'
    obtain ⟨sl2, e2⟩ := fram b _ e1 (outS b hb)
    exact ⟨sl2, e2⟩
  · obtain ⟨o', e1⟩ := hb0.there b o e hx'
    by_cases hm : b ∈ frs X.stack
    · obtain ⟨sl, e2⟩ := fram b o' e1 hm
      exact ⟨_, e2⟩
    · exact ⟨o', keepB b o' e1 hm⟩
  · refine (I.hok a o e).stay (fun b u hb q => keepB b u q (trk b ?_)) (fun _ q => q) fun _ _ q => q
    rcases hb with rfl | hb
    · rw [e]; exact fun z => nomatch z
    · rw [hb]; exact fun z => nomatch z
  · have main : ∀ o', s.heap.get? b = some o' → b ∉ frs X.stack → (PySem.W.hideAll s.heap (frs X.stack)).get? b = some o := fun o' e1 hm => by
      have := keepB b o' e1 hm
      rw [e] at this
      cases this
      exact PySem.W.hideAll_get _ e1 hm
    rcases hc with ⟨o0, e0⟩ | hn
    · obtain ⟨o', e1⟩ := hb0.there b o0 e0 (fun z => nomatch z)
      exact main o' e1 (notS b o0 e0 hb)
    · cases q : H b with
      | none => exact absurd q hn
      | some u =>
        obtain ⟨o', e1⟩ := ObjOk.obj (I.hok b u q)
        exact main o' e1 (trk b hn)
  · cases q : H ea with
    | none => rfl
    | some u =>
      obtain ⟨o', e1⟩ := ObjOk.obj (I.hok ea u q)
      rw [hx.new] at e1
      cases e1
  · cases q : X.s₀.heap.get? ea with
    | none => rfl
    | some o0 =>
      obtain ⟨o', e1⟩ := hb0.there ea o0 q (fun z => nomatch z)
      rw [hx.new] at e1
      cases e1
/-- the state where an error has landed: frames and the error's own objects apart all is as it was -/
theorem Inv.flown {H0 : Hp} {s0 : Shared} {B : Heap} {h' : Heap} {tk : Nat} (I0 : Inv X pins σ H0 s0) (I : Inv X pins σ H s) (cov : ∀ b o, s.heap.get? b = some o → b ∉ frs X.stack → ((∃ o0, s0.heap.get? b = some o0) ∨ H b ≠ none) → B.get? b = some o)
    (st : B.StaysIn h') (up : s.heap.UpToSlots h') (hfr : X.env.locals ∈ frs X.stack) : Inv X pins σ H { s with heap := h', toks := tk } := by
  have keepB : ∀ b o, s.heap.get? b = some o → b ∉ frs X.stack → ((∃ o0, s0.heap.get? b = some o0) ∨ H b ≠ none) → h'.get? b = some o := fun b o e hb hc => st b o (cov b o e hb hc)
  have fram : ∀ b o, s.heap.get? b = some o → b ∈ frs X.stack → ∃ sl, h'.get? b = some { o with slots := sl } := fun b o e hb => by
    obtain ⟨_, o', e', hd⟩ := I.stack.mem hb
    rw [e] at e'
    cases e'
    exact up b o e hd
  have notS : ∀ b o, X.s₀.heap.get? b = some o → b ∉ X.fs → b ∉ frs X.stack := fun b o e hb hm => by
    rcases List.mem_cons.mp (I.stkSub b hm) with z | z
    · exact absurd (Nat.lt_of_lt_of_le (Heap.lt_size e) I.ok.above) (by rw [z]; exact Nat.lt_irrefl _)
    · exact hb z
  have trk : ∀ b, H b ≠ none → b ∉ frs X.stack := fun b hn hm => hn (I.stkFree b hm)
  have cells : ∀ {y : Str} {c : Addr} {v : Option Value}, X.env.cells.lookup y = some c → s.heap.IsCell c v → h'.IsCell c v := fun {y c v} e ⟨o, ho, hd⟩ => by
    obtain ⟨v0, o0, h0, _⟩ := I0.cell y c e
    by_cases hm : c ∈ frs X.stack
    · obtain ⟨sl, e2⟩ := fram c o ho hm
      exact ⟨_, e2, hd⟩
    · exact ⟨o, keepB c o ho hm (.inl ⟨o0, h0⟩), hd⟩
  obtain ⟨m, hn, hl⟩ := I.loc
  refine ⟨I.ok, I.os, I.bare, ⟨fun b o e n hb hx' => ?_, fun b o e n hb hx' => ?_, I.base.free, fun b o e hx' => ?_, I.base.tups, I.base.frzs, I.base.tbls⟩, ⟨m, up.ns hn, fun i x v e1 e2 e3 => ?_⟩, fun y c e => ?_, I.free, I.freeC, fun p hp => ?_, fun a o e => ?_, I.len⟩
  · obtain ⟨o0, e0⟩ := I0.base.there b o e hx'
    exact keepB b o (I.base.keep b o e n hb hx') (notS b o e hb) (.inl ⟨o0, e0⟩)
  · obtain ⟨sl, e1⟩ := I.base.slot b o e n hb hx'
    by_cases hm : b ∈ frs X.stack
    · obtain ⟨sl2, e2⟩ := fram b _ e1 hm
      exact ⟨sl2, e2⟩
    · obtain ⟨o0, e0⟩ := I0.base.there b o e hx'
      exact ⟨sl, keepB b _ e1 hm (.inl ⟨o0, e0⟩)⟩
  · obtain ⟨o', e1⟩ := I.base.there b o e hx'
    by_cases hm : b ∈ frs X.stack
    · obtain ⟨sl, e2⟩ := fram b o' e1 hm
      exact ⟨_, e2⟩
    · obtain ⟨o0, e0⟩ := I0.base.there b o e hx'
      exact ⟨o', keepB b o' e1 hm (.inl ⟨o0, e0⟩)⟩
  · obtain ⟨u, r, q⟩ := hl i x v e1 e2 e3
    refine ⟨u, r, ?_⟩
    rcases q with q | ⟨k, c, e, z⟩
    · exact .inl q
    · exact .inr ⟨k, c, e, cells e z⟩
  · obtain ⟨v, z⟩ := I.cell y c e
    exact ⟨v, cells e z⟩
  · obtain ⟨e, n, ne, nf, d⟩ := I.pin p hp
    have hm : p.1 ∉ frs X.stack := fun hm => (List.mem_cons.mp (I.stkSub p.1 hm)).elim ne nf
    exact ⟨keepB p.1 p.2 e hm (.inl ⟨_, (I0.pin p hp).1⟩), n, ne, nf, d⟩
  · refine (I.hok a o e).stay (fun b u hb q => ?_) (fun _ q => q) fun _ _ q => q
    have hbn : H b ≠ none := by
      rcases hb with rfl | hb
      · rw [e]; exact fun z => nomatch z
      · rw [hb]; exact fun z => nomatch z
    exact keepB b u q (trk b hbn) (.inr hbn)
end
/-! the class of an error -/
abbrev veMro : List Value := [.type "ValueError", .type "Exception", .type "BaseException", .type "object"]
/-- the class at C stands under ValueError, and under the class at W -/
structure ExcK (K : PySem.W.Frag) (C W : Addr) : Prop where
  exc : PySem.W.excIn K C veMro "ValueError.__new__" = true
  sup : ∃ oc od cd sl, K.lookup C = some ⟨oc, od, .cls cd, sl⟩ ∧ cd.mro.contains (.ref W) = true
  top : PySem.W.ktsIn K W "BaseException" = true
section
variable {X : Cx} {pins : List (Addr × Obj)} {σ : St} {H : Hp} {s : Shared}
theorem exc_obj {K : PySem.W.Frag} {h : Heap} {C : Addr} {bmB : List Value} {newId : String} (X : K.In h) (q : PySem.W.excIn K C bmB newId = true) : ∃ bm N nm qn bs hdct sn sub ab col dd k0 k1 k2 k3 k5 mN,
    h.get? C = some (excClassObj nm qn C N bs bm hdct sn sub ab col dd k0 k1 k2 k3 k5 newId) ∧ h.Ns N mN ∧ mN "__init__" = none ∧ OwnTail h bmB bm ∧ ∀ oc od cd sl, K.lookup C = some ⟨oc, od, .cls cd, sl⟩ → cd.mro = .ref C :: bm := by
  unfold PySem.W.excIn at q
  split at q
  · rename_i dd cd sl ho
    split at q
    · rename_i C' bm k0 k1 k2 k3 n k5 hm hs
      simp only [Bool.and_eq_true, beq_iff_eq, Bool.not_eq_true'] at q
      obtain ⟨⟨⟨⟨⟨rfl, rfl⟩, hdel⟩, ht⟩, hok⟩, hni⟩ := q
      have hm0 := hm
      obtain ⟨nm, bs, mro, ns, qn, hd, sn, sub, ab, col, del⟩ := cd
      dsimp only at hm hdel hok hni
      subst hm hdel
      have e6 : sl = #[k0, k1, k2, k3, some (.builtin n), k5] := by
        obtain ⟨l⟩ := sl
        simp only at hs
        rw [hs]
      subst e6
      refine ⟨bm, ns, nm, qn, bs, hd, sn, sub, ab, col, dd, k0, k1, k2, k3, k5, _, X _ _ ho, .of_isNs (PySem.W.isNs_of_in X hok), PySem.W.nsMap_none_of_in X hok hni, PySem.W.tail_of_in X ht, fun oc od cd2 sl2 e => ?_⟩
      rw [ho] at e
      cases e
      rfl
    · cases q
  · cases q
/-- raise C(..), C an own class under ValueError -/
def tRaise (E : XK) (ta : TA) : TS := fun _ σ H => ta σ H fun vs H1 => vs.length ≤ sizeLine ∧ ∀ e, E e none H1
theorem ps_raise {C W : Addr} {x : Str} {np cpos pos : Pos} {e₀ : Expr} {rest : List Expr} {ta : TA} {E : XK} (KC : ExcK X.K C W) (hg : Gl X x) (hm : X.mg x = some (.ref C)) (hst : X.stack = X.env :: X.outer) (hfm : X.env.frame = some X.env.locals) (hex : X.ex = [])
    (hxe : ∀ e s', wpAny (model X.prog X.w) X.A (leaving X.env e) (fun _ s'' => CXe X.prog X.w C X.outer X.H₀ X.s₀ E e s'') (fun e' s'' => CXe X.prog X.w C X.outer X.H₀ X.s₀ E e' s'') s' → X.xe e s') (ha : PA X (e₀ :: rest) ta) (hc : X.calm = true := by rfl)
    (he : starEach (e₀ :: rest) X.env = (false, eval e₀ X.env) :: starEach rest X.env := by rfl) (hpl : (backTo cpos (starEach rest X.env)).any (·.1) = false := by rfl) (hd : (x == ("__debug__" : Str)) = false := by decide) :
    PS X (.Raise (some (.Call (.Name x np) (e₀ :: rest) [] cpos)) none pos) (tRaise E ta) := by
  intro pins s σ H D I h
  obtain ⟨bm, N, nm, qn, bs, hdct, sn, sub, ab, col, dd, k0, k1, k2, k3, k5, mN, hC, hN, hni, T, _⟩ := exc_obj I.ok.mod.kin KC.exc
  refine wpAny_Raise_call_subU (C := C) (nm := nm) (q := qn) (N := N) (bs := bs) (bm := bm) (hdct := hdct) (sn := sn) (sub := sub) (ab := ab) (col := col) (dd := dd) (k0 := k0) (k1 := k1) (k2 := k2) (k3 := k3) (k5 := k5)
    PySem.F.excBase_ValueError (by decide) PySem.F.excBase_ValueError (mN := mN) (T.hasType PySem.F.excBase_ValueError.hasBase) (I.ok.hd hc) (by rw [he]; show (false || (backTo cpos (starEach rest X.env)).any (·.1)) = false; rw [hpl]; rfl) hni (ld_glob I hg hm ⟨rfl, ?_⟩ hd)
  have hA := ha cpos pins s σ H _ I h
  rw [he] at hA ⊢
  refine Calls.evalArgs_plain (thn hA fun us s2 ⟨vs, H2, I2, r2, hl, q2⟩ => ⟨rfl, by rw [← r2.length]; exact hl, ?_⟩)
  refine ⟨I2.bk _ _ hC, hN.keeps I2.bk, T.keeps I2.bk, fun h' e hm' => hxe _ _ ?_⟩
  exact raise_leaves I2 hst hfm hex hm' (q2 _)
/-- an error of the class C, where the class asked for is one above it -/
theorem excMatches_sup {M : Model} {A : Around} {E : Value → Shared → Prop} {h : Heap} {g : Array GenState} {d : Drawn} {t : Nat} {os : OsState} {e C CW N NW : Addr} {oe : Obj} {Q : Bool → Shared → Prop} {nm q nmW qW : Str} {bs bm bsW bmW : List Value} {hdct hdctW : Bool} {sn snW : List Str} {sub subW : List Value} {ab abW : Bool} {col colW : Option Bool}
    {dd ddW : Option Addr} {k0 k1 k2 k3 k5 w0 w1 w2 w3 w5 : Option Value} {newId newIdW : String} (hC : h.get? C = some (excClassObj nm q C N bs bm hdct sn sub ab col dd k0 k1 k2 k3 k5 newId)) (hW : h.get? CW = some (excClassObj nmW qW CW NW bsW bmW hdctW snW subW abW colW ddW w0 w1 w2 w3 w5 newIdW))
    (he : h.get? e = some oe) (hcls : oe.cls = .ref C) (hbase : bmW.contains (.type "BaseException") = true) (hsup : (Value.ref C :: bm).contains (.ref CW) = true) (hq : Q true ⟨h, g, d, t, os⟩) : wpAny M A (excMatches (.ref e) (.ref CW)) Q E ⟨h, g, d, t, os⟩ := by
  have hcB : (Value.ref CW :: bmW).contains (.type "BaseException") = true := by rw [List.contains_cons, hbase, Bool.or_true]
  have f := tc_notTuple
  unfold excMatches
  repeat (first | (with_reducible refine wpAny_loadPart_at he ?_; rw [hcls]) | with_reducible refine wpAny_loadPart_at hW ?_ | (with_reducible refine wpAny_isSubtype_exc hW ?_; rw [hcB]) | (with_reducible refine wpAny_isSubtype_exc hC ?_; rw [hsup]) | wp_step)
  exact hq
/-- a block from which an error of the class C may come -/
def PSX (X : Cx) (C : Addr) (sts : List Stmt) (t : XK → TS) : Prop := ∀ (pins : List (Addr × Obj)) (s : Shared) (σ : St) (H : Hp) (D : Ends) (E : XK), Inv X pins σ H s → t E D σ H →
  wpAny (model X.prog X.w) X.A (execs sts X.env) (SP X pins D) (fun e s' => ∃ H1 s1, Inv X pins σ H1 s1 ∧ CXe X.prog X.w C X.stack H1 s1 E e s') s
theorem Inv.rewish {E E' : Value → Shared → Prop} (I : Inv (X.wish E) pins σ H s) : Inv (X.wish E') pins σ H s := I.unwish.wish E'
/-- f(..) by itself, f a def that may raise -/
theorem psx_call {C : Addr} {CX : CXT} {k : Nat} {f : Addr} {fd : FuncData} {ps : List Str} {sp : Sp} {x : Str} {e : Expr} {es : List Expr} {t : TA} {p pos pos' : Pos} (hCX : CX = CXe X.prog X.w C) (F : FnOk X.prog X.w X.K X.mg X.base CX k f fd ps sp) (hr : Room k X.A) (hg : Gl X x) (hm : X.mg x = some (.ref f)) (hk : PySem.W.keepIn X.K (.ref f) = true) (hb : Binds X.K fd ps [])
    (ha : ∀ XE, PA (X.wish XE) (e :: es) t) (hdb : (x == ("__debug__" : Str)) = false := by decide) (he : starEach (e :: es) X.env = (false, eval e X.env) :: starEach es X.env := by rfl) (hpl : (backTo pos (starEach es X.env)).any (·.1) = false := by rfl)
    (hs : swapsWith (.Call (.Name x p) (e :: es) [] pos) none pos'.line X.env = pure false := by rfl) :
    PSX X C [.Expr (.Call (.Name x p) (e :: es) [] pos) pos'] (fun E => tDrop (tCall sp [] E t)) := by
  intro pins s σ H D E I h
  have key : wpAny (model X.prog X.w) X.A (eval (.Call (.Name x p) (e :: es) [] pos) X.env) (EP X pins σ fun _ H1 => D.nx σ H1) (fun e s' => ∃ H1 s1, Inv X pins σ H1 s1 ∧ CXe X.prog X.w C X.stack H1 s1 E e s') s := by
    refine wpAny_Call_Name_kw (ld_glob I hg hm ?_ hdb)
    have hA := ha (fun e s' => ∃ H1 s1, Inv X pins σ H1 s1 ∧ CXe X.prog X.w C X.stack H1 s1 E e s') pos pins s σ H _ (I.wish _) h
    refine PySem.W.callWith_K (h₀ := X.base) I.ok.mod.kin hk (thn hA fun us s1 ⟨vs, H1, I1, r, q⟩ => ⟨I1.kIn, ?_⟩) he hpl
    have I1' := I1.unwish
    have r2 : Vals (vs ++ []) (us ++ []) := r.append .nil
    have hl : (us ++ []).length = ps.length := by rw [← r2.length]; exact F.len _ _ _ _ q
    refine wpAny_call (codeAny_mono (F.run X.A X.stack s1 H1 ⟨us, []⟩ (us ++ []) (vs ++ []) _ E hr I1'.env0 (hb s1 us I1'.kIn hl) r2 q) fun r s' hq => ?_)
    cases r with
    | error e => subst hCX; exact ⟨H1, s1, I1', hq⟩
    | ok fl =>
      cases fl with
      | ret u => exact I1'.after hq
      | next => exact False.elim hq
      | brk => exact False.elim hq
      | cont => exact False.elim hq
  refine wpAny_execs_cons (wpAny_Expr_any (thn key fun v s1 ⟨x1, H1, I1, r1, q1⟩ => ?_) I.quiet hs)
  exact wpAny_execs_nil (show SP X pins D .next s1 from ⟨σ, H1, I1, q1⟩)
/-- the object of an error of the class C -/
def excIs (a C : Addr) (h : Heap) : Prop := ∃ o, h.get? a = some o ∧ o.cls = .ref C
theorem Inv.adopt {a : Addr} {o : HO} (I : Inv X pins σ H s) (hn : H a = none) (h0 : X.s₀.heap.get? a = none) (hL : a ≠ X.env.locals) (hc : ∀ y c, X.env.cells.lookup y = some c → c ≠ a) (hp : ∀ p ∈ X.pn ++ pins, p.1 ≠ a) (ok : ObjOk X.prog X.w (upd H a o) s.heap a o) : Inv X pins σ (upd H a o) s :=
  ⟨I.ok, I.os, I.bare, Un.adopt I.base h0 hn, I.loc, I.cell, by rw [upd_ne (Ne.symm hL)]; exact I.free, fun y c e => by rw [upd_ne (hc y c e)]; exact I.freeC y c e, fun p hp' => by
    obtain ⟨e, n, ne, nf, d⟩ := I.pin p hp'
    exact ⟨e, by rw [upd_ne (hp p hp')]; exact n, ne, nf, d⟩, HOk.adopt I.hok hn ok, I.len⟩
/-- within the suite of an except -/
abbrev Cx.caught (X : Cx) (ea : Addr) : Cx := { X with A := X.A.mark (some (.ref ea)), calm := false, xe := fun _ _ => False }
theorem Inv.caught {ea : Addr} (I : Inv X pins σ H s) : Inv (X.caught ea) pins σ H s :=
  ⟨⟨I.ok.mod, I.ok.kind, I.ok.glob, I.ok.blt, I.ok.above, I.ok.inj, I.ok.has, I.ok.cab, (fun z => nomatch z), I.ok.frames, I.ok.stk, I.ok.exf, I.ok.bs, I.ok.bsz, I.ok.noex, I.ok.exfs, I.ok.funs, I.ok.frf⟩, I.os, I.bare, I.base, I.loc, I.cell, I.free, I.freeC, I.pin, I.hok, I.len⟩
theorem Inv.uncaught {ea : Addr} (ok : X.Ok) (I : Inv (X.caught ea) pins σ H s) : Inv X pins σ H s := ⟨ok, I.os, I.bare, I.base, I.loc, I.cell, I.free, I.freeC, I.pin, I.hok, I.len⟩
/-- a local name goes -/
theorem name_goes {M : Model} {A : Around} {E : Value → Shared → Prop} {i : Nat} {n : Str} {pos : Pos} {Q : Unit → Shared → Prop} (I : Inv X pins σ H s) (hN : X.N.Nodup) (hi : X.N[i]? = some n) (hk : X.env.scope.names.lookup n = some .local) (h : ∀ s', Inv X pins (σ.set i none) H s' → Q () s') :
    wpAny M A (do bindName X.env n .none; unbindBehindTheSuite X.env n pos) Q E s := by
  have hcls : (X.env.scope.kind == .class || (X.env.scope.kind == .module && X.env.locals != X.env.globals)) = false := by rw [I.ok.kind]; rfl
  refine wpAny_bind (wpAny_bindName (store_ok (v := .non) I hN hi (.inl hk) rfl (fun s1 I1 => ?_) (.inr hk)))
  have hiσ : i < (σ.set i (some V.non)).length := by rw [I1.len]; exact (List.getElem?_eq_some_iff.mp hi).1
  obtain ⟨m, hn, hl⟩ := id I1.loc
  obtain ⟨u0, r0, q0⟩ := hl i n .non hi (by rw [List.getElem?_set_self (by simpa using hiσ)]) (.inl hk)
  have hv : m n = some u0 := by
    rcases q0 with ⟨_, e⟩ | ⟨k, _⟩
    · exact e
    · have hk' : X.env.kindOf n = some .local := hk
      rcases k with k | k <;> (rw [hk'] at k; cases k)
  unfold unbindBehindTheSuite
  refine wpAny_onRaise (wpAny_unbindName_local (v := u0) hk hn hv hcls fun h' u hn' hs => ?_)
  obtain ⟨oL, _, _, hoL, _⟩ := id hn
  have cne := I1.cne
  have nL : ∀ b o, X.s₀.heap.get? b = some o → b ≠ X.env.locals := fun b o e => Nat.ne_of_lt (Nat.lt_of_lt_of_le (Heap.lt_size e) I1.ok.above)
  refine h { s1 with heap := h' } ?_
  rw [show σ.set i none = (σ.set i (some V.non)).set i none by rw [List.set_set]]
  refine ⟨I1.ok, I1.os, I1.bare, ⟨fun b o e n' hb hx => (hs.2 b (nL b o e)).trans (I1.base.keep b o e n' hb hx), fun b o e n' hb hx => ?_, I1.base.free, fun b o e hx => ?_, I1.base.tups, I1.base.frzs, I1.base.tbls⟩, ⟨_, hn', fun j y v' e1 e2 e3 => ?_⟩, fun y c e => ?_, I1.free, I1.freeC, fun p hp => ?_, fun b ob e => ?_, by rw [List.length_set]; exact I1.len⟩
  · obtain ⟨sl, e1⟩ := I1.base.slot b o e n' hb hx
    exact ⟨sl, (hs.2 b (nL b o e)).trans e1⟩
  · obtain ⟨o', e1⟩ := I1.base.there b o e hx
    exact ⟨o', (hs.2 b (nL b o e)).trans e1⟩
  · by_cases hj : j = i
    · subst hj
      rw [List.getElem?_set_self hiσ] at e2
      cases e2
    · rw [List.getElem?_set_ne (Ne.symm hj)] at e2
      obtain ⟨u', r', q⟩ := hl j y v' e1 e2 e3
      refine ⟨u', r', ?_⟩
      rcases q with ⟨k, e⟩ | ⟨k, c, e, z⟩
      · refine .inl ⟨k, ?_⟩
        have : y ≠ n := fun e => hj (nodup_ix hN e1 (e ▸ hi))
        simp [this, e]
      · exact .inr ⟨k, c, e, z.sameBut hs (cne y c e)⟩
  · obtain ⟨w', z⟩ := I1.cell y c e
    exact ⟨w', z.sameBut hs (cne y c e)⟩
  · obtain ⟨e, n', ne, nf, d⟩ := I1.pin p hp
    exact ⟨(hs.2 p.1 ne).trans e, n', ne, nf, d⟩
  · refine (I1.hok b ob e).stay (fun c w' hc q => (hs.2 c ?_).trans q) (fun _ q => q) fun _ _ q => q
    rintro rfl
    rcases hc with rfl | hc
    · rw [I1.free] at e; cases e
    · rw [I1.free] at hc; cases hc
/-- try: body, except W as n: suite; the suite ends at its foot -/
def tTry (C : Addr) (i : Nat) (tb : XK → TS) (ts : TS) : TS := fun D σ H => tb (fun _ _ H' => ∀ ea, H' ea = none → ts { nx := fun σ' H2 => D.nx (σ'.set i none) H2, rt := fun _ _ => False, bk := fun _ _ => False, ct := fun _ _ => False } (σ.set i (some (.ref ea))) (upd H' ea (.ext (excIs ea C)))) D σ H
theorem ps_try {C W : Addr} {body suite : List Stmt} {b₀ : Stmt} {x n : Str} {np hpos pos : Pos} {i : Nat} {tb : XK → TS} {ts : TS} (KC : ExcK X.K C W) (hb : PSX X C body tb) (hg : Gl X x) (hm : X.mg x = some (.ref W)) (hN : X.N.Nodup) (hi : X.N[i]? = some n) (hk : X.env.scope.names.lookup n = some .local)
    (hs : ∀ ea, PSs (X.caught ea) (b₀ :: suite) ts) (hex : X.ex = [] := by rfl) (hst : X.stack = X.env :: X.outer := by rfl) (hfm : X.env.frame = some X.env.locals := by rfl) (hd : (x == ("__debug__" : Str)) = false := by decide) :
    PS X (.Try body [.ExceptHandler (some (.Name x np)) (some n) (b₀ :: suite) hpos] [] [] pos) (tTry C i tb ts) := by
  intro pins s σ H D I h
  refine wpAny_Try_except (wpAny_mono (hb pins s σ H D _ I h) (fun f s1 q => ?_) fun e s1 ⟨H0, s0, I0, hc⟩ => ?_)
  · cases f with
    | next => exact wpAny_execs_nil q
    | ret v => exact q
    | brk => exact q
    | cont => exact q
  obtain ⟨ea, H', B, a0, rfl, hos, hbare, hun, hok, hfl, cov, hea, hea0, hE⟩ := hc
  have I1 : Inv X pins σ H' s1 := I0.call' hos hun hok hbare (fun b hb => nomatch hb)
  have hLs : X.env.locals ∈ frs X.stack := by rw [hst]; exact List.mem_filterMap.mpr ⟨_, List.mem_cons_self, hfm⟩
  have step : ∀ (h' : Heap) (tk : Nat), B.StaysIn h' → s1.heap.UpToSlots h' → Inv X pins σ H' { s1 with heap := h', toks := tk } := fun h' tk st up => Inv.flown I0 I1 cov st up hLs
  rw [hst] at hfl
  refine wpAny_looks_onW (by rw [I.ok.frames, hst]) hfm hfl fun h4 held4 up4 => ?_
  refine wpAny_landsW held4 fun h5 fl5 up5 => ?_
  have up45 := up4.trans up5
  have I5 : Inv (X.caught ea) pins σ H' { s1 with heap := h5 } := (step h5 s1.toks fl5.1 up45).caught
  obtain ⟨bm, N, nm, qn, bs, hdct, sn, sub, ab, col, dd, k0, k1, k2, k3, k5, mN, hC, _, _, _, hmro⟩ := exc_obj I.ok.mod.kin KC.exc
  obtain ⟨nmW, qW, NW, bsW, bmW, hdW, snW, subW, abW, colW, ddW, w0, w1, w2, w3, w5, nidW, hW, hbW, _⟩ := PySem.W.kts_cls I.ok.mod.kin KC.top
  obtain ⟨oe, he, hcls⟩ := fl5.there
  have hsup : (Value.ref C :: bm).contains (.ref W) = true := by
    obtain ⟨oc, od, cd, sl, e1, e2⟩ := KC.sup
    rw [← hmro oc od cd sl e1]; exact e2
  refine wpAny_handleBy_cons (codeAny_handlers_test (ld_glob (X := X.caught ea) I5 hg hm ?_ hd)) (by intro q; cases q)
  refine excMatches_sup (I5.bk _ _ hC) (I5.bk _ _ hW) he hcls hbW hsup (codeAny_handlers_suite_as ?_)
  refine lands_againW fl5 fun h6 fl6 up6 => ?_
  have I6 : Inv X pins σ H' { s1 with heap := h6 } := step h6 s1.toks fl6.1 (up45.trans up6)
  obtain ⟨oe6, he6, hcls6⟩ := fl6.there
  have eaS : ∀ b o, s0.heap.get? b = some o → b ≠ ea := fun b o e z => by rw [z, hea0] at e; cases e
  have I6a : Inv X pins σ (upd H' ea (.ext (excIs ea C))) { s1 with heap := h6 } := by
    refine I6.adopt hea ?_ (fun z => ?_) (fun y c e z => ?_) (fun p hp z => ?_) ?_
    · cases q : X.s₀.heap.get? ea with
      | none => rfl
      | some o =>
        obtain ⟨o', e'⟩ := I0.base.there ea o q (by rw [hex]; exact fun z => nomatch z)
        rw [hea0] at e'; cases e'
    · obtain ⟨m, ⟨o, _, _, e, _⟩, _⟩ := I0.loc
      exact eaS _ _ e z.symm
    · obtain ⟨v, o, e', _⟩ := I0.cell y c e
      exact eaS _ _ e' z
    · exact eaS _ _ (I0.pin p hp).1 z
    · exact ⟨⟨oe6, he6, hcls6⟩, ⟨oe6, he6⟩, fun h1 h2 ⟨o, e, c⟩ k => ⟨o, k o e, c⟩⟩
  refine store_ok (X := X.caught ea) (v := .ref ea) I6a.caught hN hi (.inl hk) rfl (fun s7 I7 => ?_) (.inr hk)
  refine wpAny_mono (hs ea pins s7 _ _ _ I7 (hE ea hea)) (fun f s8 q => ?_) fun _ _ z => z.elim
  cases f with
  | next =>
    obtain ⟨σ8, H8, I8, q8⟩ := q
    exact name_goes (I8.uncaught I.ok) hN hi hk fun s9 I9 => ⟨_, H8, I9, q8⟩
  | ret v => obtain ⟨_, _, _, _, _, z⟩ := q; exact z.elim
  | brk => obtain ⟨_, _, _, z⟩ := q; exact z.elim
  | cont => obtain ⟨_, _, _, z⟩ := q; exact z.elim
/-- isinstance(e, c), e an error of the class C that stands under c -/
theorem call_isiE (K : PySem.W.Frag) (hK : X.K = K := by rfl) : CallR X (.builtin "isinstance") (fun vs H Q => ∃ (a C : Addr) (x : V) (c : Value), vs = [.ref a, x] ∧ H a = some (.ext (excIs a C)) ∧ (∀ u, RelV x u → u = c) ∧ PySem.W.kitOne K (.ref C) c = some true ∧ Q (.bl true) H) := by
  subst hK
  intro pins s σ H vs us Q I r h
  obtain ⟨a, C, x, c, rfl, ha, hc, e, q⟩ := h
  obtain ⟨u, w', rfl, ru, rw'⟩ := vals2 r
  cases ru
  cases hc w' rw'
  obtain ⟨⟨o, ho, hcls⟩, _⟩ := (show ObjOk X.prog X.w H s.heap a (.ext (excIs a C)) from I.hok a _ ha)
  have KI := I.kIn
  refine PySem.call_isinstance (S := fun _ R s' => s' = s ∧ R (.ok (.ret (.bool true))) s) (fun prog w A R s' hs => isinstance_outer ?_ (by intro z; cases z)) ⟨rfl, ⟨.bl true, H, I, rfl, q⟩⟩
  obtain ⟨hse, hq⟩ := hs
  subst hse
  have LT : PySem.W.Looks (model prog w) s'.heap (typeOf (.ref a)) (.ref C) := hcls ▸ (PySem.W.Looks.ld ho).andThen .now
  obtain ⟨h0, g, d, tt, os⟩ := s'
  unfold PySem.W.kitOne at e
  unfold Builtin.«isinstance.nested»
  refine wpAny_bind (LT.at ?_)
  by_cases z : (Value.ref C == c) = true
  · rw [if_pos z]
    first
      | exact wpAny_bind (wpAny_rule hq)
      | exact wpAny_bind (wpAny_rule (wpAny_pure hq))
      | exact wpAny_bind (wpAny_pure (wpAny_rule hq))
  · rw [if_neg z] at e
    rw [if_neg z]
    obtain ⟨hty, his, hsub⟩ := PySem.W.kit_cls (M := model prog w) KI e
    have LI : PySem.W.Looks (model prog w) h0 (isInstance (.ref a) c) true := LT.andThen hsub
    refine wpAny_bind (hty.at ?_) ; rw [if_pos (by decide)]
    k_delta "plainIsInstance"
    refine wpAny_bind (wpAny_bind (his.at ?_)) ; simp only [Bool.not_true, Bool.false_eq_true, if_false]
    refine wpAny_bind (LI.at ?_)
    first
      | exact wpAny_pure (wpAny_pure hq)
      | (simp only [if_true]; first | exact wpAny_pure (wpAny_pure hq) | exact wpAny_pure hq | exact wpAny_bind (wpAny_pure (wpAny_pure hq)))
end
end L2

/-! ### own text: xs.remove(x) of plain data; methods that may raise -/
namespace L2
open PySem PySem.Spec PyProof.Rows
section
open PySem.SeqAt PySem.MeetsSeq
open AutoSeq1 (wpAny_loadPart')
theorem remove_loopM (l : Addr) (items : Array Value) (n : Nat) (x : Value) (e : Value → Bool) (j : Nat) (hj : j < items.size) (hit : e items[j] = true) (hz : items.size ≤ sizeLine) (k : Nat) :
    ∀ i : Nat, j - i = k → i ≤ j → (∀ m (hm : m < items.size), i ≤ m → m < j → e items[m] = false) → Meets (Builtin.«list.remove.loop» ⟨[.ref l, x, rawInt i], []⟩)
      (fun A R s => s.heap.get? l = some { cls := .type "list", dict := none, data := .seq items n, slots := #[] } ∧ (∀ y, y ∈ items → EqAt A.in1 s y x (e y)) ∧ R (.ok (.ret .none)) { s with heap := s.heap.update l (Obj.mapSeq fun xs => xs.eraseIdxIfInBounds j) }) := by
  induction k with
  | zero =>
    intro i hk hij hno prog w A R s h
    obtain ⟨hp, g, d, tk, os⟩ := s; obtain ⟨hl, he, h⟩ := h
    obtain rfl : i = j := by omega
    wp_walk using wpAny_loadPart' hl
    rw [show items[((i : Nat) : Int).toNat]? = some items[i] by simp [hj]]
    refine wpAny_bind (he _ (Array.getElem_mem hj) prog w _ _ ?_) ; rw [hit]
    have small : (items.eraseIdxIfInBounds i).size ≤ sizeLine + 1 := Nat.le_trans (size_erased items _) (Nat.le_succ_of_le hz)
    wp_walk using (wpAny_updateSeq hl rfl (hz := hz) (_hz' := small)), wpAny_loadPart' hl ; simpa using h
  | succ k ih =>
    intro i hk hij hno prog w A R s h
    obtain ⟨hp, g, d, tk, os⟩ := s; obtain ⟨hl, he, h⟩ := h
    have hlt : i < items.size := by omega
    wp_walk using wpAny_loadPart' hl
    rw [show items[((i : Nat) : Int).toNat]? = some items[i] by simp [hlt]]
    refine wpAny_bind (he _ (Array.getElem_mem hlt) prog w _ _ ?_) ; rw [hno i hlt (Nat.le_refl _) (by omega)]
    wp_walk
    rw [show ((i : Int) + 1) = ((i + 1 : Nat) : Int) by push_cast; rfl]
    exact ⟨plainId_quiet plain_remove_loop _, codeAny_builtin entry_remove_loop (by
      rw [Around.under_plainId plain_remove_loop _]; exact ih (i + 1) (by omega) (by omega) (fun m hm h1 h2 => hno m hm (by omega) h2) prog w A R _ ⟨hl, he, h⟩)⟩
theorem list_removeM (l : Addr) (items : Array Value) (n : Nat) (x : Value) (e : Value → Bool) (j : Nat) (hj : j < items.size) (hit : e items[j] = true) (hno : ∀ m (hm : m < items.size), m < j → e items[m] = false) (hz : items.size ≤ sizeLine) :
    Meets (Builtin.«list.remove» ⟨[.ref l, x], []⟩)
      (fun A R s => s.heap.get? l = some { cls := .type "list", dict := none, data := .seq items n, slots := #[] } ∧ (∀ y, y ∈ items → EqAt A.in1 s y x (e y)) ∧ R (.ok (.ret .none)) { s with heap := s.heap.update l (Obj.mapSeq fun xs => xs.eraseIdxIfInBounds j) }) := by
  intro prog w A R s h
  obtain ⟨hp, g, d, tk, os⟩ := s; obtain ⟨hl, he, h⟩ := h
  wp_walk using wpAny_loadPart' hl
  exact ⟨plainId_quiet plain_remove_loop _, codeAny_builtin entry_remove_loop (by
    rw [Around.under_plainId plain_remove_loop _]; exact remove_loopM l items n x e j hj hit hz _ 0 rfl (Nat.zero_le _) (fun m hm _ h2 => hno m hm h2) prog w A R _ ⟨hl, he, h⟩)⟩
end
section
variable {X : Cx}
/-- xs.remove(x), x among the plain data of the list: the first that is like it goes -/
def rRemD (K : PySem.W.Frag) : V → List V → Hp → VK → Prop := fun x vs H Q => ∃ (l : Addr) (xs : List V) (y : V) (d : Dt) (es : List Dt) (j : Nat), x = .ref l ∧ vs = [y] ∧ H l = some (.lst xs) ∧ Den K H d y ∧ DenL K H es xs ∧ depL es ≤ 10 ∧ es[j]? = some d ∧ (∀ i, i < j → es[i]? ≠ some d) ∧ Q .non (upd H l (.lst (xs.eraseIdx j)))
theorem mt_removeD (K : PySem.W.Frag) (hu : X.A.units + 20 < cLine) (hK : X.K = K := by rfl) : MtR X "list.remove" (rRemD K) := by
  subst hK
  intro pins s σ H x vs v us Q I rx rs h
  obtain ⟨l, xs, y, d, es, j, rfl, rfl, hH, hd, he, hdep, hj, hno, q⟩ := h
  cases rx
  obtain ⟨u, rfl, ru⟩ := vals1 rs
  obtain ⟨hz, its, n, r1, ho⟩ := (show ObjOk X.prog X.w H s.heap l (.lst xs) from I.hok l _ hH)
  have hin : X.A.in1.units = X.A.units + 1 := rfl
  have hxl : xs.length = es.length := denL_length he
  have hil : its.length = es.length := by rw [← r1.length, hxl]
  have hjl : j < es.length := (List.getElem?_eq_some_iff.mp hj).1
  have at_ : ∀ (i : Nat) (hi : i < its.length), (eqD X.K H d its[i] = true ↔ es[i]? = some d) := fun i hi => by
    obtain ⟨w, ew, hw⟩ := denL_get he (List.getElem?_eq_getElem (show i < es.length by omega))
    obtain ⟨u', eu', ru'⟩ := r1.get ew
    rw [List.getElem?_eq_getElem hi] at eu'
    cases eu'
    have h1 := any_eqD I (d := d) (es := [es[i]]) (ys := [w]) (us := [its[i]]) (denL_cons hw denL_nil) (.cons ru' .nil)
    rw [List.any_cons, List.any_nil, Bool.or_false, List.mem_singleton] at h1
    rw [h1, List.getElem?_eq_getElem (show i < es.length by omega)]
    exact ⟨fun e => by rw [e], fun e => by injection e with e; exact e.symm⟩
  have fin : Inv X pins σ (upd H l (.lst (xs.eraseIdx j))) { s with heap := s.heap.update l (Obj.mapSeq fun xs => xs.eraseIdxIfInBounds j) } := by
    refine I.lset (its' := its.eraseIdx j) (t' := s.toks) hH ho ?_ (r1.eraseIdx j) (Nat.le_trans (len_erase _ _) hz)
    show its.toArray.eraseIdxIfInBounds j = (its.eraseIdx j).toArray
    rw [List.eraseIdxIfInBounds_toArray]
  refine call_meets PySem.F.slot_list_remove ⟨_, ho, rfl⟩ PySem.F.entry_list_remove (PySem.F.args_list_remove_2 _ _) (list_removeM l its.toArray n u (eqD X.K H d) j (by simpa [hil] using hjl) ?_ ?_ ?_) ⟨ho, fun z hz' => ?_, ⟨.non, _, fin, rfl, q⟩⟩
  · simp only [List.getElem_toArray]
    exact (at_ j (by omega)).mpr hj
  · intro i hi hlt
    have hi' : i < its.length := by simpa using hi
    simp only [List.getElem_toArray]
    rw [← Bool.not_eq_true, at_ i hi']
    exact hno i hlt
  · rw [List.size_toArray, hil, ← hxl]; exact hz
  · obtain ⟨e', w, m1, m2, m3⟩ := den_mem_val he r1 (by simpa using hz')
    exact eqD_at I hd m2 ru m3 (by have := dep_le m1; omega)
/-- y = o.m(..), m a method that may raise -/
theorem psx_setmeth {CE C : Addr} {CX : CXT} {k i : Nat} {f : Addr} {fd : FuncData} {ps : List Str} {sp : Sp} {m y : Str} {o e : Expr} {es : List Expr} {ta : TE} {t : TA} {apos pos py spos : Pos} {pl : Sem Bool} (hCX : CX = CXe X.prog X.w CE) (he : ∀ XE, PE (X.wish XE) o ta) (c : Cls X.K C) (hm : Meth X.K C m f) (F : FnOk X.prog X.w X.K X.mg X.base CX k f fd ps sp) (hr : Room k X.A) (hb : Binds X.K fd ps [])
    (ha : ∀ XE, PA (X.wish XE) (e :: es) t) (hN : X.N.Nodup) (hi : X.N[i]? = some y) (hy : X.env.scope.names.lookup y = some .local) (hst : starEach (e :: es) X.env = (false, eval e X.env) :: starEach es X.env := by rfl) (hpl : (backTo pos (starEach es X.env)).any (·.1) = false := by rfl)
    (ht : eval (.Call (.Attribute o m apos) (e :: es) [] pos) X.env = (do let ov ← eval o X.env; standAt apos.atName; let (f, first) ← holding [ov] (getMethod ov m pl); callWith pos f first (backTo pos (starEach (e :: es) X.env)) (backToKw pos (keywordEach [] X.env))) := by rfl)
    (hs : swapsWith (.Call (.Attribute o m apos) (e :: es) [] pos) (some (.Name y py)) spos.line X.env = pure false := by rfl) :
    PSX X CE [.Assign [.Name y py] (.Call (.Attribute o m apos) (e :: es) [] pos) spos] (fun E => tAsg (tMeth C m sp [] E ta t) (gName i)) := by
  intro pins s σ H D E I h
  generalize hXE : (fun (e : Value) (s' : Shared) => ∃ H1 s1, Inv X pins σ H1 s1 ∧ CXe X.prog X.w CE X.stack H1 s1 E e s') = XE
  have key : wpAny (model X.prog X.w) X.A (eval (.Call (.Attribute o m apos) (e :: es) [] pos) X.env) (EP X pins σ fun v H1 => D.nx (σ.set i (some v)) H1) XE s := by
    refine PySem.W.methodCall_KW (pl := pl) (thn (he XE pins s σ H _ (I.wish _) h) fun u s1 ⟨x, H1, I1, rx, a, dx, fs, ex, ea, l, q⟩ => ?_) ht
    subst ex
    obtain rfl : u = Value.ref a := rx
    refine getmeth_ok (X := X.wish XE) I1 ea c hm l ?_
    refine PySem.W.callWith_K (first := [.ref a]) (h₀ := X.base) I.ok.mod.kin hm.kp (thn (ha XE pos pins s1 σ H1 _ I1 q) fun us s2 ⟨vs, H2, I2, r, q2⟩ => ⟨I2.kIn, ?_⟩) hst hpl
    have I2' := I2.unwish
    have r2 : Vals (.ref a :: (vs ++ [])) (Value.ref a :: us ++ []) := .cons rfl (r.append .nil)
    have hl : (Value.ref a :: us ++ []).length = ps.length := by rw [← r2.length]; exact F.len _ _ _ _ q2
    refine wpAny_call (codeAny_mono (F.run X.A X.stack s2 H2 ⟨.ref a :: us, []⟩ (.ref a :: us ++ []) (.ref a :: (vs ++ [])) _ E hr I2'.env0 (hb s2 (.ref a :: us) I2'.kIn hl) r2 q2) fun r s' hq => ?_)
    cases r with
    | error e => subst hCX; subst hXE; exact ⟨H2, s2, I2', hq⟩
    | ok fl =>
      cases fl with
      | ret u => exact I2'.after hq
      | next => exact False.elim hq
      | brk => exact False.elim hq
      | cont => exact False.elim hq
  refine wpAny_execs_cons (wpAny_Assign_Name (thn key fun v s1 ⟨x1, H1, I1, r1, q1⟩ => ?_) hs)
  exact store_ok I1 hN hi (.inl hy) r1 (fun s2 I2 => wpAny_execs_nil (show SP X pins D .next s2 from ⟨_, H1, I2, q1⟩)) (.inr hy)
theorem passE {C : Addr} : Passes (CXe X.prog X.w C) X E0 := fun _ _ _ _ _ _ _ ⟨_, _, _, _, _, _, _, _, _, _, _, _, _, h⟩ => h.elim
end
end L2

/-! ### own text: how big the script's numbers may be; powers of big numbers -/
namespace L2
open PySem PySem.Spec PyProof.Rows
theorem weight_mem : ∀ (ns : List Int) (z : Int), z ∈ ns → Builtin.Int.intBits z ≤ PySem.W.WData.weightAll (ns.map PySem.W.WData.int)
  | [], _, h => nomatch h
  | n :: ns, z, h => by
    have e : PySem.W.WData.weight (.int n) = Builtin.Int.intBits n := by rw [PySem.W.WData.weight]; rfl
    rw [List.map_cons, PySem.W.WData.weightAll, e]
    rcases List.mem_cons.mp h with rfl | h
    · omega
    · have := weight_mem ns z h
      omega
theorem bits_of_lay {ns : List Int} (h : PySem.W.WData.layableAll [PySem.W.WData.list (ns.map PySem.W.WData.int)] = true) : ∀ z ∈ ns, Builtin.Int.intBits z ≤ 2 ^ 20 := fun z hz => by
  have h1 : PySem.W.WData.layable (PySem.W.WData.list (ns.map PySem.W.WData.int)) = true := (Bool.and_eq_true_iff.mp h).1
  have h2 := of_decide_eq_true (Bool.and_eq_true_iff.mp h1).2
  rw [PySem.W.WData.weight] at h2
  exact Nat.le_trans (weight_mem ns z hz) h2
theorem walk_ofB {l : PySem.W.OpenLaw} {n k : Nat} {q : Program} {loose : List Str} {XP : (Str → Option Value) → Heap → Prop} {YP : World → Heap → Prop} {d : DefRec} {K : Params → PySem.W.Frag} {CX : World → CXT} {sp : World → Sp} {x : Str}
    (hn : l.most = some n) (hn2 : n ≤ sizeLine) (hdf : d.params.defaults = []) (hr : Room k callerA)
    (hY : ∀ (w : World) (h : Heap), YP w h → (K w.params).In h)
    (F : ∀ (w : World) (mg : Str → Option Value) (fa : Addr) (h : Heap), (K w.params).In h → h.Ns mainGlobals mg → mg d.name = some (.ref fa) →
      ∃ fd : FuncData, (∀ (s : Shared) (u : Value), BindsTo s fd ⟨[u], []⟩ [(x, u)]) ∧
        ∀ base : Heap, (K w.params).In base → base.Ns mainGlobals mg → FnOk l.prog w (K w.params) mg base (CX w) k fa fd [x] (sp w))
    (hsp : ∀ (w : World) (H : Hp) (a : Addr) (ns : List Int), ns.length ≤ n → (∀ z ∈ ns, Builtin.Int.intBits z ≤ 2 ^ 20) → SqL (K w.params) H a (ns.map V.int) → sp w [.ref a] H (fun v _ => v = .bl true) fun _ _ _ => False)
    (hCX : ∀ (w : World) (H : Hp) (s : Shared) (e : Value) (s' : Shared), CX w [] H s (fun _ _ _ => False) e s' → False) :
    PySem.W.WalkO q loose XP YP l.row.toRowW d [] (fun f vs => PySem.call f vs) := by
  intro w s₀ s₁ mg mb G Y fa o pm cd doc dV kV ho hd hcd hD hmg hg args vals as hpre hlay hrd hwl hlo
  obtain rfl : dV = .none := PySem.W.Dflts.none hD hdf
  obtain rfl : kV = .none := PySem.W.Dflts.noKw hD
  obtain ⟨a, vs, ns, rfl, rfl, hobj, hints, hlen⟩ := Att.script_of hn hpre hwl
  have KX := hY w _ Y
  obtain ⟨fd, hb, hF⟩ := F w mg fa _ KX G.T.g hmg
  have hbits := bits_of_lay hlay
  refine PySem.W.enter_call (codeAny_mono (law_call KX G.T.g G.T.b G.T.builtins G.T.nolimit hg hobj hints (Nat.le_trans hlen hn2) hr hF hb (fun H _ hS => hsp w H a ns hlen hbits hS) fun H e s' => hCX w H s₁ e s') fun r s' hq => ?_)
  obtain ⟨rfl, h2, h3, h4⟩ := hq
  exact ⟨.inl ⟨.bool true, .bool true, [], rfl, fun _ => rfl, .bool true, Att.post_true l _, fun _ => ⟨List.Pairwise.nil, fun _ hm => (nomatch hm)⟩⟩, h2, h3, h4⟩
section
variable {X : Cx}
theorem op_powB : OpR X (binaryOp .Pow) (rI (fun i j => 0 ≤ j ∧ (Builtin.Int.intBits i : Int) * j ≤ 2 ^ 27) fun i j => .int (i ^ j.toNat)) := opI fun _ _ _ _ _ _ _ hc q => pow_int hc.1 hc.2 q
end
end L2

/-! ### own text: for i, x in enumerate(a tuple) -/
namespace L2
open PySem PySem.Spec PyProof.Rows
section
open AutoSeq1 (wpAny_loadPart')
theorem meets_enumerate_newT (l : Addr) (items : Array Value) (n : Nat) (dct : Option Addr) (sl : Array (Option Value)) :
    Meets (Builtin.«enumerate.__new__» ⟨[.type "enumerate", .ref l], []⟩) (fun _ R s => s.heap.get? l = some { cls := .type "tuple", dict := dct, data := .seq items n, slots := sl } ∧
      R (.ok (.ret (.ref (s.heap.push { cls := .type "tuple_iterator", data := .fields #[.ref l, .int 0 0] }).objs.size)))
        { s with heap := (s.heap.push { cls := .type "tuple_iterator", data := .fields #[.ref l, .int 0 0] }).push { cls := .type "enumerate", data := .fields #[.none, .bool false, .ref s.heap.objs.size, rawInt 0, .none, .none] } }) :=
  .of_wp fun prog w A R s h => by
    obtain ⟨hp, g, d, tk, os⟩ := s; obtain ⟨hl, h⟩ := h
    have hsub := sub_enumerate
    have hL : Heap.IsTuple (Shared.heap ⟨hp, g, d, tk, os⟩) l items := ⟨_, hl, rfl, n, rfl⟩
    wp_walk using wpAny_loadPart' hl
    refine wpAny_stack_any fun st => wpAny_pure ?_
    split
    · rename_i c _ _ _ _ _
      cases (c == Value.type "enumerate")
      · wp_walk using wpAny_loadPart' hl, wpAny_pyIter_tuple hL
        exact ⟨_, rfl, h⟩
      · wp_walk using wpAny_loadPart' hl, wpAny_pyIter_tuple hL
        exact ⟨_, rfl, h⟩
    · wp_walk using wpAny_loadPart' hl, wpAny_pyIter_tuple hL
      exact ⟨_, rfl, h⟩
end
section
variable {prog : Program} {w : World} {A : Around} {E : Value → Shared → Prop} {s : Shared}
theorem call_enumerate_tuple {l : Addr} {items : Array Value} {Q : Value → Shared → Prop} (hL : s.heap.IsTuple l items)
    (h : ∀ h', IsEnum h' (s.heap.objs.size + 1) s.heap.objs.size 0 .none → h'.IsTupleIter s.heap.objs.size l 0 →
      (∀ b o, s.heap.get? b = some o → h'.get? b = some o) → Q (.ref (s.heap.objs.size + 1)) { s with heap := h' }) :
    wpAny (model prog w) A (call (.type "enumerate") [.ref l]) Q E s := by
  obtain ⟨⟨c, dct, dt, sl⟩, hl, hc, n, hd⟩ := hL
  replace hc : c = .type "tuple" := hc
  replace hd : dt = .seq items n := hd
  subst hc hd
  refine callType_new F.called_enumerate (by decide) (F.typeCall_enumerate_1 _) (F.newCall_enumerate_1 _) (fun obj => F.args_object_init_2 obj _) F.entry_enumerate_new
    (meets_enumerate_newT l items n dct sl) ⟨hl, ?_⟩
  have hz : (s.heap.push { cls := .type "tuple_iterator", data := .fields #[.ref l, .int 0 0] }).objs.size = s.heap.objs.size + 1 := Heap.size_push ..
  show _ ∧ _
  rw [hz]
  have he : IsEnum ((s.heap.push { cls := .type "tuple_iterator", data := .fields #[.ref l, .int 0 0] }).push
      { cls := .type "enumerate", data := .fields #[.none, .bool false, .ref s.heap.objs.size, rawInt 0, .none, .none] }) (s.heap.objs.size + 1) s.heap.objs.size 0 .none := by
    have := Heap.get?_push_size (s.heap.push { cls := .type "tuple_iterator", data := .fields #[.ref l, .int 0 0] })
      (o := { cls := .type "enumerate", data := .fields #[.none, .bool false, .ref s.heap.objs.size, rawInt 0, .none, .none] }) rfl
    rw [hz] at this; exact this
  exact ⟨⟨_, he, rfl⟩, h _ he ⟨_, Heap.get?_push_of_some _ (Heap.get?_push_size _ rfl), rfl, rfl⟩ fun b o x => Heap.get?_push_of_some _ (Heap.get?_push_of_some _ x)⟩
theorem nextOf_tuple_item {it l : Addr} {i : Nat} {items} {x : Value} {Q : Value → Shared → Prop} (hit : s.heap.IsTupleIter it l i)
    (hl : s.heap.IsTuple l items) (hx : items[i]? = some x)
    (hQ : ∀ h', h'.IsTupleIter it l (i + 1) → Heap.SameBut it s.heap h' → Q x { s with heap := h' }) :
    wpAny (model prog w) A (Builtin.SmallTypes.nextOf (.ref it)) Q E s := by
  obtain ⟨o, ho, hc, hd⟩ := id hit
  obtain ⟨ol, hol, _, nl, hdl⟩ := hl
  unfold Builtin.SmallTypes.nextOf
  refine wpAny_bind (wpAny_callSpecial?_slot (name := Str.ofString "__next__") hit.typeIs F.slot_tuple_iterator_next
    (wpAny_call_entry F.slot_tuple_iterator_next hit.typeIs F.entry_tuple_iterator_next ?_ (F.args_tuple_iterator_next_1 _)))
  show wpAny _ _ (field (.ref it) 0 >>= _) _ _ s
  refine wpAny_bind (wpAny_field ho hd (x := .ref l) rfl ?_)
  show wpAny _ _ (if (Value.ref l == Value.none) = true then _ else _) _ _ s
  rw [if_neg (show ¬ ((Value.ref l == Value.none) = true) from Bool.false_ne_true)]
  show wpAny _ _ (field (.ref it) 1 >>= _) _ _ s
  refine wpAny_bind (wpAny_field ho hd (x := .int i 0) rfl ?_)
  show wpAny _ _ (seqItems? (.ref l) >>= _) _ _ s
  refine wpAny_bind (wpAny_seqItems hol hdl ?_)
  simp only [Int.toNat_natCast, hx]
  refine wpAny_bind (wpAny_setField ho hd (by simp) (wpAny_pure ⟨x, rfl, wpAny_pure (hQ _ ?_ (Heap.SameBut.update ..))⟩))
  exact ⟨_, Heap.get?_update_self _ ho (Obj.isFreed_of_fields (Obj.data_mapFields hd _)), (Obj.cls_mapFields ..).trans hc, by
    rw [Obj.data_mapFields hd]; simp [rawInt]⟩
theorem nextOf_tuple_end {it l : Addr} {i : Nat} {items} {Q : Value → Shared → Prop} (hh : A.handled = none)
    (hit : s.heap.IsTupleIter it l i) (hl : s.heap.IsTuple l items) (hx : items[i]? = none)
    (hE : ∀ h' e, Heap.ExtBut it s.heap h' → (∃ o, h'.get? e = some o ∧ o.cls = .type "StopIteration") → E (.ref e) { s with heap := h' }) :
    wpAny (model prog w) A (Builtin.SmallTypes.nextOf (.ref it)) Q E s := by
  obtain ⟨o, ho, hc, hd⟩ := id hit
  obtain ⟨ol, hol, _, nl, hdl⟩ := hl
  unfold Builtin.SmallTypes.nextOf
  refine wpAny_bind (wpAny_callSpecial?_slot (name := Str.ofString "__next__") hit.typeIs F.slot_tuple_iterator_next
    (wpAny_call_entry F.slot_tuple_iterator_next hit.typeIs F.entry_tuple_iterator_next ?_ (F.args_tuple_iterator_next_1 _)))
  show wpAny _ _ (field (.ref it) 0 >>= _) _ _ s
  refine wpAny_bind (wpAny_field ho hd (x := .ref l) rfl ?_)
  show wpAny _ _ (if (Value.ref l == Value.none) = true then _ else _) _ _ s
  rw [if_neg (show ¬ ((Value.ref l == Value.none) = true) from Bool.false_ne_true)]
  show wpAny _ _ (field (.ref it) 1 >>= _) _ _ s
  refine wpAny_bind (wpAny_field ho hd (x := .int i 0) rfl ?_)
  show wpAny _ _ (seqItems? (.ref l) >>= _) _ _ s
  refine wpAny_bind (wpAny_seqItems hol hdl ?_)
  simp only [Int.toNat_natCast, hx]
  refine wpAny_bind (wpAny_rule (wpAny_bind (wpAny_setField ho hd (by simp) ?_)))
  show wpAny _ _ (newExc (.type "StopIteration") [] >>= _) _ _ _
  refine wpAny_bind ?_
  simp only [newExc, newTuple]
  refine wpAny_bind (wpAny_newObj_type ?_ (by size_fits))
  refine wpAny_bind (m := firstArgMember _ _) (wpAny_of_eq (a := Value.none) (by first | rfl | (simp only [firstArgMember]; rfl)) ?_)
  refine wpAny_newObj_type ?_ (by size_fits)
  simp only [raiseNew]
  refine wpAny_bind (wpAny_handled ?_)
  first | rw [show A.in1.handled = none from hh] | rw [hh]
  refine wpAny_bind (wpAny_pure (wpAny_throw ?_))
  exact hE _ _ (((Heap.SameBut.update ..).extBut.push _).push _) ⟨_, Heap.get?_push_size _ rfl, rfl⟩
end
theorem draws_tuple {prog : Program} {w : World} {A : Around} (hh : A.handled = none) (it l : Addr) (hne : l ≠ it) (items : Array Value) :
    Draws prog w A it [it, l] items.size (fun i v => items[i]? = some v) (fun i h => h.IsTupleIter it l i ∧ h.IsTuple l items) where
  live := fun _ _ st => let ⟨o, ho, _⟩ := st.1; ⟨o, ho⟩
  frame := fun _ _ _ st hk => ⟨let ⟨o, ho, r⟩ := st.1; ⟨o, hk it (by simp) o ho, r⟩, let ⟨o, ho, r⟩ := st.2; ⟨o, hk l (by simp) o ho, r⟩⟩
  item := fun i s Q E hi st hQ => by
    refine nextOf_tuple_item st.1 st.2 (x := items[i]) (by simp [hi]) fun h' hit' hs' => ?_
    exact hQ _ h' s.toks (by simp [hi]) ⟨hit', st.2.extBut hs'.extBut hne⟩ hs'
  done := fun s Q E st hE => nextOf_tuple_end hh st.1 st.2 (by simp) hE
section
variable {X : Cx} {pins : List (Addr × Obj)} {σ : St} {H : Hp} {s : Shared} {h' : Heap}
/-- some addresses turn, all else is kept -/
theorem Inv.turnedL {t' : Nat} (ch : List Addr) (I : Inv X pins σ H s) (k : ∀ b o, b ∉ ch → s.heap.get? b = some o → h'.get? b = some o) (hf : ∀ b ∈ ch, FpOk X pins H b) : Inv X pins σ H { s with heap := h', toks := t' } := by
  have nit : ∀ b u, H b = some u → b ∉ ch := fun b u e z => by rw [(hf b z).1] at e; cases e
  refine I.step (g' := s.gens) (d' := s.drawn) (ch := ch) (fun b hb => ?_) (fun b o _ _ hc e _ => k b o hc e) (fun b o _ _ hc e _ => ⟨o.slots, k b o hc e⟩) (fun _ _ _ _ n => n)
    (fun b o hc e => ⟨o, k b o hc e⟩) (fun _ _ e => e) (fun _ _ _ e => e) (fun b ps e => ⟨#[], by rw [e]; simp⟩) (fun m hm => ?_) (fun b u e => ?_) I.bare
  · obtain ⟨_, f1, _, f3, f4, f5⟩ := hf b hb
    exact ⟨f3, f1, f4, f5⟩
  · obtain ⟨o, es, ep, ho, r⟩ := hm
    exact ⟨o, es, ep, k _ o (fun z => (hf _ z).2.1 rfl) ho, r⟩
  · refine (I.hok b u e).stay (fun c v hc q => k c v ?_ q) (fun _ q => q) fun _ _ q => q
    rcases hc with z | z
    · rw [z]; exact nit b u e
    · exact nit c _ z
/-- (0, x), (1, y), .. of the tuple at a -/
def Ite (K : PySem.W.Frag) (a : Addr) : It :=
  ⟨fun i H => ∃ xs x, SqT K H a xs ∧ xs[i]? = some x, fun i H v H' => ∃ p x, v = .ref p ∧ H p = none ∧ H' = upd H p (.tup [.int i, x]) ∧ ∀ xs, SqT K H a xs → xs[i]? = some x, fun i H => ∃ xs, SqT K H a xs ∧ xs.length = i⟩
theorem turn_enum {P : Program} {w : World} {K : PySem.W.Frag} {elts : List Expr} {x1} {tp : Pos} (a e it : Addr) (hei : e ≠ it) : Turn P w K (.Tuple elts x1 tp) (Ite K a) [e, it] e (fun i h => (∃ old, IsEnum h e it i old) ∧ h.IsTupleIter it a i) where
  mem := by simp
  obj := fun i h st b hb => by
    obtain ⟨⟨old, he⟩, o, eo, _, d⟩ := st
    rcases List.mem_cons.mp hb with rfl | hb
    · exact ⟨_, he, fun v z => by
        have z' : Data.fields _ = Data.cell v := z
        cases z'⟩
    · rw [List.mem_singleton.mp hb]
      exact ⟨o, eo, fun v z => by rw [d] at z; cases z⟩
  keep := fun i h h' st k => by
    obtain ⟨⟨old, he⟩, o, eo, r⟩ := st
    exact ⟨⟨old, k e (by simp) _ he⟩, o, k it (by simp) _ eo, r⟩
  item := by
    intro X hP hw hK hc i pins s σ H E I hf st hg
    subst hP hw hK
    obtain ⟨xs, x, hq, hx⟩ := hg
    obtain ⟨its, rv, p, hz⟩ := I.tuple hq
    obtain ⟨u, hu, ru⟩ := rv.get hx
    have p' : s.heap.IsTuple a its.toArray := p
    obtain ⟨⟨old, he⟩, hit⟩ := st
    obtain ⟨oa, ea, ca, _⟩ := id p'
    obtain ⟨oi, ei, ci, _⟩ := id hit
    have nea : e ≠ a := fun z => by
      subst z
      have h2 := ea.symm.trans he
      injection h2 with h2
      rw [h2] at ca
      exact absurd (Value.type.inj ca) (by decide)
    have nai : a ≠ it := fun z => by rw [z, ei] at ea; cases ea; rw [ci] at ca; exact absurd (Value.type.inj ca) (by decide)
    have hil : i < its.toArray.size := by
      have := (List.getElem?_eq_some_iff.mp hu).1
      simpa using this
    refine wpAny_pyNext_enum_itemD (draws_tuple (A := X.A.in1) (I.ok.hd hc) it a nai its.toArray) he ⟨hit, p'⟩ hil hei (by simp [hei, nea]) fun y h1 tk hy ho hs1 hT hsz1 hk1 => ?_
    have ey : y = u := by
      rw [show its.toArray[i]? = some u by simpa using hu] at hy
      cases hy
      rfl
    subst ey
    have I1 : Inv X pins σ H { s with heap := h1, toks := tk + 1 } := I.turnedL [e, it] (fun b o hb q => hk1 b o (fun z => hb (by simp [z])) (fun z => hb (by simp [z])) q) hf
    have hTn : H s.heap.objs.size = none := I.hok.fresh (Nat.le_refl _)
    have fT := I.fpOk (H' := H) (b := s.heap.objs.size) (Nat.le_refl _) hTn
    have I2 : Inv X pins σ (upd H s.heap.objs.size (.tup [.int i, x])) { s with heap := h1, toks := tk + 1 } := by
      obtain ⟨_, g1, _, g3, g4, g5⟩ := fT
      refine I1.adopt hTn ?_ g1 g4 g5 ⟨(by show 2 ≤ sizeLine; decide), [.int i tk, y], .cons ⟨tk, rfl⟩ (.cons ru .nil), _, hT, rfl, rfl, _, rfl⟩
      cases q : X.s₀.heap.get? s.heap.objs.size with
      | none => rfl
      | some o =>
        exact absurd (Nat.lt_of_lt_of_le (Heap.lt_size q) I.sz) (Nat.lt_irrefl _)
    refine ⟨_, rfl, wpAny_letOwnedTupleGo_enum ho fun h2 he2 hs2 => ?_⟩
    have ne0 : ∀ b ∈ [e, it], b ≠ s.heap.objs.size := fun b hb z => by
      rcases List.mem_cons.mp hb with rfl | hb
      · exact absurd (Heap.lt_size he) (by rw [z]; exact Nat.lt_irrefl _)
      · rw [List.mem_singleton.mp hb] at z
        exact absurd (Heap.lt_size ei) (by rw [z]; exact Nat.lt_irrefl _)
    have hf2 : ∀ b ∈ [e, it], FpOk X pins (upd H s.heap.objs.size (.tup [.int i, x])) b := fun b hb => by
      obtain ⟨f0, fr⟩ := hf b hb
      exact ⟨by rw [upd_ne (ne0 b hb)]; exact f0, fr⟩
    have I3 : Inv X pins σ (upd H s.heap.objs.size (.tup [.int i, x])) { s with heap := h2, toks := tk + 1 } := Inv.turnedL (s := { s with heap := h1, toks := tk + 1 }) (t' := tk + 1) [e, it] I2 (fun b o hb q => (hs2.2 b fun z => hb (by simp [z])).trans q) hf2
    refine ⟨.ref s.heap.objs.size, _, I3, rfl, ⟨s.heap.objs.size, x, rfl, hTn, rfl, fun ys hy => by rw [I.tuple_inj hy hq]; exact hx⟩, ⟨⟨_, he2⟩, ?_⟩, fun b hb => (hf2 b hb).1⟩
    obtain ⟨o3, e3, r3⟩ := hs1.1
    exact ⟨o3, (hs2.2 it hei.symm).trans e3, r3⟩
  done := by
    intro X hP hw hK hc i pins s σ H E I hf st hg
    subst hP hw hK
    obtain ⟨xs, hq, hx⟩ := hg
    obtain ⟨its, rv, p, hz⟩ := I.tuple hq
    have p' : s.heap.IsTuple a its.toArray := p
    obtain ⟨⟨old, he⟩, hit⟩ := st
    obtain ⟨oa, ea, ca, _⟩ := id p'
    obtain ⟨oi, ei, ci, _⟩ := id hit
    have nai : a ≠ it := fun z => by rw [z, ei] at ea; cases ea; rw [ci] at ca; exact absurd (Value.type.inj ca) (by decide)
    have hl := rv.length
    have hi : i = its.toArray.size := by simp; omega
    rw [hi] at hit
    exact wpAny_pyNext_enum_endD (draws_tuple (A := X.A.in1) (I.ok.hd hc) it a nai its.toArray) he ⟨hit, p'⟩ fun h1 eb => ⟨rfl, I.turnedL (t' := s.toks) [e, it] (fun b o hb q => eb b o (fun z => hb (by simp [z])) q) hf⟩
  self := fun _ _ _ _ _ st h => by
    obtain ⟨⟨old, he⟩, _⟩ := st
    exact wpAny_pyIter_enum he h
def iEnum (K : PySem.W.Frag) (ta : TA) : TI := fun σ H R => ta σ H fun vs H1 => ∃ a, vs = [.ref a] ∧ (∃ xs, SqT K H1 a xs) ∧ R (Ite K a) H1
theorem pi_enum {l : Expr} {ta : TA} {p pos tp : Pos} {elts : List Expr} {x1} (hg : Gl X "enumerate") (hm : X.mg "enumerate" = none) (ha : PA X [l] ta) (hs : starEach [l] X.env = [(false, eval l X.env)] := by rfl) : PI X (.Tuple elts x1 tp) (.Call (.Name "enumerate" p) [l] [] pos) (iEnum X.K ta) := by
  intro pins s σ H R I h
  refine Call_ (ld_blt I hg hm boot_enumerate (PyProof.Rows.callWith_type1 (thn (ha pos pins s σ H _ I h) fun us s1 ⟨vs, H1, I1, r1, q1⟩ => ?_) hs rfl))
  obtain ⟨a, e, ⟨xs, hq⟩, q⟩ := q1
  subst e
  cases r1 with
  | cons r rr =>
    cases rr
    cases r
    obtain ⟨its, rv, pt, hz⟩ := I1.tuple hq
    refine call_enumerate_tuple (show s1.heap.IsTuple a its.toArray from pt) fun h' he hit hk => wpAny_pyIter_enum he ?_
    refine ⟨s1.heap.objs.size + 1, [s1.heap.objs.size + 1, s1.heap.objs.size], _, _, H1, rfl, I1.kept (t' := s1.toks) hk, turn_enum a _ _ (Nat.succ_ne_self _), ⟨⟨_, he⟩, hit⟩, fun b hb => ?_, q⟩
    have hb' : s1.heap.objs.size ≤ b := by
      rcases List.mem_cons.mp hb with rfl | hb
      · exact Nat.le_succ _
      · rw [List.mem_singleton.mp hb]; exact Nat.le_refl _
    exact I1.fpOk hb' (I1.hok.fresh hb')
end
theorem for_enum {K : PySem.W.Frag} {a : Addr} {xs : List V} {g : TG} {tb : TS} {D : Ends} {σ : St} {H : Hp} (Pv : Nat → St → Hp → Prop) (h0 : Pv 0 σ H) (hl : ∀ i σ H, i ≤ xs.length → Pv i σ H → SqT K H a xs)
    (hs : ∀ i x p σ H, xs[i]? = some x → Pv i σ H → H p = none → g (.ref p) σ (upd H p (.tup [.int i, x])) fun σ2 H2 => tb { D with nx := Pv (i + 1), ct := Pv (i + 1), bk := D.nx } σ2 H2) (hd : ∀ σ H, Pv xs.length σ H → D.nx σ H) :
    ∃ W : Nat → Nat → St → Hp → Prop, (∃ m, W 0 m σ H) ∧ ∀ i m σ H, W i m σ H →
      ((Ite K a).stop i H ∧ D.nx σ H) ∨ ((Ite K a).go i H ∧ ∃ N : St → Hp → Prop, (∀ σ' H', N σ' H' → ∃ m', m' < m ∧ W (i + 1) m' σ' H') ∧ ∀ x H', (Ite K a).yld i H x H' → g x σ H' fun σ2 H2 => tb { D with nx := N, ct := N, bk := D.nx } σ2 H2) := by
  refine ⟨fun i m σ H => m = xs.length - i ∧ i ≤ xs.length ∧ Pv i σ H, ⟨xs.length, by simp, Nat.zero_le _, h0⟩, ?_⟩
  rintro i m σ H ⟨rfl, hi, p⟩
  have q := hl i σ H hi p
  by_cases hlt : i < xs.length
  · refine .inr ⟨⟨xs, xs[i], q, by simp [hlt]⟩, Pv (i + 1), fun σ' H' p' => ⟨xs.length - (i + 1), by omega, rfl, hlt, p'⟩, fun v H' y => ?_⟩
    obtain ⟨t, x, rfl, ht, rfl, y⟩ := y
    exact hs i x t σ _ (y xs q) p ht
  · have e : i = xs.length := by omega
    subst e
    exact .inl ⟨⟨xs, q, rfl⟩, hd σ H p⟩
end L2

/-! ### own text: xs.index(k), t.count(k), int(truth); tuples that the program itself made -/
namespace L2
open PySem PySem.Spec PyProof.Rows
section
variable {X : Cx}
def rLIndex (K : PySem.W.Frag) : V → List V → Hp → VK → Prop := fun x vs H Q => ∃ (p : Addr) (ns : List Int) (k : Int) (j : Nat), x = .ref p ∧ vs = [.int k] ∧ SqL K H p (ns.map V.int) ∧ j < ns.length ∧ ns.getD j 0 = k ∧ (∀ i, i < j → ns.getD i 0 ≠ k) ∧ Q (.int j) H
theorem mt_lindexK (K : PySem.W.Frag) (hK : X.K = K := by rfl) : MtR X "list.index" (rLIndex K) := by
  subst hK
  intro pins s σ H x xs v us Q I rx rs h
  obtain ⟨p, ns, k, j, rfl, rfl, hS, hj, e1, e2, q⟩ := h
  cases rx
  obtain ⟨u, rfl, ru⟩ := vals1 rs
  obtain ⟨its, r1, ht, hz⟩ := I.list hS
  have hl : its.length = ns.length := by rw [← r1.length, List.length_map]
  obtain ⟨⟨cls, dd, data, sl⟩, n, ho, hc, hdd, hd⟩ := id ht
  simp only at hc hd hdd
  subst hc hd hdd
  have hsm : ((j : Nat) : Int) < 2 ^ 63 - 1 := by
    rw [List.length_map, sizeLine_eq] at hz
    omega
  refine call_meets PySem.F.slot_list_index ⟨_, ho, rfl⟩ PySem.F.entry_list_index (PySem.F.args_list_index_2 _ _) (SeqAt.list_indexAt p its.toArray n none sl u (eqU (.int k)) j (by simpa [hl] using hj) hsm ?_ ?_) ⟨ho, fun y hy => mem_eqAt ru rfl r1 (flat_allI ns) y (by simpa using hy), ⟨.int j, H, I.tok _, ⟨_, rfl⟩, q⟩⟩
  · have := eqU_at (k := k) r1 (show j < its.length by omega)
    simp only [List.getElem_toArray]
    rw [this, e1]
    simp
  · intro i hi hlt
    have hi' : i < its.length := by simpa using hi
    have := eqU_at (k := k) r1 hi'
    simp only [List.getElem_toArray]
    rw [this]
    simpa using e2 i hlt
theorem countP_vals {k : Int} : ∀ {ns : List Int} {its : List Value}, Vals (ns.map V.int) its → its.countP (eqU (.int k)) = ns.countP (· == k)
  | [], _, .nil => rfl
  | n :: ns, u :: its, .cons r t => by
    rw [List.countP_cons, List.countP_cons, countP_vals t]
    have : eqU (.int k) u = (n == k) := by rw [eqU_of r rfl]; rfl
    rw [this]
def rTCount (K : PySem.W.Frag) : V → List V → Hp → VK → Prop := fun x vs H Q => ∃ (p : Addr) (ns : List Int) (k : Int), x = .ref p ∧ vs = [.int k] ∧ SqT K H p (ns.map V.int) ∧ Q (.int ((ns.countP (· == k) : Nat) : Int)) H
theorem mt_tcountK (K : PySem.W.Frag) (hK : X.K = K := by rfl) : MtR X "tuple.count" (rTCount K) := by
  subst hK
  intro pins s σ H x xs v us Q I rx rs h
  obtain ⟨p, ns, k, rfl, rfl, hS, q⟩ := h
  cases rx
  obtain ⟨u, rfl, ru⟩ := vals1 rs
  obtain ⟨its, r1, ht, hz⟩ := I.tuple hS
  obtain ⟨⟨cls, dd, data, sl⟩, ho, hc, n, hd⟩ := id ht
  simp only at hc hd
  subst hc hd
  have ec : its.toArray.toList.countP (eqU (.int k)) = ns.countP (· == k) := countP_vals r1
  refine call_meets PySem.F.slot_tuple_count ⟨_, ho, rfl⟩ PySem.F.entry_tuple_count (PySem.F.args_tuple_count_2 _ _) (SeqAt.tuple_countAt p its.toArray n dd sl u (eqU (.int k))) ⟨ho, fun y hy => mem_eqAt ru rfl r1 (flat_allI ns) y (by simpa using hy), ?_⟩
  rw [ec]
  exact ⟨.int _, H, I.tok _, ⟨_, rfl⟩, q⟩
/-- int(b), b a truth -/
theorem call_intB : CallR X (.type "int") (fun vs H Q => ∃ b : Bool, vs = [.bl b] ∧ ∀ z : Int, z = (if b = true then 1 else 0) → Q (.int z) H) := by
  intro pins s σ H vs us Q I r h
  obtain ⟨b, rfl, q⟩ := h
  obtain ⟨u, rfl, ru⟩ := vals1 r
  cases (show u = .bool b from ru)
  exact call_int_bool ⟨.int _, H, I.tok _, ⟨_, rfl⟩, q _ rfl⟩
/-- a method of a tuple that stands in the tracked part -/
def tBMR (r : V → List V → Hp → VK → Prop) (to : TE) (t : TA) : TE := fun σ H Q => to σ H fun x H1 => (∃ p xs, x = .ref p ∧ SqT [] H1 p xs) ∧ t σ H1 fun xs H2 => r x xs H2 Q
theorem rd_of_nil {H : Hp} {p : Addr} {xs : List V} (h : SqT [] H p xs) : Rd H p (.tup xs) := by
  rcases h with h | ⟨o, its, n, hk, _⟩
  · exact h
  · cases hk
theorem pe_bmR {o e : Expr} {es : List Expr} {to : TE} {t : TA} {name : Str} {apos cpos : Pos} {id : String} {r : V → List V → Hp → VK → Prop} (slot : Slot "tuple" name id) (hty : typeOf (.builtin id) = pure (.type "method_descriptor")) (hm : MtR X id r) (ho : PE X o to) (ha : PA X (e :: es) t)
    (hbase : attributeBase o name X.env (eval o X.env) = eval o X.env := by rfl)
    (hfew : ((backTo cpos (starEach (e :: es) X.env)).all (fun x => !x.1) && (backToKw cpos (keywordEach [] X.env)).all (fun x => x.1.isSome) && decide ((e :: es).length + ([] : List Keyword).length + (if ([] : List Keyword).isEmpty then 0 else 1) < 30)) = true := by rfl)
    (hline : (apos.endLine == cpos.line) = true := by rfl) (hs : starEach (e :: es) X.env = (false, eval e X.env) :: starEach es X.env := by rfl) (hplain : (backTo cpos (starEach es X.env)).any (·.1) = false := by rfl) :
    PE X (.Call (.Attribute o name apos) (e :: es) [] cpos) (tBMR r to t) := by
  intro pins s σ H Q I h
  refine wpAny_Call_method_late hbase hfew hline rfl (thn (ho pins s σ H _ I h) fun v s1 ⟨x, H1, I1, r1, ⟨p, xs, ex, hp⟩, q1⟩ => ?_)
  subst ex
  cases r1
  obtain ⟨_, its, _, ob, e1, c1, d1, _⟩ := (show ObjOk X.prog X.w H1 s1.heap p (.tup xs) from (rd_of_nil hp).ok I1.hok)
  refine ⟨"tuple", id, PySem.F.plainAttrs_tuple, slot, hty, ⟨ob, e1, c1⟩, fun a e => (by cases e; exact ⟨ob, e1, d1⟩), ?_⟩
  have hA := ha cpos pins s1 σ H1 _ I1 q1
  rw [hs] at hA ⊢
  refine Calls.callWith_builtin (by show (false || (backTo cpos (starEach es X.env)).any (·.1)) = false; rw [hplain] <;> rfl) (Calls.evalArgs_plain ?_)
  exact thn hA fun us s2 ⟨vs, H2, I2, r2, q2⟩ => hm pins s2 σ H2 (.ref p) vs (.ref p) us Q I2 rfl r2 q2
end
section
variable {K : PySem.W.Frag} {H : Hp}
theorem SqT.up {a : Addr} {xs : List V} (h : SqT [] H a xs) : SqT K H a xs := .inl (rd_of_nil h)
mutual
theorem Den.up : ∀ (d : Dt) {v : V}, Den [] H d v → Den K H d v
  | .int _, _, h => by unfold Den at h ⊢; exact h
  | .tup ds, v, h => by
    unfold Den at h ⊢
    obtain ⟨a, xs, r, hs, hd⟩ := h
    exact ⟨a, xs, r, hs.up, DenL.up ds hd⟩
theorem DenL.up : ∀ (ds : List Dt) {xs : List V}, DenL [] H ds xs → DenL K H ds xs
  | [], _, h => by unfold DenL at h ⊢; exact h
  | d :: ds, _, h => by
    unfold DenL at h ⊢
    obtain ⟨x, r, e1, h1, h2⟩ := h
    exact ⟨x, r, e1, Den.up d h1, DenL.up ds h2⟩
end
end
end L2

/-! ### own text: a lambda: its code object is laid in the table of the def's code object, which is tracked -/
namespace L2
open PySem PySem.Spec PyProof.Rows
section
variable {fs ex : List Addr} {P : Program} {w : World} {H : Hp} {h h' : Heap} {x : Addr} {ps more : Array Value}
theorem Un.grow (e : H x = some (.tbl ps)) (k : ∀ b u, b ≠ x → h.get? b = some u → h'.get? b = some u) (heo : ∃ u, h'.get? x = some u) : Un fs ex H (upd H x (.tbl (ps ++ more))) h h' := by
  have hx : ∀ b, H b = none → b ≠ x := fun b n z => by subst z; rw [n] at e; cases e
  refine ⟨fun b u q n _ _ => k b u (hx b n) q, fun b u q n _ _ => ⟨u.slots, k b u (hx b n) q⟩, fun b u q n _ => by rw [upd_ne (hx b n)]; exact n, fun b u q _ => ?_, fun b xs q => ?_, fun b u xs q => ?_, fun b qs q => ?_⟩
  · by_cases hb : b = x
    · subst hb; exact heo
    · exact ⟨u, k b u hb q⟩
  · rw [upd_ne (fun z => by subst z; rw [q] at e; cases e)]; exact q
  · rw [upd_ne (fun z => by subst z; rw [q] at e; cases e)]; exact q
  · by_cases hb : b = x
    · subst hb; rw [e] at q; cases q; exact ⟨more, upd_same⟩
    · exact ⟨#[], by rw [upd_ne hb, q]; simp⟩
theorem HOk.grow (ok : HOk P w H h) (e : H x = some (.tbl ps)) (k : ∀ b u, b ≠ x → h.get? b = some u → h'.get? b = some u) (new : h'.get? x = some { cls := .none, data := .fields (ps ++ more) }) : HOk P w (upd H x (.tbl (ps ++ more))) h' := fun b u q => by
  by_cases hb : b = x
  · subst hb; rw [upd_same] at q; cases q; exact new
  · rw [upd_ne hb] at q
    refine (ok b u q).stay (fun c v hc r => k c v ?_ r) (fun c r => by rw [upd_ne (fun z => by subst z; rw [r] at e; cases e)]; exact r) fun c xs r => by rw [upd_ne (fun z => by subst z; rw [r] at e; cases e)]; exact r
    rcases hc with rfl | hc
    · exact hb
    · intro z; subst z; rw [hc] at e; cases e
end
section
variable {X : Cx} {pins : List (Addr × Obj)} {σ : St} {H : Hp} {s : Shared} {h' : Heap} {x : Addr} {ps more : Array Value}
theorem Inv.grow {t' : Nat} (I : Inv X pins σ H s) (e : H x = some (.tbl ps)) (k : ∀ b u, b ≠ x → s.heap.get? b = some u → h'.get? b = some u) (new : h'.get? x = some { cls := .none, data := .fields (ps ++ more) }) :
    Inv X pins σ (upd H x (.tbl (ps ++ more))) { s with heap := h', toks := t' } := I.un (Un.grow e k ⟨_, new⟩) (I.hok.grow e k new)
end
/-- a lambda is called -/
theorem lam_call {P : Program} {w : World} {K : PySem.W.Frag} {mg : Str → Option Value} {base : Heap} {A : Around} {outer : List Env} {s : Shared} {H : Hp} {k : Nat} {f : Addr} {o : Obj} {name qual : Str} {params : Arguments} {body : Expr} {scope : Scope} {pm cdv ct : Value}
    {N ps : List Str} {us : List Value} {vs : List V} {Q : VK} {E : XK} (hr : Room (k + 1) A) (e0 : Env0 P w K mg base A outer s H) (ho : s.heap.get? f = some o) (hd : o.data = .func (PySem.W.kla_fn name qual params body scope [] pm cdv ct)) (hcd : s.heap.CodeRec cdv qual)
    (S : FnScope N ps scope) (hl : vs.length = ps.length) (hb : bindArgs (PySem.W.kla_fn name qual params body scope [] pm cdv ct) ⟨us, []⟩ = pure (ps.zip us)) (r : Vals vs us)
    (hbody : ∃ t, PE (cxOf CX0 P w K mg base N qual scope f cdv A outer s H E) body t ∧ t (start N vs) H Q) :
    codeAny (model P w) A (.call (.ref f) ⟨us, []⟩) (CR CX0 outer P w H s Q E) s := by
  have lim : s.heap.NoLimit := e0.mod.nolimit.keeps fun b o e => (e0.bs b o e).1
  have hkind : ∀ y ∈ ps.zip us, scope.names.lookup y.1 = some .local ∨ (scope.names.lookup y.1 = some .cell ∧ ((cellsFrom (s.heap.objs.size + 1) scope.names []).lookup y.1).isSome = true) := fun ⟨n, v⟩ hy => by
    rcases S.par n (List.of_mem_zip hy).1 with q | q
    · exact .inl q
    · exact .inr ⟨q, PySem.W.cellsFrom_some _ _ _ (.inl q)⟩
  refine PySem.W.kla_callFunE hr.depth ho hd S.co S.gen rfl hcd ?_
  rw [hb]
  refine wpAny_pure (wpAny_newFunctionEnv_cells S.kind hkind fun env he s1 x => ?_)
  subst he
  refine ⟨lim.keeps x.toInCall.keep, PySem.W.kla_codeExpr ?_⟩
  obtain ⟨t, ht, hq⟩ := hbody
  have I : Inv (cxOf CX0 P w K mg base N qual scope f cdv A outer s H E) [] (start N vs) H s1 := inv_start S hr.hd e0 hl r x
  refine wpAny_mono (ht [] s1 (start N vs) H _ I hq) (fun u s' hs => ?_) fun e s' hs => hs
  obtain ⟨v, H', J, rv, q⟩ := hs
  exact ⟨v, H', J.os, J.bare, J.base, J.hok, rv, q⟩
section
open PySem.SeqAt PySem.MeetsSeq
open AutoSeq1 (wpAny_loadPart')
/-- two tuples that begin with unlike ints -/
theorem tuple_ltM (x y : Addr) (a b : Int) (ta tb : Tok) (u v : Value) (n n2 : Nat) (dd dd2 : Option Addr) (sl sl2 : Array (Option Value)) (hne : a ≠ b) :
    Meets (Builtin.«tuple.__lt__» ⟨[.ref x, .ref y], []⟩)
      (fun A R s => s.heap.get? x = some { cls := .type "tuple", dict := dd, data := .seq #[.int a ta, u] n, slots := sl } ∧ s.heap.get? y = some { cls := .type "tuple", dict := dd2, data := .seq #[.int b tb, v] n2, slots := sl2 } ∧ R (.ok (.ret (.bool (decide (a < b))))) s) :=
  .of_wp fun prog w A R s h => by
    obtain ⟨hp, g, d, tk, os⟩ := s; obtain ⟨hl, hb, h⟩ := h
    have f2 := AutoSeq1.sub_tuple_tuple
    wp_walk using wpAny_loadPart' hl, wpAny_loadPart' hb, wpAny_forIn_list _ (fun rest q s' => q.1 = none ∧ s' = ⟨hp, g, d, tk, os⟩ ∧ rest = [(Value.int a ta, Value.int b tb), (u, v)]) _
    case turn =>
      rintro ⟨p, q⟩ rest r s' ⟨hr, rfl, hz⟩
      injection hz with hpq hrest
      injection hpq with hp' hq'
      subst hp' hq'
      obtain ⟨e, he, hiff⟩ := HT.eqAt_int A.in1 ⟨hp, g, d, tk, os⟩ a ta b tb
      refine wpAny_bind (he prog w _ _ ?_)
      cases e with
      | true => exact absurd (hiff.mp rfl) hne
      | false =>
        have hri := HT.rcLt_int A.in1 ⟨hp, g, d, tk, os⟩ a ta b tb prog w
        wp_walk using hri
        exact ⟨_, rfl, h⟩
    case fin =>
      rintro q s' ⟨hq, rfl, hz⟩
      cases hz
    case h => exact ⟨rfl, rfl, rfl⟩
end
end L2

/-! ### own text: min(.., key=lambda x: (len(x), x)) of lists of unlike lengths -/
namespace L2
open PySem PySem.Spec PyProof.Rows
/-- what the lambda tells of a list -/
def LamOk (X : Cx) (x qual : Str) (scope : Scope) (body : Expr) : Prop := ∀ (f : Addr) (cdv : Value) (A : Around) (outer : List Env) (s : Shared) (H : Hp) (E : XK) (l : Addr) (ys : List V) (Q : VK), SqL X.K H l ys →
  (∀ p, H p = none → Q (.ref p) (upd H p (.tup [.int ys.length, .ref l]))) → ∃ t, PE (cxOf CX0 X.prog X.w X.K X.mg X.base [x] qual scope f cdv A outer s H E) body t ∧ t (start [x] [.ref l]) H Q
section
variable {X : Cx} {pins : List (Addr × Obj)} {σ : St} {H : Hp} {s : Shared} {x name qual : Str} {params : Arguments} {body : Expr} {scope : Scope} {pm cdv ct : Value} {q l : Addr} {fq : Obj} {ys : List V}
theorem key_call {Q : Value → Shared → Prop} {E : Value → Shared → Prop} (I : Inv X pins σ H s) (hr : Room 1 X.A.in1) (hq : s.heap.get? q = some fq) (hqd : fq.data = .func (PySem.W.kla_fn name qual params body scope [] pm cdv ct)) (hcd : s.heap.CodeRec cdv qual)
    (S : FnScope [x] [x] scope) (hb : ∀ u, bindArgs (PySem.W.kla_fn name qual params body scope [] pm cdv ct) ⟨[u], []⟩ = pure ([x].zip [u])) (L : LamOk X x qual scope body) (hl : SqL X.K H l ys)
    (h : ∀ p s', H p = none → Inv X pins σ (upd H p (.tup [.int ys.length, .ref l])) s' → Un (frs X.stack) [] H (upd H p (.tup [.int ys.length, .ref l])) s.heap s'.heap → Q (.ref p) s') :
    wpAny (model X.prog X.w) X.A.in1 (call (.ref q) [.ref l]) Q E s := by
  refine wpAny_call (codeAny_mono (lam_call (E := E0) (vs := [.ref l]) hr I.env0.in1 hq hqd hcd S rfl (hb _) (.cons rfl .nil) (Q := fun v H' => ∃ p, v = .ref p ∧ H p = none ∧ H' = upd H p (.tup [.int ys.length, .ref l])) (L q cdv X.A.in1 X.stack s H E0 l ys _ hl fun p hp => ⟨p, rfl, hp, rfl⟩)) fun r s' hq => ?_)
  cases r with
  | error e => exact False.elim hq
  | ok fl =>
    cases fl with
    | ret u =>
      obtain ⟨v, H', os, bare, un, hok, rv, p, rfl, hp, rfl⟩ := hq
      cases rv
      exact h p s' hp (I.call' os un hok bare (ch := []) (fun b z => absurd z (by simp))) un
    | next => exact False.elim hq
    | brk => exact False.elim hq
    | cont => exact False.elim hq
/-- an untracked object of the block stays over a call -/
theorem FpOk.over {b p : Addr} {o : Obj} {s' : Shared} {u : HO} (I : Inv X pins σ H s) (f : FpOk X pins H b) (e : s.heap.get? b = some o) (un : Un (frs X.stack) [] H (upd H p u) s.heap s'.heap) : s'.heap.get? b = some o ∧ FpOk X pins (upd H p u) b := by
  refine ⟨un.keep b o e f.1 (fun z => ?_) (by simp), un.free b o e f.1 (by simp), f.2⟩
  rcases List.mem_cons.mp (I.stkSub b z) with e' | e'
  · exact f.2.1 e'
  · exact f.2.2.1 e'
end
section
variable {X : Cx} {pins : List (Addr × Obj)} {σ : St} {H : Hp} {x name qual : Str} {params : Arguments} {body : Expr} {scope : Scope} {pm cdv ct : Value} {q cq l I S : Addr} {fq oc : Obj} {xs : List V} {R : Result → Shared → Prop}
/-- what has been walked -/
structure MinK (X : Cx) (pins : List (Addr × Obj)) (σ : St) (H : Hp) (kf : Nat → Nat) (xs : List V) (l I S q cq : Addr) (fq oc : Obj) (j i : Nat) (Hj : Hp) (sj : Shared) (vb : Value) : Prop where
  inv : Inv X pins σ Hj sj
  same : Same H Hj
  fI : FpOk X pins Hj I
  fS : FpOk X pins Hj S
  fQ : FpOk X pins Hj q
  fc : FpOk X pins Hj cq
  hq : sj.heap.get? q = some fq
  hc : sj.heap.get? cq = some oc
  st : ∃ kt c y, sj.heap.get? S = some (seqObj "list" #[vb, .ref kt] c) ∧ Hj kt = some (.tup [.int (kf i), y])
  it : sj.heap.IsListIter I l (j + 1)
  rel : ∃ y, xs[i]? = some y ∧ RelV y vb
  le : i ≤ j
  best : ∀ j', j' ≤ j → kf i ≤ kf j'
theorem tup_pair {P : Program} {w : World} {H : Hp} {h : Heap} {a : Addr} {n : Int} {y : V} (ok : HOk P w H h) (e : H a = some (.tup [.int n, y])) : ∃ t u k sl, h.get? a = some { cls := .type "tuple", dict := none, data := .seq #[.int n t, u] k, slots := sl } := by
  obtain ⟨_, its, r, ⟨cls, dd, data, sl⟩, e1, c1, d1, k, dt⟩ := (show ObjOk P w H h a (.tup [.int n, y]) from ok a _ e)
  simp only at c1 d1 dt
  subst c1 d1 dt
  cases r with
  | cons r1 r2 =>
    cases r2 with
    | cons r3 r4 =>
      cases r4
      obtain ⟨t, rfl⟩ := r1
      exact ⟨t, _, k, sl, e1⟩
theorem key_lt {A : Around} {P : Program} {w : World} {H : Hp} {s : Shared} {a b : Addr} {n m : Int} {y z : V} {Q : Value → Shared → Prop} {E : Value → Shared → Prop} (ok : HOk P w H s.heap) (e1 : H a = some (.tup [.int n, y])) (e2 : H b = some (.tup [.int m, z])) (hne : n ≠ m) (hu : A.units < cLine)
    (h : Q (.bool (decide (n < m))) s) : wpAny (model P w) A (richCompare .Lt (.ref a) (.ref b)) Q E s := by
  obtain ⟨t1, u1, k1, sl1, o1⟩ := tup_pair ok e1
  obtain ⟨t2, u2, k2, sl2, o2⟩ := tup_pair ok e2
  exact richCompare_meets_room (op := .Lt) ⟨_, o1, rfl⟩ ⟨_, o2, rfl⟩ F.slot_tuple_lt F.entry_tuple_lt (F.args_tuple_lt_2 _ _) (tuple_ltM a b n m t1 t2 u1 u2 k1 k2 none none sl1 sl2 hne) ⟨o1, o2, show Value.bool (decide (n < m)) ≠ Value.notImplemented ∧ Q (.bool (decide (n < m))) s from ⟨(fun x => nomatch x), h⟩⟩ hu
theorem FpOk.ne {b : Addr} {u : HO} {p : Addr} (f : FpOk X pins H b) (e : H p = some u) : b ≠ p := fun z => by rw [z] at f; rw [f.1] at e; cases e
theorem minlam_loop (kf : Nat → Nat) (hh : X.A.handled = none) (hr : Room 2 X.A) (hl : SqL X.K H l xs) (hlI : l ≠ I) (hSI : S ≠ I) (hqI : q ≠ I) (hcI : cq ≠ I) (hqS : q ≠ S) (hcS : cq ≠ S)
    (hqd : fq.data = .func (PySem.W.kla_fn name qual params body scope [] pm cdv ct)) (hcd : ∀ h : Heap, h.get? cq = some oc → h.CodeRec cdv qual) (Sc : FnScope [x] [x] scope) (hb : ∀ u, bindArgs (PySem.W.kla_fn name qual params body scope [] pm cdv ct) ⟨[u], []⟩ = pure ([x].zip [u])) (L : LamOk X x qual scope body)
    (lens : ∀ (i : Nat) (y : V), xs[i]? = some y → ∃ (t : Addr) (ys : List V), y = .ref t ∧ SqL X.K H t ys ∧ ys.length = kf i) (unl : ∀ i j, i < xs.length → j < xs.length → i ≠ j → kf i ≠ kf j)
    (hR : ∀ (i : Nat) (y : V) (vb : Value) (Hj : Hp) (sj : Shared), xs[i]? = some y → RelV y vb → (∀ j, j < xs.length → kf i ≤ kf j) → Inv X pins σ Hj sj → Same H Hj → R (.ok (.ret vb)) sj) :
    ∀ (r j i : Nat) (Hj : Hp) (sj : Shared) (vb : Value), xs.length - (j + 1) = r → j + 1 ≤ xs.length → MinK X pins σ H kf xs l I S q cq fq oc j i Hj sj vb →
      codeAny (model X.prog X.w) X.A (.builtin "min.loop" ⟨[.ref I, .ref q, .ref S], []⟩) R sj := by
  have nm : (toString "min" ++ toString ".loop" : String) = "min.loop" := by decide
  intro r
  induction r with
  | zero =>
    intro j i Hj sj vb hrj hj M
    obtain ⟨kt, c, yk, gS, ek⟩ := M.st
    obtain ⟨its, rv, pl, hz⟩ := M.inv.list (M.same.seq hl)
    have W := Walks.list (prog := X.prog) (w := X.w) (A := X.A.in1) hh I l hlI its.toArray
    have sz : its.toArray.size = xs.length := by rw [List.size_toArray]; exact rv.length.symm
    refine codeAny_builtin PySem.F.entry_min_loop ?_ ; rw [Around.under_plainId PySem.F.plain_min_loop _]
    show wpAny _ X.A.in1 (seqItems? (.ref S) >>= _) _ _ _ ; refine wpAny_bind (wpAny_seqItems gS rfl ?_)
    show wpAny _ X.A.in1 (tryCatch (pyNext (.ref I)) _ >>= _) _ _ _
    refine wpAny_bind (wpAny_tryCatch (W.done _ _ _ ⟨by rw [sz, show xs.length = j + 1 by omega]; exact M.it, pl.isList⟩ fun h' tk' hk' => ?_))
    have gS' := hk' S _ (by simpa using hSI) gS
    show wpAny _ X.A.in1 (updateSeq S (fun _ => #[]) >>= _) _ _ _ ; refine wpAny_bind (wpAny_updateSeq gS' rfl (wpAny_bind (wpAny_letGo (wpAny_pure ?_))))
    obtain ⟨y, hy, ry⟩ := M.rel
    refine hR i y vb Hj _ hy ry (fun j' hj' => M.best j' (by omega)) (Inv.turnedL (s := sj) (t' := tk') [I, S] M.inv (fun b o hb e => ?_) (fun b hb => ?_)) M.same
    · exact ((Heap.SameBut.update h' S _).2 b (fun z => hb (by simp [z]))).trans (hk' b o (fun z => hb (by simp at z; simp [z])) e)
    · rcases List.mem_cons.mp hb with rfl | hb
      · exact M.fI
      · rw [List.mem_singleton.mp hb]; exact M.fS
  | succ r ih =>
    intro j i Hj sj vb hrj hj M
    obtain ⟨kt, c, yk, gS, ek⟩ := M.st
    obtain ⟨its, rv, pl, hz⟩ := M.inv.list (M.same.seq hl)
    have W := Walks.list (prog := X.prog) (w := X.w) (A := X.A.in1) hh I l hlI its.toArray
    have sz : its.toArray.size = xs.length := by rw [List.size_toArray]; exact rv.length.symm
    refine codeAny_builtin PySem.F.entry_min_loop ?_ ; rw [Around.under_plainId PySem.F.plain_min_loop _]
    show wpAny _ X.A.in1 (seqItems? (.ref S) >>= _) _ _ _ ; refine wpAny_bind (wpAny_seqItems gS rfl ?_)
    show wpAny _ X.A.in1 (tryCatch (pyNext (.ref I)) _ >>= _) _ _ _
    refine wpAny_bind (wpAny_tryCatch (W.item (j + 1) _ _ _ (by rw [sz]; omega) ⟨M.it, pl.isList⟩ fun v h' tk' hP hst' hk' => ?_))
    have hjx : j + 1 < xs.length := by omega
    have hv : its[j + 1]? = some v := by simpa using hP
    obtain ⟨u, hu, ru⟩ := rv.get (i := j + 1) (x := xs[j + 1]) (List.getElem?_eq_getElem hjx)
    rw [hv] at hu
    cases hu
    obtain ⟨t, ys, ey, hS, hn⟩ := lens (j + 1) xs[j + 1] (List.getElem?_eq_getElem hjx)
    have ru' := ru
    rw [ey] at ru'
    cases ru'
    have I1 : Inv X pins σ Hj { sj with heap := h', toks := tk' } := M.inv.turnedL (t' := tk') [I] hk' (fun b hb => by rw [List.mem_singleton.mp hb]; exact M.fI)
    have gS' := hk' S _ (by simpa using hSI) gS
    have gq' := hk' q _ (by simpa using hqI) M.hq
    have gc' := hk' cq _ (by simpa using hcI) M.hc
    obtain ⟨oI, gI', hoc, hod⟩ := id hst'.1
    show wpAny _ X.A.in1 (tryCatch (holding [.ref t] (call (.ref q) [.ref t])) _ >>= _) _ _ _
    refine wpAny_bind (wpAny_tryCatch (wpAny_holding (key_call I1 hr.in1 gq' hqd (hcd _ gc') Sc hb L (M.same.seq hS) fun p s2 hp I2 un => ?_)))
    obtain ⟨gS2, fS2⟩ := FpOk.over I1 M.fS gS' un
    obtain ⟨gq2, fq2⟩ := FpOk.over I1 M.fQ gq' un
    obtain ⟨gc2, fc2⟩ := FpOk.over I1 M.fc gc' un
    obtain ⟨gI2, fI2⟩ := FpOk.over I1 M.fI gI' un
    have same2 : Same H (upd Hj p (.tup [.int ys.length, .ref t])) := M.same.trans (same_new hp _)
    have ep : upd Hj p (.tup [.int ys.length, .ref t]) p = some (.tup [.int (kf (j + 1)), .ref t]) := by rw [← hn]; exact upd_same
    have ek2 : upd Hj p (.tup [.int ys.length, .ref t]) kt = some (.tup [.int (kf i), yk]) := same_new hp _ _ _ ek
    have hil : i < xs.length := by have := M.le; omega
    have hne : ((kf (j + 1) : Nat) : Int) ≠ ((kf i : Nat) : Int) := fun z => unl (j + 1) i hjx hil (by have := M.le; omega) (by omega)
    show wpAny _ X.A.in1 (tryCatch (holding [.ref t, .ref p] (richCompare .Lt (.ref p) (.ref kt) >>= _)) _ >>= _) _ _ _
    refine wpAny_bind (wpAny_tryCatch (wpAny_holding (wpAny_bind (key_lt I2.hok ep ek2 hne (by have := hr.units0; have e : X.A.in1.units = X.A.units + 1 := rfl; have := hr.units; omega) ?_))))
    refine wpAny_bind (wpAny_holding (wpAny_truthy_bool (wpAny_bind (wpAny_letGo (wpAny_pure ?_)))))
    by_cases c1 : ((kf (j + 1) : Nat) : Int) < ((kf i : Nat) : Int)
    · simp only [c1, decide_true, if_true]
      refine wpAny_bind (wpAny_updateSeq gS2 rfl (wpAny_bind (wpAny_letGo ?_)))
      rw [nm]
      have I3 : Inv X pins σ (upd Hj p (.tup [.int ys.length, .ref t])) { s2 with heap := s2.heap.update S (Obj.mapSeq fun _ => #[Value.ref t, Value.ref p]) } := I2.turnedL (t' := s2.toks) [S] (fun b o hb e => ((Heap.SameBut.update s2.heap S _).2 b (fun z => hb (by simp [z]))).trans e) (fun b hb => by rw [List.mem_singleton.mp hb]; exact fS2)
      refine wpAny_pure ⟨plainId_quiet PySem.F.plain_min_loop _, ih (j + 1) (j + 1) _ _ (.ref t) (by omega) (by omega) ⟨I3, same2, fI2, fS2, fq2, fc2, ((Heap.SameBut.update s2.heap S _).2 q hqS).trans gq2, ((Heap.SameBut.update s2.heap S _).2 cq hcS).trans gc2, ⟨p, _, _, get?_update_seq gS2 _, ep⟩, ⟨oI, ((Heap.SameBut.update s2.heap S _).2 I (Ne.symm hSI)).trans gI2, hoc, hod⟩, ⟨xs[j + 1], List.getElem?_eq_getElem hjx, ru⟩, Nat.le_refl _, fun j' hj' => ?_⟩⟩
      by_cases e : j' = j + 1
      · rw [e]; exact Nat.le_refl _
      · have := M.best j' (by omega)
        omega
    · simp only [c1, decide_false, Bool.false_eq_true, if_false]
      refine wpAny_bind (wpAny_letGo ?_)
      rw [nm]
      refine wpAny_pure ⟨plainId_quiet PySem.F.plain_min_loop _, ih (j + 1) i _ _ vb (by omega) (by omega) ⟨I2, same2, fI2, fS2, fq2, fc2, gq2, gc2, ⟨kt, _, _, gS2, ek2⟩, ⟨oI, gI2, hoc, hod⟩, M.rel, Nat.le_succ_of_le M.le, fun j' hj' => ?_⟩⟩
      by_cases e : j' = j + 1
      · rw [e]; omega
      · exact M.best j' (by omega)
end
end L2

/-! ### own text: min with a lambda as key: the call, the rule -/
namespace L2
open PySem PySem.Spec PyProof.Rows
section
variable {X : Cx} {pins : List (Addr × Obj)} {σ : St} {H : Hp} {s : Shared} {x name qual : Str} {params : Arguments} {body : Expr} {scope : Scope} {pm cdv ct : Value} {q cq l : Addr} {fq oc : Obj} {xs : List V}
theorem minlam_call {Q : Value → Shared → Prop} {E : Value → Shared → Prop} (kf : Nat → Nat) (I0 : Inv X pins σ H s) (hc : X.calm = true) (hr : Room 2 X.A) (hl : SqL X.K H l xs) (hpos : 0 < xs.length) (fQ : FpOk X pins H q) (fc : FpOk X pins H cq) (hq : s.heap.get? q = some fq) (hcq : s.heap.get? cq = some oc)
    (hqd : fq.data = .func (PySem.W.kla_fn name qual params body scope [] pm cdv ct)) (hcd : ∀ h : Heap, h.get? cq = some oc → h.CodeRec cdv qual) (Sc : FnScope [x] [x] scope) (hb : ∀ u, bindArgs (PySem.W.kla_fn name qual params body scope [] pm cdv ct) ⟨[u], []⟩ = pure ([x].zip [u])) (L : LamOk X x qual scope body)
    (lens : ∀ (i : Nat) (y : V), xs[i]? = some y → ∃ (t : Addr) (ys : List V), y = .ref t ∧ SqL X.K H t ys ∧ ys.length = kf i) (unl : ∀ i j, i < xs.length → j < xs.length → i ≠ j → kf i ≠ kf j)
    (hQ : ∀ (i : Nat) (y : V) (vb : Value) (Hj : Hp) (sj : Shared), xs[i]? = some y → RelV y vb → (∀ j, j < xs.length → kf i ≤ kf j) → Inv X pins σ Hj sj → Same H Hj → Q vb sj) :
    wpAny (model X.prog X.w) X.A (call (.builtin "min") [.ref l] [(Str.ofString "key", .ref q)]) Q E s := by
  have nm : (toString "min" ++ toString ".loop" : String) = "min.loop" := by decide
  have hh : X.A.handled = none := I0.ok.hd hc
  obtain ⟨its, rv, pl, hz⟩ := I0.list hl
  obtain ⟨ol, hol, _⟩ := id pl.isList
  have hll : l < s.heap.objs.size := Heap.lt_size hol
  have hql : q < s.heap.objs.size := Heap.lt_size hq
  have hcl : cq < s.heap.objs.size := Heap.lt_size hcq
  refine kmk_tree PySem.F.kind_min PySem.F.plain_min PySem.F.entry_min (kmk_min_key _ _) ?_
  show wpAny _ X.A.in1 (Builtin.Builtins.bindParams "min" ["key", "default"] 0 ⟨[], [(Str.ofString "key", .ref q)]⟩ >>= _) _ _ s
  refine wpAny_bind (wpAny_of_eq (show Builtin.Builtins.bindParams "min" ["key", "default"] 0 ⟨[], [(Str.ofString "key", .ref q)]⟩ = pure [some (.ref q), none] from rfl) ?_)
  refine wpAny_bind (wpAny_pure (wpAny_bind (wpAny_pyIter_list pl.isList (wpAny_bind (wpAny_newList ?_ (Nat.zero_le _))))))
  rw [nm]
  generalize hH1 : s.heap.push { cls := .type "list_iterator", data := .fields #[.ref l, .int 0 0] } = H1
  have z1 : H1.objs.size = s.heap.objs.size + 1 := by rw [← hH1]; exact size_push' ..
  have g1 : H1.get? s.heap.objs.size = some { cls := .type "list_iterator", data := .fields #[.ref l, .int 0 0] } := by rw [← hH1]; exact Heap.get?_push_size _ rfl
  have k1 : ∀ b o, s.heap.get? b = some o → H1.get? b = some o := fun b o e => by rw [← hH1]; exact Heap.get?_push_of_some _ e
  have hlI : l ≠ s.heap.objs.size := Nat.ne_of_lt hll
  have hSI : H1.objs.size ≠ s.heap.objs.size := by omega
  refine wpAny_pure ⟨plainId_quiet PySem.F.plain_min_loop _, ?_⟩
  show codeAny (model X.prog X.w) X.A (.builtin "min.loop" ⟨[.ref s.heap.objs.size, .ref q, .ref H1.objs.size], []⟩) _ _
  generalize hH2 : H1.push (seqObj "list" #[] 0) = H2
  have g2 : H2.get? H1.objs.size = some (seqObj "list" #[] 0) := by rw [← hH2]; exact Heap.get?_push_size _ rfl
  have k2 : ∀ b o, H1.get? b = some o → H2.get? b = some o := fun b o e => by rw [← hH2]; exact Heap.get?_push_of_some _ e
  have k02 : ∀ b o, s.heap.get? b = some o → H2.get? b = some o := fun b o e => k2 b o (k1 b o e)
  have fI : FpOk X pins H s.heap.objs.size := I0.fpOk (Nat.le_refl _) (I0.hok.fresh (Nat.le_refl _))
  have fS : FpOk X pins H H1.objs.size := I0.fpOk (by omega) (I0.hok.fresh (by omega))
  have W := Walks.list (prog := X.prog) (w := X.w) (A := X.A.in1) hh s.heap.objs.size l hlI its.toArray
  have sz : its.toArray.size = xs.length := by rw [List.size_toArray]; exact rv.length.symm
  refine codeAny_builtin PySem.F.entry_min_loop ?_ ; rw [Around.under_plainId PySem.F.plain_min_loop _]
  show wpAny _ X.A.in1 (seqItems? (.ref H1.objs.size) >>= _) _ _ { s with heap := H2, toks := _ } ; refine wpAny_bind (wpAny_seqItems g2 rfl ?_)
  show wpAny _ X.A.in1 (tryCatch (pyNext (.ref s.heap.objs.size)) _ >>= _) _ _ _
  refine wpAny_bind (wpAny_tryCatch (W.item 0 _ _ _ (by rw [sz]; exact hpos) ⟨⟨_, k2 _ _ g1, rfl, rfl⟩, Heap.IsList.at pl.isList fun o e => k02 _ o e⟩ fun v h' tk' hP hst' hk' => ?_))
  have hv : its[0]? = some v := by simpa using hP
  obtain ⟨u, hu, ru⟩ := rv.get (i := 0) (x := xs[0]) (List.getElem?_eq_getElem hpos)
  rw [hv] at hu
  cases hu
  obtain ⟨t, ys, ey, hS, hn⟩ := lens 0 xs[0] (List.getElem?_eq_getElem hpos)
  have ru' := ru
  rw [ey] at ru'
  cases ru'
  have k3 : ∀ b o, b ∉ [s.heap.objs.size] → s.heap.get? b = some o → h'.get? b = some o := fun b o hb e => hk' b o hb (k02 b o e)
  have I1 : Inv X pins σ H { s with heap := h', toks := tk' } := I0.turnedL (t' := tk') [s.heap.objs.size] k3 (fun b hb => by rw [List.mem_singleton.mp hb]; exact fI)
  have gS' := hk' H1.objs.size _ (by simpa using hSI) g2
  have gq' := k3 q _ (by simpa using Nat.ne_of_lt hql) hq
  have gc' := k3 cq _ (by simpa using Nat.ne_of_lt hcl) hcq
  obtain ⟨oI, gI', hoc, hod⟩ := id hst'.1
  show wpAny _ X.A.in1 (tryCatch (holding [.ref t] (call (.ref q) [.ref t])) _ >>= _) _ _ _
  refine wpAny_bind (wpAny_tryCatch (wpAny_holding (key_call I1 hr.in1 gq' hqd (hcd _ gc') Sc hb L hS fun p s2 hp I2 un => ?_)))
  obtain ⟨gS2, fS2⟩ := FpOk.over I1 fS gS' un
  obtain ⟨gq2, fq2⟩ := FpOk.over I1 fQ gq' un
  obtain ⟨gc2, fc2⟩ := FpOk.over I1 fc gc' un
  obtain ⟨gI2, fI2⟩ := FpOk.over I1 fI gI' un
  have ep : upd H p (.tup [.int ys.length, .ref t]) p = some (.tup [.int (kf 0), .ref t]) := by rw [← hn]; exact upd_same
  refine wpAny_bind (wpAny_updateSeq gS2 rfl ?_)
  rw [nm]
  have I3 : Inv X pins σ (upd H p (.tup [.int ys.length, .ref t])) { s2 with heap := s2.heap.update H1.objs.size (Obj.mapSeq fun _ => #[Value.ref t, Value.ref p]) } := I2.turnedL (t' := s2.toks) [H1.objs.size] (fun b o hb e => ((Heap.SameBut.update s2.heap H1.objs.size _).2 b (fun z => hb (by simp [z]))).trans e) (fun b hb => by rw [List.mem_singleton.mp hb]; exact fS2)
  have hqS : q ≠ H1.objs.size := Nat.ne_of_lt (by rw [z1]; exact Nat.lt_succ_of_lt hql)
  have hcS : cq ≠ H1.objs.size := Nat.ne_of_lt (by rw [z1]; exact Nat.lt_succ_of_lt hcl)
  refine wpAny_pure ⟨plainId_quiet PySem.F.plain_min_loop _, minlam_loop kf hh hr hl hlI hSI (Nat.ne_of_lt hql) (Nat.ne_of_lt hcl) hqS hcS hqd hcd Sc hb L lens unl (fun i y vb Hj sj a1 a2 a3 a4 a5 => hQ i y vb Hj sj a1 a2 a3 a4 a5) _ 0 0 _ _ (.ref t) rfl hpos
    ⟨I3, same_new hp _, fI2, fS2, fq2, fc2, ((Heap.SameBut.update s2.heap H1.objs.size _).2 q hqS).trans gq2, ((Heap.SameBut.update s2.heap H1.objs.size _).2 cq hcS).trans gc2, ⟨p, _, _, get?_update_seq gS2 _, ep⟩, ⟨oI, ((Heap.SameBut.update s2.heap H1.objs.size _).2 _ (Ne.symm hSI)).trans gI2, hoc, hod⟩, ⟨xs[0], List.getElem?_eq_getElem hpos, ru⟩, Nat.le_refl _, fun j' hj' => ?_⟩⟩
  have e : j' = 0 := by omega
  rw [e]; exact Nat.le_refl _
end
section
variable {X : Cx}
def tMinLam (K : PySem.W.Frag) (tb : Addr) (te : TE) : TE := fun σ H Q => te σ H fun x H1 => ∃ (l : Addr) (xs : List V) (kf : Nat → Nat), x = .ref l ∧ SqL K H1 l xs ∧ 0 < xs.length ∧ H1 tb = some (.tbl #[]) ∧
  (∀ (i : Nat) (y : V), xs[i]? = some y → ∃ (t : Addr) (ys : List V), y = .ref t ∧ SqL K H1 t ys ∧ ys.length = kf i) ∧ (∀ i j, i < xs.length → j < xs.length → i ≠ j → kf i ≠ kf j) ∧
  ∀ (i : Nat) (y : V) (more : Array Value) (H' : Hp), xs[i]? = some y → (∀ j, j < xs.length → kf i ≤ kf j) → Same (upd H1 tb (.tbl more)) H' → Q y H'
theorem sqL_upd {K : PySem.W.Frag} {H : Hp} {tb a : Addr} {ps more : Array Value} {xs : List V} (e : H tb = some (.tbl ps)) (h : SqL K H a xs) : SqL K (upd H tb (.tbl more)) a xs := by
  rcases h with (h | ⟨o, h⟩) | h
  · exact .inl (.inl (by rw [upd_ne (fun z => by rw [z, e] at h; cases h)]; exact h))
  · exact .inl (.inr ⟨o, by rw [upd_ne (fun z => by rw [z, e] at h; cases h)]; exact h⟩)
  · exact .inr h
theorem pe_minlam {e : Expr} {te : TE} {p kp lp pos : Pos} {params : Arguments} {body : Expr} {scope : Scope} (x : Str) (K : PySem.W.Frag) (tb c : Addr) (he : PE X e te) (hg : Gl X "min") (hm : X.mg "min" = none) (hcode : X.env.code = .ref c) (hhd : PySem.W.codeHdIn X.K c tb = true) (hB : X.base.BuiltinsAt X.mg tb)
    (hr : Room 2 X.A) (L : LamOk X x (X.env.qual ++ "<lambda>") scope body) (hcl : closureFor scope X.env = pure [] := by rfl) (hdef : defaultsOf params X.env = ([], []) := by rfl) (Sc : FnScope [x] [x] scope := by exact ⟨rfl, rfl, rfl, by decide +kernel, rfl, by decide +kernel, by decide +kernel⟩)
    (hb : ∀ pm cdv ct u, bindArgs (PySem.W.kla_fn "<lambda>" (X.env.qual ++ "<lambda>") params body scope [] pm cdv ct) ⟨[u], []⟩ = pure ([x].zip [u]) := by intro _ _ _ _; rfl) (hc : X.calm = true := by rfl) (hK : X.K = K := by rfl)
    (hs : starEach [e] X.env = [(false, eval e X.env)] := by rfl) (hk : keywordEach [⟨some "key", .Lambda params body scope lp, kp⟩] X.env = [(some ("key" : Str), eval (.Lambda params body scope lp) X.env)] := by rfl) :
    PE X (.Call (.Name "min" p) [e] [⟨some "key", .Lambda params body scope lp, kp⟩] pos) (tMinLam K tb te) := by
  subst hK
  intro pins s σ H Q I h
  refine wpAny_Call_Name_kw (ld_blt I hg hm PyProof.Rows.boot_min ?_)
  refine PyProof.Rows.callWith_kw ?_ (by rw [hs]; rfl) (by rw [hs]; rfl) (by rw [hk]; rfl) (by rw [hk]; rfl)
  refine thn (pa_cons he pa_nil (by rw [hs]; rfl) pos pins s σ H (fun vs H1 => match vs with
    | [x] => ∃ (l : Addr) (xs : List V) (kf : Nat → Nat), x = .ref l ∧ SqL X.K H1 l xs ∧ 0 < xs.length ∧ H1 tb = some (.tbl #[]) ∧
      (∀ (i : Nat) (y : V), xs[i]? = some y → ∃ (t : Addr) (ys : List V), y = .ref t ∧ SqL X.K H1 t ys ∧ ys.length = kf i) ∧ (∀ i j, i < xs.length → j < xs.length → i ≠ j → kf i ≠ kf j) ∧
      ∀ (i : Nat) (y : V) (more : Array Value) (H' : Hp), xs[i]? = some y → (∀ j, j < xs.length → kf i ≤ kf j) → Same (upd H1 tb (.tbl more)) H' → Q y H'
    | _ => False) I h) fun us s1 ⟨vs, H1, I1, r1, q1⟩ => ?_
  match vs, q1 with
  | [x'], q1 =>
  obtain ⟨u, rfl, ru⟩ := vals1 r1
  obtain ⟨l, xs, kf, rfl, hS, hpos, ht, lens, unl, q⟩ := q1
  cases ru
  rw [hk]
  show wpAny _ _ (evalAll [do let v ← eval (.Lambda params body scope lp) X.env; standAt pos; pure v]) _ _ s1
  have hP : s1.heap.get? tb = some (PySem.W.tabObj #[]) := I1.hok tb _ ht
  have hgP : mainGlobals ≠ tb := fun z => by
    obtain ⟨o, es, ep, e, hd, _⟩ := I1.mod.glob.keeps I1.bk
    rw [z, hP] at e
    cases e
    cases hd
  refine wpAny_evalAll_cons (wpAny_bind (PySem.W.kla_eval hdef (PySem.W.kla_makeFunction (mg := X.mg) hcl I1.ok.glob (I1.mod.glob.keeps I1.bk) hcode (PySem.W.codeHd_of_K I1.kIn hhd) hP trivial rfl hgP (hB.keeps I1.bk) fun c' ctv h' tk hx hge hlt hrec htb => wpAny_bind (wpAny_standAt (wpAny_pure (wpAny_evalAll_nil ?_))))))
  obtain ⟨c2, oc, cvs, ctk, ec2, hoc, hcdt, hcv⟩ := hrec
  cases ec2
  generalize hfo : PySem.W.kla_obj "<lambda>" (X.env.qual ++ "<lambda>") params body scope [] ((X.mg "__name__").getD .none) c' ctv = fo
  have htl : tb < s1.heap.objs.size := Heap.lt_size hP
  have I2 : Inv X pins σ (upd H1 tb (.tbl (#[] ++ #[rawInt lp.line, rawInt lp.col, .ref c']))) { s1 with heap := h'.push fo, toks := tk } := I1.grow ht (fun b o hb e => Heap.get?_push_of_some _ (hx b o hb e)) (Heap.get?_push_of_some _ htb)
  have fr : ∀ b, s1.heap.objs.size ≤ b → FpOk X pins (upd H1 tb (.tbl (#[] ++ #[rawInt lp.line, rawInt lp.col, .ref c']))) b := fun b hb => I1.fpOk hb (by rw [upd_ne (Nat.ne_of_gt (Nat.lt_of_lt_of_le htl hb))]; exact I1.hok.fresh hb)
  refine minlam_call (s := { s1 with heap := h'.push fo, toks := tk }) (fq := fo) (oc := oc) (q := h'.objs.size) (cq := c') (pm := (X.mg "__name__").getD .none) (cdv := .ref c') (ct := ctv) kf I2 hc hr (sqL_upd ht hS) hpos (fr _ (by omega)) (fr _ hge) (Heap.get?_push_size _ (by subst hfo; rfl)) (Heap.get?_push_of_some _ hoc) (by subst hfo; rfl) (fun h e => ⟨c', oc, cvs, ctk, rfl, e, hcdt, hcv⟩) Sc (hb _ _ _) L
    (fun i y hy => by obtain ⟨t, ys, e1, e2, e3⟩ := lens i y hy; exact ⟨t, ys, e1, sqL_upd ht e2, e3⟩) unl fun i y vb Hj sj hy ry hle Ij hsame => ⟨y, Hj, Ij, ry, q i y _ Hj hy hle hsame⟩
end
end L2

/-! ### own text: the head of a law whose def makes a lambda: the table of its code object is tracked -/
namespace L2
open PySem PySem.Spec PyProof.Rows
theorem law_callT {P : Program} {w : World} {K : PySem.W.Frag} {mg mb : Str → Option Value} {CX : CXT} {k : Nat} {fa a tb : Addr} {fd : FuncData} {x : Str} {sp : Sp} {s₁ : Shared} {vs : List Value} {ns : List Int}
    (KX : K.In s₁.heap) (hns : s₁.heap.Ns mainGlobals mg) (hb : s₁.heap.Ns builtinsNs mb) (hbb : ∀ x : Str, x ≠ "__name__" → mb x = bootBuiltins x) (hlim : s₁.heap.NoLimit) (hg : s₁.gens = #[])
    (ha : s₁.heap.get? a = some { cls := .type "list", data := .seq vs.toArray }) (hi : IntsAre vs ns) (hl : ns.length ≤ sizeLine) (hr : Room k callerA) (hP : s₁.heap.get? tb = some (PySem.W.tabObj #[])) (hPK : K.lookup tb = none) (htab : isCodeTable s₁.heap tb) (hB : s₁.heap.BuiltinsAt mg tb)
    (F : ∀ base : Heap, K.In base → base.Ns mainGlobals mg → base.BuiltinsAt mg tb → FnOk P w K mg base CX k fa fd [x] sp) (hbind : ∀ (s : Shared) (u : Value), BindsTo s fd ⟨[u], []⟩ [(x, u)])
    (hsp : ∀ H : Hp, H tb = some (.tbl #[]) → SqL K H a (ns.map V.int) → sp [.ref a] H (fun v _ => v = .bl true) fun _ _ _ => False)
    (hCX : ∀ H e s', CX [] H s₁ (fun _ _ _ => False) e s' → False) :
    codeAny (model P w) callerA (.call (.ref fa) ⟨[.ref a], []⟩) (fun r s' => r = .ok (.ret (.bool true)) ∧ OldK s₁.heap s'.heap ∧ s'.os = s₁.os ∧ AllBare s'.gens) s₁ := by
  have rv := vals_ints hi
  have lenV := hi.length
  have hat : a ≠ tb := fun z => by rw [z, hP] at ha; cases ha
  have core : ∀ H : Hp, (∀ b, H b = none ∨ (∃ o xs, H b = some (.frz o (.lst xs))) ∨ b = tb) → H tb = some (.tbl #[]) → SqL K H a (ns.map V.int) → HOk P w H s₁.heap → (∀ b, H b ≠ none → b = a ∨ b = tb) → (H a ≠ none → K.lookup a = none) →
      codeAny (model P w) callerA (.call (.ref fa) ⟨[.ref a], []⟩) (fun r s' => r = .ok (.ret (.bool true)) ∧ OldK s₁.heap s'.heap ∧ s'.os = s₁.os ∧ AllBare s'.gens) s₁ := by
    intro H hO hT hS hok hA hK
    have base_of : ∀ {b : Addr} {o : Obj}, s₁.heap.get? b = some o → H b = none → (hidT s₁.heap H).get? b = some o := fun e n => hidT_get e n
    -- what is neither a list nor a table is not tracked
    have free : ∀ {b : Addr} {o : Obj}, s₁.heap.get? b = some o → (∀ xs n, o.data ≠ .seq xs n) → (∀ xs, o.data ≠ .fields xs) → H b = none := fun {b o} e d1 d2 => by
      cases z : H b with
      | none => rfl
      | some u =>
        rcases hA b (by rw [z]; simp) with e' | e'
        · subst e'; rw [ha] at e; cases e; exact absurd rfl (d1 _ _)
        · subst e'; rw [hP] at e; cases e; exact absurd rfl (d2 _)
    have nsK : ∀ {b : Addr} {m : Str → Option Value}, s₁.heap.Ns b m → (hidT s₁.heap H).Ns b m := fun {b m} ⟨o, es, ep, e, d, r⟩ => ⟨o, es, ep, base_of e (free e (fun xs n z => by rw [d] at z; cases z) (fun xs z => by rw [d] at z; cases z)), d, r⟩
    have hKb : K.In (hidT s₁.heap H) := fun b o e => base_of (KX b o e) (by
      cases z : H b with
      | none => rfl
      | some u =>
        rcases hA b (by rw [z]; simp) with e' | e'
        · subst e'; rw [hK (by rw [z]; simp)] at e; cases e
        · subst e'; rw [hPK] at e; cases e)
    have hBb : (hidT s₁.heap H).BuiltinsAt mg tb := by
      obtain ⟨bm, o, b1, b2, b3, b4, b5, b6, b7, b8⟩ := hB
      exact ⟨bm, o, b1, b2, b3, b4, base_of b5 (free b5 (fun xs n z => by rw [b8] at z; cases z) (fun xs z => by rw [b8] at z; cases z)), b6, b7, b8⟩
    have hM : Mod K mg (hidT s₁.heap H) := ⟨hKb, nsK hns, ⟨mb, nsK hb, hbb⟩, let ⟨mc, h1, h2⟩ := hlim; ⟨mc, nsK h1, h2⟩⟩
    have e0 : Env0 P w K mg (hidT s₁.heap H) callerA [] s₁ H := ⟨rfl, hM, fun b o e => of_hidT e, Nat.le_of_eq (hidT_size _ _), trivial, fun b hb => absurd (show b ∈ ([] : List Addr) from hb) (by simp), hok, .of_eq hg⟩
    refine codeAny_mono ((F _ hKb (nsK hns) hBb).run callerA [] s₁ H ⟨[.ref a], []⟩ [.ref a] [.ref a] _ _ hr e0 (hbind s₁ (.ref a)) (.cons rfl .nil) (hsp H hT hS)) fun r s' h => ?_
    cases r with
    | error e => exact (hCX H e s' h).elim
    | ok fl =>
      cases fl with
      | next => exact False.elim h
      | brk => exact False.elim h
      | cont => exact False.elim h
      | ret u =>
        obtain ⟨v, H', os, bare, un, hok', r', q⟩ := h
        have q' : v = .bl true := q
        subst q'
        obtain rfl : u = Value.bool true := r'
        obtain ⟨more, hm⟩ := un.tbls tb #[] hT
        have tbl' : s'.heap.get? tb = some { cls := .none, data := .fields (#[] ++ more) } := hok' tb _ hm
        have main : ∀ b o, s₁.heap.get? b = some o → b ≠ tb → s'.heap.get? b = some o := fun b o e hb => by
          cases z : H b with
          | none => exact un.keep b o e z (by intro y; exact absurd (show b ∈ ([] : List Addr) from y) (by simp)) (by simp)
          | some u =>
            rcases hO b with y | ⟨ob, xs, y⟩ | y
            · rw [z] at y; cases y
            · have z2 := un.frzs b ob _ y
              obtain ⟨e1, _⟩ := hok b _ y
              obtain ⟨e2, _⟩ := hok' b _ z2
              rw [e] at e1; cases e1
              exact e2
            · exact absurd y hb
        refine ⟨rfl, ⟨fun b o e => ?_, fun b o e => ?_⟩, os, bare⟩
        · by_cases hb : b = tb
          · subst hb
            rw [hP] at e
            cases e
            exact .inr (.inl ⟨htab, rfl, #[], more, rfl, tbl'⟩)
          · exact .inl (main b o e hb)
        · by_cases hb : b = tb
          · subst hb; exact ⟨_, tbl'⟩
          · exact ⟨o, main b o e hb⟩
  cases hk : K.lookup a with
  | some o =>
    have e := KX a o hk
    rw [ha] at e
    cases e
    refine core (fun b => if b = tb then some (.tbl #[]) else none) (fun b => ?_) (if_pos rfl) (.inr ⟨_, vs.toArray, _, hk, rfl, rfl, rfl, by rw [List.size_toArray, lenV]; exact hl, by simpa using rv⟩) (fun b u z => ?_) (fun b z => ?_) fun z => absurd (if_neg hat) z
    · by_cases hb : b = tb
      · exact .inr (.inr hb)
      · exact .inl (if_neg hb)
    · by_cases hb : b = tb
      · have z' := (if_pos hb).symm.trans z
        cases z'
        subst hb
        exact hP
      · have z' := (if_neg hb).symm.trans z
        cases z'
    · by_cases hb : b = tb
      · exact .inr hb
      · exact absurd (if_neg hb) z
  | none =>
    have ea : (if a = tb then some (HO.tbl #[]) else if a = a then some (.frz { cls := .type "list", data := .seq vs.toArray } (.lst (ns.map V.int))) else none) = some (.frz { cls := .type "list", data := .seq vs.toArray } (.lst (ns.map V.int))) := by rw [if_neg hat, if_pos rfl]
    refine core (fun b => if b = tb then some (.tbl #[]) else if b = a then some (.frz { cls := .type "list", data := .seq vs.toArray } (.lst (ns.map V.int))) else none) (fun b => ?_) (if_pos rfl) (.inl (.inr ⟨{ cls := .type "list", data := .seq vs.toArray }, ea⟩)) (fun b u z => ?_) (fun b z => ?_) fun _ => hk
    · by_cases hb : b = tb
      · exact .inr (.inr hb)
      · by_cases hc : b = a
        · subst hc; exact .inr (.inl ⟨_, _, ea⟩)
        · exact .inl (by rw [if_neg hb, if_neg hc])
    · by_cases hb : b = tb
      · have z' := (if_pos hb).symm.trans z
        cases z'
        subst hb
        exact hP
      · by_cases hc : b = a
        · subst hc
          have z' := ea.symm.trans z
          cases z'
          exact ⟨ha, by rw [List.length_map]; exact hl, vs, _, rv, ha⟩
        · have z' : (if b = tb then some (HO.tbl #[]) else if b = a then some (.frz { cls := .type "list", data := .seq vs.toArray } (.lst (ns.map V.int))) else none) = some u := z
          rw [if_neg hb, if_neg hc] at z'
          cases z'
    · by_cases hb : b = tb
      · exact .inr hb
      · by_cases hc : b = a
        · exact .inl hc
        · exact absurd (by show (if b = tb then some (HO.tbl #[]) else if b = a then _ else none) = none; rw [if_neg hb, if_neg hc]) z
theorem walk_ofT {l : PySem.W.OpenLaw} {n k : Nat} {q : Program} {loose : List Str} {XP : (Str → Option Value) → Heap → Prop} {YP : World → Heap → Prop} {d : DefRec} {K : Params → PySem.W.Frag} {CX : World → CXT} {sp : World → Sp} {x : Str} {tb : Addr}
    (hn : l.most = some n) (hn2 : n ≤ sizeLine) (hdf : d.params.defaults = []) (hr : Room k callerA) (hY : ∀ (w : World) (h : Heap), YP w h → (K w.params).In h ∧ h.get? tb = some (PySem.W.tabObj #[]))
    (F : ∀ (w : World) (mg : Str → Option Value) (fa : Addr) (h : Heap), (K w.params).In h → h.Ns mainGlobals mg → mg d.name = some (.ref fa) →
      ∃ fd : FuncData, (∀ (s : Shared) (u : Value), BindsTo s fd ⟨[u], []⟩ [(x, u)]) ∧ (K w.params).lookup tb = none ∧ (∃ c, PySem.W.codeHdIn (K w.params) c tb = true) ∧
        ∀ base : Heap, (K w.params).In base → base.Ns mainGlobals mg → base.BuiltinsAt mg tb → FnOk l.prog w (K w.params) mg base (CX w) k fa fd [x] (sp w))
    (hsp : ∀ (w : World) (H : Hp) (a : Addr) (ns : List Int), ns.length ≤ n → H tb = some (.tbl #[]) → SqL (K w.params) H a (ns.map V.int) → sp w [.ref a] H (fun v _ => v = .bl true) fun _ _ _ => False)
    (hCX : ∀ (w : World) (H : Hp) (s : Shared) (e : Value) (s' : Shared), CX w [] H s (fun _ _ _ => False) e s' → False) :
    PySem.W.WalkO q loose XP YP l.row.toRowW d [] (fun f vs => PySem.call f vs) := by
  refine Att.attach_call hn hdf fun w s₀ s₁ mg mb fa o pm cd doc a vs ns G Y ho hd hcd hmg hobj hints hlen hg => ?_
  obtain ⟨KX, hP⟩ := hY w _ Y
  obtain ⟨fd, hb, hPK, ⟨c, hhd⟩, hF⟩ := F w mg fa _ KX G.T.g hmg
  have C := PySem.W.codeHd_of_K KX hhd
  have htab : isCodeTable s₁.heap tb := by
    obtain ⟨o, vs, _, _, _, _, _, _, _, e1, e2, e3, e4, _⟩ := C
    exact ⟨c, o, vs, e1, e2, e3, e4⟩
  have hB : s₁.heap.BuiltinsAt mg tb := by
    obtain ⟨bm, ob, b1, b2, b3, b4, b5, b6⟩ := G.T.bmain
    refine ⟨bm, ob, b1, b2, fun z => ?_, fun z => ?_, b3, b4, b5, b6⟩
    · obtain ⟨o, es, ep, e, hd, _⟩ := G.T.g
      rw [z, e] at b3; cases b3; rw [hd] at b6; cases b6
    · rw [z, hP] at b3; cases b3; cases b4
  exact law_callT KX G.T.g G.T.b G.T.builtins G.T.nolimit hg hobj hints (Nat.le_trans hlen hn2) hr hP hPK htab hB hF hb (fun H hO hS => hsp w H a ns hlen hO hS) fun H e s' => hCX w H s₁ e s'
end L2

namespace My
open PySem L2
def top (i : Nat) : Stmt := PySem.Challenge.pw_wishcount_k06_whole_the_best_and_the_cro.main.body.getD i (.Pass ⟨0, 0, 0, 0⟩)
abbrev sAhead : Stmt := top 1
abbrev sLead : Stmt := top 2
abbrev sRow : Stmt := top 3
abbrev sTable : Stmt := top 4
abbrev sLinks : Stmt := top 6
abbrev sStd : Stmt := top 7
abbrev sStrs : Stmt := top 8
abbrev sAbove : Stmt := top 10
abbrev sFirsts : Stmt := top 11
abbrev sBest : Stmt := top 12
abbrev sCrA : Stmt := top 13
abbrev sCrowd : Stmt := top 14
abbrev iCell : Nat := 16
abbrev sLLead : Stmt := top 20
abbrev sSome : Stmt := top 21
abbrev sClosed : Stmt := top 22
abbrev sLaw : Stmt := top 23
/-! ### names and data -/
/-- the built-in names that the text leaves as they are -/
structure Bi (mg : Str → Option Value) : Prop where
  len : mg "len" = none
  range : mg "range" = none
  list : mg "list" = none
  tuple : mg "tuple" = none
  min : mg "min" = none
  max : mg "max" = none
  int : mg "int" = none
  bool : mg "bool" = none
  isi : mg "isinstance" = none
  all : mg "all" = none
  sorted : mg "sorted" = none
  set : mg "set" = none
  enumerate : mg "enumerate" = none
/-- a def of the text -/
structure Fd (K : PySem.W.Frag) (mg : Str → Option Value) (x : Str) (st : Stmt) (ps : List Str) (f : Addr) (fd : FuncData) : Prop where
  F : Fun K x x st f fd
  b : Binds K fd ps []
  m : mg x = some (.ref f)
theorem pe_fd {X : Cx} {x : Str} {st : Stmt} {ps : List Str} {f : Addr} {fd : FuncData} {k j : Nat} {sp : Sp} {e : Expr} {es : List Expr} {t : TA} {p pos : Pos} (D : Fd X.K X.mg x st ps f fd) (G : FnOk X.prog X.w X.K X.mg X.base CX0 k f fd ps sp) (hr : Room j X.A) (ha : PA X (e :: es) t) (hg : Gl X x := by rfl) (hkj : k ≤ j := by decide)
    (hdb : (x == ("__debug__" : Str)) = false := by decide) (he : starEach (e :: es) X.env = (false, eval e X.env) :: starEach es X.env := by rfl) (hpl : (backTo pos (starEach es X.env)).any (·.1) = false := by rfl) :
    PE X (.Call (.Name x p) (e :: es) [] pos) (tCall sp [] E0 t) := pe_call G (hr.mono hkj) hg D.m D.F.kp D.b .nil pass0 ha hdb he hpl
/-- a ballot of m names -/
structure Bal (m : Nat) (ps : List Int) : Prop where
  len : ps.length = m
  rng : ∀ p ∈ ps, 0 ≤ p ∧ p ≤ 99
def balD (ps : List Int) : Dt := .tup (ps.map Dt.int)
def boxD (m : Nat) (bs : List (List Int)) : Dt := .tup [.int m, .tup (bs.map balD)]
structure WfB (most m : Nat) (bs : List (List Int)) : Prop where
  lo : 1 ≤ m
  hi : m ≤ most
  few : bs.length ≤ 28
  bal : ∀ b ∈ bs, Bal m b
def Ints99 (ys : List V) : Prop := ∀ y ∈ ys, ∃ z : Int, y = .int z ∧ 0 ≤ z ∧ z ≤ 99
theorem Ints99.nil : Ints99 [] := fun _ h => nomatch h
theorem Ints99.snoc {ys : List V} {z : Int} (h : Ints99 ys) (h0 : 0 ≤ z) (h1 : z ≤ 99) : Ints99 (ys ++ [.int z]) := fun y hy => by
  rcases List.mem_append.mp hy with q | q
  · exact h y q
  · exact ⟨z, by simpa using q, h0, h1⟩
theorem Ints99.ints : ∀ {ys : List V}, Ints99 ys → ∃ ps : List Int, ys = ps.map V.int ∧ ∀ p ∈ ps, 0 ≤ p ∧ p ≤ 99
  | [], _ => ⟨[], rfl, fun _ h => nomatch h⟩
  | y :: ys, h => by
    obtain ⟨z, rfl, h0, h1⟩ := h y List.mem_cons_self
    obtain ⟨ps, rfl, hp⟩ := Ints99.ints (ys := ys) fun v hv => h v (List.mem_cons_of_mem _ hv)
    exact ⟨z :: ps, rfl, fun p hp' => (List.mem_cons.mp hp').elim (fun e => e ▸ ⟨h0, h1⟩) (hp p)⟩
theorem rngV_99 {m : Int} (h : m ≤ 100) : Ints99 (rngV 0 m) := fun y hy => by
  unfold rngV at hy
  obtain ⟨i, hi, rfl⟩ := List.mem_map.mp hy
  have := List.mem_range.mp hi
  exact ⟨_, rfl, by omega, by omega⟩
theorem menu_at {m w : Int} (h1 : 1 ≤ m) (h7 : m ≤ 7) (w0 : 0 ≤ w) (w2 : w ≤ 2) : ∃ z : Int, atI [V.int m, V.int 2, V.int 100] w = some (.int z) ∧ 0 < z ∧ z ≤ 100 := by
  have : w = 0 ∨ w = 1 ∨ w = 2 := by omega
  rcases this with rfl | rfl | rfl
  · exact ⟨m, rfl, by omega, by omega⟩
  · exact ⟨2, rfl, by omega, by omega⟩
  · exact ⟨100, rfl, by omega, by omega⟩
theorem seqIx {n : Nat} {i : Int} (h0 : 0 ≤ i) (h1 : i < n) : seqIndex? i n = some i.toNat := by
  have : ixN n i = some i.toNat := by unfold ixN; rw [if_pos h0, if_pos h1]
  exact (ixN_seq this).1
theorem depL_ints : ∀ ns : List Int, depL (ns.map Dt.int) = 0
  | [] => by rw [List.map_nil, depL]
  | n :: ns => by rw [List.map_cons, depL, depL_ints ns, Dt.dep]; rfl
theorem depL_bal : ∀ bs : List (List Int), depL (bs.map balD) ≤ 10
  | [] => by rw [List.map_nil, depL]; omega
  | b :: bs => by
    have := depL_bal bs
    have e : (balD b).dep = 1 := by unfold balD; rw [Dt.dep, depL_ints]
    rw [List.map_cons, depL, e]
    omega
/-! ### the parts that every law here has: cells, mixes, ballots, boxes -/
abbrev sCell : Stmt := top iCell
abbrev sMix : Stmt := top (iCell + 1)
abbrev sBallot : Stmt := top (iCell + 2)
abbrev sBox : Stmt := top (iCell + 3)
section
variable {P : Program} {w : World} {K : PySem.W.Frag} {mg : Str → Option Value} {base : Heap}

def spCell (K : PySem.W.Frag) : Sp := fun vs H Q _ => ∃ (a : Addr) (ns : List Int) (k : Int), vs = [.ref a, .int k] ∧ SqL K H a (ns.map V.int) ∧ 0 ≤ k ∧ ∀ z, Q (.int z) H
def spMix : Sp := fun vs H Q _ => ∃ c p m : Int, vs = [.int c, .int p, .int m] ∧ 0 < p ∧ 0 < m ∧ ∀ z, 0 ≤ z → z < m → Q (.int z) H
def spBallot (K : PySem.W.Frag) : Sp := fun vs H Q _ => ∃ c m w : Int, vs = [.int c, .int m, .int w] ∧ 1 ≤ m ∧ m ≤ 7 ∧ 0 ≤ w ∧ w ≤ 2 ∧
  ∀ (a : Addr) (H' : Hp) (ps : List Int), Same H H' → SqT K H' a (ps.map V.int) → Bal m.toNat ps → Q (.ref a) H'
def spBox (K : PySem.W.Frag) : Sp := fun vs H Q _ => ∃ (a : Addr) (ns : List Int) (most : Int), vs = [.ref a, .int most] ∧ SqL K H a (ns.map V.int) ∧ 1 ≤ most ∧ most ≤ 7 ∧
  ∀ (v : Addr) (H' : Hp) (m : Nat) (bs : List (List Int)), Same H H' → Den K H' (boxD m bs) (.ref v) → WfB most.toNat m bs → Q (.ref v) H'

theorem scCell : FnScope ["_law_script", "_law_k"] ["_law_script", "_law_k"] (defScope sCell) := ⟨rfl, rfl, rfl, by decide +kernel, rfl, by decide +kernel, by decide +kernel⟩
theorem ok_cell {f : Addr} {fd : FuncData} (T : Bi mg) (D : Fd K mg "_law_cell" sCell ["_law_script", "_law_k"] f fd) : FnOk P w K mg base CX0 1 f fd ["_law_script", "_law_k"] (spCell K) := by
  refine D.F.ok scCell (fun vs H Q E h => ?_) (fun cdv A outer s H vs Q E hr h => ?_)
  · obtain ⟨a, ns, k, rfl, _⟩ := h
    rfl
  obtain ⟨a, ns, k, rfl, hS, h0, q⟩ := h
  refine ⟨_, pss_cons (ps_if (pt_cmpR op_lt (pv 1) (pe_callB call_len_seq rfl T.len PySem.boot_len (pa_cons (pv 0) pa_nil)) (nomark _)) (pss_one (ps_ret (pe_ix ix_list (pv 0) (pv 1) (fun _ _ => rfl)))) pss_nil)
    (pss_one (ps_ret pe_int)), ?_⟩
  refine ⟨_, rfl, _, rfl, a, _, rfl, .inl hS, _, _, rfl, rfl, _, rfl, ?_⟩
  refine ite2 (fun c => ?_) (fun _ => q 0)
  have c' : k < (((ns.map V.int).length : Nat) : Int) := of_decide_eq_true c
  rw [List.length_map] at c'
  have hk : k.toNat < ns.length := by omega
  have ek : k = ((k.toNat : Nat) : Int) := by omega
  refine ⟨_, rfl, _, rfl, a, _, k, .int ns[k.toNat], rfl, rfl, hS, ?_, q _⟩
  have e : (ns.map V.int)[k.toNat]? = some (.int ns[k.toNat]) := by rw [List.getElem?_map, List.getElem?_eq_getElem hk]; rfl
  have e2 := atI_nat e
  rw [← ek] at e2
  exact e2

theorem scMix : FnScope ["_law_cell_here", "_law_prime", "_law_many"] ["_law_cell_here", "_law_prime", "_law_many"] (defScope sMix) := ⟨rfl, rfl, rfl, by decide +kernel, rfl, by decide +kernel, by decide +kernel⟩
theorem ok_mix {f : Addr} {fd : FuncData} (D : Fd K mg "_law_mix" sMix ["_law_cell_here", "_law_prime", "_law_many"] f fd) : FnOk P w K mg base CX0 1 f fd ["_law_cell_here", "_law_prime", "_law_many"] spMix := by
  refine D.F.ok scMix (fun vs H Q E h => ?_) (fun cdv A outer s H vs Q E hr h => ?_)
  · obtain ⟨c, p, m, rfl, _⟩ := h
    rfl
  obtain ⟨c, p, m, rfl, hp, hm, q⟩ := h
  refine ⟨_, pss_one (ps_ret (pe_op op_mod (pe_op op_mod (pe_op op_mul (pv 0) pe_int) (pv 1)) (pv 2))), ?_⟩
  refine ⟨_, rfl, _, _, rfl, rfl, .inr ⟨by decide, by decide⟩, _, rfl, _, _, rfl, rfl, hp, _, rfl, _, _, rfl, rfl, hm, q _ ?_ ?_⟩
  · exact Int.emod_nonneg _ (by omega)
  · exact Int.emod_lt_of_pos _ hm

abbrev nBallot : List Str := ["_law_cell_here", "_law_many", "_law_way", "_law_places", "_law_left"]
theorem scBallot : FnScope nBallot ["_law_cell_here", "_law_many", "_law_way"] (defScope sBallot) := ⟨rfl, rfl, rfl, by decide +kernel, rfl, by decide +kernel, by decide +kernel⟩
theorem ok_ballot {f g : Addr} {fd gd : FuncData} (T : Bi mg) (D : Fd K mg "_law_ballot" sBallot ["_law_cell_here", "_law_many", "_law_way"] f fd) (M : Fd K mg "_law_mix" sMix ["_law_cell_here", "_law_prime", "_law_many"] g gd) :
    FnOk P w K mg base CX0 2 f fd ["_law_cell_here", "_law_many", "_law_way"] (spBallot K) := by
  have GM : FnOk P w K mg base CX0 1 g gd ["_law_cell_here", "_law_prime", "_law_many"] spMix := ok_mix M
  refine D.F.ok scBallot (fun vs H Q E h => ?_) (fun cdv A outer s H vs Q E hr h => ?_)
  · obtain ⟨c, m, w, rfl, _⟩ := h
    rfl
  obtain ⟨c, m, w, rfl, h1, h7, w0, w2, q⟩ := h
  refine ⟨_, pss_cons (ps_comp nBallot ("_law_k" :: nBallot) (defScope sBallot) 3 scBallot.nd rfl rfl (pi_range1 rfl T.range (pa_cons (pv 1) pa_nil)) (fun _ _ _ _ _ => pf_nil)
      (fun _ _ _ _ _ => pe_fd M GM hr (pa_cons (pe_op op_add (pv 1) (pe_op op_mul pe_int (pv 0))) (pa_cons pe_int (pa_cons (pe_ix (ix_listK K) (pe_lst (pa_cons (pv 2) (pa_cons pe_int (pa_cons pe_int pa_nil)))) (pv 3) (fun _ _ => rfl)) pa_nil)))))
    (pss_cons (ps_if (PW.pt (pw_and (pt_cmpR op_eq (pv 2) pe_int (nomark _)) (pw_and1 (pt_cmpR op_eq (pe_op op_mod (pv 0) pe_int) pe_int (nomark _)))))
      (pss_cons (ps_set (i := 4) scBallot.nd rfl (Or.inr rfl) (pe_callTy (call_list_rng rfl) rfl T.list PyProof.Rows.boot_list (pa_cons (pe_callTy call_rng1 rfl T.range PyProof.Rows.boot_range (pa_cons (pv 1) pa_nil)) pa_nil)))
      (pss_one (ps_comp nBallot ("_law_k" :: nBallot) (defScope sBallot) 3 scBallot.nd rfl rfl (pi_range1 rfl T.range (pa_cons (pv 1) pa_nil)) (fun _ _ _ _ _ => pf_nil)
        (fun _ _ _ _ _ => pe_bmK K PySem.F.plainAttrs_list PySem.F.slot_list_pop PySem.F.type_list_pop mt_popAt (pv 5) (pa_cons (pe_fd M GM hr (pa_cons (pe_op op_add (pv 1) (pe_op op_mul pe_int (pv 0))) (pa_cons pe_int (pa_cons (pe_op op_sub (pv 2) (pv 0)) pa_nil)))) pa_nil)))))
      pss_nil)
    (pss_one (ps_ret (pe_callTy call_tuple_of rfl T.tuple PyProof.Rows.boot_tuple (pa_cons (pv 3) pa_nil))))), ?_⟩
  have hsz : ∀ n : Nat, n ≤ 1000 → n < sizeLine := fun n h => Nat.lt_of_le_of_lt h (by decide)
  -- the end: a list of m places stands at l
  have fin : ∀ (l : Addr) (ys : List V) (H1 : Hp), Same H H1 → H1 l = none → ys.length = m.toNat → Ints99 ys → ∀ H2, Same H H2 → H2 l = some (.lst ys) → ∀ t, H2 t = none → Q (.ref t) (upd H2 t (.tup ys)) := by
    intro l ys H1 _ _ hl hi H2 s2 e2 t ht
    obtain ⟨ps, rfl, hps⟩ := hi.ints
    exact q t _ ps (s2.trans (same_new ht _)) (SqT.of upd_same) ⟨by rw [← hl, List.length_map], hps⟩
  refine ⟨_, rfl, m, rfl, by omega, by omega, comp_range (fun i ys H1 => ys.length = i ∧ Ints99 ys ∧ Same H H1) ⟨rfl, Ints99.nil, Same.refl H⟩ ?_ (fun i ys H1 hi p => hsz _ (by rw [p.1]; omega)) ?_⟩
  · rintro i ys H1 hi ⟨hl, hy, s1⟩
    refine tyes ?_
    obtain ⟨z, ez, hz0, hz1⟩ := menu_at (m := m) h1 h7 w0 w2
    refine ⟨_, rfl, _, rfl, _, _, rfl, rfl, .inl ⟨by decide, by decide⟩, _, _, rfl, rfl, _, rfl, (by show 3 ≤ sizeLine; decide), fun p hp => ?_⟩
    refine ⟨_, rfl, p, _, w, .int z, rfl, rfl, SqL.of upd_same, ez, _, _, _, rfl, by decide, hz0, fun y y0 y1 => ?_⟩
    exact ⟨by rw [List.length_append, List.length_singleton, hl], hy.snoc y0 (by omega), s1.trans (same_new hp _)⟩
  · rintro ys H1 ⟨hl, hy, s1⟩ p hp
    have s2 : Same H (upd H1 p (.lst ys)) := s1.trans (same_new hp _)
    refine ⟨_, rfl, rfl, _, rfl, ?_⟩
    have out : ∀ {H2 : Hp} {l : Addr} {ys : List V}, Same H H2 → H2 l = some (.lst ys) → ys.length = m.toNat → Ints99 ys → ∀ t, H2 t = none → Q (.ref t) (upd H2 t (.tup ys)) := by
      intro H2 l ys s3 e3 hl hy t ht
      obtain ⟨ps, rfl, hps⟩ := hy.ints
      exact q t _ ps (s3.trans (same_new ht _)) (SqT.of upd_same) ⟨by rw [← hl, List.length_map], hps⟩
    have short : ∀ {H2 : Hp} {l : Addr} {ys : List V} {σ : St}, σ[3]? = some (some (.ref l)) → Same H H2 → H2 l = some (.lst ys) → ys.length = m.toNat → Ints99 ys →
        tRet (tCB (fun xs H Q => ∃ p ys, xs = [.ref p] ∧ ((SqL K H p ys ∧ ∀ l, H l = none → Q (.ref l) (upd H l (.tup ys))) ∨ (SqT K H p ys ∧ Q (.ref p) H))) (tCons (tVar 3) tNil)) { nx := fun _ H' => Q .non H', rt := Q } σ H2 := by
      intro H2 l ys σ e s3 e3 hl hy
      exact ⟨_, e, l, ys, rfl, .inl ⟨SqL.of e3, out s3 e3 hl hy⟩⟩
    refine ite2 (fun hw => ?_) (fun _ => ?_)
    · refine ⟨_, rfl, _, _, rfl, rfl, (by show (0 : Int) < 2; decide), rfl, _, rfl, ?_⟩
      refine ite2 (fun _ => ?_) (fun _ => ?_)
      · refine ⟨_, rfl, m, rfl, fun r hr' => ⟨r, 0, m, rfl, upd_same, ⟨by omega, by omega, by omega, by omega⟩, by omega, fun l hl' => ?_⟩⟩
        generalize hH3 : upd (upd H1 p (.lst ys)) r (.rng 0 m) = H3 at hl'
        have s3 : Same H H3 := by rw [← hH3]; exact s2.trans (same_new hr' _)
        refine ⟨_, rfl, m, rfl, by omega, by omega, comp_range (fun i ys H1 => ys.length = i ∧ Ints99 ys ∧ Same H H1 ∧ ∃ xs, H1 l = some (.lst xs) ∧ xs.length = m.toNat - i ∧ Ints99 xs) ⟨rfl, Ints99.nil, s3.trans (same_new hl' _), rngV 0 m, upd_same, by unfold rngV; rw [List.length_map, List.length_range]; omega, rngV_99 (by omega)⟩ ?_ (fun i ys H1 hi p => hsz _ (by rw [p.1]; omega)) ?_⟩
        · rintro i ys H4 hi ⟨hl4, hy4, s4, xs, ex, hx, hx9⟩
          refine tyes ?_
          have him : (i : Int) < m := by omega
          refine ⟨_, rfl, .inl ⟨rfl, _, SqL.of ex⟩, _, rfl, _, rfl, _, _, rfl, rfl, .inl ⟨by decide, by decide⟩, _, _, rfl, rfl, _, rfl, _, rfl, _, _, rfl, rfl, _, _, _, rfl, by decide, (by omega), fun y y0 y1 => ?_⟩
          have hyl : y.toNat < xs.length := by omega
          obtain ⟨z, ez, z0, z1⟩ := hx9 xs[y.toNat] (List.getElem_mem _)
          refine ⟨l, xs, y, y.toNat, xs[y.toNat], rfl, rfl, ex, by omega, by omega, seqIx y0 (by omega), List.getElem?_eq_getElem hyl, ?_⟩
          refine ⟨by rw [List.length_append, List.length_singleton, hl4], ?_, fun b o e => ?_, xs.eraseIdx y.toNat, upd_same, ?_, fun v hv => hx9 v (List.mem_of_mem_eraseIdx hv)⟩
          · rw [ez]; exact hy4.snoc z0 z1
          · have hbl : b ≠ l := fun z => by
              have := s3 b o e
              rw [z, hl'] at this; cases this
            rw [upd_ne hbl]; exact s4 b o e
          · rw [List.length_eraseIdx_of_lt hyl]; omega
        · rintro ys2 H4 ⟨hl4, hy4, s4, _⟩ p2 hp2
          exact short rfl (s4.trans (same_new hp2 _)) upd_same hl4 hy4
      · exact short rfl s2 upd_same hl hy
    · exact short rfl s2 upd_same hl hy
end
end My

namespace My
open PySem L2
section
variable {P : Program} {w : World} {K : PySem.W.Frag} {mg : Str → Option Value} {base : Heap}
abbrev nBox : List Str := ["_law_script", "_law_most", "_law_many", "_law_size", "_law_way", "_law_ballots", "_law_k", "_law_cell_here"]
theorem scBox : FnScope nBox ["_law_script", "_law_most"] (defScope sBox) := ⟨rfl, rfl, rfl, by decide +kernel, rfl, by decide +kernel, by decide +kernel⟩
/-- the state between two turns: the list at l holds the ballots bs -/
def BoxAt (K : PySem.W.Frag) (H H' : Hp) (l : Addr) (m : Nat) (bs : List (List Int)) : Prop := Same H H' ∧ ∃ xs, H' l = some (.lst xs) ∧ DenL K H' (bs.map balD) xs ∧ ∀ b ∈ bs, Bal m b
theorem BoxAt.more {H H' H2 : Hp} {l a : Addr} {m : Nat} {bs : List (List Int)} {ps : List Int} {xs : List V} (nl : H l = none) (h : Same H H') (e : H' l = some (.lst xs)) (d : DenL K H' (bs.map balD) xs) (hb : ∀ b ∈ bs, Bal m b)
    (s2 : Same H' H2) (ha : SqT K H2 a (ps.map V.int)) (hp : Bal m ps) : BoxAt K H (upd H2 l (.lst (xs ++ [.ref a]))) l m (bs ++ [ps]) := by
  have e2 := s2 _ _ e
  have tk : TK K H2 (upd H2 l (.lst (xs ++ [.ref a]))) := tk_upd e2
  refine ⟨fun b o q => ?_, _, upd_same, ?_, fun b hb' => (List.mem_append.mp hb').elim (hb b) fun z => by rw [show b = ps by simpa using z]; exact hp⟩
  · rw [upd_ne (ne_of_none q nl)]; exact s2 _ _ (h _ _ q)
  · rw [List.map_append]
    refine denL_append (DenL.mono (s2.tk.trans tk) _ d) (denL_cons (den_tup (tk _ _ ha) (denL_ints ps)) denL_nil)
theorem ok_box {f f1 f2 f3 : Addr} {fd fd1 fd2 fd3 : FuncData} (T : Bi mg) (D : Fd K mg "_law_box" sBox ["_law_script", "_law_most"] f fd) (C : Fd K mg "_law_cell" sCell ["_law_script", "_law_k"] f1 fd1) (M : Fd K mg "_law_mix" sMix ["_law_cell_here", "_law_prime", "_law_many"] f2 fd2)
    (B : Fd K mg "_law_ballot" sBallot ["_law_cell_here", "_law_many", "_law_way"] f3 fd3) : FnOk P w K mg base CX0 3 f fd ["_law_script", "_law_most"] (spBox K) := by
  have GC : FnOk P w K mg base CX0 1 f1 fd1 ["_law_script", "_law_k"] (spCell K) := ok_cell T C
  have GM : FnOk P w K mg base CX0 1 f2 fd2 ["_law_cell_here", "_law_prime", "_law_many"] spMix := ok_mix M
  have GB : FnOk P w K mg base CX0 2 f3 fd3 ["_law_cell_here", "_law_many", "_law_way"] (spBallot K) := ok_ballot T B M
  refine D.F.ok scBox (fun vs H Q E h => ?_) (fun cdv A outer s H vs Q E hr h => ?_)
  · obtain ⟨a, ns, most, rfl, _⟩ := h
    rfl
  obtain ⟨a, ns, most, rfl, hS, h1, h7, q⟩ := h
  refine ⟨_, pss_cons (ps_set (i := 2) scBox.nd rfl (Or.inl rfl) (pe_op op_add pe_int (pe_fd M GM hr (pa_cons (pe_fd C GC hr (pa_cons (pv 0) (pa_cons pe_int pa_nil))) (pa_cons pe_int (pa_cons (pv 1) pa_nil))))))
    (pss_cons (ps_set (i := 3) scBox.nd rfl (Or.inl rfl) (pe_fd M GM hr (pa_cons (pe_fd C GC hr (pa_cons (pv 0) (pa_cons pe_int pa_nil))) (pa_cons pe_int (pa_cons pe_int pa_nil)))))
    (pss_cons (ps_set (i := 4) scBox.nd rfl (Or.inl rfl) (pe_fd M GM hr (pa_cons (pe_fd C GC hr (pa_cons (pv 0) (pa_cons pe_int pa_nil))) (pa_cons pe_int (pa_cons pe_int pa_nil)))))
    (pss_cons (ps_set (i := 5) scBox.nd rfl (Or.inl rfl) (pe_lst pa_nil))
    (pss_cons (ps_for PassesOwn.never rfl (pi_range1 rfl T.range (pa_cons (pv 3) pa_nil)) (pg_name (i := 6) scBox.nd rfl (Or.inl rfl))
      (pss_cons (ps_set (i := 7) scBox.nd rfl (Or.inl rfl) (pe_fd C GC hr (pa_cons (pv 0) (pa_cons (pe_op op_add pe_int (pe_op op_mod (pv 6) pe_int)) pa_nil))))
      (pss_cons (ps_expr (pe_bm PySem.F.plainAttrs_list PySem.F.slot_list_append PySem.F.type_list_append mt_append (pv 5) (pa_cons (pe_fd B GB hr (pa_cons (pv 7) (pa_cons (pv 2) (pa_cons (pe_callB (call_min2 rfl) rfl T.min PyProof.Rows.boot_min (pa_cons (pv 4) (pa_cons pe_int pa_nil))) pa_nil)))) pa_nil)))
      (pss_one (ps_if (pt_cmpR op_eq (pe_op op_mod (pv 7) pe_int) pe_int (nomark _))
        (pss_one (ps_expr (pe_bm PySem.F.plainAttrs_list PySem.F.slot_list_append PySem.F.type_list_append mt_append (pv 5) (pa_cons (pe_ix ix_list (pv 5) (pe_un un_neg pe_int) (fun _ _ => rfl)) pa_nil)))) pss_nil)))))
    (pss_one (ps_ret (pe_tup (pa_cons (pv 2) (pa_cons (pe_callTy call_tuple_of rfl T.tuple PyProof.Rows.boot_tuple (pa_cons (pv 5) pa_nil)) pa_nil))))))))), ?_⟩
  have hsz : ∀ n : Nat, n ≤ 1000 → n < sizeLine := fun n h => Nat.lt_of_le_of_lt h (by decide)
  refine ⟨_, rfl, a, ns, 0, rfl, hS, by decide, fun c0 => ⟨_, rfl, _, _, _, rfl, by decide, by omega, fun z0 z00 z01 => ⟨_, _, rfl, rfl, ?_⟩⟩⟩
  refine ⟨_, rfl, a, ns, 1, rfl, hS, by decide, fun c1 => ⟨_, _, _, rfl, by decide, by decide, fun z1 z10 z11 => ?_⟩⟩
  refine ⟨_, rfl, a, ns, 0, rfl, hS, by decide, fun c2 => ⟨_, _, _, rfl, by decide, by decide, fun z2 z20 z21 => ?_⟩⟩
  refine ⟨(by show 0 ≤ sizeLine; decide), fun l hl => ?_⟩
  have hm : (1 + z0).toNat ≤ most.toNat := by omega
  refine ⟨_, rfl, z1, rfl, by omega, by omega, for_range (fun i σ H' => ∃ (bs : List (List Int)) (v6 v7 : Option V), σ = [some (.ref a), some (.int most), some (.int (1 + z0)), some (.int z1), some (.int z2), some (.ref l), v6, v7] ∧ bs.length ≤ 2 * i ∧ BoxAt K H H' l (1 + z0).toNat bs)
    ⟨[], none, none, rfl, Nat.le_refl _, same_new hl _, [], upd_same, denL_nil, fun _ h => nomatch h⟩ ?_ ?_⟩
  · rintro i σ H1 hi ⟨bs, v6, v7, rfl, hbl, s1, xs, ex, hd, hB⟩
    have hxl : xs.length = bs.length := by rw [denL_length hd, List.length_map]
    refine ⟨_, rfl, _, rfl, _, _, rfl, rfl, (by show (0 : Int) < 14; decide), _, _, rfl, rfl, a, ns, _, rfl, s1.seq hS, ?_, fun c => ?_⟩
    · have := Int.emod_nonneg (0 + (i : Int)) (show (14 : Int) ≠ 0 by decide)
      omega
    refine ⟨_, rfl, .inl ⟨rfl, _, SqL.of ex⟩, _, rfl, _, rfl, _, rfl, _, _, rfl, _, _, _, rfl, by omega, by omega, ?_, ?_, fun t H2 ps s2 ht hp => ?_⟩
    · split <;> omega
    · split <;> omega
    refine ⟨l, xs, .ref t, rfl, rfl, s2 _ _ ex, hsz _ (by omega), ?_⟩
    have G := BoxAt.more hl s1 ex hd hB s2 ht hp
    generalize hH3 : upd H2 l (.lst (xs ++ [.ref t])) = H3 at G
    obtain ⟨s3, xs3, ex3, hd3, hB3⟩ := G
    have e3 : H3 l = some (.lst (xs ++ [.ref t])) := by rw [← hH3]; exact upd_same
    have e33 : xs3 = xs ++ [.ref t] := by rw [e3] at ex3; cases ex3; rfl
    subst e33
    refine ⟨_, rfl, _, _, rfl, rfl, (by show (0 : Int) < 5; decide), rfl, _, rfl, ?_⟩
    refine ite2 (fun _ => ?_) (fun _ => ?_)
    · refine ⟨_, rfl, .inl ⟨rfl, _, SqL.of e3⟩, _, rfl, _, rfl, l, _, _, .ref t, rfl, rfl, SqL.of e3, atI_last xs (.ref t), l, _, .ref t, rfl, rfl, e3, hsz _ (by rw [List.length_append, List.length_singleton]; omega), ?_⟩
      have tk3 : SqT K H3 t (ps.map V.int) := by rw [← hH3]; exact tk_upd (s2 _ _ ex) _ _ ht
      refine ⟨_, _, _, rfl, ?_, BoxAt.more hl s3 e3 hd3 hB3 (Same.refl H3) tk3 hp⟩
      rw [List.length_append, List.length_append, List.length_singleton]; omega
    · exact ⟨_, _, _, rfl, by rw [List.length_append, List.length_singleton]; omega, s3, _, e3, hd3, hB3⟩
  · rintro σ H1 ⟨bs, v6, v7, rfl, hbl, s1, xs, ex, hd, hB⟩
    refine ⟨_, rfl, _, rfl, l, xs, rfl, .inl ⟨SqL.of ex, fun t ht => ?_⟩⟩
    refine ⟨(by show 2 ≤ sizeLine; decide), fun v hv => ?_⟩
    have s2 : Same H1 (upd H1 t (.tup xs)) := same_new ht _
    have s3 : Same (upd H1 t (.tup xs)) (upd (upd H1 t (.tup xs)) v (.tup [.int (1 + z0), .ref t])) := same_new hv _
    refine q v _ (1 + z0).toNat bs (s1.trans (s2.trans s3)) ?_ ⟨by omega, hm, by omega, hB⟩
    have em : (1 + z0) = (((1 + z0).toNat : Nat) : Int) := by omega
    refine den_tup (SqT.of upd_same) (denL_cons ?_ (denL_cons (den_tup (s3.tup (SqT.of upd_same)) (DenL.mono (s2.tk.trans s3.tk) _ hd)) denL_nil))
    rw [← em]
    exact den_int
end
end My

namespace My
open PySem L2
/-! ### leads: the program's and the law's -/
/-- on how many ballots i is ahead of j -/
def ahead (bs : List (List Int)) (i j : Nat) : Nat := bs.countP fun b => decide (b.getD i 0 < b.getD j 0)
def leadI (bs : List (List Int)) (i j : Nat) : Int := (ahead bs i j : Int) - (ahead bs j i : Int)
def rowI (bs : List (List Int)) (m i : Nat) : List Int := (List.range m).map fun j => leadI bs i j
def tableI (bs : List (List Int)) (m : Nat) : List (List Int) := (List.range m).map fun i => rowI bs m i
theorem bal_at {m : Nat} {b : List Int} {i : Int} (h : Bal m b) (h0 : 0 ≤ i) (h1 : i < m) : atI (b.map V.int) i = some (.int (b.getD i.toNat 0)) := by
  have hk : i.toNat < b.length := by rw [h.len]; omega
  have ek : i = ((i.toNat : Nat) : Int) := by omega
  have e : (b.map V.int)[i.toNat]? = some (.int b[i.toNat]) := by rw [List.getElem?_map, List.getElem?_eq_getElem hk]; rfl
  have e2 : b.getD i.toNat 0 = b[i.toNat] := by simp [List.getD, hk]
  rw [e2]
  have := atI_nat e
  rw [← ek] at this
  exact this
/-- a box stands at v -/
structure BoxV (K : PySem.W.Frag) (H : Hp) (v : V) (m : Nat) (bs : List (List Int)) : Prop where
  den : Den K H (boxD m bs) v
  bal : ∀ b ∈ bs, Bal m b
  many : m ≤ 100
  few : bs.length ≤ 100
theorem BoxV.mono {K : PySem.W.Frag} {H H' : Hp} {v : V} {m : Nat} {bs : List (List Int)} (h : BoxV K H v m bs) (e : TK K H H') : BoxV K H' v m bs := ⟨Den.mono e _ h.den, h.bal, h.many, h.few⟩
/-- the two items of a box -/
theorem BoxV.open {K : PySem.W.Frag} {H : Hp} {v : V} {m : Nat} {bs : List (List Int)} (h : BoxV K H v m bs) : ∃ a t xs, v = .ref a ∧ SqT K H a [.int m, .ref t] ∧ SqT K H t xs ∧ DenL K H (bs.map balD) xs := by
  obtain ⟨a, ys, rfl, hs, hd⟩ := of_den_tup h.den
  obtain ⟨x, r, rfl, h1, h2⟩ := of_denL_cons hd
  obtain ⟨y, r', rfl, h3, h4⟩ := of_denL_cons h2
  cases of_denL_nil h4
  cases of_den_int h1
  obtain ⟨t, xs, rfl, ht, hx⟩ := of_den_tup h3
  exact ⟨a, t, xs, rfl, hs, ht, hx⟩
theorem bal_of {K : PySem.W.Frag} {H : Hp} {bs : List (List Int)} {xs : List V} {i : Nat} {x : V} (h : DenL K H (bs.map balD) xs) (hx : xs[i]? = some x) : ∃ b t, bs[i]? = some b ∧ x = .ref t ∧ SqT K H t (b.map V.int) := by
  have hi : i < xs.length := (List.getElem?_eq_some_iff.mp hx).1
  rw [denL_length h, List.length_map] at hi
  have e : (bs.map balD)[i]? = some (balD bs[i]) := by rw [List.getElem?_map, List.getElem?_eq_getElem hi]; rfl
  obtain ⟨y, ey, hy⟩ := denL_get h e
  rw [hx] at ey
  cases ey
  obtain ⟨t, zs, rfl, ht, hz⟩ := of_den_tup hy
  rw [of_denL_ints hz] at ht
  exact ⟨bs[i], t, List.getElem?_eq_getElem hi, rfl, ht⟩
section
variable {P : Program} {w : World} {K : PySem.W.Frag} {mg : Str → Option Value} {base : Heap}
def spAhead (K : PySem.W.Frag) : Sp := fun vs H Q _ => ∃ (t : Addr) (xs : List V) (m : Nat) (bs : List (List Int)) (i j : Int), vs = [.ref t, .int i, .int j] ∧ SqT K H t xs ∧ DenL K H (bs.map balD) xs ∧ (∀ b ∈ bs, Bal m b) ∧ bs.length ≤ 100 ∧ 0 ≤ i ∧ i < m ∧ 0 ≤ j ∧ j < m ∧
  ∀ H', Same H H' → Q (.int (ahead bs i.toNat j.toNat)) H'
def spLead (K : PySem.W.Frag) : Sp := fun vs H Q _ => ∃ (v : V) (m : Nat) (bs : List (List Int)) (i j : Int), vs = [v, .int i, .int j] ∧ BoxV K H v m bs ∧ 0 ≤ i ∧ i < m ∧ 0 ≤ j ∧ j < m ∧ ∀ H', Same H H' → Q (.int (leadI bs i.toNat j.toNat)) H'
def spRow (K : PySem.W.Frag) : Sp := fun vs H Q _ => ∃ (v : V) (m : Nat) (bs : List (List Int)) (i : Int), vs = [v, .int i] ∧ BoxV K H v m bs ∧ 0 ≤ i ∧ i < m ∧ ∀ a H', Same H H' → H' a = some (.tup ((rowI bs m i.toNat).map V.int)) → Q (.ref a) H'
def spTable (K : PySem.W.Frag) : Sp := fun vs H Q _ => ∃ (v : V) (m : Nat) (bs : List (List Int)), vs = [v] ∧ BoxV K H v m bs ∧ ∀ a xs H', Same H H' → H' a = some (.tup xs) → DenL K H' ((tableI bs m).map balD) xs → Q (.ref a) H'
def spBeats (K : PySem.W.Frag) : Sp := fun vs H Q _ => ∃ (v : V) (m : Nat) (bs : List (List Int)) (i j : Int), vs = [v, .int i, .int j] ∧ BoxV K H v m bs ∧ 0 ≤ i ∧ i < m ∧ 0 ≤ j ∧ j < m ∧ ∀ H', Same H H' → Q (.bl (decide (0 < leadI bs i.toNat j.toNat))) H'
theorem hsz {n : Nat} (h : n ≤ 1000) : n < sizeLine := Nat.lt_of_le_of_lt h (by decide)

abbrev nAhead : List Str := ["ballots", "one", "other"]
theorem scAhead : FnScope nAhead nAhead (defScope sAhead) := ⟨rfl, rfl, rfl, by decide +kernel, rfl, by decide +kernel, by decide +kernel⟩
theorem ok_ahead {f : Addr} {fd : FuncData} (T : Bi mg) (D : Fd K mg "times_ahead" sAhead nAhead f fd) : FnOk P w K mg base CX0 1 f fd nAhead (spAhead K) := by
  refine D.F.ok scAhead (fun vs H Q E h => ?_) (fun cdv A outer s H vs Q E hr h => ?_)
  · obtain ⟨t, xs, m, bs, i, j, rfl, _⟩ := h
    rfl
  obtain ⟨t, xs, m, bs, i, j, rfl, hS, hd, hB, hf, i0, i1, j0, j1, q⟩ := h
  refine ⟨_, pss_one (ps_ret (pe_callB call_len_seq rfl T.len PySem.boot_len (pa_cons (pe_comp nAhead ("ballot" :: nAhead) (defScope sAhead) (pi_tup (pv 0))
    (fun _ _ _ _ _ => pf_one (pt_cmpR op_lt (pe_ix (ix_tupK K) (pv 0) (pv 2) (fun _ _ => rfl)) (pe_ix (ix_tupK K) (pv 0) (pv 3) (fun _ _ => rfl)) (nomark _))) (fun _ _ _ _ _ => pv 0)) pa_nil))), ?_⟩
  have hxl : xs.length = bs.length := by rw [denL_length hd, List.length_map]
  refine ⟨_, rfl, t, rfl, ⟨xs, hS⟩, comp_tup (xs := xs) (fun k ys H1 => H1 = H ∧ ys.length = ahead (bs.take k) i.toNat j.toNat) ⟨rfl, rfl⟩ (fun k ys H1 _ p => by rw [p.1]; exact hS) ?_ (fun k ys H1 hk p => ?_) ?_⟩
  · rintro k x ys H1 hx ⟨rfl, hl⟩
    obtain ⟨b, u, eb, rfl, hu⟩ := bal_of hd hx
    have hb := hB b (List.mem_of_getElem? eb)
    refine ⟨_, rfl, _, rfl, u, _, i, _, rfl, rfl, hu, bal_at hb i0 i1, _, rfl, _, rfl, u, _, j, _, rfl, rfl, hu, bal_at hb j0 j1, _, _, rfl, rfl, _, rfl, ?_⟩
    have step : ahead (bs.take (k + 1)) i.toNat j.toNat = ahead (bs.take k) i.toNat j.toNat + if decide (b.getD i.toNat 0 < b.getD j.toNat 0) = true then 1 else 0 := by
      unfold ahead
      rw [List.take_add_one, eb, List.countP_append]
      simp [List.countP_cons, List.countP_nil]
    refine ite2 (fun c => ?_) (fun c => ?_)
    · refine ⟨_, rfl, rfl, ?_⟩
      rw [List.length_append, List.length_singleton, hl, step, if_pos c]
    · refine ⟨rfl, ?_⟩
      rw [hl, step, if_neg c]
      rfl
  · have : ahead (bs.take k) i.toNat j.toNat ≤ (bs.take k).length := List.countP_le_length
    have h2 : (bs.take k).length ≤ bs.length := by rw [List.length_take]; omega
    exact hsz (by rw [p.2]; omega)
  · rintro ys H1 ⟨rfl, hl⟩ p hp
    refine ⟨p, ys, rfl, .inl (SqL.of upd_same), ?_⟩
    rw [hxl, List.take_length] at hl
    rw [hl]
    exact q _ (same_new hp _)

abbrev nLead : List Str := ["box", "one", "other", "ballots"]
theorem scLead : FnScope nLead ["box", "one", "other"] (defScope sLead) := ⟨rfl, rfl, rfl, by decide +kernel, rfl, by decide +kernel, by decide +kernel⟩
theorem ok_lead {f f1 : Addr} {fd fd1 : FuncData} (T : Bi mg) (D : Fd K mg "lead" sLead ["box", "one", "other"] f fd) (D1 : Fd K mg "times_ahead" sAhead nAhead f1 fd1) : FnOk P w K mg base CX0 2 f fd ["box", "one", "other"] (spLead K) := by
  have G1 : FnOk P w K mg base CX0 1 f1 fd1 nAhead (spAhead K) := ok_ahead T D1
  refine D.F.ok scLead (fun vs H Q E h => ?_) (fun cdv A outer s H vs Q E hr h => ?_)
  · obtain ⟨v, m, bs, i, j, rfl, _⟩ := h
    rfl
  obtain ⟨v, m, bs, i, j, rfl, hv, i0, i1, j0, j1, q⟩ := h
  refine ⟨_, pss_cons (ps_set (i := 3) scLead.nd rfl (Or.inl rfl) (pe_ix ix_tup (pv 0) pe_int (fun _ _ => rfl)))
    (pss_one (ps_ret (pe_op op_sub (pe_fd D1 G1 hr (pa_cons (pv 3) (pa_cons (pv 1) (pa_cons (pv 2) pa_nil)))) (pe_fd D1 G1 hr (pa_cons (pv 3) (pa_cons (pv 2) (pa_cons (pv 1) pa_nil))))))), ?_⟩
  obtain ⟨a, t, xs, rfl, ha, ht, hx⟩ := hv.open
  refine ⟨_, rfl, a, _, 1, .ref t, rfl, rfl, ha, rfl, ?_⟩
  refine ⟨_, rfl, _, rfl, _, rfl, t, xs, m, bs, i, j, rfl, ht, hx, hv.bal, hv.few, i0, i1, j0, j1, fun H1 s1 => ?_⟩
  refine ⟨_, rfl, _, rfl, _, rfl, t, xs, m, bs, j, i, rfl, s1.tup ht, DenL.mono s1.tk _ hx, hv.bal, hv.few, j0, j1, i0, i1, fun H2 s2 => ?_⟩
  exact ⟨_, _, rfl, rfl, q H2 (s1.trans s2)⟩

abbrev nRow : List Str := ["box", "one"]
theorem scRow : FnScope nRow nRow (defScope sRow) := ⟨rfl, rfl, rfl, by decide +kernel, rfl, by decide +kernel, by decide +kernel⟩
theorem ok_row {f f1 f2 : Addr} {fd fd1 fd2 : FuncData} (T : Bi mg) (D : Fd K mg "row" sRow nRow f fd) (D2 : Fd K mg "lead" sLead ["box", "one", "other"] f2 fd2) (D1 : Fd K mg "times_ahead" sAhead nAhead f1 fd1) : FnOk P w K mg base CX0 3 f fd nRow (spRow K) := by
  have G2 : FnOk P w K mg base CX0 2 f2 fd2 ["box", "one", "other"] (spLead K) := ok_lead T D2 D1
  refine D.F.ok scRow (fun vs H Q E h => ?_) (fun cdv A outer s H vs Q E hr h => ?_)
  · obtain ⟨v, m, bs, i, rfl, _⟩ := h
    rfl
  obtain ⟨v, m, bs, i, rfl, hv, i0, i1, q⟩ := h
  refine ⟨_, pss_one (ps_ret (pe_callTy call_tuple_of rfl T.tuple PyProof.Rows.boot_tuple (pa_cons (pe_comp nRow ("other" :: nRow) (defScope sRow) (pi_range1 rfl T.range (pa_cons (pe_ix ix_tup (pv 0) pe_int (fun _ _ => rfl)) pa_nil))
    (fun _ _ _ _ _ => pf_nil) (fun _ _ _ _ _ => pe_fd D2 G2 hr (pa_cons (pv 1) (pa_cons (pv 2) (pa_cons (pv 0) pa_nil))))) pa_nil))), ?_⟩
  obtain ⟨a, t, xs, rfl, ha, ht, hx⟩ := hv.open
  have hm := hv.many
  refine ⟨_, rfl, a, _, 0, .int m, rfl, rfl, ha, rfl, m, rfl, by omega, by omega, comp_range (fun k ys H1 => ys = ((List.range k).map fun j => leadI bs i.toNat j).map V.int ∧ Same H H1) ⟨rfl, Same.refl H⟩ ?_ (fun k ys H1 hk p => hsz (by rw [p.1, List.length_map, List.length_map, List.length_range]; omega)) ?_⟩
  · rintro k ys H1 hk ⟨rfl, s1⟩
    refine tyes ?_
    refine ⟨_, rfl, _, rfl, _, rfl, _, m, bs, i, _, rfl, hv.mono s1.tk, i0, i1, by omega, by omega, fun H2 s2 => ⟨?_, s1.trans s2⟩⟩
    have e : (0 + (k : Int)).toNat = k := by omega
    rw [e, List.range_succ, List.map_append, List.map_append]
    rfl
  · rintro ys H1 ⟨rfl, s1⟩ p hp
    refine ⟨p, _, rfl, .inl ⟨SqL.of upd_same, fun u hu => ?_⟩⟩
    have e : ((m : Nat) : Int).toNat = m := by omega
    refine q u _ (s1.trans ((same_new hp _).trans (same_new hu _))) ?_
    rw [upd_same]
    unfold rowI
    rw [e]

abbrev nTable : List Str := ["box"]
theorem scTable : FnScope nTable nTable (defScope sTable) := ⟨rfl, rfl, rfl, by decide +kernel, rfl, by decide +kernel, by decide +kernel⟩
theorem ok_table {f f1 f2 f3 : Addr} {fd fd1 fd2 fd3 : FuncData} (T : Bi mg) (D : Fd K mg "table" sTable nTable f fd) (D3 : Fd K mg "row" sRow nRow f3 fd3) (D2 : Fd K mg "lead" sLead ["box", "one", "other"] f2 fd2) (D1 : Fd K mg "times_ahead" sAhead nAhead f1 fd1) : FnOk P w K mg base CX0 4 f fd nTable (spTable K) := by
  have G3 : FnOk P w K mg base CX0 3 f3 fd3 nRow (spRow K) := ok_row T D3 D2 D1
  refine D.F.ok scTable (fun vs H Q E h => ?_) (fun cdv A outer s H vs Q E hr h => ?_)
  · obtain ⟨v, m, bs, rfl, _⟩ := h
    rfl
  obtain ⟨v, m, bs, rfl, hv, q⟩ := h
  refine ⟨_, pss_one (ps_ret (pe_callTy call_tuple_of rfl T.tuple PyProof.Rows.boot_tuple (pa_cons (pe_comp nTable ("one" :: nTable) (defScope sTable) (pi_range1 rfl T.range (pa_cons (pe_ix ix_tup (pv 0) pe_int (fun _ _ => rfl)) pa_nil))
    (fun _ _ _ _ _ => pf_nil) (fun _ _ _ _ _ => pe_fd D3 G3 hr (pa_cons (pv 1) (pa_cons (pv 0) pa_nil)))) pa_nil))), ?_⟩
  obtain ⟨a, t, xs, rfl, ha, ht, hx⟩ := hv.open
  have hm := hv.many
  refine ⟨_, rfl, a, _, 0, .int m, rfl, rfl, ha, rfl, m, rfl, by omega, by omega, comp_range (fun k ys H1 => DenL K H1 (((List.range k).map fun i => rowI bs m i).map balD) ys ∧ Same H H1) ⟨denL_nil, Same.refl H⟩ ?_ (fun k ys H1 hk p => hsz (by rw [denL_length p.1, List.length_map, List.length_map, List.length_range]; omega)) ?_⟩
  · rintro k ys H1 hk ⟨hd, s1⟩
    refine tyes ?_
    refine ⟨_, rfl, _, rfl, _, m, bs, _, rfl, hv.mono s1.tk, by omega, by omega, fun u H2 s2 hu => ⟨?_, s1.trans s2⟩⟩
    have e : (0 + (k : Int)).toNat = k := by omega
    rw [List.range_succ, List.map_append, List.map_append]
    refine denL_append (DenL.mono s2.tk _ hd) (denL_cons ?_ denL_nil)
    rw [e] at hu
    exact den_tup (SqT.of hu) (denL_ints _)
  · rintro ys H1 ⟨hd, s1⟩ p hp
    refine ⟨p, _, rfl, .inl ⟨SqL.of upd_same, fun u hu => ?_⟩⟩
    have e : ((m : Nat) : Int).toNat = m := by omega
    rw [e] at hd
    have s2 : Same H1 (upd H1 p (.lst ys)) := same_new hp _
    have s3 : Same (upd H1 p (.lst ys)) (upd (upd H1 p (.lst ys)) u (.tup ys)) := same_new hu _
    exact q u ys _ (s1.trans (s2.trans s3)) upd_same (DenL.mono (s2.trans s3).tk _ hd)

end
end My

namespace My
open PySem L2
/-! ### the law's own lead -/
section
variable {P : Program} {w : World} {K : PySem.W.Frag} {mg : Str → Option Value} {base : Heap}
abbrev nLLead : List Str := ["_law_box_here", "_law_one", "_law_other", "_law_found", "_law_ballot_here"]
theorem scLLead : FnScope nLLead ["_law_box_here", "_law_one", "_law_other"] (defScope sLLead) := ⟨rfl, rfl, rfl, by decide +kernel, rfl, by decide +kernel, by decide +kernel⟩
theorem lead_step {bs : List (List Int)} {b : List Int} {k i j : Nat} (eb : bs[k]? = some b) : leadI (bs.take (k + 1)) i j = leadI (bs.take k) i j + (if b.getD i 0 < b.getD j 0 then 1 else 0) - (if b.getD j 0 < b.getD i 0 then 1 else 0) := by
  unfold leadI ahead
  rw [List.take_add_one, eb, List.countP_append, List.countP_append]
  simp only [Option.toList_some, List.countP_cons, List.countP_nil, decide_eq_true_eq]
  split <;> split <;> omega
theorem ok_llead {f : Addr} {fd : FuncData} (D : Fd K mg "_law_lead" sLLead ["_law_box_here", "_law_one", "_law_other"] f fd) : FnOk P w K mg base CX0 1 f fd ["_law_box_here", "_law_one", "_law_other"] (spLead K) := by
  refine D.F.ok scLLead (fun vs H Q E h => ?_) (fun cdv A outer s H vs Q E hr h => ?_)
  · obtain ⟨v, m, bs, i, j, rfl, _⟩ := h
    rfl
  obtain ⟨v, m, bs, i, j, rfl, hv, i0, i1, j0, j1, q⟩ := h
  refine ⟨_, pss_cons (ps_set (i := 3) scLLead.nd rfl (Or.inl rfl) pe_int)
    (pss_cons (ps_for PassesOwn.never rfl (pi_tup (pe_ix ix_tup (pv 0) pe_int (fun _ _ => rfl))) (pg_name (i := 4) scLLead.nd rfl (Or.inl rfl))
      (pss_cons (ps_if (pt_cmpR op_lt (pe_ix ix_tup (pv 4) (pv 1) (fun _ _ => rfl)) (pe_ix ix_tup (pv 4) (pv 2) (fun _ _ => rfl)) (nomark _)) (pss_one (ps_set (i := 3) scLLead.nd rfl (Or.inl rfl) (pe_op op_add (pv 3) pe_int))) pss_nil)
      (pss_one (ps_if (pt_cmpR op_lt (pe_ix ix_tup (pv 4) (pv 2) (fun _ _ => rfl)) (pe_ix ix_tup (pv 4) (pv 1) (fun _ _ => rfl)) (nomark _)) (pss_one (ps_set (i := 3) scLLead.nd rfl (Or.inl rfl) (pe_op op_sub (pv 3) pe_int))) pss_nil))))
    (pss_one (ps_ret (pv 3)))), ?_⟩
  obtain ⟨a, t, xs, rfl, ha, ht, hx⟩ := hv.open
  have hxl : xs.length = bs.length := by rw [denL_length hx, List.length_map]
  refine ⟨_, rfl, a, _, 1, .ref t, rfl, rfl, ha, rfl, t, rfl, ⟨xs, ht⟩, for_tup (xs := xs) (fun k σ H1 => H1 = H ∧ ∃ v4 : Option V, σ = [some (.ref a), some (.int i), some (.int j), some (.int (leadI (bs.take k) i.toNat j.toNat)), v4])
    ⟨rfl, none, rfl⟩ (fun k σ H1 _ p => by rw [p.1]; exact ht) ?_ ?_⟩
  · rintro k x σ H1 hk ⟨rfl, v4, rfl⟩
    obtain ⟨b, u, eb, rfl, hu⟩ := bal_of hx hk
    have hb := hv.bal b (List.mem_of_getElem? eb)
    have st := lead_step (i := i.toNat) (j := j.toNat) eb
    refine ⟨_, rfl, _, rfl, u, _, i, _, rfl, rfl, hu, bal_at hb i0 i1, _, rfl, _, rfl, u, _, j, _, rfl, rfl, hu, bal_at hb j0 j1, _, _, rfl, rfl, _, rfl, ?_⟩
    have two : ∀ z : Int, leadI (bs.take (k + 1)) i.toNat j.toNat = z - (if b.getD j.toNat 0 < b.getD i.toNat 0 then 1 else 0) →
        tIfS (tTest (tOp (rI0 fun i j => .bl (decide (i < j))) (tOp (rIxT K) (tVar 4) (tVar 2)) (tOp (rIxT K) (tVar 4) (tVar 1)))) (tSetC 3 (tOp (rI0 fun i j => .int (i - j)) (tVar 3) (tC (.int 1)))) tNext
          { nx := fun σ H' => H' = H1 ∧ ∃ v4 : Option V, σ = [some (.ref a), some (.int i), some (.int j), some (.int (leadI (bs.take (k + 1)) i.toNat j.toNat)), v4], rt := Q, ct := fun σ H' => H' = H1 ∧ ∃ v4 : Option V, σ = [some (.ref a), some (.int i), some (.int j), some (.int (leadI (bs.take (k + 1)) i.toNat j.toNat)), v4] }
          [some (.ref a), some (.int i), some (.int j), some (.int z), some (.ref u)] H1 := by
      intro z hz
      refine ⟨_, rfl, _, rfl, u, _, j, _, rfl, rfl, hu, bal_at hb j0 j1, _, rfl, _, rfl, u, _, i, _, rfl, rfl, hu, bal_at hb i0 i1, _, _, rfl, rfl, _, rfl, ?_⟩
      refine ite2 (fun c => ?_) (fun c => ?_)
      · have c' := of_decide_eq_true c
        rw [if_pos c'] at hz
        exact ⟨_, rfl, _, _, rfl, rfl, rfl, some (.ref u), by rw [hz]; rfl⟩
      · have c' : ¬ b.getD j.toNat 0 < b.getD i.toNat 0 := of_decide_eq_false (Bool.eq_false_iff.mpr c)
        rw [if_neg c'] at hz
        exact ⟨rfl, some (.ref u), by rw [hz, Int.sub_zero]⟩
    refine ite2 (fun c => ?_) (fun c => ?_)
    · have c' := of_decide_eq_true c
      rw [if_pos c'] at st
      exact ⟨_, rfl, _, _, rfl, rfl, two _ st⟩
    · have c' : ¬ b.getD i.toNat 0 < b.getD j.toNat 0 := of_decide_eq_false (Bool.eq_false_iff.mpr c)
      rw [if_neg c', Int.add_zero] at st
      exact two _ st
  · rintro σ H1 ⟨rfl, v4, rfl⟩
    refine ⟨_, rfl, ?_⟩
    rw [hxl, List.take_length]
    exact q _ (Same.refl _)
end
/-! ### chains by thresholds: the mathematics -/
/-- a chain from i to j, of names below n, each leading the next by k at least -/
inductive Rch (L : Nat → Nat → Int) (n : Nat) (k : Int) : Nat → Nat → Prop where
  | one {i j : Nat} : i < n → j < n → k ≤ L i j → Rch L n k i j
  | cons {i j l : Nat} : i < n → j < n → k ≤ L i j → Rch L n k j l → Rch L n k i l
/-- s is the strength of i over j -/
structure IsStr (L : Nat → Nat → Int) (n i j : Nat) (s : Int) : Prop where
  nn : 0 ≤ s
  iff : ∀ k, 1 ≤ k → (Rch L n k i j ↔ k ≤ s)
section
variable {L L' : Nat → Nat → Int} {n : Nat} {k k' : Int} {i j l a b : Nat} {s s' : Int}
theorem Rch.left (h : Rch L n k i j) : i < n := by cases h <;> assumption
theorem Rch.right (h : Rch L n k i j) : j < n := by
  induction h with
  | one _ h _ => exact h
  | cons _ _ _ _ ih => exact ih
theorem Rch.trans (h : Rch L n k i j) (h' : Rch L n k j l) : Rch L n k i l := by
  induction h with
  | one a b c => exact .cons a b c h'
  | cons a b c _ ih => exact .cons a b c (ih h')
theorem Rch.snoc (h : Rch L n k i j) (hl : l < n) (hk : k ≤ L j l) : Rch L n k i l := h.trans (.one h.right hl hk)
theorem Rch.weak (h : Rch L n k i j) (hk : k' ≤ k) : Rch L n k' i j := by
  induction h with
  | one a b c => exact .one a b (by omega)
  | cons a b c _ ih => exact .cons a b (by omega) ih
theorem IsStr.unique (h : IsStr L n i j s) (h' : IsStr L n i j s') : s = s' := by
  have h1 : ¬ s < s' := fun c => by
    have := (h.iff s' (by have := h.nn; omega)).mp ((h'.iff s' (by have := h.nn; omega)).mpr (Int.le_refl _))
    omega
  have h2 : ¬ s' < s := fun c => by
    have := (h'.iff s (by have := h'.nn; omega)).mp ((h.iff s (by have := h'.nn; omega)).mpr (Int.le_refl _))
    omega
  omega
/-- the same chains, the same strength -/
theorem IsStr.congr {i' j' m : Nat} (h : IsStr L n i j s) (e : ∀ k, 1 ≤ k → (Rch L n k i j ↔ Rch L' m k i' j')) : IsStr L' m i' j' s :=
  ⟨h.nn, fun k hk => by rw [← e k hk]; exact h.iff k hk⟩
/-- never stronger over a third one than the weaker half -/
theorem IsStr.tri {s1 s2 s3 : Int} (h1 : IsStr L n i j s1) (h2 : IsStr L n j l s2) (h3 : IsStr L n i l s3) : s1 ≤ s3 ∨ s2 ≤ s3 := by
  by_cases c : s1 ≤ s2
  · by_cases z : 1 ≤ s1
    · exact .inl ((h3.iff s1 z).mp (((h1.iff s1 z).mpr (Int.le_refl _)).trans ((h2.iff s1 z).mpr c)))
    · have := h3.nn
      exact .inl (by omega)
  · by_cases z : 1 ≤ s2
    · exact .inr ((h3.iff s2 z).mp (((h1.iff s2 z).mpr (by omega)).trans ((h2.iff s2 z).mpr (Int.le_refl _))))
    · have := h3.nn
      exact .inr (by omega)
end
/-- i is above j: S the strengths -/
def Abv (S : Nat → Nat → Int) (i j : Nat) : Prop := S j i < S i j
section
variable {L : Nat → Nat → Int} {n : Nat} {S : Nat → Nat → Int}
/-- S tells the strengths of unlike names -/
def StrOf (L : Nat → Nat → Int) (n : Nat) (S : Nat → Nat → Int) : Prop := ∀ i j, i < n → j < n → i ≠ j → IsStr L n i j (S i j)
theorem StrOf.same {S' : Nat → Nat → Int} (h : StrOf L n S) (h' : StrOf L n S') {i j : Nat} (hi : i < n) (hj : j < n) (hne : i ≠ j) : S i j = S' i j := (h i j hi hj hne).unique (h' i j hi hj hne)
theorem abv_asymm {i j : Nat} (h : Abv S i j) : ¬ Abv S j i := fun c => by unfold Abv at h c; omega
/-- what is above what is above is above -/
theorem abv_trans (hS : StrOf L n S) {i j l : Nat} (hi : i < n) (hj : j < n) (hl : l < n) (hij : i ≠ j) (hjl : j ≠ l) (h1 : Abv S i j) (h2 : Abv S j l) : i ≠ l ∧ Abv S i l := by
  have hil : i ≠ l := fun e => by subst e; exact abv_asymm h1 h2
  refine ⟨hil, ?_⟩
  unfold Abv at h1 h2 ⊢
  -- suppose not: S i l ≤ S l i
  by_cases c : S l i < S i l
  · exact c
  · exfalso
    have t1 := (hS i j hi hj hij).tri (hS j l hj hl hjl) (hS i l hi hl hil)
    have t2 := (hS j l hj hl hjl).tri (hS l i hl hi (Ne.symm hil)) (hS j i hj hi (Ne.symm hij))
    have t3 := (hS l i hl hi (Ne.symm hil)).tri (hS i j hi hj hij) (hS l j hl hj (Ne.symm hjl))
    omega
/-- among names some have none above them -/
theorem exists_first (hS : StrOf L n S) (hn : 0 < n) : ∃ i, i < n ∧ ∀ j, j < n → j ≠ i → ¬ Abv S j i := by
  -- a name that is first among the first m + 1
  have main : ∀ m, m < n → ∃ i, i ≤ m ∧ ∀ j, j ≤ m → j ≠ i → ¬ Abv S j i := by
    intro m
    induction m with
    | zero => exact fun _ => ⟨0, Nat.le_refl _, fun j hj hne => absurd (Nat.le_zero.mp hj) hne⟩
    | succ m ih =>
      intro hm
      obtain ⟨i, hi, h⟩ := ih (by omega)
      by_cases c : Abv S (m + 1) i
      · refine ⟨m + 1, Nat.le_refl _, fun j hj hne c2 => ?_⟩
        have hj' : j ≤ m := by omega
        by_cases e : j = i
        · subst e; exact abv_asymm c c2
        · exact h j hj' e (abv_trans hS (by omega) (by omega) (by omega) hne (by omega) c2 c).2
      · refine ⟨i, by omega, fun j hj hne => ?_⟩
        by_cases e : j = m + 1
        · subst e; exact c
        · exact h j (by omega) hne
  obtain ⟨i, hi, h⟩ := main (n - 1) (by omega)
  exact ⟨i, by omega, fun j hj hne => h j (by omega) hne⟩
end

/-! ### strengths by hand: name by name, chains through it -/
def fw (L : Nat → Nat → Int) : Nat → Nat → Nat → Int
  | 0, i, j => max 0 (L i j)
  | b + 1, i, j => max (fw L b i j) (min (fw L b i b) (fw L b b j))
section
variable {L : Nat → Nat → Int} {n : Nat} {k : Int}
theorem fw_nn (L : Nat → Nat → Int) : ∀ b i j, 0 ≤ fw L b i j
  | 0, i, j => by unfold fw; omega
  | b + 1, i, j => by have := fw_nn L b i j; unfold fw; omega
/-- the row and the column of the name that is walked through stay -/
theorem fw_row (L : Nat → Nat → Int) (b j : Nat) : fw L (b + 1) b j = fw L b b j := by
  show max (fw L b b j) (min (fw L b b b) (fw L b b j)) = _
  omega
theorem fw_col (L : Nat → Nat → Int) (b i : Nat) : fw L (b + 1) i b = fw L b i b := by
  show max (fw L b i b) (min (fw L b i b) (fw L b b b)) = _
  omega
theorem fw_step (L : Nat → Nat → Int) (b i j : Nat) (k : Int) : k ≤ fw L (b + 1) i j ↔ k ≤ fw L b i j ∨ (k ≤ fw L b i b ∧ k ≤ fw L b b j) := by
  show k ≤ max (fw L b i j) (min (fw L b i b) (fw L b b j)) ↔ _
  omega
theorem fw_sound (hk : 1 ≤ k) : ∀ b, b ≤ n → ∀ i j, i < n → j < n → k ≤ fw L b i j → Rch L n k i j
  | 0, _, i, j, hi, hj, h => .one hi hj (by unfold fw at h; omega)
  | b + 1, hb, i, j, hi, hj, h => by
    rcases (fw_step L b i j k).mp h with z | ⟨z1, z2⟩
    · exact fw_sound hk b (by omega) i j hi hj z
    · exact (fw_sound hk b (by omega) i b hi (by omega) z1).trans (fw_sound hk b (by omega) b j (by omega) hj z2)
theorem fw_trans (L : Nat → Nat → Int) (k : Int) : ∀ b i j l, j < b → k ≤ fw L b i j → k ≤ fw L b j l → k ≤ fw L b i l
  | 0, _, _, _, h, _, _ => absurd h (Nat.not_lt_zero _)
  | b + 1, i, j, l, hj, h1, h2 => by
    rw [fw_step]
    by_cases e : j = b
    · subst e
      rw [fw_col] at h1
      rw [fw_row] at h2
      exact .inr ⟨h1, h2⟩
    · have hj' : j < b := by omega
      rw [fw_step] at h1 h2
      have T := fw_trans L k b
      rcases h1 with z1 | ⟨z1, z1'⟩
      · rcases h2 with z2 | ⟨z2, z2'⟩
        · exact .inl (T i j l hj' z1 z2)
        · exact .inr ⟨T i j b hj' z1 z2, z2'⟩
      · rcases h2 with z2 | ⟨z2, z2'⟩
        · exact .inr ⟨z1, T b j l hj' z1' z2⟩
        · exact .inr ⟨z1, z2'⟩
theorem fw_mono (L : Nat → Nat → Int) (i j : Nat) : ∀ b, fw L 0 i j ≤ fw L b i j
  | 0 => Int.le_refl _
  | b + 1 => by
    have := fw_mono L i j b
    show _ ≤ max (fw L b i j) _
    omega
theorem fw_full {i j : Nat} (h : Rch L n k i j) : k ≤ fw L n i j := by
  induction h with
  | @one i j hi hj hk =>
    have := fw_mono L i j n
    have e : fw L 0 i j = max 0 (L i j) := rfl
    omega
  | @cons i j l hi hj hk _ ih =>
    have := fw_mono L i j n
    have e : fw L 0 i j = max 0 (L i j) := rfl
    exact fw_trans L k n i j l hj (by omega) ih
theorem fw_str (L : Nat → Nat → Int) (n : Nat) : StrOf L n (fw L n) := fun i j hi hj _ => ⟨fw_nn L n i j, fun k hk => ⟨fw_full, fw_sound hk n (Nat.le_refl _) i j hi hj⟩⟩
end

/-! ### raising a name does no harm -/
section
variable {L L' : Nat → Nat → Int} {n a : Nat} {k : Int}
/-- L' is L with the name a raised -/
structure Raises (L L' : Nat → Nat → Int) (n a : Nat) : Prop where
  up : ∀ x, x < n → x ≠ a → L a x ≤ L' a x
  down : ∀ x, x < n → x ≠ a → L' x a ≤ L x a
  rest : ∀ x y, x < n → y < n → x ≠ a → y ≠ a → L' x y = L x y
theorem Raises.from (h : Raises L L' n a) {i b : Nat} (hb : b ≠ a) (r : Rch L n k i b) : Rch L' n k i b ∨ Rch L' n k a b := by
  induction r with
  | @one i b hi hj hk =>
    by_cases e : i = a
    · subst e; exact .inr (.one hi hj (by have := h.up b hj hb; omega))
    · exact .inl (.one hi hj (by rw [h.rest i b hi hj e hb]; exact hk))
  | @cons i j b hi hj hk _ ih =>
    rcases ih hb with z | z
    · by_cases ej : j = a
      · subst ej; exact .inr z
      · by_cases e : i = a
        · subst e; exact .inr (.cons hi hj (by have := h.up j hj ej; omega) z)
        · exact .inl (.cons hi hj (by rw [h.rest i j hi hj e ej]; exact hk) z)
    · exact .inr z
theorem Raises.to (h : Raises L L' n a) {i b : Nat} (r : Rch L' n k i b) : b = a → i ≠ a → Rch L n k i a := by
  induction r with
  | @one i b hi hj hk =>
    intro e hne
    subst e
    exact .one hi hj (by have := h.down i hi hne; omega)
  | @cons i j b hi hj hk _ ih =>
    intro e hne
    by_cases ej : j = a
    · subst ej
      exact .one hi hj (by have := h.down i hi hne; omega)
    · exact .cons hi hj (by rw [← h.rest i j hi hj hne ej]; exact hk) (ih e ej)
theorem raise_ok {S S' : Nat → Nat → Int} (h : Raises L L' n a) (hS : StrOf L n S) (hS' : StrOf L' n S') (ha : a < n) {b : Nat} (hb : b < n) (hne : b ≠ a) : S a b ≤ S' a b ∧ S' b a ≤ S b a := by
  refine ⟨?_, ?_⟩
  · by_cases c : 1 ≤ S a b
    · have r := ((hS a b ha hb (Ne.symm hne)).iff _ c).mpr (Int.le_refl _)
      rcases h.from hne r with z | z <;> exact ((hS' a b ha hb (Ne.symm hne)).iff _ c).mp z
    · have := (hS' a b ha hb (Ne.symm hne)).nn
      omega
  · by_cases c : 1 ≤ S' b a
    · have r := ((hS' b a hb ha hne).iff _ c).mpr (Int.le_refl _)
      exact ((hS b a hb ha hne).iff _ c).mp (h.to r rfl hne)
    · have := (hS b a hb ha hne).nn
      omega
end

/-! ### turned about, other numbers -/
section
variable {L L' : Nat → Nat → Int} {n : Nat} {k : Int}
theorem rch_flip (h : ∀ i j, i < n → j < n → L' i j = L j i) {i j : Nat} (r : Rch L n k i j) : Rch L' n k j i := by
  induction r with
  | @one i j hi hj hk => exact .one hj hi (by rw [h j i hj hi]; exact hk)
  | @cons i j l hi hj hk _ ih => exact ih.snoc hi (by rw [h j i hj hi]; exact hk)
theorem str_flip {S S' : Nat → Nat → Int} (h : ∀ i j, i < n → j < n → L' i j = L j i) (hS : StrOf L n S) (hS' : StrOf L' n S') {i j : Nat} (hi : i < n) (hj : j < n) (hne : i ≠ j) : S' i j = S j i :=
  (hS' i j hi hj hne).unique ((hS j i hj hi (Ne.symm hne)).congr fun k _ => ⟨fun r => rch_flip h r, fun r => rch_flip (fun a b ha hb => (h b a hb ha).symm) r⟩)
theorem rch_map {p : Nat → Nat} (hp : ∀ i, i < n → p i < n) (h : ∀ i j, i < n → j < n → L' (p i) (p j) = L i j) {i j : Nat} (r : Rch L n k i j) : Rch L' n k (p i) (p j) := by
  induction r with
  | @one i j hi hj hk => exact .one (hp i hi) (hp j hj) (by rw [h i j hi hj]; exact hk)
  | @cons i j l hi hj hk _ ih => exact .cons (hp i hi) (hp j hj) (by rw [h i j hi hj]; exact hk) ih
theorem str_map {S S' : Nat → Nat → Int} {p q : Nat → Nat} (hp : ∀ i, i < n → p i < n) (hq : ∀ i, i < n → q i < n) (hqp : ∀ i, i < n → q (p i) = i) (hpq : ∀ i, i < n → p (q i) = i) (h : ∀ i j, i < n → j < n → L' (p i) (p j) = L i j)
    (hS : StrOf L n S) (hS' : StrOf L' n S') {i j : Nat} (hi : i < n) (hj : j < n) (hne : i ≠ j) : S' (p i) (p j) = S i j := by
  have hne' : p i ≠ p j := fun e => hne (by rw [← hqp i hi, ← hqp j hj, e])
  refine (hS' _ _ (hp i hi) (hp j hj) hne').unique ((hS i j hi hj hne).congr fun k _ => ⟨fun r => rch_map hp h r, fun r => ?_⟩)
  have := rch_map (p := q) (L' := L) hq (fun a b ha hb => by rw [← h (q a) (q b) (hq a ha) (hq b hb), hpq a ha, hpq b hb]) r
  rw [hqp i hi, hqp j hj] at this
  exact this
end

/-! ### crowds whose names each beat all outside -/
section
variable {L : Nat → Nat → Int} {n : Nat} {k : Int} {C : Nat → Prop}
theorem no_entry (hL : ∀ i j, L i j = - L j i) (hC : ∀ i j, i < n → j < n → C i → ¬ C j → 0 < L i j) (hk : 1 ≤ k) {i j : Nat} (r : Rch L n k i j) : ¬ C i → ¬ C j := by
  induction r with
  | @one i j hi hj hkk =>
    intro ci cj
    have := hC j i hj hi cj ci
    have := hL i j
    omega
  | @cons i j l hi hj hkk _ ih =>
    intro ci
    refine ih fun cj => ?_
    have := hC j i hj hi cj ci
    have := hL i j
    omega
theorem crowd_above {S : Nat → Nat → Int} (hL : ∀ i j, L i j = - L j i) (hS : StrOf L n S) (hC : ∀ i j, i < n → j < n → C i → ¬ C j → 0 < L i j) {i j : Nat} (hi : i < n) (hj : j < n) (ci : C i) (cj : ¬ C j) : Abv S i j := by
  have hne : i ≠ j := fun e => cj (e ▸ ci)
  have h1 := hC i j hi hj ci cj
  have a1 : L i j ≤ S i j := ((hS i j hi hj hne).iff _ (by omega)).mp (.one hi hj (Int.le_refl _))
  have a2 : S j i < 1 := by
    by_cases c : 1 ≤ S j i
    · exact absurd ci (no_entry hL hC (Int.le_refl 1) (((hS j i hj hi (Ne.symm hne)).iff 1 (Int.le_refl _)).mpr c) cj)
    · omega
  unfold Abv
  omega
end
/-! ### the program's strengths -/
structure TabF (K : PySem.W.Frag) (mg : Str → Option Value) where
  {fA fL fR fT : Addr}
  {dA dL dR dT : FuncData}
  A : Fd K mg "times_ahead" sAhead nAhead fA dA
  L : Fd K mg "lead" sLead ["box", "one", "other"] fL dL
  R : Fd K mg "row" sRow nRow fR dR
  T : Fd K mg "table" sTable nTable fT dT
structure BoxF (K : PySem.W.Frag) (mg : Str → Option Value) where
  {fC fM fL fB : Addr}
  {dC dM dL dB : FuncData}
  C : Fd K mg "_law_cell" sCell ["_law_script", "_law_k"] fC dC
  M : Fd K mg "_law_mix" sMix ["_law_cell_here", "_law_prime", "_law_many"] fM dM
  L : Fd K mg "_law_ballot" sBallot ["_law_cell_here", "_law_many", "_law_way"] fL dL
  B : Fd K mg "_law_box" sBox ["_law_script", "_law_most"] fB dB
/-- a row of a matrix -/
def rowV (m : Nat) (f : Nat → Int) : List V := (List.range m).map fun j => V.int (f j)
theorem rowV_len {m : Nat} {f : Nat → Int} : (rowV m f).length = m := by unfold rowV; rw [List.length_map, List.length_range]
theorem rowV_congr {m : Nat} {f g : Nat → Int} (h : ∀ j, j < m → f j = g j) : rowV m f = rowV m g := by
  unfold rowV
  exact List.map_congr_left fun j hj => by rw [h j (List.mem_range.mp hj)]
theorem rowV_succ {m : Nat} {f : Nat → Int} : rowV (m + 1) f = rowV m f ++ [V.int (f m)] := by
  unfold rowV
  rw [List.range_succ, List.map_append]
  rfl
theorem rowV_get? {m k : Nat} {f : Nat → Int} (h : k < m) : (rowV m f)[k]? = some (.int (f k)) := by
  unfold rowV
  rw [List.getElem?_map, List.getElem?_range h]
  rfl
theorem rowV_get {m k : Nat} {f : Nat → Int} {x : V} (h : (rowV m f)[k]? = some x) : k < m ∧ x = .int (f k) := by
  have hk : k < m := by
    have := (List.getElem?_eq_some_iff.mp h).1
    rw [rowV_len] at this
    exact this
  rw [rowV_get? hk] at h
  cases h
  exact ⟨hk, rfl⟩
theorem rowV_at {m : Nat} {f : Nat → Int} {k : Int} (h0 : 0 ≤ k) (h1 : k < m) : atI (rowV m f) k = some (.int (f k.toNat)) := by
  have ek : k = ((k.toNat : Nat) : Int) := by omega
  have := atI_nat (rowV_get? (f := f) (show k.toNat < m by omega))
  rw [← ek] at this
  exact this
theorem rowI_rowV (bs : List (List Int)) (m i : Nat) : (rowI bs m i).map V.int = rowV m (leadI bs i) := by
  unfold rowI rowV
  rw [List.map_map]
  rfl
theorem tableI_get {bs : List (List Int)} {m k : Nat} {b : List Int} (h : (tableI bs m)[k]? = some b) : k < m ∧ b = rowI bs m k := by
  have hk : k < m := by
    have := (List.getElem?_eq_some_iff.mp h).1
    unfold tableI at this
    rw [List.length_map, List.length_range] at this
    exact this
  unfold tableI at h
  rw [List.getElem?_map, List.getElem?_range hk] at h
  cases h
  exact ⟨hk, rfl⟩
theorem tableI_at {bs : List (List Int)} {m k : Nat} (h : k < m) : (tableI bs m)[k]? = some (rowI bs m k) := by
  unfold tableI
  rw [List.getElem?_map, List.getElem?_range h]
  rfl
/-- the list xs holds the lists of a matrix of n rows -/
def LMat (H : Hp) (n m : Nat) (F : Nat → Nat → Int) (xs : List V) : Prop := xs.length = n ∧ ∀ i, i < n → ∃ r, xs[i]? = some (.ref r) ∧ H r = some (.lst (rowV m (F i)))
theorem LMat.mono {H H' : Hp} {n m : Nat} {F : Nat → Nat → Int} {xs : List V} (h : LMat H n m F xs) (s : Same H H') : LMat H' n m F xs :=
  ⟨h.1, fun i hi => let ⟨r, e, f⟩ := h.2 i hi; ⟨r, e, s _ _ f⟩⟩
theorem LMat.congr {H : Hp} {n m : Nat} {F G : Nat → Nat → Int} {xs : List V} (h : LMat H n m F xs) (e : ∀ i j, i < n → j < m → F i j = G i j) : LMat H n m G xs :=
  ⟨h.1, fun i hi => let ⟨r, e1, f⟩ := h.2 i hi; ⟨r, e1, by rw [f, rowV_congr fun j hj => e i j hi hj]⟩⟩
theorem LMat.nil {H : Hp} {m : Nat} {F : Nat → Nat → Int} : LMat H 0 m F [] := ⟨rfl, fun _ h => absurd h (Nat.not_lt_zero _)⟩
theorem LMat.snoc {H : Hp} {n m : Nat} {F : Nat → Nat → Int} {xs : List V} {r : Addr} (h : LMat H n m F xs) (e : H r = some (.lst (rowV m (F n)))) : LMat H (n + 1) m F (xs ++ [.ref r]) := by
  refine ⟨by rw [List.length_append, h.1]; rfl, fun i hi => ?_⟩
  by_cases c : i < n
  · obtain ⟨q, e1, e2⟩ := h.2 i c
    exact ⟨q, by rw [List.getElem?_append_left (by rw [h.1]; exact c)]; exact e1, e2⟩
  · have : i = n := by omega
    subst this
    refine ⟨r, ?_, e⟩
    rw [List.getElem?_append_right (by rw [h.1]; exact Nat.le_refl _), h.1, Nat.sub_self]
    rfl
/-- the outer list is none of the rows -/
theorem LMat.ne {H : Hp} {n m : Nat} {F : Nat → Nat → Int} {xs : List V} {l r : Addr} {f : Nat → Int} (h : LMat H n m F xs) (hl : H l = some (.lst xs)) (hn : 0 < n) (hm : 0 < m) (hr : H r = some (.lst (rowV m f))) : r ≠ l := by
  intro e
  subst e
  rw [hl] at hr
  obtain ⟨q, e1, _⟩ := h.2 0 hn
  have e2 : xs = rowV m f := by cases hr; rfl
  rw [e2, rowV_get? hm] at e1
  cases e1
theorem LMat.set {H H' : Hp} {m : Nat} {F : Nat → Nat → Int} {xs : List V} {l a : Addr} {o : Nat} {f : Nat → Int} (h : LMat H m m F xs) (hl : H l = some (.lst xs)) (ho : o < m) (s : Same H H') (ha : H' a = some (.lst (rowV m f))) (hna : H a = none) :
    LMat (upd H' l (.lst (xs.set o (.ref a)))) m m (fun i => if i = o then f else F i) (xs.set o (.ref a)) := by
  refine ⟨by rw [List.length_set]; exact h.1, fun i hi => ?_⟩
  by_cases c : i = o
  · subst c
    refine ⟨a, by rw [List.getElem?_set_self (by rw [h.1]; exact hi)], ?_⟩
    rw [upd_ne (fun e => by rw [e, hl] at hna; cases hna), ha]
    simp only [if_true]
  · obtain ⟨r, e1, e2⟩ := h.2 i hi
    refine ⟨r, by rw [List.getElem?_set_ne (fun e => c e.symm)]; exact e1, ?_⟩
    rw [upd_ne (h.ne hl (by omega) (by omega) e2), s _ _ e2]
    simp only [c, if_false]
theorem LMat.at {H : Hp} {n m : Nat} {F : Nat → Nat → Int} {xs : List V} (h : LMat H n m F xs) {k : Int} (h0 : 0 ≤ k) (h1 : k < n) : ∃ r, atI xs k = some (.ref r) ∧ H r = some (.lst (rowV m (F k.toNat))) := by
  obtain ⟨r, e1, e2⟩ := h.2 k.toNat (by omega)
  have ek : k = ((k.toNat : Nat) : Int) := by omega
  have := atI_nat e1
  rw [← ek] at this
  exact ⟨r, this, e2⟩
theorem ixN_ok {n : Nat} {i : Int} (h0 : 0 ≤ i) (h1 : i < n) : ixN n i = some i.toNat := by unfold ixN; rw [if_pos h0, if_pos h1]
theorem max2_eq (a b : Int) : (if b > a then b else a) = max a b := by split <;> omega
theorem min2_eq (a b : Int) : (if b < a then b else a) = min a b := by split <;> omega
theorem same_set {H H1 : Hp} {l : Addr} {o : HO} (s : Same H H1) (hl : H l = none) : Same H (upd H1 l o) := fun b u e => by rw [upd_ne (ne_of_none e hl)]; exact s b u e
section
variable {P : Program} {w : World} {K : PySem.W.Frag} {mg : Str → Option Value} {base : Heap}
theorem TabF.table (t : TabF K mg) (T : Bi mg) : FnOk P w K mg base CX0 4 t.fT t.dT nTable (spTable K) := ok_table T t.T t.R t.L t.A
theorem TabF.lead (t : TabF K mg) (T : Bi mg) : FnOk P w K mg base CX0 2 t.fL t.dL ["box", "one", "other"] (spLead K) := ok_lead T t.L t.A
theorem BoxF.box (t : BoxF K mg) (T : Bi mg) : FnOk P w K mg base CX0 3 t.fB t.dB ["_law_script", "_law_most"] (spBox K) := ok_box T t.B t.C t.M t.L
theorem BoxF.cell (t : BoxF K mg) (T : Bi mg) : FnOk P w K mg base CX0 1 t.fC t.dC ["_law_script", "_law_k"] (spCell K) := ok_cell T t.C
theorem BoxF.mix (t : BoxF K mg) : FnOk P w K mg base CX0 1 t.fM t.dM ["_law_cell_here", "_law_prime", "_law_many"] spMix := ok_mix t.M
def spLinks (K : PySem.W.Frag) : Sp := fun vs H Q _ => ∃ (t : Addr) (m : Nat) (f : Nat → Int), vs = [.ref t] ∧ SqT K H t (rowV m f) ∧ m ≤ 100 ∧ ∀ a H', Same H H' → H' a = some (.lst (rowV m fun j => max 0 (f j))) → Q (.ref a) H'
def spStd (K : PySem.W.Frag) : Sp := fun vs H Q _ => ∃ (r q : Addr) (m : Nat) (f g : Nat → Int) (b : Int), vs = [.ref r, .int b, .ref q] ∧ SqL K H r (rowV m f) ∧ SqL K H q (rowV m g) ∧ m ≤ 100 ∧ 0 ≤ b ∧ b < m ∧
  ∀ a H', Same H H' → H a = none → H' a = some (.lst (rowV m fun j => max (f j) (min (f b.toNat) (g j)))) → Q (.ref a) H'
def spStrs (K : PySem.W.Frag) : Sp := fun vs H Q _ => ∃ (v : V) (m : Nat) (bs : List (List Int)), vs = [v] ∧ BoxV K H v m bs ∧ ∀ a xs H', Same H H' → H' a = some (.lst xs) → LMat H' m m (fw (leadI bs) m) xs → Q (.ref a) H'
def spStr (K : PySem.W.Frag) : Sp := fun vs H Q _ => ∃ (v : V) (m : Nat) (bs : List (List Int)) (i j : Int), vs = [v, .int i, .int j] ∧ BoxV K H v m bs ∧ 0 ≤ i ∧ i < m ∧ 0 ≤ j ∧ j < m ∧ ∀ H', Same H H' → Q (.int (fw (leadI bs) m i.toNat j.toNat)) H'

theorem scLinks : FnScope ["row"] ["row"] (defScope sLinks) := ⟨rfl, rfl, rfl, by decide +kernel, rfl, by decide +kernel, by decide +kernel⟩
theorem ok_links {f : Addr} {fd : FuncData} (T : Bi mg) (D : Fd K mg "links" sLinks ["row"] f fd) : FnOk P w K mg base CX0 1 f fd ["row"] (spLinks K) := by
  refine D.F.ok scLinks (fun vs H Q E h => ?_) (fun cdv A outer s H vs Q E hr h => ?_)
  · obtain ⟨t, m, f, rfl, _⟩ := h
    rfl
  obtain ⟨t, m, f, rfl, hS, hm, q⟩ := h
  refine ⟨_, pss_one (ps_ret (pe_comp ["row"] ["lead", "row"] (defScope sLinks) (pi_tup (pv 0)) (fun _ _ _ _ _ => pf_nil)
    (fun _ _ _ _ _ => pe_callB (call_max2 rfl) rfl T.max PyProof.Rows.boot_max (pa_cons (pv 0) (pa_cons pe_int pa_nil))))), ?_⟩
  refine ⟨_, rfl, t, rfl, ⟨_, hS⟩, comp_tup (xs := rowV m f) (fun k ys H1 => H1 = H ∧ ys = rowV k fun j => max 0 (f j)) ⟨rfl, rfl⟩ (fun k ys H1 _ p => by rw [p.1]; exact hS) ?_ (fun k ys H1 hk p => hsz (by rw [p.2, rowV_len]; rw [rowV_len] at hk; omega)) ?_⟩
  · rintro k x ys H1 hx ⟨rfl, rfl⟩
    obtain ⟨hk, rfl⟩ := rowV_get hx
    refine tyes ?_
    refine ⟨_, rfl, _, _, rfl, rfl, ?_⟩
    rw [rowV_succ, max2_eq, Int.max_comm]
  · rintro ys H1 ⟨rfl, rfl⟩ p hp
    rw [rowV_len]
    exact q p _ (same_new hp _) upd_same

abbrev nStd : List Str := ["row", "middle", "middle_row"]
theorem scStd : FnScope nStd nStd (defScope sStd) := ⟨rfl, rfl, rfl, by decide +kernel, rfl, by decide +kernel, by decide +kernel⟩
theorem ok_std {f : Addr} {fd : FuncData} (T : Bi mg) (D : Fd K mg "strengthened" sStd nStd f fd) : FnOk P w K mg base CX0 1 f fd nStd (spStd K) := by
  refine D.F.ok scStd (fun vs H Q E h => ?_) (fun cdv A outer s H vs Q E hr h => ?_)
  · obtain ⟨r, q, m, f, g, b, rfl, _⟩ := h
    rfl
  obtain ⟨r, u, m, f, g, b, rfl, hS, hS2, hm, b0, b1, q⟩ := h
  refine ⟨_, pss_one (ps_ret (pe_comp nStd ("other" :: nStd) (defScope sStd) (pi_range1 rfl T.range (pa_cons (pe_callB call_len_seq rfl T.len PySem.boot_len (pa_cons (pv 0) pa_nil)) pa_nil)) (fun _ _ _ _ _ => pf_nil)
    (fun _ _ _ _ _ => pe_callB (call_max2 rfl) rfl T.max PyProof.Rows.boot_max (pa_cons (pe_ix (ix_listK K) (pv 1) (pv 0) (fun _ _ => rfl)) (pa_cons
      (pe_callB (call_min2 rfl) rfl T.min PyProof.Rows.boot_min (pa_cons (pe_ix (ix_listK K) (pv 1) (pv 2) (fun _ _ => rfl)) (pa_cons (pe_ix (ix_listK K) (pv 3) (pv 0) (fun _ _ => rfl)) pa_nil))) pa_nil))))), ?_⟩
  refine ⟨_, rfl, r, _, rfl, .inl hS, (m : Int), by rw [rowV_len], by omega, by omega, comp_range (fun k ys H1 => H1 = H ∧ ys = rowV k fun j => max (f j) (min (f b.toNat) (g j))) ⟨rfl, rfl⟩ ?_ (fun k ys H1 hk p => hsz (by rw [p.2, rowV_len]; omega)) ?_⟩
  · rintro k ys H1 hk ⟨rfl, rfl⟩
    have e : (0 + (k : Int)).toNat = k := by omega
    refine tyes ?_
    refine ⟨_, rfl, _, rfl, r, _, _, _, rfl, rfl, hS, rowV_at (by omega) (by omega), _, rfl, _, rfl, r, _, _, _, rfl, rfl, hS, rowV_at b0 b1, _, rfl, _, rfl, u, _, _, _, rfl, rfl, hS2, rowV_at (by omega) (by omega), _, _, rfl, _, _, rfl, rfl, ?_⟩
    rw [rowV_succ, max2_eq, min2_eq, e]
  · rintro ys H1 ⟨rfl, rfl⟩ p hp
    have e : ((m : Nat) : Int).toNat = m := by omega
    rw [e]
    exact q p _ (same_new hp _) hp upd_same

structure StrF (K : PySem.W.Frag) (mg : Str → Option Value) where
  tab : TabF K mg
  {fK fD fS : Addr}
  {dK dD dS : FuncData}
  Kk : Fd K mg "links" sLinks ["row"] fK dK
  D : Fd K mg "strengthened" sStd nStd fD dD
  S : Fd K mg "strengths" sStrs ["box"] fS dS
abbrev nStrs : List Str := ["box", "many", "rows", "middle", "one"]
theorem scStrs : FnScope nStrs ["box"] (defScope sStrs) := ⟨rfl, rfl, rfl, by decide +kernel, rfl, by decide +kernel, by decide +kernel⟩
theorem StrF.strs (t : StrF K mg) (T : Bi mg) : FnOk P w K mg base CX0 5 t.fS t.dS ["box"] (spStrs K) := by
  have GT : FnOk P w K mg base CX0 4 t.tab.fT t.tab.dT nTable (spTable K) := t.tab.table T
  have GK : FnOk P w K mg base CX0 1 t.fK t.dK ["row"] (spLinks K) := ok_links T t.Kk
  have GD : FnOk P w K mg base CX0 1 t.fD t.dD nStd (spStd K) := ok_std T t.D
  refine t.S.F.ok scStrs (fun vs H Q E h => ?_) (fun cdv A outer s H vs Q E hr h => ?_)
  · obtain ⟨v, m, bs, rfl, _⟩ := h
    rfl
  obtain ⟨v, m, bs, rfl, hv, q⟩ := h
  refine ⟨_, pss_cons (ps_set (i := 1) scStrs.nd rfl (Or.inl rfl) (pe_ix ix_tup (pv 0) pe_int (fun _ _ => rfl)))
    (pss_cons (ps_comp nStrs ("row" :: nStrs) (defScope sStrs) 2 scStrs.nd rfl rfl (pi_tup (pe_fd t.tab.T GT hr (pa_cons (pv 0) pa_nil))) (fun _ _ _ _ _ => pf_nil) (fun _ _ _ _ _ => pe_fd t.Kk GK hr (pa_cons (pv 0) pa_nil)))
    (pss_cons (ps_for PassesOwn.never rfl (pi_range1 rfl T.range (pa_cons (pv 1) pa_nil)) (pg_name (i := 3) scStrs.nd rfl (Or.inl rfl))
      (pss_one (ps_for PassesOwn.never rfl (pi_range1 rfl T.range (pa_cons (pv 1) pa_nil)) (pg_name (i := 4) scStrs.nd rfl (Or.inl rfl))
        (pss_one (ps_asg (pe_fd t.D GD hr (pa_cons (pe_ix ix_list (pv 2) (pv 4) (fun _ _ => rfl)) (pa_cons (pv 3) (pa_cons (pe_ix ix_list (pv 2) (pv 3) (fun _ _ => rfl)) pa_nil)))) (pg_sub (pv 2) (pv 4) set_list))))))
    (pss_one (ps_ret (pv 2))))), ?_⟩
  obtain ⟨a, tb, xs0, rfl, ha, htb, hx⟩ := hv.open
  have hm := hv.many
  have em : ((m : Nat) : Int).toNat = m := by omega
  refine ⟨_, rfl, a, _, 0, .int m, rfl, rfl, ha, rfl, ?_⟩
  refine ⟨_, rfl, _, m, bs, rfl, hv, fun u xs H1 s1 eu hd => ?_⟩
  have hxl : xs.length = m := by rw [denL_length hd, List.length_map]; unfold tableI; rw [List.length_map, List.length_range]
  refine ⟨u, rfl, ⟨xs, SqT.of eu⟩, comp_tup (xs := xs) (fun k ys H2 => Same H1 H2 ∧ LMat H2 k m (fw (leadI bs) 0) ys) ⟨Same.refl H1, LMat.nil⟩ (fun k ys H2 _ p => p.1.tup (SqT.of eu)) ?_ (fun k ys H2 hk p => hsz (by rw [p.2.1]; omega)) ?_⟩
  · rintro k x ys H2 hx ⟨s2, hL⟩
    obtain ⟨b, t1, eb, rfl, ht1⟩ := bal_of hd hx
    obtain ⟨hk, rfl⟩ := tableI_get eb
    rw [rowI_rowV] at ht1
    refine tyes ?_
    refine ⟨_, rfl, t1, m, _, rfl, s2.tup ht1, hm, fun r H3 s3 e3 => ⟨s2.trans s3, (hL.mono s3).snoc e3⟩⟩
  rintro ys H2 ⟨s2, hL⟩ l hl
  rw [hxl] at hL
  generalize hH3 : upd H2 l (.lst ys) = H3
  have s23 : Same H2 H3 := by rw [← hH3]; exact same_new hl _
  have hl0 : H l = none := (s1.trans s2).free hl
  have s3 : Same H H3 := s1.trans (s2.trans s23)
  have e3 : H3 l = some (.lst ys) := by rw [← hH3]; exact upd_same
  refine ⟨_, rfl, (m : Int), rfl, by omega, by omega, for_range (fun b σ H4 => ∃ (v3 v4 : Option V) (zs : List V), σ = [some (.ref a), some (.int m), some (.ref l), v3, v4] ∧ Same H H4 ∧ H4 l = some (.lst zs) ∧ LMat H4 m m (fw (leadI bs) b) zs)
    ⟨none, none, ys, rfl, s3, e3, hL.mono s23⟩ ?_ ?_⟩
  · rintro b σ H4 hb ⟨v3, v4, zs, rfl, s4, e4, L4⟩
    rw [em] at hb
    refine ⟨_, rfl, (m : Int), rfl, by omega, by omega, for_range (fun o σ H5 => ∃ (v4 : Option V) (zs : List V), σ = [some (.ref a), some (.int m), some (.ref l), some (.int (0 + (b : Int))), v4] ∧ Same H H5 ∧ H5 l = some (.lst zs) ∧ LMat H5 m m (fun i j => if i < o then fw (leadI bs) (b + 1) i j else fw (leadI bs) b i j) zs)
      ⟨_, zs, rfl, s4, e4, L4.congr fun i j _ _ => by rw [if_neg (Nat.not_lt_zero _)]⟩ ?_ ?_⟩
    · rintro o σ H5 ho ⟨v4', zs, rfl, s5, e5, L5⟩
      rw [em] at ho
      obtain ⟨r, er, hr'⟩ := L5.at (k := 0 + (o : Int)) (by omega) (by omega)
      obtain ⟨u', eu', hu'⟩ := L5.at (k := 0 + (b : Int)) (by omega) (by omega)
      have eo : (0 + (o : Int)).toNat = o := by omega
      have eb : (0 + (b : Int)).toNat = b := by omega
      refine ⟨_, rfl, _, rfl, l, _, _, _, rfl, rfl, SqL.of e5, er, _, rfl, _, rfl, _, rfl, l, _, _, _, rfl, rfl, SqL.of e5, eu', r, u', m, _, _, _, rfl, SqL.of hr', SqL.of hu', hm, by omega, by omega, fun z H6 s6 nz ez => ?_⟩
      have hzl : zs.length = m := L5.1
      have hix : ixN zs.length (0 + (o : Int)) = some o := by
        have := ixN_ok (n := m) (i := 0 + (o : Int)) (by omega) (by omega)
        rw [eo] at this
        rw [hzl]
        exact this
      refine ⟨_, rfl, _, rfl, l, zs, _, o, rfl, rfl, s6 _ _ e5, hix, ?_⟩
      refine ⟨_, _, rfl, same_set (s5.trans s6) hl0, upd_same, (L5.set e5 ho s6 ez nz).congr fun i j hi hj => ?_⟩
      rw [eo, eb]
      by_cases c : i = o
      · subst c
        rw [if_pos rfl, if_neg (Nat.lt_irrefl _), if_pos (Nat.lt_succ_self _)]
        have er : (if b < i then fw (leadI bs) (b + 1) b j else fw (leadI bs) b b j) = fw (leadI bs) b b j := by split <;> first | rfl | exact fw_row _ _ _
        rw [er]
        simp only [Nat.lt_irrefl, if_false]
        rfl
      · rw [if_neg c]
        by_cases d : i < o
        · rw [if_pos d, if_pos (by omega)]
        · rw [if_neg d, if_neg (by omega)]
    · rintro σ H5 ⟨v4', zs, rfl, s5, e5, L5⟩
      rw [em] at L5
      exact ⟨_, _, zs, rfl, s5, e5, L5.congr fun i j hi _ => by rw [if_pos hi]⟩
  · rintro σ H4 ⟨v3, v4, zs, rfl, s4, e4, L4⟩
    rw [em] at L4
    exact ⟨_, rfl, q l zs H4 s4 e4 L4⟩

end
end My

namespace My
open PySem L2
/-! ### rows of pairs -/
/-- of one name: the pairs with the first k names -/
def prow (p : Nat → Nat → Bool) (i k : Nat) : List (List Int) := ((List.range k).filter (p i)).map fun (j : Nat) => [(i : Int), (j : Int)]
def prs (p : Nat → Nat → Bool) (m : Nat) : Nat → List (List Int)
  | 0 => []
  | n + 1 => prs p m n ++ prow p n m
theorem prow_succ (p : Nat → Nat → Bool) (i k : Nat) : prow p i (k + 1) = prow p i k ++ if p i k = true then [[(i : Int), (k : Int)]] else [] := by
  unfold prow
  rw [List.range_succ, List.filter_append, List.map_append]
  congr 1
  by_cases c : p i k = true
  · simp [c]
  · simp [c]
theorem mem_prow {p : Nat → Nat → Bool} {i k : Nat} {r : List Int} : r ∈ prow p i k ↔ ∃ j : Nat, j < k ∧ p i j = true ∧ r = [(i : Int), (j : Int)] := by
  unfold prow
  rw [List.mem_map]
  constructor
  · rintro ⟨j, hj, rfl⟩
    rw [List.mem_filter, List.mem_range] at hj
    exact ⟨j, hj.1, hj.2, rfl⟩
  · rintro ⟨j, hj, hp, rfl⟩
    exact ⟨j, by rw [List.mem_filter, List.mem_range]; exact ⟨hj, hp⟩, rfl⟩
theorem mem_prs {p : Nat → Nat → Bool} {m : Nat} {r : List Int} : ∀ {n : Nat}, r ∈ prs p m n ↔ ∃ i j : Nat, i < n ∧ j < m ∧ p i j = true ∧ r = [(i : Int), (j : Int)]
  | 0 => ⟨(fun h => nomatch h), fun ⟨_, _, h, _⟩ => absurd h (Nat.not_lt_zero _)⟩
  | n + 1 => by
    unfold prs
    rw [List.mem_append, mem_prs (n := n), mem_prow]
    constructor
    · rintro (⟨i, j, hi, h⟩ | ⟨j, hj, h⟩)
      · exact ⟨i, j, by omega, h⟩
      · exact ⟨n, j, Nat.lt_succ_self _, hj, h⟩
    · rintro ⟨i, j, hi, hj, h⟩
      by_cases c : i = n
      · subst c; exact .inr ⟨j, hj, h⟩
      · exact .inl ⟨i, j, by omega, hj, h⟩
theorem prow_len (p : Nat → Nat → Bool) (i k : Nat) : (prow p i k).length ≤ k := by
  unfold prow
  rw [List.length_map]
  have := List.length_filter_le (p i) (List.range k)
  rw [List.length_range] at this
  exact this
theorem prs_len (p : Nat → Nat → Bool) (m : Nat) : ∀ n, (prs p m n).length ≤ n * m
  | 0 => by unfold prs; simp
  | n + 1 => by
    have := prs_len p m n
    have := prow_len p n m
    unfold prs
    rw [List.length_append, Nat.succ_mul]
    omega
theorem prs_congr {p q : Nat → Nat → Bool} {m : Nat} : ∀ {n : Nat}, (∀ i j, i < n → j < m → p i j = q i j) → prs p m n = prs q m n
  | 0, _ => rfl
  | n + 1, h => by
    unfold prs
    rw [prs_congr (n := n) fun i j hi hj => h i j (by omega) hj]
    congr 1
    unfold prow
    congr 1
    exact List.filter_congr fun j hj => h n j (Nat.lt_succ_self _) (List.mem_range.mp hj)
theorem bal_at_pair {K : PySem.W.Frag} {H : Hp} {p : Nat → Nat → Bool} {m n : Nat} {xs : List V} {k : Nat} {x : V} (h : DenL K H ((prs p m n).map balD) xs) (hx : xs[k]? = some x) : ∃ (i j : Nat) (t : Addr), i < n ∧ j < m ∧ p i j = true ∧ x = .ref t ∧ SqT K H t [.int i, .int j] ∧ (prs p m n)[k]? = some [(i : Int), (j : Int)] := by
  obtain ⟨b, t, eb, rfl, ht⟩ := bal_of h hx
  obtain ⟨i, j, hi, hj, hp, rfl⟩ := mem_prs.mp (List.mem_of_getElem? eb)
  exact ⟨i, j, t, hi, hj, hp, rfl, ht, eb⟩
theorem den_pair {K : PySem.W.Frag} {H : Hp} {t : Addr} {i j : Int} (h : SqT K H t [.int i, .int j]) : Den K H (balD [i, j]) (.ref t) := den_tup h (denL_ints [i, j])
/-! ### above and firsts -/
def abvB (bs : List (List Int)) (m i j : Nat) : Bool := decide (fw (leadI bs) m j i < fw (leadI bs) m i j)
def abvR (bs : List (List Int)) (m : Nat) : List (List Int) := prs (abvB bs m) m m
/-- none is above j -/
def fstB (bs : List (List Int)) (m j : Nat) : Bool := (List.range m).all fun i => !abvB bs m i j
def fstR (bs : List (List Int)) (m : Nat) : List Int := ((List.range m).filter (fstB bs m)).map fun (j : Nat) => (j : Int)
theorem abvB_irr (bs : List (List Int)) (m i : Nat) : abvB bs m i i = false := by unfold abvB; exact decide_eq_false (Int.lt_irrefl _)
theorem abvB_iff {bs : List (List Int)} {m i j : Nat} : abvB bs m i j = true ↔ Abv (fw (leadI bs) m) i j := by unfold abvB Abv; exact decide_eq_true_iff
theorem mem_abvR {bs : List (List Int)} {m : Nat} {i j : Nat} : [(i : Int), (j : Int)] ∈ abvR bs m ↔ i < m ∧ j < m ∧ abvB bs m i j = true := by
  unfold abvR
  rw [mem_prs]
  constructor
  · rintro ⟨i', j', h1, h2, h3, e⟩
    have e1 : i = i' := by injection e with a _; omega
    have e2 : j = j' := by injection e with _ a; injection a with b _; omega
    subst e1; subst e2
    exact ⟨h1, h2, h3⟩
  · rintro ⟨h1, h2, h3⟩
    exact ⟨i, j, h1, h2, h3, rfl⟩
theorem inV_ints {n : Int} : ∀ {ns : List Int}, inV (.int n) (ns.map V.int) = decide (n ∈ ns)
  | [] => rfl
  | z :: ns => by
    have h := inV_ints (n := n) (ns := ns)
    unfold inV at h ⊢
    rw [List.map_cons, List.any_cons, h]
    show ((z == n) || decide (n ∈ ns)) = decide (n ∈ z :: ns)
    by_cases c : z = n
    · subst c; simp
    · have : ¬ n = z := fun e => c e.symm
      simp [c, this]
theorem flat_ints : ∀ (ns : List Int), (ns.map V.int).all flatV = true
  | [] => rfl
  | z :: ns => by rw [List.map_cons, List.all_cons, flat_ints ns]; rfl
theorem fstB_iff {bs : List (List Int)} {m j : Nat} (hj : j < m) : fstB bs m j = !decide ((j : Int) ∈ (abvR bs m).map fun r => r.getD 1 0) := by
  rw [Bool.eq_iff_iff]
  unfold fstB
  rw [List.all_eq_true, Bool.not_eq_true', decide_eq_false_iff_not]
  constructor
  · intro h c
    obtain ⟨r, hr, e⟩ := List.mem_map.mp c
    obtain ⟨i', j', h1, h2, h3, rfl⟩ := mem_prs.mp hr
    have e2 : j' = j := by
      have : (j' : Int) = (j : Int) := e
      omega
    subst e2
    have := h i' (List.mem_range.mpr h1)
    rw [h3] at this
    cases this
  · intro h i hi
    by_cases c : abvB bs m i j = true
    · exact absurd (List.mem_map.mpr ⟨[(i : Int), (j : Int)], mem_abvR.mpr ⟨List.mem_range.mp hi, hj, c⟩, rfl⟩) h
    · rw [Bool.not_eq_true] at c
      rw [c]
      rfl
/-- the first k names that have none above them -/
def fstTo (bs : List (List Int)) (m k : Nat) : List Int := ((List.range k).filter (fstB bs m)).map fun (j : Nat) => (j : Int)
theorem fstTo_succ (bs : List (List Int)) (m k : Nat) : fstTo bs m (k + 1) = fstTo bs m k ++ if fstB bs m k = true then [(k : Int)] else [] := by
  unfold fstTo
  rw [List.range_succ, List.filter_append, List.map_append]
  congr 1
  by_cases c : fstB bs m k = true
  · simp [c]
  · simp [c]
theorem fstTo_len (bs : List (List Int)) (m k : Nat) : (fstTo bs m k).length ≤ k := by
  unfold fstTo
  rw [List.length_map]
  have := List.length_filter_le (fstB bs m) (List.range k)
  rw [List.length_range] at this
  exact this
theorem mem_fstR {bs : List (List Int)} {m j : Nat} : (j : Int) ∈ fstR bs m ↔ j < m ∧ ∀ i, i < m → abvB bs m i j = false := by
  unfold fstR fstB
  rw [List.mem_map]
  constructor
  · rintro ⟨j', hj', e⟩
    have : j' = j := by omega
    subst this
    rw [List.mem_filter, List.mem_range, List.all_eq_true] at hj'
    exact ⟨hj'.1, fun i hi => by have := hj'.2 i (List.mem_range.mpr hi); simpa using this⟩
  · rintro ⟨hj, h⟩
    exact ⟨j, by rw [List.mem_filter, List.mem_range, List.all_eq_true]; exact ⟨hj, fun i hi => by rw [h i (List.mem_range.mp hi)]; rfl⟩, rfl⟩
section
variable {P : Program} {w : World} {K : PySem.W.Frag} {mg : Str → Option Value} {base : Heap}
def spAbove (K : PySem.W.Frag) : Sp := fun vs H Q _ => ∃ (v : V) (m : Nat) (bs : List (List Int)), vs = [v] ∧ BoxV K H v m bs ∧ ∀ a xs H', Same H H' → H' a = some (.tup xs) → DenL K H' ((abvR bs m).map balD) xs → Q (.ref a) H'
def spFirsts (K : PySem.W.Frag) : Sp := fun vs H Q _ => ∃ (v : V) (m : Nat) (bs : List (List Int)), vs = [v] ∧ BoxV K H v m bs ∧ ∀ a H', Same H H' → H' a = some (.tup ((fstR bs m).map V.int)) → Q (.ref a) H'
structure AbvF (K : PySem.W.Frag) (mg : Str → Option Value) where
  str : StrF K mg
  {fA : Addr}
  {dA : FuncData}
  A : Fd K mg "above" sAbove ["box"] fA dA
abbrev nAbove : List Str := ["box", "strong", "pairs", "one", "other"]
theorem scAbove : FnScope nAbove ["box"] (defScope sAbove) := ⟨rfl, rfl, rfl, by decide +kernel, rfl, by decide +kernel, by decide +kernel⟩
theorem AbvF.above (t : AbvF K mg) (T : Bi mg) : FnOk P w K mg base CX0 6 t.fA t.dA ["box"] (spAbove K) := by
  have GS : FnOk P w K mg base CX0 5 t.str.fS t.str.dS ["box"] (spStrs K) := t.str.strs T
  refine t.A.F.ok scAbove (fun vs H Q E h => ?_) (fun cdv A outer s H vs Q E hr h => ?_)
  · obtain ⟨v, m, bs, rfl, _⟩ := h
    rfl
  obtain ⟨v, m, bs, rfl, hv, q⟩ := h
  refine ⟨_, pss_cons (ps_set (i := 1) scAbove.nd rfl (Or.inl rfl) (pe_fd t.str.S GS hr (pa_cons (pv 0) pa_nil)))
    (pss_cons (ps_set (i := 2) scAbove.nd rfl (Or.inl rfl) (pe_lst pa_nil))
    (pss_cons (ps_for PassesOwn.never rfl (pi_range1 rfl T.range (pa_cons (pe_ix ix_tup (pv 0) pe_int (fun _ _ => rfl)) pa_nil)) (pg_name (i := 3) scAbove.nd rfl (Or.inl rfl))
      (pss_one (ps_for PassesOwn.never rfl (pi_range1 rfl T.range (pa_cons (pe_ix ix_tup (pv 0) pe_int (fun _ _ => rfl)) pa_nil)) (pg_name (i := 4) scAbove.nd rfl (Or.inl rfl))
        (pss_one (ps_if (pt_cmpR op_gt (pe_ix ix_list (pe_ix ix_list (pv 1) (pv 3) (fun _ _ => rfl)) (pv 4) (fun _ _ => rfl)) (pe_ix ix_list (pe_ix ix_list (pv 1) (pv 4) (fun _ _ => rfl)) (pv 3) (fun _ _ => rfl)) (nomark _))
          (pss_one (ps_expr (pe_bm PySem.F.plainAttrs_list PySem.F.slot_list_append PySem.F.type_list_append mt_append (pv 2) (pa_cons (pe_tup (pa_cons (pv 3) (pa_cons (pv 4) pa_nil))) pa_nil)))) pss_nil)))))
    (pss_one (ps_ret (pe_callTy call_tuple_of rfl T.tuple PyProof.Rows.boot_tuple (pa_cons (pv 2) pa_nil)))))), ?_⟩
  obtain ⟨a, tb, xs0, rfl, ha, htb, hx⟩ := hv.open
  have hm := hv.many
  have em : ((m : Nat) : Int).toNat = m := by omega
  refine ⟨_, rfl, _, m, bs, rfl, hv, fun l zs H1 s1 e1 Lm => ?_⟩
  refine ⟨(by show 0 ≤ sizeLine; decide), fun g hg => ?_⟩
  have s2 : Same H1 (upd H1 g (.lst [])) := same_new hg _
  have hg0 : H g = none := s1.free hg
  refine ⟨_, rfl, a, _, 0, .int m, rfl, rfl, (s1.trans s2).tup ha, rfl, (m : Int), rfl, by omega, by omega, for_range (fun i σ H2 => ∃ (v3 v4 : Option V) (xs : List V), σ = [some (.ref a), some (.ref l), some (.ref g), v3, v4] ∧ Same H1 H2 ∧ H2 g = some (.lst xs) ∧ DenL K H2 ((prs (abvB bs m) m i).map balD) xs)
    ⟨none, none, [], rfl, s2, upd_same, denL_nil⟩ ?_ ?_⟩
  · rintro i σ H2 hi ⟨v3, v4, xs, rfl, s3, ex, hd⟩
    rw [em] at hi
    refine ⟨_, rfl, a, _, 0, .int m, rfl, rfl, (s1.trans s3).tup ha, rfl, (m : Int), rfl, by omega, by omega, for_range (fun k σ H3 => ∃ (v4 : Option V) (xs : List V), σ = [some (.ref a), some (.ref l), some (.ref g), some (.int (0 + (i : Int))), v4] ∧ Same H1 H3 ∧ H3 g = some (.lst xs) ∧ DenL K H3 ((prs (abvB bs m) m i ++ prow (abvB bs m) i k).map balD) xs)
      ⟨_, xs, rfl, s3, ex, by unfold prow; simpa using hd⟩ ?_ ?_⟩
    · rintro k σ H3 hk ⟨v4, xs, rfl, s4, e4, hd4⟩
      rw [em] at hk
      have L4 := Lm.mono s4
      have ei : (0 + (i : Int)) = (i : Int) := by omega
      have ek : (0 + (k : Int)) = (k : Int) := by omega
      obtain ⟨r, er, hr'⟩ := L4.at (k := 0 + (i : Int)) (by omega) (by omega)
      obtain ⟨u, eu, hu'⟩ := L4.at (k := 0 + (k : Int)) (by omega) (by omega)
      refine ⟨_, rfl, _, rfl, l, _, _, _, rfl, rfl, SqL.of (s4 _ _ e1), er, _, rfl, r, _, _, _, rfl, rfl, SqL.of hr', rowV_at (by omega) (by omega), ?_⟩
      refine ⟨_, rfl, _, rfl, l, _, _, _, rfl, rfl, SqL.of (s4 _ _ e1), eu, _, rfl, u, _, _, _, rfl, rfl, SqL.of hu', rowV_at (by omega) (by omega), ?_⟩
      refine ⟨_, _, rfl, rfl, _, rfl, ?_⟩
      have e1' : (0 + (i : Int)).toNat = i := by omega
      have e2' : (0 + (k : Int)).toNat = k := by omega
      rw [e1', e2']
      have hxl : xs.length ≤ 10100 := by
        have h1 := prs_len (abvB bs m) m i
        have h2 := prow_len (abvB bs m) i k
        have him : i * m ≤ 10000 := Nat.mul_le_mul (show i ≤ 100 by omega) hm
        rw [denL_length hd4, List.length_map, List.length_append]
        omega
      refine ite2 (fun c => ?_) (fun c => ?_)
      · refine ⟨_, rfl, .inl ⟨rfl, _, SqL.of e4⟩, _, rfl, _, rfl, (by show 2 ≤ sizeLine; decide), fun t ht => ?_⟩
        have hgt : g ≠ t := ne_of_none e4 ht
        refine ⟨g, xs, .ref t, rfl, rfl, by rw [upd_ne hgt]; exact e4, Nat.lt_of_le_of_lt hxl (by decide), ?_⟩
        refine ⟨_, _, rfl, same_set (s4.trans (same_new ht _)) hg, upd_same, ?_⟩
        have tk1 : TK K (upd H3 t (.tup [.int (0 + (i : Int)), .int (0 + (k : Int))])) (upd (upd H3 t (.tup [.int (0 + (i : Int)), .int (0 + (k : Int))])) g (.lst (xs ++ [.ref t]))) := tk_upd (by rw [upd_ne hgt]; exact e4)
        have c' : abvB bs m i k = true := c
        rw [prow_succ, if_pos c', ← List.append_assoc, List.map_append]
        refine denL_append (DenL.mono ((same_new ht _).tk.trans tk1) _ hd4) (denL_cons (Den.mono tk1 _ ?_) denL_nil)
        exact den_pair (SqT.of (by rw [upd_same, ei, ek]))
      · have c' : ¬ abvB bs m i k = true := c
        refine ⟨_, xs, rfl, s4, e4, ?_⟩
        rw [prow_succ, if_neg c', List.append_nil]
        exact hd4
    · rintro σ H3 ⟨v4, xs, rfl, s4, e4, hd4⟩
      rw [em] at hd4
      exact ⟨_, _, xs, rfl, s4, e4, hd4⟩
  · rintro σ H2 ⟨v3, v4, xs, rfl, s3, ex, hd⟩
    rw [em] at hd
    refine ⟨_, rfl, g, xs, rfl, .inl ⟨SqL.of ex, fun u hu => ?_⟩⟩
    exact q u xs _ (s1.trans (s3.trans (same_new hu _))) upd_same (DenL.mono (same_new hu _).tk _ hd)
abbrev nFirsts : List Str := ["box", "below"]
theorem scFirsts : FnScope nFirsts ["box"] (defScope sFirsts) := ⟨rfl, rfl, rfl, by decide +kernel, rfl, by decide +kernel, by decide +kernel⟩
theorem ok_firsts {f : Addr} {fd : FuncData} (t : AbvF K mg) (T : Bi mg) (D : Fd K mg "firsts" sFirsts ["box"] f fd) : FnOk P w K mg base CX0 7 f fd ["box"] (spFirsts K) := by
  have GA : FnOk P w K mg base CX0 6 t.fA t.dA ["box"] (spAbove K) := t.above T
  refine D.F.ok scFirsts (fun vs H Q E h => ?_) (fun cdv A outer s H vs Q E hr h => ?_)
  · obtain ⟨v, m, bs, rfl, _⟩ := h
    rfl
  obtain ⟨v, m, bs, rfl, hv, q⟩ := h
  refine ⟨_, pss_cons (ps_set (i := 1) scFirsts.nd rfl (Or.inr rfl) (pe_comp nFirsts ("pair" :: nFirsts) (defScope sFirsts) (pi_tup (pe_fd t.A GA hr (pa_cons (pv 0) pa_nil))) (fun _ _ _ _ _ => pf_nil) (fun _ _ _ _ _ => pe_ix (ix_tupK K) (pv 0) pe_int (fun _ _ => rfl))))
    (pss_one (ps_ret (pe_callTy call_tuple_of rfl T.tuple PyProof.Rows.boot_tuple (pa_cons (pe_comp nFirsts ("name" :: nFirsts) (defScope sFirsts) (pi_range1 rfl T.range (pa_cons (pe_ix ix_tup (pv 0) pe_int (fun _ _ => rfl)) pa_nil))
      (fun _ _ _ _ _ => pf_one (pt_cmpR (op_notInK K) (pv 0) (pv 2) rfl)) (fun _ _ _ _ _ => pv 0)) pa_nil)))), ?_⟩
  have hv0 := hv
  obtain ⟨a, tb, xs0, rfl, ha, htb, hx⟩ := hv.open
  have hm := hv.many
  have em : ((m : Nat) : Int).toNat = m := by omega
  refine ⟨_, rfl, _, m, bs, rfl, hv, fun u xs H1 s1 eu hd => ?_⟩
  have hxl : xs.length = (abvR bs m).length := by rw [denL_length hd, List.length_map]
  have hal : (abvR bs m).length ≤ 10000 := Nat.le_trans (prs_len _ m m) (Nat.mul_le_mul hm hm)
  refine ⟨u, rfl, ⟨xs, SqT.of eu⟩, comp_tup (xs := xs) (fun k ys H2 => H2 = H1 ∧ ys = (((abvR bs m).take k).map fun r => r.getD 1 0).map V.int) ⟨rfl, rfl⟩ (fun k ys H2 _ p => by rw [p.1]; exact SqT.of eu) ?_ (fun k ys H2 hk p => ?_) ?_⟩
  · rintro k x ys H2 hx ⟨rfl, rfl⟩
    obtain ⟨i, j, t1, hi, hj, hp, rfl, ht1, eb⟩ := bal_at_pair hd hx
    refine tyes ?_
    refine ⟨_, rfl, t1, _, 1, .int j, rfl, rfl, ht1, rfl, rfl, ?_⟩
    have eb' : (abvR bs m)[k]? = some [(i : Int), (j : Int)] := eb
    rw [List.take_add_one, eb', List.map_append, List.map_append]
    rfl
  · rw [p.2, List.length_map, List.length_map, List.length_take]
    exact Nat.lt_of_le_of_lt (show _ ≤ 10000 by omega) (by decide)
  rintro ys H2 ⟨rfl, rfl⟩ l hl
  rw [hxl, List.take_length]
  generalize hH3 : upd H2 l (.lst (((abvR bs m).map fun r => r.getD 1 0).map V.int)) = H3
  have s3 : Same H2 H3 := by rw [← hH3]; exact same_new hl _
  have e3 : H3 l = some (.lst (((abvR bs m).map fun r => r.getD 1 0).map V.int)) := by rw [← hH3]; exact upd_same
  refine ⟨_, rfl, a, _, 0, .int m, rfl, rfl, (s1.trans s3).tup ha, rfl, (m : Int), rfl, by omega, by omega, comp_range (fun k zs H4 => H4 = H3 ∧ zs = (fstTo bs m k).map V.int) ⟨rfl, rfl⟩ ?_ (fun k zs H4 hk p => ?_) ?_⟩
  · rintro k zs H4 hk ⟨rfl, rfl⟩
    rw [em] at hk
    refine ⟨_, rfl, _, rfl, l, _, rfl, .inl (SqL.of e3), rfl, flat_ints _, _, rfl, ?_⟩
    have ek : (0 + (k : Int)) = (k : Int) := by omega
    rw [inV_ints, ek]
    have hf := fstB_iff (bs := bs) hk
    refine ite2 (fun c => ?_) (fun c => ?_)
    · refine ⟨_, rfl, rfl, ?_⟩
      have c' : fstB bs m k = true := by rw [hf]; exact c
      rw [fstTo_succ, if_pos c', List.map_append]
      rfl
    · refine ⟨rfl, ?_⟩
      have c' : ¬ fstB bs m k = true := by rw [hf]; exact c
      rw [fstTo_succ, if_neg c', List.append_nil]
  · have := fstTo_len bs m k
    rw [p.2, List.length_map]
    exact hsz (by omega)
  · rintro zs H4 ⟨rfl, rfl⟩ p hp
    rw [em]
    refine ⟨p, _, rfl, .inl ⟨SqL.of upd_same, fun z hz => ?_⟩⟩
    exact q z _ (s1.trans (s3.trans ((same_new hp _).trans (same_new hz _)))) upd_same
end
end My

namespace My
open PySem L2
/-! ### crowds: what a name draws along that it does not beat -/
theorem lead_anti (bs : List (List Int)) (i j : Nat) : leadI bs i j = - leadI bs j i := by unfold leadI; omega
theorem lead_self (bs : List (List Int)) (i : Nat) : leadI bs i i = 0 := by unfold leadI; omega
/-- a draws x along -/
def Cl (L : Nat → Nat → Int) (m a x : Nat) : Prop := Rch (fun i j => - L i j) m 0 a x
noncomputable def clB (L : Nat → Nat → Int) (m a x : Nat) : Bool := @decide (Cl L m a x) (Classical.propDecidable _)
theorem clB_iff {L : Nat → Nat → Int} {m a x : Nat} : clB L m a x = true ↔ Cl L m a x := by unfold clB; exact @decide_eq_true_iff _ (Classical.propDecidable _)
noncomputable def clN (L : Nat → Nat → Int) (m a : Nat) : List Nat := (List.range m).filter (clB L m a)
noncomputable def clR (L : Nat → Nat → Int) (m a : Nat) : List Int := (clN L m a).map fun (x : Nat) => (x : Int)
section
variable {L : Nat → Nat → Int} {m a b x y : Nat}
theorem mem_clN : x ∈ clN L m a ↔ Cl L m a x := by
  unfold clN
  rw [List.mem_filter, List.mem_range, clB_iff]
  exact ⟨fun h => h.2, fun h => ⟨h.right, h⟩⟩
theorem mem_clR : (x : Int) ∈ clR L m a ↔ Cl L m a x := by
  unfold clR
  rw [List.mem_map, ← mem_clN]
  constructor
  · rintro ⟨y, hy, e⟩
    have : y = x := by omega
    rw [← this]; exact hy
  · exact fun h => ⟨x, h, rfl⟩
theorem cl_self (hs : ∀ i, L i i = 0) (ha : a < m) : Cl L m a a := .one ha ha (by rw [hs]; omega)
theorem cl_step (h : Cl L m a x) (hy : y < m) (hl : L x y ≤ 0) : Cl L m a y := h.snoc hy (by omega)
/-- what a draws along beats all else -/
theorem cl_closed (h : Cl L m a x) (hy : y < m) (ny : ¬ Cl L m a y) : 0 < L x y := by
  by_cases c : L x y ≤ 0
  · exact absurd (cl_step h hy c) ny
  · omega
theorem cl_least {P : Nat → Prop} (hP : ∀ x y, P x → y < m → L x y ≤ 0 → P y) (h : Cl L m a x) : P a → P x := by
  have main : ∀ {i j : Nat}, Rch (fun i j => - L i j) m 0 i j → P i → P j := by
    intro i j r
    induction r with
    | @one i j _ hj hk => exact fun hi => hP i j hi hj (by omega)
    | @cons i j l _ hj hk _ ih => exact fun hi => ih (hP i j hi hj (by omega))
  exact main h
theorem filter_le {α : Type} {p q : α → Bool} : ∀ (l : List α), (∀ x ∈ l, p x = true → q x = true) → (l.filter p).length ≤ (l.filter q).length ∧ ((l.filter p).length = (l.filter q).length → l.filter p = l.filter q)
  | [], _ => ⟨Nat.le_refl _, fun _ => rfl⟩
  | z :: l, h => by
    obtain ⟨h1, h2⟩ := filter_le (p := p) (q := q) l fun x hx => h x (List.mem_cons_of_mem _ hx)
    have hz := h z List.mem_cons_self
    by_cases c : p z = true
    · have c' := hz c
      rw [List.filter_cons_of_pos c, List.filter_cons_of_pos c', List.length_cons, List.length_cons]
      exact ⟨by omega, fun e => by rw [h2 (by omega)]⟩
    · rw [List.filter_cons_of_neg c]
      by_cases d : q z = true
      · rw [List.filter_cons_of_pos d, List.length_cons]
        exact ⟨by omega, fun e => by omega⟩
      · rw [List.filter_cons_of_neg d]
        exact ⟨h1, h2⟩
/-- two crowds: one is within the other -/
theorem cl_nest (hL : ∀ i j, L i j = - L j i) : (∀ x, Cl L m a x → Cl L m b x) ∨ (∀ x, Cl L m b x → Cl L m a x) := by
  apply Classical.byContradiction
  intro c
  rw [not_or] at c
  obtain ⟨c1, c2⟩ := c
  obtain ⟨x, hx⟩ := Classical.not_forall.mp c1
  obtain ⟨y, hy⟩ := Classical.not_forall.mp c2
  obtain ⟨xa, xb⟩ := Classical.not_imp.mp hx
  obtain ⟨yb, ya⟩ := Classical.not_imp.mp hy
  have h1 := cl_closed xa yb.right ya
  have h2 := cl_closed yb xa.right xb
  have := hL x y
  omega
theorem clN_len : (clN L m a).length = (clR L m a).length := by unfold clR; rw [List.length_map]
/-- crowds of the same size are the same -/
theorem cl_same (hL : ∀ i j, L i j = - L j i) (h : (clR L m a).length = (clR L m b).length) : clR L m a = clR L m b := by
  have e : (clN L m a).length = (clN L m b).length := by rw [clN_len, clN_len, h]
  have : clN L m a = clN L m b := by
    rcases cl_nest (a := a) (b := b) (m := m) hL with n | n
    · exact (filter_le (List.range m) fun x _ hx => clB_iff.mpr (n x (clB_iff.mp hx))).2 e
    · exact ((filter_le (List.range m) fun x _ hx => clB_iff.mpr (n x (clB_iff.mp hx))).2 e.symm).symm
  unfold clR
  rw [this]
theorem clR_lt : (clR L m a).Pairwise (· < ·) := by
  unfold clR clN
  rw [List.pairwise_map]
  exact (List.Pairwise.filter _ List.pairwise_lt_range).imp fun {i j} h => by omega
theorem clR_le : (clR L m a).length ≤ m := by
  rw [← clN_len]
  unfold clN
  have := List.length_filter_le (clB L m a) (List.range m)
  rw [List.length_range] at this
  exact this
end
theorem ints_unique : ∀ {a b : List Int}, a.Pairwise (· < ·) → b.Pairwise (· < ·) → (∀ z, z ∈ a ↔ z ∈ b) → a = b
  | [], [], _, _, _ => rfl
  | [], y :: b, _, _, h => nomatch (h y).mpr List.mem_cons_self
  | x :: a, [], _, _, h => nomatch (h x).mp List.mem_cons_self
  | x :: a, y :: b, ha, hb, h => by
    have ha1 := (List.pairwise_cons.mp ha).1
    have hb1 := (List.pairwise_cons.mp hb).1
    have xy : x = y := by
      rcases List.mem_cons.mp ((h x).mp List.mem_cons_self) with e | e
      · exact e
      · rcases List.mem_cons.mp ((h y).mpr List.mem_cons_self) with e' | e'
        · exact e'.symm
        · have h1 := hb1 x e
          have h2 := ha1 y e'
          omega
    subst xy
    rw [ints_unique (List.pairwise_cons.mp ha).2 (List.pairwise_cons.mp hb).2 fun r => by
      constructor
      · intro hr
        rcases List.mem_cons.mp ((h r).mp (List.mem_cons_of_mem _ hr)) with e | e
        · have := ha1 r hr
          omega
        · exact e
      · intro hr
        rcases List.mem_cons.mp ((h r).mpr (List.mem_cons_of_mem _ hr)) with e | e
        · have := hb1 r hr
          omega
        · exact e]
theorem sorted_lt {a b : List Int} (p : a.Perm b) (hb : b.Nodup) (h : a.Pairwise (· ≤ ·)) : a.Pairwise (· < ·) := by
  have hn : a.Nodup := p.nodup_iff.mpr hb
  exact (List.Pairwise.and h hn).imp fun {x y} z => by have := z.1; have := z.2; omega
/-! ### the program's crowds -/
def castL (ns : List Nat) : List Int := ns.map fun (n : Nat) => (n : Int)
theorem castL_mem {ns : List Nat} {n : Nat} : (n : Int) ∈ castL ns ↔ n ∈ ns := by
  unfold castL
  rw [List.mem_map]
  constructor
  · rintro ⟨y, hy, e⟩
    have : y = n := by omega
    rw [← this]; exact hy
  · exact fun h => ⟨n, h, rfl⟩
theorem castL_at {ns : List Nat} {k : Nat} (h : k < ns.length) : atI ((castL ns).map V.int) (k : Int) = some (.int (ns[k] : Nat)) := by
  refine atI_nat ?_
  unfold castL
  rw [List.getElem?_map, List.getElem?_map, List.getElem?_eq_getElem h]
  rfl
/-- what has been gathered: k of it looked at -/
structure CrInv (L : Nat → Nat → Int) (m a : Nat) (ns : List Nat) (k : Nat) : Prop where
  le : k ≤ ns.length
  nd : ns.Nodup
  cl : ∀ n ∈ ns, Cl L m a n
  own : a ∈ ns
  all : ∀ i (h : i < ns.length), i < k → ∀ y, y < m → L ns[i] y ≤ 0 → y ∈ ns
def crNew (L : Nat → Nat → Int) (ns : List Nat) (x y : Nat) : Bool := decide (L x y ≤ 0) && !decide ((y : Int) ∈ castL ns)
theorem nodup_len : ∀ {m : Nat} {ns : List Nat}, ns.Nodup → (∀ n ∈ ns, n < m) → ns.length ≤ m
  | 0, [], _, _ => Nat.le_refl _
  | 0, n :: _, _, h => absurd (h n List.mem_cons_self) (Nat.not_lt_zero _)
  | m + 1, ns, hn, h => by
    have := nodup_len (m := m) (hn.erase m) fun n hz => by
      have h1 := (hn.mem_erase_iff.mp hz)
      have := h n h1.2
      have := h1.1
      omega
    by_cases c : m ∈ ns
    · rw [List.length_erase_of_mem c] at this
      omega
    · rw [List.erase_of_not_mem c] at this
      omega
theorem CrInv.step {L : Nat → Nat → Int} {m a k : Nat} {ns : List Nat} (h : CrInv L m a ns k) (hk : k < ns.length) : CrInv L m a (ns ++ (List.range m).filter (crNew L ns ns[k])) (k + 1) := by
  have mem : ∀ y, y ∈ (List.range m).filter (crNew L ns ns[k]) ↔ y < m ∧ L ns[k] y ≤ 0 ∧ y ∉ ns := fun y => by
    rw [List.mem_filter, List.mem_range]
    unfold crNew
    rw [Bool.and_eq_true, decide_eq_true_iff, Bool.not_eq_true', decide_eq_false_iff_not, castL_mem]
  refine ⟨by rw [List.length_append]; omega, ?_, fun n hn => ?_, List.mem_append_left _ h.own, fun i hi hik y hy hl => ?_⟩
  · rw [List.nodup_append]
    refine ⟨h.nd, List.Pairwise.filter _ List.nodup_range, fun x hx y hy e => ?_⟩
    exact ((mem y).mp hy).2.2 (e ▸ hx)
  · rcases List.mem_append.mp hn with z | z
    · exact h.cl n z
    · have := (mem n).mp z
      exact cl_step (h.cl _ (List.getElem_mem hk)) this.1 this.2.1
  · have hi' : i < ns.length := by omega
    rw [List.getElem_append_left hi'] at hl
    by_cases c : i = k
    · subst c
      by_cases d : y ∈ ns
      · exact List.mem_append_left _ d
      · exact List.mem_append_right _ ((mem y).mpr ⟨hy, hl, d⟩)
    · exact List.mem_append_left _ (h.all i hi' (by omega) y hy hl)
theorem CrInv.fin {L : Nat → Nat → Int} {m a k : Nat} {ns : List Nat} (h : CrInv L m a ns k) (hk : ¬ k < ns.length) {cs : List Int} (p : cs.Perm (castL ns)) (hs : cs.Pairwise (· ≤ ·)) : cs = clR L m a := by
  have hnd : (castL ns).Nodup := by
    unfold castL
    exact (List.pairwise_map.mpr (h.nd.imp fun {x y} hne e => hne (by omega)))
  refine ints_unique (sorted_lt p hnd hs) clR_lt fun z => ?_
  rw [p.mem_iff]
  constructor
  · intro hz
    unfold castL at hz
    obtain ⟨n, hn, rfl⟩ := List.mem_map.mp hz
    exact mem_clR.mpr (h.cl n hn)
  · intro hz
    unfold clR at hz
    obtain ⟨n, hn, rfl⟩ := List.mem_map.mp hz
    refine castL_mem.mpr (cl_least (P := fun n => n ∈ ns) (fun x y hx hy hl => ?_) (mem_clN.mp hn) h.own)
    obtain ⟨i, hi, rfl⟩ := List.getElem_of_mem hx
    exact h.all i hi (by omega) y hy hl
section
variable {P : Program} {w : World} {K : PySem.W.Frag} {mg : Str → Option Value} {base : Heap}
def spCrA (K : PySem.W.Frag) : Sp := fun vs H Q _ => ∃ (t : Addr) (xs : List V) (m : Nat) (bs : List (List Int)) (a : Int), vs = [.ref t, .int a] ∧ SqT K H t xs ∧ DenL K H ((tableI bs m).map balD) xs ∧ m ≤ 60 ∧ 0 ≤ a ∧ a < m ∧
  ∀ u H', Same H H' → H' u = some (.tup ((clR (leadI bs) m a.toNat).map V.int)) → Q (.ref u) H'
abbrev nCrA : List Str := ["leads", "name", "inside", "seen", "row"]
theorem scCrA : FnScope nCrA ["leads", "name"] (defScope sCrA) := ⟨rfl, rfl, rfl, by decide +kernel, rfl, by decide +kernel, by decide +kernel⟩
theorem table_row {H : Hp} {bs : List (List Int)} {m : Nat} {xs : List V} {k : Nat} (h : DenL K H ((tableI bs m).map balD) xs) (hk : k < m) : ∃ r, atI xs (k : Int) = some (.ref r) ∧ SqT K H r (rowV m (leadI bs k)) := by
  have hl : xs.length = m := by rw [denL_length h, List.length_map]; unfold tableI; rw [List.length_map, List.length_range]
  have hk' : k < xs.length := by omega
  obtain ⟨b, t, eb, ex, ht⟩ := bal_of h (List.getElem?_eq_getElem hk')
  obtain ⟨_, rfl⟩ := tableI_get eb
  rw [rowI_rowV] at ht
  exact ⟨t, atI_nat (by rw [List.getElem?_eq_getElem hk', ex]), ht⟩
theorem ok_crA {f : Addr} {fd : FuncData} (T : Bi mg) (D : Fd K mg "crowd_around" sCrA ["leads", "name"] f fd) : FnOk P w K mg base CX0 1 f fd ["leads", "name"] (spCrA K) := by
  refine D.F.ok scCrA (fun vs H Q E h => ?_) (fun cdv A outer s H vs Q E hr h => ?_)
  · obtain ⟨t, xs, m, bs, a, rfl, _⟩ := h
    rfl
  obtain ⟨t, xs, m, bs, a, rfl, hS, hd, hm, a0, a1, q⟩ := h
  refine ⟨_, pss_cons (ps_set (i := 2) scCrA.nd rfl (Or.inr rfl) (pe_lst (pa_cons (pv 1) pa_nil)))
    (pss_cons (ps_set (i := 3) scCrA.nd rfl (Or.inl rfl) pe_int)
    (pss_cons (ps_while PassesOwn.never (pt_cmpR op_lt (pv 3) (pe_callB call_len_seq rfl T.len PySem.boot_len (pa_cons (pv 2) pa_nil)) (nomark _))
      (pss_cons (ps_set (i := 4) scCrA.nd rfl (Or.inr rfl) (pe_ix ix_tup (pv 0) (pe_ix ix_list (pv 2) (pv 3) (fun _ _ => rfl)) (fun _ _ => rfl)))
      (pss_cons (ps_set (i := 2) scCrA.nd rfl (Or.inr rfl) (pe_op op_cat (pv 2) (pe_comp nCrA ("other" :: nCrA) (defScope sCrA) (pi_range1 rfl T.range (pa_cons (pe_callB call_len_seq rfl T.len PySem.boot_len (pa_cons (pv 4) pa_nil)) pa_nil))
        (fun _ _ _ _ _ => pf_one (PW.pt (pw_and (pt_cmpR op_le (pe_ix (ix_tupK K) (pv 5) (pv 0) (fun _ _ => rfl)) pe_int (nomark _)) (pw_and1 (pt_cmpR (op_notInK K) (pv 0) (pv 3) rfl))))) (fun _ _ _ _ _ => pv 0))))
      (pss_one (ps_aug (i := 3) scCrA.nd rfl (Or.inl rfl) pe_int ip_add)))))
    (pss_one (ps_ret (pe_callTy call_tuple_of rfl T.tuple PyProof.Rows.boot_tuple (pa_cons (pe_callB (call_sortedI K) rfl T.sorted PyProof.Rows.boot_sorted (pa_cons (pv 2) pa_nil)) pa_nil)))))), ?_⟩
  refine ⟨_, rfl, (by show 1 ≤ sizeLine; decide), fun l hl => ?_⟩
  have ea : a = ((a.toNat : Nat) : Int) := by omega
  have hself : ∀ i, leadI bs i i = 0 := lead_self bs
  refine while_by (fun σ H1 => ∃ (l : Addr) (ns : List Nat) (k : Nat) (v4 : Option V), σ = [some (.ref t), some (.int a), some (.ref l), some (.int k), v4] ∧ Same H H1 ∧ H1 l = some (.lst ((castL ns).map V.int)) ∧ CrInv (leadI bs) m a.toNat ns k)
    (fun (σ : St) (_ : Hp) => match σ[3]? with | some (some (V.int k)) => m - k.toNat | _ => 0)
    ⟨l, [a.toNat], 0, none, rfl, same_new hl _, by rw [upd_same, ea]; rfl, ⟨Nat.zero_le _, List.pairwise_singleton _ _, fun n hn => by rw [List.mem_singleton.mp hn]; exact cl_self hself (by omega), List.mem_singleton.mpr rfl, fun i _ hi => absurd hi (Nat.not_lt_zero _)⟩⟩ ?_
    (fun σ H Q Q' h ⟨v, e, v2, e2, p, ys, e3, hq, i, j, e4, e5, k, e6, z⟩ => ⟨v, e, v2, e2, p, ys, e3, hq, i, j, e4, e5, k, e6, h _ _ z⟩)
  rintro σ H1 ⟨l, ns, k, v4, rfl, s1, el, C⟩
  have hlen : ns.length ≤ m := nodup_len C.nd fun n hn => (C.cl n hn).right
  have hcl : ((castL ns).map V.int).length = ns.length := by unfold castL; rw [List.length_map, List.length_map]
  refine ⟨_, rfl, _, rfl, l, _, rfl, .inl (SqL.of el), _, _, rfl, rfl, _, rfl, ?_⟩
  refine ite2 (fun c => ?_) (fun c => ?_)
  · have hk : k < ns.length := by
      have := of_decide_eq_true c
      rw [hcl] at this
      omega
    have hx : ns[k] < m := (C.cl _ (List.getElem_mem hk)).right
    obtain ⟨r, er, hr'⟩ := table_row (DenL.mono s1.tk _ hd) hx
    refine ⟨_, rfl, _, rfl, _, rfl, l, _, _, _, rfl, rfl, SqL.of el, castL_at hk, t, _, _, _, rfl, rfl, s1.tup hS, er, ?_⟩
    refine ⟨_, rfl, _, rfl, r, _, rfl, .inr hr', (m : Int), by rw [rowV_len], by omega, by omega, comp_range (fun j ys H2 => H2 = H1 ∧ ys = (castL ((List.range j).filter (crNew (leadI bs) ns ns[k]))).map V.int) ⟨rfl, rfl⟩ ?_ (fun j ys H2 hj p => ?_) ?_⟩
    · rintro j ys H2 hj ⟨rfl, rfl⟩
      have ej : (0 + (j : Int)).toNat = j := by omega
      have ej' : (0 + (j : Int)) = (j : Int) := by omega
      have hj' : j < m := by omega
      have succ : castL ((List.range (j + 1)).filter (crNew (leadI bs) ns ns[k])) = castL ((List.range j).filter (crNew (leadI bs) ns ns[k])) ++ if crNew (leadI bs) ns ns[k] j = true then [(j : Int)] else [] := by
        rw [List.range_succ, List.filter_append]
        unfold castL
        rw [List.map_append]
        congr 1
        by_cases z : crNew (leadI bs) ns ns[k] j = true
        · simp [z]
        · simp [z]
      refine ⟨_, rfl, _, rfl, r, _, _, _, rfl, rfl, hr', rowV_at (by omega) (by omega), _, _, rfl, rfl, _, rfl, ?_⟩
      rw [ej]
      refine ite2 (fun c1 => ?_) (fun c1 => ?_)
      · refine ⟨_, rfl, _, rfl, l, _, rfl, .inl (SqL.of el), rfl, flat_ints _, _, rfl, ?_⟩
        rw [inV_ints, ej']
        refine ite2 (fun c2 => ?_) (fun c2 => ?_)
        · have cn : crNew (leadI bs) ns ns[k] j = true := by unfold crNew; rw [Bool.and_eq_true]; exact ⟨c1, c2⟩
          refine ⟨_, rfl, rfl, ?_⟩
          rw [succ, if_pos cn, List.map_append]
          rfl
        · have cn : ¬ crNew (leadI bs) ns ns[k] j = true := by unfold crNew; rw [Bool.and_eq_true]; exact fun z => c2 z.2
          refine ⟨rfl, ?_⟩
          rw [succ, if_neg cn, List.append_nil]
      · have cn : ¬ crNew (leadI bs) ns ns[k] j = true := by unfold crNew; rw [Bool.and_eq_true]; exact fun z => c1 z.1
        refine iteF ⟨rfl, ?_⟩
        rw [succ, if_neg cn, List.append_nil]
    · have := List.length_filter_le (crNew (leadI bs) ns ns[k]) (List.range j)
      rw [List.length_range] at this
      rw [p.2]
      unfold castL
      rw [List.length_map, List.length_map]
      exact hsz (by omega)
    · rintro ys H2 ⟨rfl, rfl⟩ p hp
      have em : ((m : Nat) : Int).toNat = m := by omega
      rw [em]
      have el' := (same_new hp (.lst ((castL ((List.range m).filter (crNew (leadI bs) ns ns[k]))).map V.int))) _ _ el
      have C' := C.step hk
      have hlen' := nodup_len C'.nd fun n hn => (C'.cl n hn).right
      refine ⟨l, p, _, _, rfl, rfl, el', upd_same, ?_, fun u hu => ?_⟩
      · rw [← List.length_append, ← List.map_append]
        unfold castL
        rw [← List.map_append, List.length_map, List.length_map]
        exact Nat.le_trans hlen' (Nat.le_trans hm (by decide))
      refine ⟨_, rfl, _, _, rfl, rfl, ⟨u, _, k + 1, _, rfl, s1.trans ((same_new hp _).trans (same_new hu _)), ?_, C'⟩, ?_⟩
      · rw [upd_same, ← List.map_append]
        unfold castL
        rw [← List.map_append]
      · show m - ((k : Int) + 1).toNat < m - ((k : Int)).toNat
        omega
  · have hk : ¬ k < ns.length := fun z => c (by rw [hcl]; exact decide_eq_true (by omega))
    refine ⟨_, rfl, l, castL ns, rfl, SqL.of el, by unfold castL; rw [List.length_map]; omega, fun l' cs hn perm srt => ?_⟩
    have e := C.fin hk perm srt
    subst e
    refine ⟨l', _, rfl, .inl ⟨SqL.of upd_same, fun u hu => ?_⟩⟩
    exact q u _ (s1.trans ((same_new hn _).trans (same_new hu _))) upd_same
structure CrF (K : PySem.W.Frag) (mg : Str → Option Value) where
  tab : TabF K mg
  {fA fC : Addr}
  {dA dC : FuncData}
  A : Fd K mg "crowd_around" sCrA ["leads", "name"] fA dA
  C : Fd K mg "crowd" sCrowd ["box"] fC dC
def spCrowd (K : PySem.W.Frag) : Sp := fun vs H Q _ => ∃ (v : V) (m : Nat) (bs : List (List Int)), vs = [v] ∧ BoxV K H v m bs ∧ 0 < m ∧ m ≤ 60 ∧
  ∀ u H' a, Same H H' → a < m → H' u = some (.tup ((clR (leadI bs) m a).map V.int)) → (∀ b, b < m → (clR (leadI bs) m a).length ≤ (clR (leadI bs) m b).length) → Q (.ref u) H'
abbrev nCrowd : List Str := ["box", "leads", "crowds"]
theorem scCrowd : FnScope nCrowd ["box"] (defScope sCrowd) := ⟨rfl, rfl, rfl, by decide +kernel, rfl, by decide +kernel, by decide +kernel⟩
theorem CrF.crowd (t : CrF K mg) (T : Bi mg) : FnOk P w K mg base CX0 5 t.fC t.dC ["box"] (spCrowd K) := by
  have GT : FnOk P w K mg base CX0 4 t.tab.fT t.tab.dT nTable (spTable K) := t.tab.table T
  have GA : FnOk P w K mg base CX0 1 t.fA t.dA ["leads", "name"] (spCrA K) := ok_crA T t.A
  refine t.C.F.ok scCrowd (fun vs H Q E h => ?_) (fun cdv A outer s H vs Q E hr h => ?_)
  · obtain ⟨v, m, bs, rfl, _⟩ := h
    rfl
  obtain ⟨v, m, bs, rfl, hv, hm0, hm60, q⟩ := h
  refine ⟨_, pss_cons (ps_set (i := 1) scCrowd.nd rfl (Or.inr rfl) (pe_fd t.tab.T GT hr (pa_cons (pv 0) pa_nil)))
    (pss_cons (ps_comp nCrowd ("name" :: nCrowd) (defScope sCrowd) 2 scCrowd.nd rfl rfl (pi_range1 rfl T.range (pa_cons (pe_ix ix_tup (pv 0) pe_int (fun _ _ => rfl)) pa_nil)) (fun _ _ _ _ _ => pf_nil) (fun _ _ _ _ _ => pe_fd t.A GA hr (pa_cons (pv 2) (pa_cons (pv 0) pa_nil))))
    (pss_one (ps_ret (pe_minlen K (pv 2) (pe_tup pa_nil) rfl T.min rfl T.len)))), ?_⟩
  obtain ⟨a, tb, xs0, rfl, ha, htb, hx⟩ := hv.open
  have em : ((m : Nat) : Int).toNat = m := by omega
  refine ⟨_, rfl, _, m, bs, rfl, hv, fun u xs H1 s1 eu hd => ?_⟩
  refine ⟨_, rfl, a, _, 0, .int m, rfl, rfl, s1.tup ha, rfl, (m : Int), rfl, by omega, by omega, comp_range (fun k ys H2 => Same H1 H2 ∧ ys.length = k ∧ ∀ i y, ys[i]? = some y → ∃ c, y = .ref c ∧ H2 c = some (.tup ((clR (leadI bs) m i).map V.int))) ⟨Same.refl H1, rfl, fun i y h => by simp at h⟩ ?_ (fun k ys H2 hk p => hsz (by rw [p.2.1]; omega)) ?_⟩
  · rintro k ys H2 hk ⟨s2, hl, hy⟩
    refine tyes ?_
    refine ⟨_, rfl, _, rfl, u, xs, m, bs, _, rfl, s2.tup (SqT.of eu), DenL.mono s2.tk _ hd, hm60, by omega, by omega, fun c H3 s3 e3 => ⟨s2.trans s3, by rw [List.length_append, hl]; rfl, fun i y h => ?_⟩⟩
    have ek : (0 + (k : Int)).toNat = k := by omega
    rw [ek] at e3
    by_cases c1 : i < k
    · rw [List.getElem?_append_left (by omega)] at h
      obtain ⟨d, e1, e2⟩ := hy i y h
      exact ⟨d, e1, s3 _ _ e2⟩
    · have hi := (List.getElem?_eq_some_iff.mp h).1
      rw [List.length_append, List.length_singleton] at hi
      have : i = k := by omega
      subst this
      rw [List.getElem?_append_right (by omega), hl, Nat.sub_self] at h
      cases h
      exact ⟨c, rfl, e3⟩
  rintro ys H2 ⟨s2, hl, hy⟩ p hp
  rw [em] at hl
  have s3 := same_new hp (.lst ys)
  refine ⟨_, rfl, (by show 0 ≤ sizeLine; decide), fun d hd' => ?_⟩
  have s4 := same_new hd' (.tup [])
  have s34 := s3.trans s4
  refine ⟨p, ys, fun i => (clR (leadI bs) m i).length, rfl, SqL.of (s4 _ _ upd_same), by omega, fun i y h => ?_, fun i y h hb => ?_⟩
  · obtain ⟨c, e1, e2⟩ := hy i y h
    exact ⟨c, _, e1, SqT.of (s34 _ _ e2), by rw [List.length_map]⟩
  · obtain ⟨c, rfl, e2⟩ := hy i y h
    have hi := (List.getElem?_eq_some_iff.mp h).1
    exact q c _ i (s1.trans (s2.trans s34)) (by omega) (s34 _ _ e2) fun b hb' => (hb b (by omega)).1
def spBest (K : PySem.W.Frag) : Sp := fun vs H Q _ => ∃ (v : V) (m : Nat) (bs : List (List Int)), vs = [v] ∧ BoxV K H v m bs ∧ 0 < m ∧ m ≤ 60 ∧
  ∀ H' a, Same H H' → a < m → (∀ b, b < m → (clR (leadI bs) m a).length ≤ (clR (leadI bs) m b).length) → Q (if (clR (leadI bs) m a).length = 1 then .int ((clR (leadI bs) m a).getD 0 0) else .non) H'
theorem scBest : FnScope ["box", "names"] ["box"] (defScope sBest) := ⟨rfl, rfl, rfl, by decide +kernel, rfl, by decide +kernel, by decide +kernel⟩
theorem ok_best {f : Addr} {fd : FuncData} (t : CrF K mg) (T : Bi mg) (D : Fd K mg "best" sBest ["box"] f fd) : FnOk P w K mg base CX0 6 f fd ["box"] (spBest K) := by
  have GC : FnOk P w K mg base CX0 5 t.fC t.dC ["box"] (spCrowd K) := t.crowd T
  refine D.F.ok scBest (fun vs H Q E h => ?_) (fun cdv A outer s H vs Q E hr h => ?_)
  · obtain ⟨v, m, bs, rfl, _⟩ := h
    rfl
  obtain ⟨v, m, bs, rfl, hv, hm0, hm60, q⟩ := h
  refine ⟨_, pss_cons (ps_set (i := 1) scBest.nd rfl (Or.inl rfl) (pe_fd t.C GC hr (pa_cons (pv 0) pa_nil)))
    (pss_one (ps_ret (pe_ifExp (pt_cmpR op_eq (pe_callB call_len_seq rfl T.len PySem.boot_len (pa_cons (pv 1) pa_nil)) pe_int (nomark _)) (pe_ix ix_tup (pv 1) pe_int (fun _ _ => rfl)) pe_non))), ?_⟩
  refine ⟨_, rfl, v, m, bs, rfl, hv, hm0, hm60, fun u H1 a s1 ha eu hb => ?_⟩
  have q' := q H1 a s1 ha hb
  refine ⟨_, rfl, u, _, rfl, .inr (SqT.of eu), rfl, _, rfl, ?_⟩
  have hl : ((clR (leadI bs) m a).map V.int).length = (clR (leadI bs) m a).length := List.length_map ..
  refine ite2 (fun c => ?_) (fun c => ?_)
  · have c' := of_decide_eq_true c
    have c2 : (clR (leadI bs) m a).length = 1 := by injection c' with c'; rw [hl] at c'; omega
    rw [if_pos c2] at q'
    obtain ⟨z, ez⟩ := List.length_eq_one_iff.mp c2
    rw [ez] at q' eu
    exact ⟨_, rfl, u, _, 0, .int z, rfl, rfl, SqT.of eu, rfl, q'⟩
  · have c2 : ¬ (clR (leadI bs) m a).length = 1 := fun e => c (decide_eq_true (by rw [hl, e]; rfl))
    rw [if_neg c2] at q'
    exact q'
end
end My

namespace My
open PySem L2
/-! ### crowds by numbers -/
/-- the names of a number's bits -/
def nb (n x : Nat) : Bool := decide (n / 2 ^ x % 2 = 1)
def someN (n m : Nat) : List Nat := (List.range m).filter (nb n)
theorem nb_zero (n : Nat) : nb n 0 = decide (n % 2 = 1) := by unfold nb; rw [Nat.pow_zero, Nat.div_one]
theorem nb_succ (n x : Nat) : nb n (x + 1) = nb (n / 2) x := by
  unfold nb
  rw [Nat.pow_succ, Nat.mul_comm, ← Nat.div_div_eq_div_mul]
/-- each set of names has a number -/
theorem nb_all : ∀ (m : Nat) (p : Nat → Bool), ∃ n, n < 2 ^ m ∧ ∀ x, x < m → nb n x = p x
  | 0, p => ⟨0, by simp, fun x hx => absurd hx (Nat.not_lt_zero _)⟩
  | m + 1, p => by
    obtain ⟨n, hn, h⟩ := nb_all m fun x => p (x + 1)
    refine ⟨2 * n + (if p 0 = true then 1 else 0), ?_, fun x hx => ?_⟩
    · rw [Nat.pow_succ]
      split <;> omega
    · cases x with
      | zero =>
        rw [nb_zero]
        cases e : p 0
        · rw [if_neg (by simp)]
          exact decide_eq_false (by omega)
        · rw [if_pos rfl]
          exact decide_eq_true (by omega)
      | succ x =>
        rw [nb_succ]
        have : (2 * n + (if p 0 = true then 1 else 0)) / 2 = n := by split <;> omega
        rw [this]
        exact h x (by omega)
/-- the bits tell the number -/
theorem nb_inj : ∀ {m a b : Nat}, a < 2 ^ m → b < 2 ^ m → (∀ x, x < m → nb a x = nb b x) → a = b
  | 0, a, b, ha, hb, _ => by simp at ha hb; omega
  | m + 1, a, b, ha, hb, h => by
    rw [Nat.pow_succ] at ha hb
    have h0 := h 0 (by omega)
    rw [nb_zero, nb_zero] at h0
    have ih := nb_inj (m := m) (a := a / 2) (b := b / 2) (by omega) (by omega) fun x hx => by rw [← nb_succ, ← nb_succ]; exact h (x + 1) (by omega)
    have h1 : (a % 2 = 1) ↔ (b % 2 = 1) := by
      constructor
      · intro z
        rw [decide_eq_true z] at h0
        exact of_decide_eq_true h0.symm
      · intro z
        rw [decide_eq_true z] at h0
        exact of_decide_eq_true h0
    omega
theorem mem_someN {n m x : Nat} : x ∈ someN n m ↔ x < m ∧ nb n x = true := by
  unfold someN
  rw [List.mem_filter, List.mem_range]
/-- the names of the number n each beat all else -/
def ClsN (L : Nat → Nat → Int) (m n : Nat) : Prop := ∀ x y, x < m → y < m → nb n x = true → nb n y = false → 0 < L x y
section
variable {L : Nat → Nat → Int} {m : Nat}
theorem cls_nest (hL : ∀ i j, L i j = - L j i) {a b : Nat} (ha : ClsN L m a) (hb : ClsN L m b) : (∀ x, x < m → nb a x = true → nb b x = true) ∨ (∀ x, x < m → nb b x = true → nb a x = true) := by
  apply Classical.byContradiction
  intro c
  rw [not_or] at c
  obtain ⟨c1, c2⟩ := c
  obtain ⟨x, hx⟩ := Classical.not_forall.mp c1
  obtain ⟨hxm, hx⟩ := Classical.not_imp.mp hx
  obtain ⟨xa, xb⟩ := Classical.not_imp.mp hx
  obtain ⟨y, hy⟩ := Classical.not_forall.mp c2
  obtain ⟨hym, hy⟩ := Classical.not_imp.mp hy
  obtain ⟨yb, ya⟩ := Classical.not_imp.mp hy
  rw [Bool.not_eq_true] at xb ya
  have h1 := ha x y hxm hym xa ya
  have h2 := hb y x hym hxm yb xb
  have := hL x y
  omega
/-- closed, of the same size: the same names -/
theorem cls_same (hL : ∀ i j, L i j = - L j i) {a b : Nat} (ha : ClsN L m a) (hb : ClsN L m b) (h : (someN a m).length = (someN b m).length) : someN a m = someN b m := by
  unfold someN at h ⊢
  rcases cls_nest hL ha hb with n | n
  · exact (filter_le (List.range m) fun x hx => n x (List.mem_range.mp hx)).2 h
  · exact ((filter_le (List.range m) fun x hx => n x (List.mem_range.mp hx)).2 h.symm).symm
theorem some_inj {a b : Nat} (ha : a < 2 ^ m) (hb : b < 2 ^ m) (h : someN a m = someN b m) : a = b := by
  refine nb_inj ha hb fun x hx => ?_
  have : x ∈ someN a m ↔ x ∈ someN b m := by rw [h]
  rw [mem_someN, mem_someN] at this
  rw [Bool.eq_iff_iff]
  constructor
  · exact fun z => (this.mp ⟨hx, z⟩).2
  · exact fun z => (this.mpr ⟨hx, z⟩).2
/-- the least of the closed crowds is the crowd that the program tells -/
theorem cls_crowd (hL : ∀ i j, L i j = - L j i) (hs : ∀ i, L i i = 0) {d a : Nat} (ha : a < m) (hd : d < 2 ^ m) (cd : ClsN L m d) (h0 : 0 < d) (least : ∀ n, 0 < n → n < 2 ^ m → ClsN L m n → (someN d m).length ≤ (someN n m).length)
    (hb : ∀ b, b < m → (clR L m a).length ≤ (clR L m b).length) : (someN d m).map (fun (x : Nat) => (x : Int)) = clR L m a := by
  -- the program's crowd has a number
  obtain ⟨n, hn, en⟩ := nb_all m (clB L m a)
  have cn : ClsN L m n := fun x y hx hy nx ny => by
    rw [en x hx] at nx
    rw [en y hy] at ny
    refine cl_closed (clB_iff.mp nx) hy fun z => ?_
    rw [clB_iff.mpr z] at ny
    cases ny
  have sn : someN n m = clN L m a := by
    unfold someN clN
    exact List.filter_congr fun x hx => en x (List.mem_range.mp hx)
  have hn0 : 0 < n := by
    rcases Nat.eq_zero_or_pos n with e | e
    · subst e
      have := en a ha
      rw [clB_iff.mpr (cl_self hs ha)] at this
      unfold nb at this
      rw [Nat.zero_div] at this
      exact absurd (of_decide_eq_true this) (by decide)
    · exact e
  have l1 := least n hn0 hn cn
  -- d has a name
  have : ∃ b, b < m ∧ nb d b = true := by
    apply Classical.byContradiction
    intro z
    have e : d = 0 := nb_inj (m := m) hd (Nat.two_pow_pos m) fun x hx => by
      have h1 : nb d x = false := by
        cases q : nb d x
        · rfl
        · exact absurd ⟨x, hx, q⟩ z
      rw [h1]
      unfold nb
      rw [Nat.zero_div]
      rfl
    omega
  obtain ⟨b, hbm, nb'⟩ := this
  have sub : ∀ x ∈ List.range m, clB L m b x = true → nb d x = true := fun x hx hc => by
    refine cl_least (L := L) (m := m) (a := b) (P := fun x => nb d x = true ∧ x < m) (fun x y hx hy hl => ?_) (clB_iff.mp hc) ⟨nb', hbm⟩ |>.1
    refine ⟨?_, hy⟩
    cases q : nb d y
    · have := cd x y hx.2 hy hx.1 q
      omega
    · rfl
  have l2 := (filter_le (List.range m) sub).1
  have l3 := hb b hbm
  have e1 : (clR L m a).length = (someN n m).length := by rw [sn, clN_len]
  have e2 : (clR L m b).length = ((List.range m).filter (clB L m b)).length := by rw [← clN_len]; rfl
  have e3 : (someN d m).length = ((List.range m).filter (nb d)).length := rfl
  have : someN d m = someN n m := cls_same hL cd cn (by omega)
  rw [this, sn]
  rfl
end
/-! ### crowds by numbers: the law's own defs -/
def natV (xs : List Nat) : List V := xs.map fun (x : Nat) => V.int (x : Int)
theorem natV_len (ns : List Nat) : (natV ns).length = ns.length := by unfold natV; rw [List.length_map]
theorem natV_ints (ns : List Nat) : natV ns = (ns.map fun (x : Nat) => (x : Int)).map V.int := by
  unfold natV
  rw [List.map_map]
  rfl
theorem someN_succ (n j : Nat) : someN n (j + 1) = someN n j ++ if nb n j = true then [j] else [] := by
  unfold someN
  rw [List.range_succ, List.filter_append]
  congr 1
  by_cases c : nb n j = true
  · rw [if_pos c, List.filter_cons_of_pos c]; rfl
  · rw [if_neg c, List.filter_cons_of_neg c]; rfl
theorem someN_len (n j : Nat) : (someN n j).length ≤ j := by
  unfold someN
  have := List.length_filter_le (nb n) (List.range j)
  rw [List.length_range] at this
  exact this
theorem bit_eq (n j : Nat) : decide (V.int (Builtin.bitAnd ((n : Int) / 2 ^ (0 + (j : Int)).toNat) 1) = V.int 1) = nb n j := by
  have e : (0 + (j : Int)).toNat = j := by omega
  rw [e, PyProof.Rows.bitAnd_m1]
  have e2 : ((n : Int) / 2 ^ j % 2) = ((n / 2 ^ j % 2 : Nat) : Int) := by
    rw [Int.natCast_emod, Int.natCast_ediv, Int.natCast_pow]
    rfl
  rw [e2]
  unfold nb
  rw [Bool.eq_iff_iff, decide_eq_true_iff, decide_eq_true_iff]
  constructor
  · intro h
    injection h with h
    omega
  · intro h
    rw [h]
    rfl
section
variable {P : Program} {w : World} {K : PySem.W.Frag} {mg : Str → Option Value} {base : Heap}
abbrev nSome : List Str := ["_law_number", "_law_many"]
def spSome (K : PySem.W.Frag) : Sp := fun vs H Q _ => ∃ n m : Nat, vs = [.int n, .int m] ∧ m ≤ 60 ∧ ∀ l, H l = none → Q (.ref l) (upd H l (.lst (natV (someN n m))))
theorem scSome : FnScope nSome nSome (defScope sSome) := ⟨rfl, rfl, rfl, by decide +kernel, rfl, by decide +kernel, by decide +kernel⟩
theorem ok_some {f : Addr} {fd : FuncData} (T : Bi mg) (D : Fd K mg "_law_some" sSome nSome f fd) : FnOk P w K mg base CX0 1 f fd nSome (spSome K) := by
  refine D.F.ok scSome (fun vs H Q E h => ?_) (fun cdv A outer s H vs Q E hr h => ?_)
  · obtain ⟨n, m, rfl, _⟩ := h
    rfl
  obtain ⟨n, m, rfl, hm, q⟩ := h
  refine ⟨_, pss_one (ps_ret (pe_comp nSome ("_law_name" :: nSome) (defScope sSome) (pi_range1 rfl T.range (pa_cons (pv 1) pa_nil)) (fun _ _ _ _ _ => pf_one (pt_cmpR op_eq (pe_op op_and (pe_op op_shr (pv 1) (pv 0)) pe_int) pe_int (nomark _))) (fun _ _ _ _ _ => pv 0))), ?_⟩
  refine ⟨_, rfl, (m : Int), rfl, by omega, by omega, comp_range (fun j ys H' => H' = H ∧ ys = natV (someN n j)) ⟨rfl, rfl⟩ ?_ (fun j ys H' hj z => hsz (by have := someN_len n j; rw [z.2, natV_len]; omega)) ?_⟩
  · rintro j ys H' hj ⟨rfl, rfl⟩
    refine ⟨_, rfl, _, rfl, _, _, rfl, rfl, (by show (0 : Int) ≤ 0 + (j : Int); omega), _, _, rfl, rfl, rfl, _, rfl, ?_⟩
    rw [bit_eq, someN_succ]
    have ej : (0 + (j : Int)) = (j : Int) := by omega
    refine ite2 (fun c => ?_) (fun c => ?_)
    · refine ⟨_, rfl, rfl, ?_⟩
      rw [if_pos c, ej]
      unfold natV
      rw [List.map_append]
      rfl
    · refine ⟨rfl, ?_⟩
      rw [if_neg c, List.append_nil]
  · rintro ys H' ⟨rfl, rfl⟩ p hp
    have em : ((m : Nat) : Int).toNat = m := by omega
    rw [em]
    exact q p hp
abbrev nClosed : List Str := ["_law_box_here", "_law_some_here", "_law_name"]
abbrev pClosed : List Str := ["_law_box_here", "_law_some_here"]
def spClosed (K : PySem.W.Frag) : Sp := fun vs H Q _ => ∃ (v : V) (m n : Nat) (bs : List (List Int)) (l : Addr), vs = [v, .ref l] ∧ BoxV K H v m bs ∧ m ≤ 60 ∧ SqL K H l (natV (someN n m)) ∧ ∀ (b : Bool) H', Same H H' → (b = true ↔ ClsN (leadI bs) m n) → Q (.bl b) H'
theorem scClosed : FnScope nClosed pClosed (defScope sClosed) := ⟨rfl, rfl, rfl, by decide +kernel, rfl, by decide +kernel, by decide +kernel⟩
/-- a name that x does not beat, not in the crowd -/
def badB (L : Nat → Nat → Int) (n x y : Nat) : Bool := !nb n y && decide (L x y ≤ 0)
def badL (L : Nat → Nat → Int) (n x t : Nat) : List Nat := (List.range t).filter (badB L n x)
theorem badL_succ (L : Nat → Nat → Int) (n x t : Nat) : badL L n x (t + 1) = badL L n x t ++ if badB L n x t = true then [t] else [] := by
  unfold badL
  rw [List.range_succ, List.filter_append]
  congr 1
  by_cases c : badB L n x t = true
  · rw [if_pos c, List.filter_cons_of_pos c]; rfl
  · rw [if_neg c, List.filter_cons_of_neg c]; rfl
theorem badL_len (L : Nat → Nat → Int) (n x t : Nat) : (badL L n x t).length ≤ t := by
  unfold badL
  have := List.length_filter_le (badB L n x) (List.range t)
  rw [List.length_range] at this
  exact this
theorem in_some {n m t : Nat} (ht : t < m) : inV (.int (t : Int)) (natV (someN n m)) = nb n t := by
  rw [natV_ints, inV_ints, Bool.eq_iff_iff, decide_eq_true_iff, List.mem_map]
  constructor
  · rintro ⟨x, hx, e⟩
    have : x = t := by omega
    subst this
    exact (mem_someN.mp hx).2
  · exact fun h => ⟨t, mem_someN.mpr ⟨ht, h⟩, rfl⟩
theorem flat_nat (ns : List Nat) : (natV ns).all flatV = true := by rw [natV_ints]; exact flat_ints _
theorem ok_closed {f fl : Addr} {fd dl : FuncData} (T : Bi mg) (Dl : Fd K mg "_law_lead" sLLead ["_law_box_here", "_law_one", "_law_other"] fl dl) (D : Fd K mg "_law_closed" sClosed pClosed f fd) : FnOk P w K mg base CX0 2 f fd pClosed (spClosed K) := by
  have GL : FnOk P w K mg base CX0 1 fl dl ["_law_box_here", "_law_one", "_law_other"] (spLead K) := ok_llead Dl
  refine D.F.ok scClosed (fun vs H Q E h => ?_) (fun cdv A outer s H vs Q E hr h => ?_)
  · obtain ⟨v, m, n, bs, l, rfl, _⟩ := h
    rfl
  obtain ⟨v, m, n, bs, l, rfl, hv, hm, hl, q⟩ := h
  refine ⟨_, pss_cons (ps_for PassesOwn.never rfl (pi_list (pv 1)) (pg_name (i := 2) scClosed.nd rfl (Or.inr rfl))
      (pss_one (ps_if (pt_truth (pe_comp nClosed ("_law_far" :: nClosed) (defScope sClosed) (pi_range1 rfl T.range (pa_cons (pe_ix ix_tup (pv 0) pe_int (fun _ _ => rfl)) pa_nil))
        (fun _ _ _ _ _ => pf_one (PW.pt (pw_and (pt_cmpR (op_notInK K) (pv 0) (pv 2) rfl) (pw_and1 (pt_cmpR op_le (pe_fd Dl GL hr (pa_cons (pv 1) (pa_cons (pv 3) (pa_cons (pv 0) pa_nil)))) pe_int (nomark _)))))) (fun _ _ _ _ _ => pv 0)) (by intro _; rfl)) (pss_one (ps_ret pe_bl)) pss_nil)))
    (pss_one (ps_ret pe_bl)), ?_⟩
  obtain ⟨va, tb, xs0, rfl, hva, htb, hx0⟩ := hv.open
  have em : ((m : Nat) : Int).toNat = m := by omega
  refine ⟨_, rfl, l, rfl, ⟨_, hl⟩, for_list (xs := natV (someN n m)) (fun i σ H1 => Same H H1 ∧ (∃ v2 : Option V, σ = [some (.ref va), some (.ref l), v2]) ∧ ∀ x ∈ (someN n m).take i, ∀ y, y < m → nb n y = false → 0 < leadI bs x y) ⟨Same.refl H, ⟨none, rfl⟩, fun x hx => by simp at hx⟩ (fun i σ H1 _ z => z.1.seq hl) ?_ ?_⟩
  · rintro i z σ H1 hz ⟨s1, ⟨v2, rfl⟩, good⟩
    have hil : i < (someN n m).length := by have := (List.getElem?_eq_some_iff.mp hz).1; rw [natV_len] at this; exact this
    obtain ⟨x, rfl, ex⟩ : ∃ x : Nat, z = .int (x : Int) ∧ (someN n m)[i]? = some x := by
      unfold natV at hz
      rw [List.getElem?_map, List.getElem?_eq_getElem hil] at hz
      cases hz
      exact ⟨_, rfl, List.getElem?_eq_getElem hil⟩
    obtain ⟨hxm, hxn⟩ := mem_someN.mp (List.mem_of_getElem? ex)
    refine ⟨_, rfl, va, _, 0, .int m, rfl, rfl, s1.tup hva, rfl, (m : Int), rfl, by omega, by omega, comp_range (fun t ys H2 => Same H1 H2 ∧ ys = natV (badL (leadI bs) n x t)) ⟨Same.refl _, rfl⟩ ?_ (fun t ys H2 ht p => hsz (by have := badL_len (leadI bs) n x t; rw [p.2, natV_len]; omega)) ?_⟩
    · rintro t ys H2 ht ⟨s2, rfl⟩
      rw [em] at ht
      have et : (0 + (t : Int)) = (t : Int) := by omega
      have etn : (0 + (t : Int)).toNat = t := by omega
      refine ⟨_, rfl, _, rfl, l, _, rfl, .inl ((s1.trans s2).seq hl), rfl, flat_nat _, _, rfl, ?_⟩
      rw [et, in_some ht, badL_succ]
      refine ite2 (fun c1 => ?_) (fun c1 => iteF ⟨s2, ?_⟩)
      · refine ⟨_, rfl, _, rfl, _, rfl, .ref va, m, bs, _, _, rfl, hv.mono (s1.trans s2).tk, by omega, by omega, by omega, by omega, fun H3 s3 => ⟨_, _, rfl, rfl, _, rfl, ?_⟩⟩
        rw [Int.toNat_natCast, Int.toNat_natCast]
        refine ite2 (fun c2 => ?_) (fun c2 => ⟨s2.trans s3, ?_⟩)
        · refine ⟨_, rfl, s2.trans s3, ?_⟩
          have cb : badB (leadI bs) n x t = true := by unfold badB; rw [Bool.and_eq_true]; exact ⟨c1, c2⟩
          rw [if_pos cb]
          unfold natV
          rw [List.map_append]
          rfl
        · have cb : ¬ badB (leadI bs) n x t = true := by unfold badB; rw [Bool.and_eq_true]; exact fun z => c2 z.2
          rw [if_neg cb, List.append_nil]
      · have cb : ¬ badB (leadI bs) n x t = true := by unfold badB; rw [Bool.and_eq_true]; exact fun z => c1 z.1
        rw [if_neg cb, List.append_nil]
    rintro ys H2 ⟨s2, rfl⟩ p hp
    rw [em]
    have s3 := same_new hp (.lst (natV (badL (leadI bs) n x m)))
    refine ⟨_, .inl ⟨_, SqL.of upd_same, rfl⟩, ?_⟩
    cases eb : badL (leadI bs) n x m with
    | nil =>
      refine iteF ⟨s1.trans (s2.trans (by rw [← eb]; exact s3)), ⟨_, rfl⟩, fun x' hx' y hy hny => ?_⟩
      rw [List.take_add_one, ex] at hx'
      rcases List.mem_append.mp hx' with hx' | hx'
      · exact good x' hx' y hy hny
      · have e : x' = x := by simpa using hx'
        subst e
        apply Classical.byContradiction
        intro hle
        have : y ∈ badL (leadI bs) n x' m := by
          unfold badL
          rw [List.mem_filter, List.mem_range]
          refine ⟨hy, ?_⟩
          unfold badB
          rw [hny, decide_eq_true (by omega)]
          rfl
        rw [eb] at this
        cases this
    | cons y r =>
      refine iteT ?_
      have hy : y ∈ badL (leadI bs) n x m := by rw [eb]; exact List.mem_cons_self
      unfold badL at hy
      rw [List.mem_filter, List.mem_range] at hy
      unfold badB at hy
      rw [Bool.and_eq_true, Bool.not_eq_true', decide_eq_true_iff] at hy
      refine q false _ (s1.trans (s2.trans (by rw [← eb]; exact s3))) ⟨fun z => (by cases z), fun z => ?_⟩
      have := z x y hxm hy.1 hxn hy.2.1
      omega
  · rintro σ H1 ⟨s1, ⟨v2, rfl⟩, good⟩
    rw [natV_len, List.take_length] at good
    exact q true H1 s1 ⟨fun _ x y hx hy nx ny => good x (mem_someN.mpr ⟨hx, nx⟩) y hy ny, fun _ => rfl⟩
end
end My

namespace My
open PySem L2
/-! ### not, of a list -/
section
open PySem PySem.Spec PyProof.Rows L2
variable {X : Cx}
def tNotT (K : PySem.W.Frag) (ta : TE) : TE := fun σ H Q => ta σ H fun x H1 => ∃ k, TruV K x H1 k ∧ Q (.bl (!k)) H1
theorem pe_notT {a : Expr} {ta : TE} {pos : Pos} (ha : PE X a ta) : PE X (.UnaryOp .Not a pos) (tNotT X.K ta) := by
  intro pins s σ H Q I h
  refine UnaryOp_ (thn (ha pins s σ H _ I h) fun v s1 ⟨x, H1, I1, r1, q1⟩ => ?_)
  exact not_of (thn (tru_ok pins s1 σ H1 x v (fun k H => Q (.bl (!k)) H) I1 r1 q1) fun b s2 ⟨H2, I2, q2⟩ => ⟨.bl (!b), H2, I2, rfl, q2⟩)
end
/-! ### the law -/
theorem clR_mem' {L : Nat → Nat → Int} {m a : Nat} {z : Int} (h : z ∈ clR L m a) : ∃ x : Nat, x < m ∧ z = x ∧ Cl L m a x := by
  unfold clR at h
  obtain ⟨x, hx, rfl⟩ := List.mem_map.mp h
  have := mem_clN.mp hx
  exact ⟨x, this.right, rfl, this⟩
theorem fstR_lt' {bs : List (List Int)} {m : Nat} : (fstR bs m).Pairwise (· < ·) := by
  unfold fstR
  rw [List.pairwise_map]
  exact (List.Pairwise.filter _ List.pairwise_lt_range).imp fun {i j} h => by omega
theorem fstR_mem' {bs : List (List Int)} {m : Nat} {z : Int} (h : z ∈ fstR bs m) : ∃ x : Nat, x < m ∧ z = x := by
  unfold fstR at h
  obtain ⟨x, hx, rfl⟩ := List.mem_map.mp h
  rw [List.mem_filter, List.mem_range] at hx
  exact ⟨x, hx.1, rfl⟩
/-- all firsts are in the crowd -/
theorem fst_in {bs : List (List Int)} {m a x : Nat} (ha : a < m) (h : (x : Int) ∈ fstR bs m) : (x : Int) ∈ clR (leadI bs) m a := by
  obtain ⟨hx, hn⟩ := mem_fstR.mp h
  rw [mem_clR]
  apply Classical.byContradiction
  intro c
  have := crowd_above (C := Cl (leadI bs) m a) (lead_anti bs) (fw_str (leadI bs) m) (fun i j hi hj ci cj => cl_closed ci hj cj) ha hx (cl_self (lead_self bs) ha) c
  have h2 := hn a ha
  rw [abvB_iff.mpr this] at h2
  cases h2
/-- a crowd of one: it is above all others -/
theorem one_above {bs : List (List Int)} {m a z y : Nat} (ha : a < m) (h : clR (leadI bs) m a = [(z : Int)]) (hy : y < m) (hne : y ≠ z) : abvB bs m z y = true := by
  have hz : Cl (leadI bs) m a z := mem_clR.mp (by rw [h]; exact List.mem_singleton.mpr rfl)
  have ny : ¬ Cl (leadI bs) m a y := fun c => by
    have := mem_clR.mpr c
    rw [h] at this
    have := List.mem_singleton.mp this
    omega
  exact abvB_iff.mpr (crowd_above (C := Cl (leadI bs) m a) (lead_anti bs) (fw_str (leadI bs) m) (fun i j hi hj ci cj => cl_closed ci hj cj) hz.right hy hz ny)
theorem one_first {bs : List (List Int)} {m a z : Nat} (ha : a < m) (h : clR (leadI bs) m a = [(z : Int)]) : fstR bs m = [(z : Int)] := by
  have hz : Cl (leadI bs) m a z := mem_clR.mp (by rw [h]; exact List.mem_singleton.mpr rfl)
  refine ints_unique fstR_lt' (by simp) fun w => ?_
  rw [List.mem_singleton]
  constructor
  · intro hw
    obtain ⟨x, hx, rfl⟩ := fstR_mem' hw
    have := fst_in ha hw
    rw [h] at this
    exact List.mem_singleton.mp this
  · rintro rfl
    refine mem_fstR.mpr ⟨hz.right, fun i hi => ?_⟩
    by_cases c : i = z
    · subst c; exact abvB_irr _ _ _
    · have h1 := abvB_iff.mp (one_above ha h hi c)
      cases q : abvB bs m i z
      · rfl
      · exact absurd (abvB_iff.mp q) (abv_asymm h1)
/-- the numbers of the closed crowds, up to i -/
noncomputable def clsB (L : Nat → Nat → Int) (m n : Nat) : Bool := @decide (ClsN L m n) (Classical.propDecidable _)
theorem clsB_iff {L : Nat → Nat → Int} {m n : Nat} : clsB L m n = true ↔ ClsN L m n := by unfold clsB; exact @decide_eq_true_iff _ (Classical.propDecidable _)
noncomputable def clsL (L : Nat → Nat → Int) (m i : Nat) : List Nat := ((List.range i).map (· + 1)).filter (clsB L m)
theorem clsL_succ (L : Nat → Nat → Int) (m i : Nat) : clsL L m (i + 1) = clsL L m i ++ if clsB L m (i + 1) = true then [i + 1] else [] := by
  unfold clsL
  rw [List.range_succ, List.map_append, List.filter_append]
  congr 1
  by_cases c : clsB L m (i + 1) = true
  · rw [if_pos c]
    exact List.filter_cons_of_pos c
  · rw [if_neg c]
    exact List.filter_cons_of_neg c
theorem mem_clsL {L : Nat → Nat → Int} {m i n : Nat} : n ∈ clsL L m i ↔ 0 < n ∧ n ≤ i ∧ ClsN L m n := by
  unfold clsL
  rw [List.mem_filter, List.mem_map, clsB_iff]
  constructor
  · rintro ⟨⟨x, hx, rfl⟩, h⟩
    have := List.mem_range.mp hx
    exact ⟨by omega, by omega, h⟩
  · rintro ⟨h1, h2, h3⟩
    exact ⟨⟨n - 1, List.mem_range.mpr (by omega), by omega⟩, h3⟩
theorem clsL_nodup (L : Nat → Nat → Int) (m i : Nat) : (clsL L m i).Nodup := by
  unfold clsL List.Nodup
  refine List.Pairwise.filter _ ?_
  rw [List.pairwise_map]
  exact List.pairwise_lt_range.imp fun {a b} h => by omega
/-- a list of lists: the names of these numbers -/
structure LsN (H : Hp) (m : Nat) (ys : List V) (nums : List Nat) : Prop where
  len : ys.length = nums.length
  at' : ∀ (k : Nat) (y : V) (n : Nat), ys[k]? = some y → nums[k]? = some n → ∃ t, y = .ref t ∧ H t = some (.lst (natV (someN n m)))
theorem LsN.mono {H H' : Hp} {m : Nat} {ys : List V} {nums : List Nat} (h : LsN H m ys nums) (s : Same H H') : LsN H' m ys nums := ⟨h.len, fun k y n e1 e2 => by
  obtain ⟨t, e3, e4⟩ := h.at' k y n e1 e2
  exact ⟨t, e3, s _ _ e4⟩⟩
theorem LsN.snoc {H : Hp} {m n : Nat} {ys : List V} {nums : List Nat} {t : Addr} (h : LsN H m ys nums) (e : H t = some (.lst (natV (someN n m)))) : LsN H m (ys ++ [.ref t]) (nums ++ [n]) := by
  refine ⟨by rw [List.length_append, List.length_append, h.len]; rfl, fun k y n' e1 e2 => ?_⟩
  by_cases c : k < ys.length
  · rw [List.getElem?_append_left c] at e1
    rw [List.getElem?_append_left (by rw [← h.len]; exact c)] at e2
    exact h.at' k y n' e1 e2
  · rw [List.getElem?_append_right (by omega)] at e1
    rw [List.getElem?_append_right (by rw [← h.len]; omega), ← h.len] at e2
    have hk : k - ys.length = 0 := by
      have := (List.getElem?_eq_some_iff.mp e1).1
      simp at this
      omega
    rw [hk] at e1 e2
    cases e1
    cases e2
    exact ⟨t, rfl, e⟩
theorem tk_tbl {K : PySem.W.Frag} {H : Hp} {tb : Addr} {ps more : Array Value} (e : H tb = some (.tbl ps)) : TK K H (upd H tb (.tbl more)) := fun a xs h => by
  rcases h with (h | ⟨o, h⟩) | h
  · exact .inl (.inl (by rw [upd_ne (fun z => by rw [z, e] at h; cases h)]; exact h))
  · exact .inl (.inr ⟨o, by rw [upd_ne (fun z => by rw [z, e] at h; cases h)]; exact h⟩)
  · exact .inr h
section
variable {P : Program} {w : World} {K : PySem.W.Frag} {mg : Str → Option Value} {base : Heap}
theorem fn_ofN {k : Nat} {f : Addr} {name qual : Str} {params : Arguments} {body : List Stmt} {scope : Scope} {dV kV doc pm cdv ct oc : Value} {an od : Option Addr} {osl : Array (Option Value)} {N ps : List Str} {sp : Sp}
    (lk : K.lookup f = some ⟨oc, od, .func (PySem.W.fnOf name qual params body scope dV kV doc pm an cdv ct), osl⟩) (hcd : PySem.W.codeIn K cdv qual = true) (S : FnScope N ps scope) (len : ∀ vs H Q E, sp vs H Q E → vs.length = ps.length)
    (hbody : ∀ (A : Around) (outer : List Env) (s : Shared) (H : Hp) (vs : List V) (Q : VK) (E : XK), Room k (A.deeper (PyProof.Rows.envOfC qual scope s.heap.objs.size f cdv)) → sp vs H Q E →
      ∃ t, PSs (cxOf CX0 P w K mg base N qual scope f cdv A outer s H E).nox body t ∧ t { nx := fun _ H' => Q .non H', rt := Q } (start N vs) H) : FnOk P w K mg base CX0 (k + 1) f (PySem.W.fnOf name qual params body scope dV kV doc pm an cdv ct) ps sp :=
  fn_of lk hcd S len fun A outer s H vs Q E hr hsp => let ⟨t, h, q⟩ := hbody A outer s H vs Q E hr hsp; ⟨t, h.nox, q⟩
def spLaw (K : PySem.W.Frag) (tb : Addr) : Sp := fun vs H Q _ => ∃ (a : Addr) (ns : List Int), vs = [.ref a] ∧ SqL K H a (ns.map V.int) ∧ ns.length ≤ 63 ∧ H tb = some (.tbl #[]) ∧ ∀ H', Q (.bl true) H'
abbrev nLaw : List Str := ["_law_script", "_law_box_here", "_law_many", "_law_all_some", "_law_due", "_law_found", "_law_first"]
theorem scLaw : FnScope nLaw ["_law_script"] (defScope sLaw) := ⟨rfl, rfl, rfl, by decide +kernel, rfl, by decide +kernel, by decide +kernel⟩
set_option maxHeartbeats 4000000 in
theorem ok_law {f c tb fl fs fc ff fb : Addr} {dl ds dc df db : FuncData} {oc kV doc pm ct : Value} {od an : Option Addr} {osl : Array (Option Value)} (T : Bi mg) (B : BoxF K mg) (S : AbvF K mg) (C : CrF K mg) (Df : Fd K mg "firsts" sFirsts ["box"] ff df) (Db : Fd K mg "best" sBest ["box"] fb db)
    (Dl : Fd K mg "_law_lead" sLLead ["_law_box_here", "_law_one", "_law_other"] fl dl) (Ds : Fd K mg "_law_some" sSome nSome fs ds) (Dc : Fd K mg "_law_closed" sClosed pClosed fc dc)
    (lk : K.lookup f = some ⟨oc, od, .func (PySem.W.fnOf "law" "law" (defArgs sLaw) (defBody sLaw) (defScope sLaw) .none kV doc pm an (.ref c) ct), osl⟩) (hcd : PySem.W.codeIn K (.ref c) "law" = true) (hhd : PySem.W.codeHdIn K c tb = true) (hB : base.BuiltinsAt mg tb) :
    FnOk P w K mg base CX0 8 f (PySem.W.fnOf "law" "law" (defArgs sLaw) (defBody sLaw) (defScope sLaw) .none kV doc pm an (.ref c) ct) ["_law_script"] (spLaw K tb) := by
  have GB : FnOk P w K mg base CX0 3 B.fB B.dB ["_law_script", "_law_most"] (spBox K) := B.box T
  have GA : FnOk P w K mg base CX0 6 S.fA S.dA ["box"] (spAbove K) := S.above T
  have GF : FnOk P w K mg base CX0 7 ff df ["box"] (spFirsts K) := ok_firsts S T Df
  have GK : FnOk P w K mg base CX0 5 C.fC C.dC ["box"] (spCrowd K) := C.crowd T
  have GX : FnOk P w K mg base CX0 6 fb db ["box"] (spBest K) := ok_best C T Db
  have GS : FnOk P w K mg base CX0 1 fs ds nSome (spSome K) := ok_some T Ds
  have GC : FnOk P w K mg base CX0 2 fc dc pClosed (spClosed K) := ok_closed T Dl Dc
  refine fn_ofN lk hcd scLaw (fun vs H Q E h => ?_) (fun A outer s H vs Q E hr h => ?_)
  · obtain ⟨a, ns, rfl, _⟩ := h
    rfl
  obtain ⟨a, ns, rfl, hS, _, ht0, q⟩ := h
  have hu : A.units + 3 + 20 < cLine := by have := hr.units; have e : (A.deeper (PyProof.Rows.envOfC "law" (defScope sLaw) s.heap.objs.size f (.ref c))).units = A.units + 3 := rfl; omega
  refine ⟨_, pss_cons (ps_set (i := 1) scLaw.nd rfl (Or.inr rfl) (pe_fd B.B GB hr (pa_cons (pv 0) (pa_cons pe_int pa_nil))))
    (pss_cons (ps_set (i := 2) scLaw.nd rfl (Or.inr rfl) (pe_ix ix_tup (pv 1) pe_int (fun _ _ => rfl)))
    (pss_cons (ps_comp nLaw ("_law_number" :: nLaw) (defScope sLaw) 3 scLaw.nd rfl rfl (pi_range2 rfl T.range (pa_cons pe_int (pa_cons (pe_op op_shl pe_int (pv 2)) pa_nil))) (fun _ _ _ _ _ => pf_nil) (fun _ _ _ _ _ => pe_fd Ds GS hr (pa_cons (pv 0) (pa_cons (pv 3) pa_nil))))
    (pss_cons (ps_set (i := 4) scLaw.nd rfl (Or.inl rfl) (pe_minlam "_law_some_here" K tb c (pe_comp nLaw ("_law_some_here" :: nLaw) (defScope sLaw) (pi_list (pv 3)) (fun _ _ _ _ _ => pf_one (pt_val (pe_fd Dc GC hr (pa_cons (pv 2) (pa_cons (pv 0) pa_nil))))) (fun _ _ _ _ _ => pv 0)) rfl T.min rfl hhd hB (hr.mono (by decide))
      (fun _ _ _ _ _ _ _ l ys _ hl q => ⟨_, pe_tup (pa_cons (pe_callB call_len_seq rfl T.len PySem.boot_len (pa_cons (pv 0) pa_nil)) (pa_cons (pv 0) pa_nil)), ⟨_, rfl, l, ys, rfl, .inl hl, _, rfl, (by show 2 ≤ sizeLine; decide), fun p hp => q p hp⟩⟩)))
    (pss_cons (ps_set (i := 5) scLaw.nd rfl (Or.inr rfl) (pe_fd C.C GK hr (pa_cons (pv 1) pa_nil)))
    (pss_cons (ps_if (PW.pt (pw_or (pt_not (pt_val (pe_callB call_isi rfl T.isi PyProof.Rows.boot_isinstance (pa_cons (pv 5) (pa_cons (pe_bltn (v := .ty "tuple") rfl T.tuple PyProof.Rows.boot_tuple rfl) pa_nil)))))
        (pw_or (pt_cmpR (op_neLK K hu) (pe_callTy call_list_of rfl T.list PyProof.Rows.boot_list (pa_cons (pv 5) pa_nil)) (pv 4) (nomark _))
        (pw_or1 (pt_not (pt_val (pe_callB (call_all_bl rfl) rfl T.all PyProof.Rows.boot_all (pa_cons (pe_comp nLaw ("_law_name" :: nLaw) (defScope sLaw) (pi_tup (pe_fd Df GF hr (pa_cons (pv 1) pa_nil))) (fun _ _ _ _ _ => pf_nil) (fun _ _ _ _ _ => pe_cmpR (op_inK K) (pv 0) (pv 6) rfl)) pa_nil))))))))
      (pss_one (ps_ret pe_bl)) pss_nil)
    (pss_cons (ps_set (i := 6) scLaw.nd rfl (Or.inr rfl) (pe_fd Db GX hr (pa_cons (pv 1) pa_nil)))
    (pss_cons (ps_if (pt_cmpR op_isN (pv 6) pe_non (nomark _)) (pss_one (ps_ret (pe_cmpR op_gt (pe_callB call_len_seq rfl T.len PySem.boot_len (pa_cons (pv 4) pa_nil)) pe_int (nomark _)))) pss_nil)
    (pss_cons (ps_if (PW.pt (pw_or (pt_cmpR (op_neLK K hu) (pv 4) (pe_lst (pa_cons (pv 6) pa_nil)) (nomark _)) (pw_or1 (pt_cmpR (op_neDK K hu) (pe_fd Df GF hr (pa_cons (pv 1) pa_nil)) (pe_tup (pa_cons (pv 6) pa_nil)) (nomark _))))) (pss_one (ps_ret pe_bl)) pss_nil)
    (pss_one (ps_ret (pe_notT (pe_comp nLaw ("_law_name" :: nLaw) (defScope sLaw) (pi_range1 rfl T.range (pa_cons (pv 2) pa_nil)) (fun _ _ _ _ _ => pf_one (PW.pt (pw_and (pt_cmpR op_ne (pv 0) (pv 7) (nomark _)) (pw_and1 (pt_cmpR (op_notInDK K hu) (pe_tup (pa_cons (pv 7) (pa_cons (pv 0) pa_nil))) (pe_fd S.A GA hr (pa_cons (pv 2) pa_nil)) rfl))))) (fun _ _ _ _ _ => pv 0))))))))))))), ?_⟩
  -- the box
  refine ⟨_, rfl, a, ns, 6, rfl, hS, by decide, by decide, fun vb H1 m bs s1 hd hw => ?_⟩
  have hm6 : m ≤ 6 := hw.hi
  have hm1 : 1 ≤ m := hw.lo
  have hv : BoxV K H1 (.ref vb) m bs := ⟨hd, hw.bal, by omega, by have := hw.few; omega⟩
  have hva := hv
  obtain ⟨a', tt, xs0, e0, hvb, htt, hx0⟩ := hva.open
  cases e0
  refine ⟨_, rfl, vb, _, 0, .int m, rfl, rfl, hvb, rfl, ?_⟩
  -- all crowds
  have h2m : (2 : Nat) ^ m ≤ 64 := Nat.le_trans (Nat.pow_le_pow_right (by decide) hm6) (by decide)
  have h2p : 0 < (2 : Nat) ^ m := Nat.two_pow_pos m
  have esh : (1 : Int) * 2 ^ ((m : Int)).toNat = ((2 ^ m : Nat) : Int) := by rw [Int.toNat_natCast, Int.one_mul, Int.natCast_pow]; rfl
  refine ⟨_, rfl, _, _, rfl, rfl, ⟨by omega, by omega, by decide⟩, 1, _, rfl, ⟨by decide, by decide, by rw [esh]; omega, by rw [esh]; omega⟩, ?_⟩
  rw [esh]
  have erng : (((2 ^ m : Nat) : Int) - 1).toNat = 2 ^ m - 1 := by omega
  rw [erng]
  refine comp_range (fun i ys H2 => Same H1 H2 ∧ LsN H2 m ys ((List.range i).map (· + 1))) ⟨Same.refl _, ⟨rfl, fun k y n e1 e2 => by simp at e1⟩⟩ ?_ (fun i ys H2 hi p => hsz (by rw [p.2.len, List.length_map, List.length_range]; omega)) ?_
  · rintro i ys H2 hi ⟨s2, L⟩
    refine tyes ?_
    refine ⟨_, rfl, _, rfl, i + 1, m, (by show [V.int (1 + (i : Int)), V.int (m : Int)] = _; rw [show (1 + (i : Int)) = ((i + 1 : Nat) : Int) by omega]), by omega, fun l hl => ⟨s2.trans (same_new hl _), ?_⟩⟩
    rw [List.range_succ, List.map_append]
    exact (L.mono (same_new hl _)).snoc upd_same
  rintro ys H2 ⟨s2, L2⟩ pl hpl
  have s3 := same_new hpl (.lst ys)
  have el := upd_same (H := H2) (a := pl) (o := .lst ys)
  have L3 := L2.mono s3
  have s23 := s2.trans s3
  generalize upd H2 pl (.lst ys) = H3 at el L3 s23
  have hyl : ys.length = 2 ^ m - 1 := by rw [L3.len, List.length_map, List.length_range]
  have hv3 : BoxV K H3 (.ref vb) m bs := hv.mono s23.tk
  -- those that are closed
  refine ⟨_, rfl, pl, rfl, ⟨ys, SqL.of el⟩, comp_list (xs := ys) (fun i zs H4 => Same H3 H4 ∧ LsN H4 m zs (clsL (leadI bs) m i)) ⟨Same.refl _, ⟨rfl, fun k y n e1 e2 => by simp at e1⟩⟩ (fun i zs H4 _ p => SqL.of (p.1 _ _ el)) ?_ (fun i zs H4 hi p => hsz (by
    have h1 := List.length_filter_le (clsB (leadI bs) m) ((List.range i).map (· + 1))
    rw [List.length_map, List.length_range] at h1
    have h2 := p.2.len
    unfold clsL at h2
    omega)) ?_⟩
  · rintro i x zs H4 hx ⟨s4, L4⟩
    have hi : i < 2 ^ m - 1 := by have := (List.getElem?_eq_some_iff.mp hx).1; omega
    obtain ⟨t, rfl, et⟩ := L3.at' i x (i + 1) hx (by rw [List.getElem?_map, List.getElem?_range hi]; rfl)
    refine ⟨_, rfl, _, rfl, .ref vb, m, i + 1, bs, t, rfl, hv3.mono s4.tk, by omega, SqL.of (s4 _ _ et), fun b H5 s5 hb => ⟨b, rfl, ?_⟩⟩
    rw [clsL_succ]
    refine ite2 (fun cb => ?_) (fun cb => ⟨s4.trans s5, ?_⟩)
    · refine ⟨_, rfl, s4.trans s5, ?_⟩
      rw [if_pos (clsB_iff.mpr (hb.mp cb))]
      exact (L4.mono s5).snoc (s5 _ _ (s4 _ _ et))
    · rw [if_neg (fun z => cb (hb.mpr (clsB_iff.mp z))), List.append_nil]
      exact L4.mono s5
  rintro zs H4 ⟨s4, L4⟩ pz hpz
  rw [hyl] at L4
  have s5 := same_new hpz (.lst zs)
  have ez := upd_same (H := H4) (a := pz) (o := .lst zs)
  have L5 := L4.mono s5
  have s35 := s4.trans s5
  generalize upd H4 pz (.lst zs) = H5 at ez L5 s35
  have ht5 : H5 tb = some (.tbl #[]) := s35 _ _ (s23 _ _ (s1 _ _ ht0))
  have hlead : ∀ i j, leadI bs i j = - leadI bs j i := lead_anti bs
  have numAt : ∀ k, k < zs.length → ∃ n, (clsL (leadI bs) m (2 ^ m - 1))[k]? = some n ∧ 0 < n ∧ n < 2 ^ m ∧ ClsN (leadI bs) m n := fun k hk => by
    have hk' : k < (clsL (leadI bs) m (2 ^ m - 1)).length := by rw [← L5.len]; exact hk
    obtain ⟨h1, h2, h3⟩ := mem_clsL.mp (List.getElem_mem hk')
    exact ⟨_, List.getElem?_eq_getElem hk', h1, by omega, h3⟩
  have hpos : 0 < zs.length := by
    obtain ⟨n, hn, en⟩ := nb_all m fun _ => true
    have cn : ClsN (leadI bs) m n := fun x y hx hy nx ny => by rw [en y hy] at ny; cases ny
    have n0 : 0 < n := by
      rcases Nat.eq_zero_or_pos n with e | e
      · subst e
        have := en 0 (by omega)
        unfold nb at this
        rw [Nat.zero_div] at this
        exact absurd (of_decide_eq_true this) (by decide)
      · exact e
    rw [L5.len]
    exact List.length_pos_of_mem (mem_clsL.mpr ⟨n0, by omega, cn⟩)
  have getN : ∀ {k n : Nat}, (clsL (leadI bs) m (2 ^ m - 1))[k]? = some n → (clsL (leadI bs) m (2 ^ m - 1)).getD k 0 = n := fun e => by rw [List.getD_eq_getElem?_getD, e]; rfl
  refine ⟨pz, zs, fun k => (someN ((clsL (leadI bs) m (2 ^ m - 1)).getD k 0) m).length, rfl, SqL.of ez, hpos, ht5, fun k y hy => ?_, fun k k' hk hk' hne e => ?_, fun k y more H6 hy hle s6 => ?_⟩
  · obtain ⟨n, en, _⟩ := numAt k (List.getElem?_eq_some_iff.mp hy).1
    obtain ⟨t, e1, e2⟩ := L5.at' k y n hy en
    exact ⟨t, _, e1, SqL.of e2, by rw [natV_len]; show _ = (someN ((clsL (leadI bs) m (2 ^ m - 1)).getD k 0) m).length; rw [getN en]⟩
  · obtain ⟨n, en, _, n2, n3⟩ := numAt k hk
    obtain ⟨n', en', _, n2', n3'⟩ := numAt k' hk'
    have e' : (someN n m).length = (someN n' m).length := by
      have z : (someN ((clsL (leadI bs) m (2 ^ m - 1)).getD k 0) m).length = (someN ((clsL (leadI bs) m (2 ^ m - 1)).getD k' 0) m).length := e
      rw [getN en, getN en'] at z
      exact z
    have := some_inj n2 n2' (cls_same hlead n3 n3' e')
    subst this
    exact hne ((List.getElem_inj (clsL_nodup (leadI bs) m (2 ^ m - 1))).mp ((List.getElem?_eq_some_iff.mp en).2.trans (List.getElem?_eq_some_iff.mp en').2.symm))
  obtain ⟨d, ed, d0, d2, d3⟩ := numAt k (List.getElem?_eq_some_iff.mp hy).1
  obtain ⟨td, rfl, etd⟩ := L5.at' k y d hy ed
  have etd6 : H6 td = some (.lst (natV (someN d m))) := s6 _ _ (by rw [upd_ne (fun z => by rw [z, ht5] at etd; cases etd)]; exact etd)
  have hv6 : BoxV K H6 (.ref vb) m bs := (hv3.mono s35.tk).mono ((tk_tbl ht5).trans s6.tk)
  have least : ∀ n, 0 < n → n < 2 ^ m → ClsN (leadI bs) m n → (someN d m).length ≤ (someN n m).length := fun n h1 h2 h3 => by
    obtain ⟨k', hk', en⟩ := List.mem_iff_getElem.mp (mem_clsL.mpr ⟨h1, (show n ≤ 2 ^ m - 1 by omega), h3⟩ : n ∈ clsL (leadI bs) m (2 ^ m - 1))
    have : (someN ((clsL (leadI bs) m (2 ^ m - 1)).getD k 0) m).length ≤ (someN ((clsL (leadI bs) m (2 ^ m - 1)).getD k' 0) m).length := hle k' (by rw [L5.len]; exact hk')
    rw [getN ed, getN (List.getElem?_eq_some_iff.mpr ⟨hk', en⟩)] at this
    exact this
  clear hle s6
  -- the program's crowd
  refine ⟨_, rfl, _, m, bs, rfl, hv6, by omega, by omega, fun u H7 a0 s7 ha0 eu hmin => ?_⟩
  have E := cls_crowd hlead (lead_self bs) ha0 d2 d3 d0 least hmin
  rw [natV_ints, E] at etd6
  have hcl : (clR (leadI bs) m a0).length ≤ m := clR_le
  have hin : (a0 : Int) ∈ clR (leadI bs) m a0 := mem_clR.mpr (cl_self (lead_self bs) ha0)
  have hcp : 0 < (clR (leadI bs) m a0).length := List.length_pos_of_mem hin
  refine ⟨_, rfl, _, "tuple", .type "tuple", true, rfl, .tup eu, kit_same _, true, rfl, ?_⟩
  refine iteF ?_
  refine ⟨_, rfl, u, _, rfl, .inr (SqT.of eu), fun l1 hl1 => ?_⟩
  have s8 := same_new hl1 (.lst ((clR (leadI bs) m a0).map V.int))
  have el1 := upd_same (H := H7) (a := l1) (o := .lst ((clR (leadI bs) m a0).map V.int))
  have s78 := s7.trans s8
  have eu8 := s8 _ _ eu
  generalize upd H7 l1 (.lst ((clR (leadI bs) m a0).map V.int)) = H8 at el1 s78 eu8
  have hv8 : BoxV K H8 (.ref vb) m bs := hv6.mono s78.tk
  have etd8 := s78 _ _ etd6
  refine ⟨_, rfl, l1, td, _, _, (clR (leadI bs) m a0).map Dt.int, (clR (leadI bs) m a0).map Dt.int, rfl, rfl, SqL.of el1, SqL.of etd8, denL_ints _, denL_ints _, by rw [depL_ints]; omega, fun b hb => ?_⟩
  have : b = true := hb.mpr rfl
  subst this
  refine ⟨_, rfl, iteF ?_⟩
  -- the firsts
  refine ⟨_, rfl, _, m, bs, rfl, hv8, fun f1 H9 s9 ef => ?_⟩
  have hfl : (fstR bs m).length ≤ m := fstTo_len bs m m
  have eu9 := s9 _ _ eu8
  refine ⟨f1, rfl, ⟨_, SqT.of ef⟩, comp_tup (xs := (fstR bs m).map V.int) (fun i ys H10 => H10 = H9 ∧ ys = (List.replicate i true).map V.bl) ⟨rfl, rfl⟩ (fun i ys H10 _ p => by rw [p.1]; exact SqT.of ef) ?_ (fun i ys H10 hi p => hsz (by rw [List.length_map] at hi; rw [p.2, List.length_map, List.length_replicate]; omega)) ?_⟩
  · rintro i x ys H10 hx ⟨rfl, rfl⟩
    rw [List.getElem?_map] at hx
    cases e : (fstR bs m)[i]? with
    | none => rw [e] at hx; cases hx
    | some z =>
      rw [e] at hx
      cases hx
      have hz := List.mem_of_getElem? e
      obtain ⟨x, hx, rfl⟩ := fstR_mem' hz
      have hzc := fst_in ha0 hz
      refine tyes ?_
      refine ⟨_, rfl, _, rfl, u, _, rfl, .inr (SqT.of eu9), rfl, flat_ints _, rfl, ?_⟩
      show (List.replicate i true).map V.bl ++ [V.bl (inV (.int (x : Int)) ((clR (leadI bs) m a0).map V.int))] = _
      rw [inV_ints, decide_eq_true hzc, List.replicate_succ', List.map_append]
      rfl
  rintro ys' H10 ⟨rfl, rfl⟩ pa hpa
  refine ⟨pa, List.replicate ((fstR bs m).map V.int).length true, rfl, SqL.of upd_same, ?_⟩
  have eall : (List.replicate ((fstR bs m).map V.int).length true).all id = true := by
    rw [List.all_eq_true]
    intro x hx
    exact (List.mem_replicate.mp hx).2
  rw [eall]
  refine ⟨true, rfl, ?_⟩
  refine iteF ?_
  have s10 := same_new hpa (.lst ((List.replicate ((fstR bs m).map V.int).length true).map V.bl))
  have s810 := s9.trans s10
  generalize upd H10 pa (.lst ((List.replicate ((fstR bs m).map V.int).length true).map V.bl)) = H11 at s810
  have hv11 : BoxV K H11 (.ref vb) m bs := hv8.mono s810.tk
  have etd11 := s810 _ _ etd8
  -- the best
  refine ⟨_, rfl, _, m, bs, rfl, hv11, by omega, by omega, fun H12 a1 s12 ha1 hmin1 => ?_⟩
  have esame : clR (leadI bs) m a1 = clR (leadI bs) m a0 := cl_same hlead (Nat.le_antisymm (hmin1 a0 ha0) (hmin a1 ha1))
  rw [esame]
  have etd12 := s12 _ _ etd11
  have hv12 := hv11.mono (K := K) s12.tk
  by_cases c1 : (clR (leadI bs) m a0).length = 1
  · rw [if_pos c1]
    obtain ⟨z', ez'⟩ := List.length_eq_one_iff.mp c1
    obtain ⟨z, hz, rfl, _⟩ := clR_mem' (L := leadI bs) (m := m) (a := a0) (z := z') (by rw [ez']; exact List.mem_singleton.mpr rfl)
    rw [ez'] at etd12
    rw [ez', show ([(z : Int)].getD 0 0) = (z : Int) from rfl]
    refine ⟨_, rfl, rfl, _, rfl, ?_⟩
    refine iteF ?_
    refine ⟨_, rfl, _, rfl, (by show 1 ≤ sizeLine; decide), fun l2 hl2 => ?_⟩
    have s13 := same_new hl2 (.lst [.int (z : Int)])
    refine ⟨td, l2, _, _, [Dt.int (z : Int)], [Dt.int (z : Int)], rfl, rfl, SqL.of (s13 _ _ etd12), SqL.of upd_same, denL_ints [(z : Int)], denL_ints [(z : Int)], (by have := depL_ints [(z : Int)]; show depL ([(z : Int)].map Dt.int) ≤ 10; rw [this]; omega), fun b hb => ?_⟩
    have : b = true := hb.mpr rfl
    subst this
    refine ⟨_, rfl, iteF ?_⟩
    refine ⟨_, rfl, _, m, bs, rfl, hv12.mono s13.tk, fun f2 H14 s14 ef2 => ?_⟩
    rw [one_first ha0 ez'] at ef2
    refine ⟨_, rfl, (by show 1 ≤ sizeLine; decide), fun t2 ht2 => ?_⟩
    have s15 := same_new ht2 (.tup [.int (z : Int)])
    refine ⟨[Dt.int (z : Int)], [Dt.int (z : Int)], den_tup (SqT.of (s15 _ _ ef2)) (denL_ints [(z : Int)]), den_tup (SqT.of upd_same) (denL_ints [(z : Int)]), (by have := depL_ints [(z : Int)]; show depL ([(z : Int)].map Dt.int) ≤ 10; rw [this]; omega), fun b hb => ?_⟩
    have : b = true := hb.mpr rfl
    subst this
    refine ⟨_, rfl, iteF ?_⟩
    have s1215 := s13.trans (s14.trans s15)
    generalize upd H14 t2 (.tup [.int (z : Int)]) = H15 at s1215
    have hv15 := hv12.mono (K := K) s1215.tk
    refine ⟨_, rfl, (m : Int), rfl, by omega, by omega, comp_range (fun i ys H16 => ys = [] ∧ Same H15 H16) ⟨rfl, Same.refl _⟩ ?_ (fun i ys H16 hi p => by rw [p.1]; exact hsz (Nat.zero_le _)) ?_⟩
    · rintro i ys H16 hi ⟨rfl, s16⟩
      have hi' : i < m := by omega
      have ei : (0 + (i : Int)) = (i : Int) := by omega
      refine ⟨_, rfl, _, rfl, rfl, _, rfl, ?_⟩
      rw [ei]
      by_cases ci : i = z
      · subst ci
        exact iteNS rfl (iteF ⟨rfl, s16⟩)
      · have hne : ¬ (V.int (i : Int) = V.int (z : Int)) := fun e => ci (by injection e with e; omega)
        rw [decide_eq_false hne]
        refine iteT ?_
        refine ⟨_, rfl, _, rfl, (by show 2 ≤ sizeLine; decide), fun t3 ht3 => ?_⟩
        have s17 := same_new ht3 (.tup [.int (z : Int), .int (i : Int)])
        refine ⟨_, rfl, _, m, bs, rfl, hv15.mono (s16.trans s17).tk, fun f3 xs3 H18 s18 ef3 d3' => ?_⟩
        refine ⟨f3, xs3, balD [(z : Int), (i : Int)], (abvR bs m).map balD, rfl, .inr (SqT.of ef3), Den.mono s18.tk _ (den_pair (SqT.of upd_same)), d3', depL_bal _, fun b hb => ?_⟩
        have : b = true := hb.mpr (List.mem_map.mpr ⟨_, mem_abvR.mpr ⟨hz, hi', one_above ha0 ez' hi' ci⟩, rfl⟩)
        subst this
        exact ⟨_, rfl, iteF ⟨rfl, s16.trans (s17.trans s18)⟩⟩
    · rintro ys H16 ⟨rfl, s16⟩ p hp
      exact ⟨false, .inl ⟨[], SqL.of upd_same, rfl⟩, q _⟩
  · rw [if_neg c1]
    refine ⟨_, rfl, rfl, _, rfl, ?_⟩
    refine iteT ?_
    refine ⟨_, rfl, td, _, rfl, .inl (SqL.of etd12), _, _, rfl, rfl, ?_⟩
    show Q (.bl (decide ((1 : Int) < ((((clR (leadI bs) m a0).map V.int).length : Nat) : Int)))) _
    rw [List.length_map, decide_eq_true (by omega)]
    exact q _
end
end My

namespace My
open PySem L2
/-! ### what the top has written, and the law's own head -/
theorem all_mk {l : PySem.W.OpenLaw} {w : World} {K : PySem.W.Frag} {h : Heap} {mg : Str → Option Value} {fa f1 f2 f3 f4 f5 f6 f7 f8 f9 f10 f11 f12 f13 f14 f15 f16 f17 f18 f19 f20 : Addr} (X : K.In h) (G : h.Ns mainGlobals mg) (hfa : mg "law" = some (.ref fa))
    {od1 an1 od2 an2 od3 an3 od4 an4 od5 an5 od6 an6 od7 an7 od8 an8 od9 an9 od10 an10 od11 an11 od12 an12 od13 an13 od14 an14 od15 an15 od16 an16 od17 an17 od18 an18 od19 an19 od20 an20 : Option Addr} {sl1 sl2 sl3 sl4 sl5 sl6 sl7 sl8 sl9 sl10 sl11 sl12 sl13 sl14 sl15 sl16 sl17 sl18 sl19 sl20 : Array (Option Value)} {oc1 kV1 dc1 pm1 cd1 ct1 oc2 kV2 dc2 pm2 cd2 ct2 oc3 kV3 dc3 pm3 cd3 ct3 oc4 kV4 dc4 pm4 cd4 ct4 oc5 kV5 dc5 pm5 cd5 ct5 oc6 kV6 dc6 pm6 cd6 ct6 oc7 kV7 dc7 pm7 cd7 ct7 oc8 kV8 dc8 pm8 cd8 ct8 oc9 kV9 dc9 pm9 cd9 ct9 oc10 kV10 dc10 pm10 cd10 ct10 oc11 kV11 dc11 pm11 cd11 ct11 oc12 kV12 dc12 pm12 cd12 ct12 oc13 kV13 dc13 pm13 cd13 ct13 oc14 kV14 dc14 pm14 cd14 ct14 oc15 kV15 dc15 pm15 cd15 ct15 oc16 kV16 dc16 pm16 cd16 ct16 oc17 kV17 dc17 pm17 cd17 ct17 oc18 kV18 dc18 pm18 cd18 ct18 oc19 kV19 dc19 pm19 cd19 ct19 oc20 kV20 dc20 pm20 cd20 ct20 : Value}
    {cL tb : Addr}
    (a1 : PySem.W.nsIn K mainGlobals "times_ahead" = some (some (.ref f1))) (l1 : K.lookup f1 = some ⟨oc1, od1, .func (PySem.W.fnOf "times_ahead" "times_ahead" (defArgs sAhead) (defBody sAhead) (defScope sAhead) .none kV1 dc1 pm1 an1 cd1 ct1), sl1⟩) (c1 : PySem.W.codeIn K cd1 "times_ahead" = true) (k1 : PySem.W.keepIn K (.ref f1) = true)
    (a2 : PySem.W.nsIn K mainGlobals "lead" = some (some (.ref f2))) (l2 : K.lookup f2 = some ⟨oc2, od2, .func (PySem.W.fnOf "lead" "lead" (defArgs sLead) (defBody sLead) (defScope sLead) .none kV2 dc2 pm2 an2 cd2 ct2), sl2⟩) (c2 : PySem.W.codeIn K cd2 "lead" = true) (k2 : PySem.W.keepIn K (.ref f2) = true)
    (a3 : PySem.W.nsIn K mainGlobals "row" = some (some (.ref f3))) (l3 : K.lookup f3 = some ⟨oc3, od3, .func (PySem.W.fnOf "row" "row" (defArgs sRow) (defBody sRow) (defScope sRow) .none kV3 dc3 pm3 an3 cd3 ct3), sl3⟩) (c3 : PySem.W.codeIn K cd3 "row" = true) (k3 : PySem.W.keepIn K (.ref f3) = true)
    (a4 : PySem.W.nsIn K mainGlobals "table" = some (some (.ref f4))) (l4 : K.lookup f4 = some ⟨oc4, od4, .func (PySem.W.fnOf "table" "table" (defArgs sTable) (defBody sTable) (defScope sTable) .none kV4 dc4 pm4 an4 cd4 ct4), sl4⟩) (c4 : PySem.W.codeIn K cd4 "table" = true) (k4 : PySem.W.keepIn K (.ref f4) = true)
    (a5 : PySem.W.nsIn K mainGlobals "links" = some (some (.ref f5))) (l5 : K.lookup f5 = some ⟨oc5, od5, .func (PySem.W.fnOf "links" "links" (defArgs sLinks) (defBody sLinks) (defScope sLinks) .none kV5 dc5 pm5 an5 cd5 ct5), sl5⟩) (c5 : PySem.W.codeIn K cd5 "links" = true) (k5 : PySem.W.keepIn K (.ref f5) = true)
    (a6 : PySem.W.nsIn K mainGlobals "strengthened" = some (some (.ref f6))) (l6 : K.lookup f6 = some ⟨oc6, od6, .func (PySem.W.fnOf "strengthened" "strengthened" (defArgs sStd) (defBody sStd) (defScope sStd) .none kV6 dc6 pm6 an6 cd6 ct6), sl6⟩) (c6 : PySem.W.codeIn K cd6 "strengthened" = true) (k6 : PySem.W.keepIn K (.ref f6) = true)
    (a7 : PySem.W.nsIn K mainGlobals "strengths" = some (some (.ref f7))) (l7 : K.lookup f7 = some ⟨oc7, od7, .func (PySem.W.fnOf "strengths" "strengths" (defArgs sStrs) (defBody sStrs) (defScope sStrs) .none kV7 dc7 pm7 an7 cd7 ct7), sl7⟩) (c7 : PySem.W.codeIn K cd7 "strengths" = true) (k7 : PySem.W.keepIn K (.ref f7) = true)
    (a8 : PySem.W.nsIn K mainGlobals "above" = some (some (.ref f8))) (l8 : K.lookup f8 = some ⟨oc8, od8, .func (PySem.W.fnOf "above" "above" (defArgs sAbove) (defBody sAbove) (defScope sAbove) .none kV8 dc8 pm8 an8 cd8 ct8), sl8⟩) (c8 : PySem.W.codeIn K cd8 "above" = true) (k8 : PySem.W.keepIn K (.ref f8) = true)
    (a9 : PySem.W.nsIn K mainGlobals "firsts" = some (some (.ref f9))) (l9 : K.lookup f9 = some ⟨oc9, od9, .func (PySem.W.fnOf "firsts" "firsts" (defArgs sFirsts) (defBody sFirsts) (defScope sFirsts) .none kV9 dc9 pm9 an9 cd9 ct9), sl9⟩) (c9 : PySem.W.codeIn K cd9 "firsts" = true) (k9 : PySem.W.keepIn K (.ref f9) = true)
    (a10 : PySem.W.nsIn K mainGlobals "best" = some (some (.ref f10))) (l10 : K.lookup f10 = some ⟨oc10, od10, .func (PySem.W.fnOf "best" "best" (defArgs sBest) (defBody sBest) (defScope sBest) .none kV10 dc10 pm10 an10 cd10 ct10), sl10⟩) (c10 : PySem.W.codeIn K cd10 "best" = true) (k10 : PySem.W.keepIn K (.ref f10) = true)
    (a11 : PySem.W.nsIn K mainGlobals "crowd_around" = some (some (.ref f11))) (l11 : K.lookup f11 = some ⟨oc11, od11, .func (PySem.W.fnOf "crowd_around" "crowd_around" (defArgs sCrA) (defBody sCrA) (defScope sCrA) .none kV11 dc11 pm11 an11 cd11 ct11), sl11⟩) (c11 : PySem.W.codeIn K cd11 "crowd_around" = true) (k11 : PySem.W.keepIn K (.ref f11) = true)
    (a12 : PySem.W.nsIn K mainGlobals "crowd" = some (some (.ref f12))) (l12 : K.lookup f12 = some ⟨oc12, od12, .func (PySem.W.fnOf "crowd" "crowd" (defArgs sCrowd) (defBody sCrowd) (defScope sCrowd) .none kV12 dc12 pm12 an12 cd12 ct12), sl12⟩) (c12 : PySem.W.codeIn K cd12 "crowd" = true) (k12 : PySem.W.keepIn K (.ref f12) = true)
    (a13 : PySem.W.nsIn K mainGlobals "_law_cell" = some (some (.ref f13))) (l13 : K.lookup f13 = some ⟨oc13, od13, .func (PySem.W.fnOf "_law_cell" "_law_cell" (defArgs sCell) (defBody sCell) (defScope sCell) .none kV13 dc13 pm13 an13 cd13 ct13), sl13⟩) (c13 : PySem.W.codeIn K cd13 "_law_cell" = true) (k13 : PySem.W.keepIn K (.ref f13) = true)
    (a14 : PySem.W.nsIn K mainGlobals "_law_mix" = some (some (.ref f14))) (l14 : K.lookup f14 = some ⟨oc14, od14, .func (PySem.W.fnOf "_law_mix" "_law_mix" (defArgs sMix) (defBody sMix) (defScope sMix) .none kV14 dc14 pm14 an14 cd14 ct14), sl14⟩) (c14 : PySem.W.codeIn K cd14 "_law_mix" = true) (k14 : PySem.W.keepIn K (.ref f14) = true)
    (a15 : PySem.W.nsIn K mainGlobals "_law_ballot" = some (some (.ref f15))) (l15 : K.lookup f15 = some ⟨oc15, od15, .func (PySem.W.fnOf "_law_ballot" "_law_ballot" (defArgs sBallot) (defBody sBallot) (defScope sBallot) .none kV15 dc15 pm15 an15 cd15 ct15), sl15⟩) (c15 : PySem.W.codeIn K cd15 "_law_ballot" = true) (k15 : PySem.W.keepIn K (.ref f15) = true)
    (a16 : PySem.W.nsIn K mainGlobals "_law_box" = some (some (.ref f16))) (l16 : K.lookup f16 = some ⟨oc16, od16, .func (PySem.W.fnOf "_law_box" "_law_box" (defArgs sBox) (defBody sBox) (defScope sBox) .none kV16 dc16 pm16 an16 cd16 ct16), sl16⟩) (c16 : PySem.W.codeIn K cd16 "_law_box" = true) (k16 : PySem.W.keepIn K (.ref f16) = true)
    (a17 : PySem.W.nsIn K mainGlobals "_law_lead" = some (some (.ref f17))) (l17 : K.lookup f17 = some ⟨oc17, od17, .func (PySem.W.fnOf "_law_lead" "_law_lead" (defArgs sLLead) (defBody sLLead) (defScope sLLead) .none kV17 dc17 pm17 an17 cd17 ct17), sl17⟩) (c17 : PySem.W.codeIn K cd17 "_law_lead" = true) (k17 : PySem.W.keepIn K (.ref f17) = true)
    (a18 : PySem.W.nsIn K mainGlobals "_law_some" = some (some (.ref f18))) (l18 : K.lookup f18 = some ⟨oc18, od18, .func (PySem.W.fnOf "_law_some" "_law_some" (defArgs sSome) (defBody sSome) (defScope sSome) .none kV18 dc18 pm18 an18 cd18 ct18), sl18⟩) (c18 : PySem.W.codeIn K cd18 "_law_some" = true) (k18 : PySem.W.keepIn K (.ref f18) = true)
    (a19 : PySem.W.nsIn K mainGlobals "_law_closed" = some (some (.ref f19))) (l19 : K.lookup f19 = some ⟨oc19, od19, .func (PySem.W.fnOf "_law_closed" "_law_closed" (defArgs sClosed) (defBody sClosed) (defScope sClosed) .none kV19 dc19 pm19 an19 cd19 ct19), sl19⟩) (c19 : PySem.W.codeIn K cd19 "_law_closed" = true) (k19 : PySem.W.keepIn K (.ref f19) = true)
    (a20 : PySem.W.nsIn K mainGlobals "law" = some (some (.ref f20))) (l20 : K.lookup f20 = some ⟨oc20, od20, .func (PySem.W.fnOf "law" "law" (defArgs sLaw) (defBody sLaw) (defScope sLaw) .none kV20 dc20 pm20 an20 cd20 ct20), sl20⟩) (c20 : PySem.W.codeIn K cd20 "law" = true) (k20 : PySem.W.keepIn K (.ref f20) = true)
    (z0 : PySem.W.nsIn K mainGlobals "len" = some none)
    (z1 : PySem.W.nsIn K mainGlobals "range" = some none)
    (z2 : PySem.W.nsIn K mainGlobals "list" = some none)
    (z3 : PySem.W.nsIn K mainGlobals "tuple" = some none)
    (z4 : PySem.W.nsIn K mainGlobals "min" = some none)
    (z5 : PySem.W.nsIn K mainGlobals "max" = some none)
    (z6 : PySem.W.nsIn K mainGlobals "int" = some none)
    (z7 : PySem.W.nsIn K mainGlobals "bool" = some none)
    (z8 : PySem.W.nsIn K mainGlobals "isinstance" = some none)
    (z9 : PySem.W.nsIn K mainGlobals "all" = some none)
    (z10 : PySem.W.nsIn K mainGlobals "sorted" = some none)
    (z11 : PySem.W.nsIn K mainGlobals "set" = some none)
    (z12 : PySem.W.nsIn K mainGlobals "enumerate" = some none)
    (hcl : cd20 = .ref cL)
    (hhd : PySem.W.codeHdIn K cL tb = true)
    (htk : K.lookup tb = none) :
    ∃ fd : FuncData, (∀ (s : Shared) (v : Value), BindsTo s fd ⟨[v], []⟩ [("_law_script", v)]) ∧ K.lookup tb = none ∧ (∃ c, PySem.W.codeHdIn K c tb = true) ∧ ∀ base : Heap, K.In base → base.Ns mainGlobals mg → base.BuiltinsAt mg tb → FnOk l.prog w K mg base CX0 8 fa fd ["_law_script"] (spLaw K tb) := by
  have e := hfa.symm.trans (PySem.W.mg_of X G a20)
  cases e
  have F1 := fun_mk (st := sAhead) l1 c1 k1
  have b1 := F1.binds (ps := ["ballots", "one", "other"]) fun _ _ _ _ _ _ us hl => match us, hl with | [_, _, _], _ => rfl
  have E1 : Fd K mg "times_ahead" sAhead ["ballots", "one", "other"] _ _ := ⟨F1, b1, PySem.W.mg_of X G a1⟩
  have F2 := fun_mk (st := sLead) l2 c2 k2
  have b2 := F2.binds (ps := ["box", "one", "other"]) fun _ _ _ _ _ _ us hl => match us, hl with | [_, _, _], _ => rfl
  have E2 : Fd K mg "lead" sLead ["box", "one", "other"] _ _ := ⟨F2, b2, PySem.W.mg_of X G a2⟩
  have F3 := fun_mk (st := sRow) l3 c3 k3
  have b3 := F3.binds (ps := ["box", "one"]) fun _ _ _ _ _ _ us hl => match us, hl with | [_, _], _ => rfl
  have E3 : Fd K mg "row" sRow ["box", "one"] _ _ := ⟨F3, b3, PySem.W.mg_of X G a3⟩
  have F4 := fun_mk (st := sTable) l4 c4 k4
  have b4 := F4.binds (ps := ["box"]) fun _ _ _ _ _ _ us hl => match us, hl with | [_], _ => rfl
  have E4 : Fd K mg "table" sTable ["box"] _ _ := ⟨F4, b4, PySem.W.mg_of X G a4⟩
  have F5 := fun_mk (st := sLinks) l5 c5 k5
  have b5 := F5.binds (ps := ["row"]) fun _ _ _ _ _ _ us hl => match us, hl with | [_], _ => rfl
  have E5 : Fd K mg "links" sLinks ["row"] _ _ := ⟨F5, b5, PySem.W.mg_of X G a5⟩
  have F6 := fun_mk (st := sStd) l6 c6 k6
  have b6 := F6.binds (ps := ["row", "middle", "middle_row"]) fun _ _ _ _ _ _ us hl => match us, hl with | [_, _, _], _ => rfl
  have E6 : Fd K mg "strengthened" sStd ["row", "middle", "middle_row"] _ _ := ⟨F6, b6, PySem.W.mg_of X G a6⟩
  have F7 := fun_mk (st := sStrs) l7 c7 k7
  have b7 := F7.binds (ps := ["box"]) fun _ _ _ _ _ _ us hl => match us, hl with | [_], _ => rfl
  have E7 : Fd K mg "strengths" sStrs ["box"] _ _ := ⟨F7, b7, PySem.W.mg_of X G a7⟩
  have F8 := fun_mk (st := sAbove) l8 c8 k8
  have b8 := F8.binds (ps := ["box"]) fun _ _ _ _ _ _ us hl => match us, hl with | [_], _ => rfl
  have E8 : Fd K mg "above" sAbove ["box"] _ _ := ⟨F8, b8, PySem.W.mg_of X G a8⟩
  have F9 := fun_mk (st := sFirsts) l9 c9 k9
  have b9 := F9.binds (ps := ["box"]) fun _ _ _ _ _ _ us hl => match us, hl with | [_], _ => rfl
  have E9 : Fd K mg "firsts" sFirsts ["box"] _ _ := ⟨F9, b9, PySem.W.mg_of X G a9⟩
  have F10 := fun_mk (st := sBest) l10 c10 k10
  have b10 := F10.binds (ps := ["box"]) fun _ _ _ _ _ _ us hl => match us, hl with | [_], _ => rfl
  have E10 : Fd K mg "best" sBest ["box"] _ _ := ⟨F10, b10, PySem.W.mg_of X G a10⟩
  have F11 := fun_mk (st := sCrA) l11 c11 k11
  have b11 := F11.binds (ps := ["leads", "name"]) fun _ _ _ _ _ _ us hl => match us, hl with | [_, _], _ => rfl
  have E11 : Fd K mg "crowd_around" sCrA ["leads", "name"] _ _ := ⟨F11, b11, PySem.W.mg_of X G a11⟩
  have F12 := fun_mk (st := sCrowd) l12 c12 k12
  have b12 := F12.binds (ps := ["box"]) fun _ _ _ _ _ _ us hl => match us, hl with | [_], _ => rfl
  have E12 : Fd K mg "crowd" sCrowd ["box"] _ _ := ⟨F12, b12, PySem.W.mg_of X G a12⟩
  have F13 := fun_mk (st := sCell) l13 c13 k13
  have b13 := F13.binds (ps := ["_law_script", "_law_k"]) fun _ _ _ _ _ _ us hl => match us, hl with | [_, _], _ => rfl
  have E13 : Fd K mg "_law_cell" sCell ["_law_script", "_law_k"] _ _ := ⟨F13, b13, PySem.W.mg_of X G a13⟩
  have F14 := fun_mk (st := sMix) l14 c14 k14
  have b14 := F14.binds (ps := ["_law_cell_here", "_law_prime", "_law_many"]) fun _ _ _ _ _ _ us hl => match us, hl with | [_, _, _], _ => rfl
  have E14 : Fd K mg "_law_mix" sMix ["_law_cell_here", "_law_prime", "_law_many"] _ _ := ⟨F14, b14, PySem.W.mg_of X G a14⟩
  have F15 := fun_mk (st := sBallot) l15 c15 k15
  have b15 := F15.binds (ps := ["_law_cell_here", "_law_many", "_law_way"]) fun _ _ _ _ _ _ us hl => match us, hl with | [_, _, _], _ => rfl
  have E15 : Fd K mg "_law_ballot" sBallot ["_law_cell_here", "_law_many", "_law_way"] _ _ := ⟨F15, b15, PySem.W.mg_of X G a15⟩
  have F16 := fun_mk (st := sBox) l16 c16 k16
  have b16 := F16.binds (ps := ["_law_script", "_law_most"]) fun _ _ _ _ _ _ us hl => match us, hl with | [_, _], _ => rfl
  have E16 : Fd K mg "_law_box" sBox ["_law_script", "_law_most"] _ _ := ⟨F16, b16, PySem.W.mg_of X G a16⟩
  have F17 := fun_mk (st := sLLead) l17 c17 k17
  have b17 := F17.binds (ps := ["_law_box_here", "_law_one", "_law_other"]) fun _ _ _ _ _ _ us hl => match us, hl with | [_, _, _], _ => rfl
  have E17 : Fd K mg "_law_lead" sLLead ["_law_box_here", "_law_one", "_law_other"] _ _ := ⟨F17, b17, PySem.W.mg_of X G a17⟩
  have F18 := fun_mk (st := sSome) l18 c18 k18
  have b18 := F18.binds (ps := ["_law_number", "_law_many"]) fun _ _ _ _ _ _ us hl => match us, hl with | [_, _], _ => rfl
  have E18 : Fd K mg "_law_some" sSome ["_law_number", "_law_many"] _ _ := ⟨F18, b18, PySem.W.mg_of X G a18⟩
  have F19 := fun_mk (st := sClosed) l19 c19 k19
  have b19 := F19.binds (ps := ["_law_box_here", "_law_some_here"]) fun _ _ _ _ _ _ us hl => match us, hl with | [_, _], _ => rfl
  have E19 : Fd K mg "_law_closed" sClosed ["_law_box_here", "_law_some_here"] _ _ := ⟨F19, b19, PySem.W.mg_of X G a19⟩
  have F20 := fun_mk (st := sLaw) l20 c20 k20
  have b20 := F20.binds (ps := ["_law_script"]) fun _ _ _ _ _ _ us hl => match us, hl with | [_], _ => rfl
  have E20 : Fd K mg "law" sLaw ["_law_script"] _ _ := ⟨F20, b20, PySem.W.mg_of X G a20⟩
  have T : Bi mg := ⟨PySem.W.mg_none_of X G z0, PySem.W.mg_none_of X G z1, PySem.W.mg_none_of X G z2, PySem.W.mg_none_of X G z3, PySem.W.mg_none_of X G z4, PySem.W.mg_none_of X G z5, PySem.W.mg_none_of X G z6, PySem.W.mg_none_of X G z7, PySem.W.mg_none_of X G z8, PySem.W.mg_none_of X G z9, PySem.W.mg_none_of X G z10, PySem.W.mg_none_of X G z11, PySem.W.mg_none_of X G z12⟩
  subst hcl
  exact ⟨PySem.W.fnOf "law" "law" (defArgs sLaw) (defBody sLaw) (defScope sLaw) .none kV20 dc20 pm20 an20 (.ref cL) ct20, fun s v => .of_eq rfl, htk, ⟨cL, hhd⟩, fun base _ _ hB => ok_law T ⟨E13, E14, E15, E16⟩ ⟨⟨⟨E1, E2, E3, E4⟩, E5, E6, E7⟩, E8⟩ ⟨⟨E1, E2, E3, E4⟩, E11, E12⟩ E9 E10 E17 E18 E19 l20 c20 hhd hB⟩
theorem walk {l : PySem.W.OpenLaw} {q : Program} {loose : List Str} {XP : (Str → Option Value) → Heap → Prop} {YP : World → Heap → Prop} {d : DefRec} {K : Params → PySem.W.Frag} {tb : Addr} (hn : l.most = some 63) (hdf : d.params.defaults = [])
    (hY : ∀ (w : World) (h : Heap), YP w h → (K w.params).In h ∧ h.get? tb = some (PySem.W.tabObj #[]))
    (F : ∀ (w : World) (mg : Str → Option Value) (fa : Addr) (h : Heap), (K w.params).In h → h.Ns mainGlobals mg → mg d.name = some (.ref fa) →
      ∃ fd : FuncData, (∀ (s : Shared) (u : Value), BindsTo s fd ⟨[u], []⟩ [("_law_script", u)]) ∧ (K w.params).lookup tb = none ∧ (∃ c, PySem.W.codeHdIn (K w.params) c tb = true) ∧ ∀ base : Heap, (K w.params).In base → base.Ns mainGlobals mg → base.BuiltinsAt mg tb → FnOk l.prog w (K w.params) mg base CX0 8 fa fd ["_law_script"] (spLaw (K w.params) tb)) :
    PySem.W.WalkO q loose XP YP l.row.toRowW d [] (fun f vs => PySem.call f vs) :=
  L2.walk_ofT (n := 63) (k := 8) (x := "_law_script") (CX := fun _ => CX0) (tb := tb) (sp := fun w => spLaw (K w.params) tb) hn (by decide) hdf ⟨rfl, by decide, by decide⟩ hY F (fun _ _ a ns hl ht hS => ⟨a, ns, rfl, hS, hl, ht, fun _ => rfl⟩) fun _ _ _ _ _ z => z
end My
open PySem PySem.W PyProof.Rows
set_option maxRecDepth 100000 in
set_option maxHeartbeats 0 in
theorem PySem.Challenge.cw_wishcount_k06_whole_the_best_and_the_cro_holds : PySem.Challenge.rw_wishcount_k06_whole_the_best_and_the_cro.Holds := by
  w_on; o_law; k_head; (case hw => w_witness2)
  k_fill
  refine My.walk (l := PySem.Challenge.rw_wishcount_k06_whole_the_best_and_the_cro) rfl rfl (fun w h Y => ⟨PySem.W.km_in_of Y, PySem.W.km_tabs_of Y _ (List.mem_singleton.mpr rfl)⟩) ?F
  case F =>
    intro w mg fa h KX G hmg
    refine' My.all_mk KX G hmg ?a1 ?l1 ?c1 ?k1 ?a2 ?l2 ?c2 ?k2 ?a3 ?l3 ?c3 ?k3 ?a4 ?l4 ?c4 ?k4 ?a5 ?l5 ?c5 ?k5 ?a6 ?l6 ?c6 ?k6 ?a7 ?l7 ?c7 ?k7 ?a8 ?l8 ?c8 ?k8 ?a9 ?l9 ?c9 ?k9 ?a10 ?l10 ?c10 ?k10 ?a11 ?l11 ?c11 ?k11 ?a12 ?l12 ?c12 ?k12 ?a13 ?l13 ?c13 ?k13 ?a14 ?l14 ?c14 ?k14 ?a15 ?l15 ?c15 ?k15 ?a16 ?l16 ?c16 ?k16 ?a17 ?l17 ?c17 ?k17 ?a18 ?l18 ?c18 ?k18 ?a19 ?l19 ?c19 ?k19 ?a20 ?l20 ?c20 ?k20 ?z0 ?z1 ?z2 ?z3 ?z4 ?z5 ?z6 ?z7 ?z8 ?z9 ?z10 ?z11 ?z12 ?hcl ?hhd ?htk
    (case a1 => k_is); (case l1 => k_is); (case c1 => k_is); (case k1 => k_is)
    (case a2 => k_is); (case l2 => k_is); (case c2 => k_is); (case k2 => k_is)
    (case a3 => k_is); (case l3 => k_is); (case c3 => k_is); (case k3 => k_is)
    (case a4 => k_is); (case l4 => k_is); (case c4 => k_is); (case k4 => k_is)
    (case a5 => k_is); (case l5 => k_is); (case c5 => k_is); (case k5 => k_is)
    (case a6 => k_is); (case l6 => k_is); (case c6 => k_is); (case k6 => k_is)
    (case a7 => k_is); (case l7 => k_is); (case c7 => k_is); (case k7 => k_is)
    (case a8 => k_is); (case l8 => k_is); (case c8 => k_is); (case k8 => k_is)
    (case a9 => k_is); (case l9 => k_is); (case c9 => k_is); (case k9 => k_is)
    (case a10 => k_is); (case l10 => k_is); (case c10 => k_is); (case k10 => k_is)
    (case a11 => k_is); (case l11 => k_is); (case c11 => k_is); (case k11 => k_is)
    (case a12 => k_is); (case l12 => k_is); (case c12 => k_is); (case k12 => k_is)
    (case a13 => k_is); (case l13 => k_is); (case c13 => k_is); (case k13 => k_is)
    (case a14 => k_is); (case l14 => k_is); (case c14 => k_is); (case k14 => k_is)
    (case a15 => k_is); (case l15 => k_is); (case c15 => k_is); (case k15 => k_is)
    (case a16 => k_is); (case l16 => k_is); (case c16 => k_is); (case k16 => k_is)
    (case a17 => k_is); (case l17 => k_is); (case c17 => k_is); (case k17 => k_is)
    (case a18 => k_is); (case l18 => k_is); (case c18 => k_is); (case k18 => k_is)
    (case a19 => k_is); (case l19 => k_is); (case c19 => k_is); (case k19 => k_is)
    (case a20 => k_is); (case l20 => k_is); (case c20 => k_is); (case k20 => k_is)
    (case z0 => k_is)
    (case z1 => k_is)
    (case z2 => k_is)
    (case z3 => k_is)
    (case z4 => k_is)
    (case z5 => k_is)
    (case z6 => k_is)
    (case z7 => k_is)
    (case z8 => k_is)
    (case z9 => k_is)
    (case z10 => k_is)
    (case z11 => k_is)
    (case z12 => k_is)
    (case hcl => rfl)
    (case hhd => kernel_rfl)
    (case htk => kernel_rfl)
