import PyProof.Rows.All
import Wide.All
import OpenK.AllK
import Wide.FinOn
import Lean
import PyProof.EqAt
import PyProof.EqKinds
import PyProof.NeKinds
import PyProof.TupleCall
import PySem.Challenge.RW_clonewood_k13_what_is_a_row
set_option Elab.async false
set_option linter.all false
set_option maxRecDepth 100000
/-! THE HAND LAYER, for ints, bools, texts, own classes, LISTS and tuples (index, slices, in, append, pop ..), calls, loops. Paste it whole ahead of your own text; what your proof does not reach may be deleted. -/
namespace L2
open PySem PySem.Spec PyProof.Rows

/-- a key: an int or a str -/
abbrev Key := Sum Int Str
def keyIs : Key → Value → Bool
  | .inl k, v => Value.isInt k v
  | .inr x, v => Value.isStrOf x v
def keyH (w : World) : Key → Int
  | .inl k => hashInt k
  | .inr x => hashStr w x
theorem keyIs_shape : ∀ {k : Key} {v : Value}, keyIs k v = true → (∃ i t, k = Sum.inl i ∧ v = Value.int i t) ∨ (∃ x t, k = Sum.inr x ∧ v = Value.str x t)
  | .inl i, v, h => by
    obtain ⟨t, e⟩ := Value.isInt_shape (k := i) (v := v) h
    exact .inl ⟨i, t, rfl, e⟩
  | .inr x, v, h => by
    obtain ⟨t, e⟩ := Value.isStrOf_shape (x := x) (v := v) h
    exact .inr ⟨x, t, rfl, e⟩
theorem keyIs_int (i : Int) (t : Tok) : keyIs (.inl i) (.int i t) = true := by simp [keyIs, Value.isInt]
theorem keyIs_str (x : Str) (t : Tok) : keyIs (.inr x) (.str x t) = true := by simp [keyIs, Value.isStrOf]
theorem key_ll (a b : Int) : decide ((Sum.inl a : Key) = Sum.inl b) = (a == b) := by
  by_cases e : a = b
  · subst e; simp
  · have h : ¬ (Sum.inl a : Key) = Sum.inl b := fun q => e (Sum.inl.inj q)
    rw [decide_eq_false h]
    exact (beq_eq_false_iff_ne.mpr e).symm
theorem key_rr (a b : Str) : decide ((Sum.inr a : Key) = Sum.inr b) = decide (a = b) := by
  by_cases e : a = b
  · subst e; simp
  · have h : ¬ (Sum.inr a : Key) = Sum.inr b := fun q => e (Sum.inr.inj q)
    rw [decide_eq_false h, decide_eq_false e]
theorem key_lr (a : Int) (b : Str) : decide ((Sum.inl a : Key) = Sum.inr b) = false := decide_eq_false (fun q => nomatch q)
theorem key_rl (a : Str) (b : Int) : decide ((Sum.inr a : Key) = Sum.inl b) = false := decide_eq_false (fun q => nomatch q)

def mixKind (prog : Program) (w : World) : PySem.KeyKind prog w Key where
  is := keyIs
  hash := keyH w
  inj := fun v a b ha hb => by
    rcases keyIs_shape ha with ⟨i, t, rfl, rfl⟩ | ⟨x, t, rfl, rfl⟩
    · rcases keyIs_shape hb with ⟨j, u, rfl, e⟩ | ⟨y, u, rfl, e⟩
      · injection e with e1 _; rw [e1]
      · exact nomatch e
    · rcases keyIs_shape hb with ⟨j, u, rfl, e⟩ | ⟨y, u, rfl, e⟩
      · exact nomatch e
      · injection e with e1 _; rw [e1]
  byValue := fun k v h => by
    rcases keyIs_shape h with ⟨i, t, rfl, rfl⟩ | ⟨x, t, rfl, rfl⟩ <;> rfl
  pyHash := fun hv h => by
    rcases keyIs_shape hv with ⟨i, t, rfl, rfl⟩ | ⟨x, t, rfl, rfl⟩
    · exact wpAny_pyHash_int h
    · exact wpAny_pyHash_str h
  eqBool := fun hu hv h => by
    rcases keyIs_shape hu with ⟨i, t, rfl, rfl⟩ | ⟨x, t, rfl, rfl⟩
    · rcases keyIs_shape hv with ⟨j, u, rfl, rfl⟩ | ⟨y, u, rfl, rfl⟩
      · rw [key_ll] at h; exact wpAny_eqBool_int h
      · rw [key_lr] at h; exact SeqAt.EqAt.int_str i t y u _ _ _ _ h
    · rcases keyIs_shape hv with ⟨j, u, rfl, rfl⟩ | ⟨y, u, rfl, rfl⟩
      · rw [key_rl] at h; exact SeqAt.EqAt.str_int x t j u _ _ _ _ h
      · rw [key_rr] at h; exact wpAny_eqBool_str h
  «strs» := fun k x t v h => by
    rcases keyIs_shape h with ⟨i, u, rfl, e⟩ | ⟨y, u, rfl, e⟩
    · exact nomatch e
    · injection e with e1 _
      subst e1
      cases v <;> rfl

theorem mixKind_int (prog : Program) (w : World) (i : Int) (t : Tok) : (mixKind prog w).is (.inl i) (.int i t) = true := keyIs_int i t
theorem mixKind_str (prog : Program) (w : World) (x : Str) (t : Tok) : (mixKind prog w).is (.inr x) (.str x t) = true := keyIs_str x t
end L2

namespace L2
open PySem PySem.Spec PyProof.Rows

/-- a value, without the heap -/
inductive V where
  | non | bl (b : Bool) | int (i : Int) | str (x : Str) | byt (b : Array UInt8) | flt (b : UInt64) | ref (a : Addr) | ty (n : String)
  deriving DecidableEq

def RelV : V → Value → Prop
  | .non, u => u = Value.none
  | .bl b, u => u = Value.bool b
  | .int i, u => ∃ t, u = Value.int i t
  | .str x, u => ∃ t, u = Value.str x t
  | .byt b, u => ∃ t, u = Value.bytes b t
  | .flt b, u => ∃ t, u = Value.float b t
  | .ref a, u => u = Value.ref a
  | .ty n, u => u = Value.type n

abbrev Vals : List V → List Value → Prop := Paired RelV
theorem Vals.length {xs : List V} {us : List Value} (r : Vals xs us) : xs.length = us.length := Paired.length r
theorem Vals.get : ∀ {xs : List V} {us : List Value} {i : Nat} {x : V}, Vals xs us → xs[i]? = some x → ∃ u, us[i]? = some u ∧ RelV x u
  | _, _, _, _, .nil, e => by simp at e
  | _, _, 0, _, .cons r _, e => by simp at e; subst e; exact ⟨_, rfl, r⟩
  | _, _, i + 1, x, .cons _ t, e => by
    obtain ⟨u, h1, h2⟩ := Vals.get (i := i) (x := x) t (by simpa using e)
    exact ⟨u, by simpa using h1, h2⟩
theorem Vals.set {x : V} {u : Value} (r : RelV x u) : ∀ {xs : List V} {us : List Value} (i : Nat), Vals xs us → Vals (xs.set i x) (us.set i u)
  | _, _, _, .nil => .nil
  | _, _, 0, .cons _ t => .cons r t
  | _, _, i + 1, .cons q t => .cons q (Vals.set r i t)
theorem Vals.append : ∀ {xs ys : List V} {us ws : List Value}, Vals xs us → Vals ys ws → Vals (xs ++ ys) (us ++ ws)
  | _, _, _, _, .nil, s => s
  | _, _, _, _, .cons r t, s => .cons r (Vals.append t s)
theorem Vals.take : ∀ {xs : List V} {us : List Value} (n : Nat), Vals xs us → Vals (xs.take n) (us.take n)
  | _, _, 0, _ => .nil
  | _, _, _ + 1, .nil => .nil
  | _, _, n + 1, .cons r t => .cons r (Vals.take n t)
theorem Vals.drop : ∀ {xs : List V} {us : List Value} (n : Nat), Vals xs us → Vals (xs.drop n) (us.drop n)
  | _, _, 0, r => r
  | _, _, _ + 1, .nil => .nil
  | _, _, n + 1, .cons _ t => Vals.drop n t
def RelO : Option V → Option Value → Prop
  | some v, some u => RelV v u
  | none, none => True
  | _, _ => False
def KV {κ : Type} : List (κ × V) → List (κ × Value) → Prop := Paired fun (p : κ × V) (q : κ × Value) => p.1 = q.1 ∧ RelV p.2 q.2

/-- a key of a dict (00_mix): an int or a text -/
def kV : Key → V
  | .inl i => .int i
  | .inr x => .str x

/-- what stands at a tracked address -/
inductive HO where
  /-- a list -/
  | lst (xs : List V)
  /-- a tuple (never changes) -/
  | tup (xs : List V)
  /-- a dict whose keys are ints and texts; one whose keys are tuples of ints and texts (the empty one is both) -/
  | dK (kvs : List (Key × V)) | dT (kvs : List (List Key × V))
  /-- a set of ints: its members, its size -/
  | set (S : Int → Bool) (n : Nat)
  /-- an instance of the class at C, its dict at dx, its attributes -/
  | ins (C dx : Addr) (fs : List (Str × V))
  /-- the dict of the instance at x -/
  | own (x : Addr)
  /-- the dict of an exception -/
  | xd (fs : List (Str × V))
  /-- a bound method, f of x -/
  | met (f x : Addr)
  /-- a range object lo, lo + 1, .. below hi -/
  | rng (lo hi : Int)
  /-- a thing that is known to the object (the script; a dict while a loop walks it): read, never written while it is so -/
  | frz (o : Obj) (u : HO)
  /-- a code object's table -/
  | tbl (ps : Array Value)
  /-- any other thing, by what is true of its one object (a def of one's own: SetO a S n := HO.ext fun h => ..) -/
  | ext (φ : Heap → Prop)

abbrev Hp := Addr → Option HO
def upd (H : Hp) (a : Addr) (o : HO) : Hp := fun b => if b = a then some o else H b
theorem upd_same {H : Hp} {a : Addr} {o : HO} : upd H a o a = some o := by unfold upd; rw [if_pos rfl]
theorem upd_ne {H : Hp} {a b : Addr} {o : HO} (h : b ≠ a) : upd H a o b = H b := by unfold upd; rw [if_neg h]
/-- two objects of different content stand apart -/
theorem ne_of {H : Hp} {a b : Addr} {o u : HO} (h : H a = some o) (h' : H b = some u) (d : o ≠ u) : a ≠ b := by
  intro e; subst e; rw [h] at h'; exact d (Option.some.inj h')
theorem ne_of_none {H : Hp} {a b : Addr} {o : HO} (h : H a = some o) (h' : H b = none) : a ≠ b := by
  intro e; subst e; rw [h] at h'; cases h'

section
variable (P : Program) (w : World)
def ObjOk (H : Hp) (h : Heap) (a : Addr) : HO → Prop
  | .lst xs => xs.length ≤ sizeLine ∧ ∃ (its : List Value) (n : Nat), Vals xs its ∧ h.get? a = some { cls := .type "list", data := .seq its.toArray n }
  | .tup xs => xs.length ≤ sizeLine ∧ ∃ its : List Value, Vals xs its ∧ IsTup h a its.toArray
  | .dK kvs => kvs.length ≤ sizeLine ∧ (a == sysModules) = false ∧ ∃ vs, KV kvs vs ∧ h.DictOf (mixKind P w) a vs
  | .dT kvs => kvs.length ≤ sizeLine ∧ (a == sysModules) = false ∧ ∃ xs : List (List Key × Addr × Value),
      Paired (fun (p : List Key × V) (q : List Key × Addr × Value) => p.1 = q.1 ∧ H q.2.1 = some (.tup (p.1.map kV)) ∧ RelV p.2 q.2.2) kvs xs ∧
      ∃ o es ep, h.get? a = some o ∧ o.ExactDict ∧ o.data = .dict es ep ∧ es.toList = xs.map (entryOfKey (tupleKind (mixKind P w))) ∧ (xs.map (·.1)).Nodup
  | .set S n => h.SetOf (intKind P w) a S n
  | .ins C dx fs => H dx = some (.own a) ∧ fs.length ≤ 1000 ∧ dx ≠ a ∧ h.get? a = some (PySem.W.instObj C dx) ∧
      ∃ mA, h.Ns1 dx mA ∧ (∀ f, RelO (fs.lookup f) (mA f)) ∧ PySem.Within mA (fs.map (·.1))
  | .own _ => ∃ o, h.get? a = some o
  | .xd fs => ∃ mA, h.Ns1 a mA ∧ ∀ f, RelO (fs.lookup f) (mA f)
  | .rng lo hi => ∃ t u v, h.get? a = some { cls := .type "range", data := .fields #[.int lo t, .int hi u, .int 1 v] }
  | .frz o u => h.get? a = some o ∧ ObjOk H h a u
  | .tbl ps => h.get? a = some { cls := .none, data := .fields ps }
  | .met f x => h.get? a = some (PySem.W.methodObj (.ref f) (.ref x))
  | .ext φ => φ h ∧ (∃ o, h.get? a = some o) ∧ ∀ h1 h2 : Heap, φ h1 → (∀ o, h1.get? a = some o → h2.get? a = some o) → φ h2
/-- the abstract heap is held -/
def HOk (H : Hp) (h : Heap) : Prop := ∀ a o, H a = some o → ObjOk P w H h a o
end

section
variable {P : Program} {w : World} {H H' : Hp} {h h' : Heap} {a : Addr} {o : HO}
theorem ObjOk.lt (x : ObjOk P w H h a o) : a < h.objs.size := by
  cases o with
  | lst xs => obtain ⟨_, _, _, _, e⟩ := x; exact Heap.lt_size e
  | tup xs => obtain ⟨_, _, _, p⟩ := x; exact p.lt
  | dK kvs => obtain ⟨_, _, _, _, o, _, _, e, _⟩ := x; exact Heap.lt_size e
  | dT kvs => obtain ⟨_, _, _, _, o, _, _, e, _⟩ := x; exact Heap.lt_size e
  | set S n => obtain ⟨o, _, _, _, e, _⟩ := x; exact Heap.lt_size e
  | ins C dx fs => obtain ⟨_, _, _, e, _⟩ := x; exact Heap.lt_size e
  | own y => obtain ⟨_, e⟩ := x; exact Heap.lt_size e
  | xd fs => obtain ⟨_, ⟨_, _, _, e, _⟩, _⟩ := x; exact Heap.lt_size e
  | rng lo hi => obtain ⟨_, _, _, e⟩ := x; exact Heap.lt_size e
  | frz ob u => obtain ⟨e, _⟩ := x; exact Heap.lt_size e
  | tbl ps => exact Heap.lt_size (show h.get? a = some _ from x)
  | met f y => exact Heap.lt_size (show h.get? a = some _ from x)
  | ext φ => obtain ⟨_, ⟨_, e⟩, _⟩ := x; exact Heap.lt_size e
theorem Paired.mapP {α β : Type} {F G : α → β → Prop} : ∀ {l₁ : List α} {l₂ : List β}, Paired F l₁ l₂ → (∀ a b, F a b → G a b) → Paired G l₁ l₂
  | _, _, .nil, _ => .nil
  | _, _, .cons r t, f => .cons (f _ _ r) (Paired.mapP t f)
/-- what an object's description leans on: its own object, its own dict, the tuples -/
theorem ObjOk.stay (x : ObjOk P w H h a o) (k : ∀ b u, (b = a ∨ H b = some (.own a)) → h.get? b = some u → h'.get? b = some u)
    (ho : ∀ b, H b = some (.own a) → H' b = some (.own a)) (ht : ∀ b xs, H b = some (.tup xs) → H' b = some (.tup xs)) : ObjOk P w H' h' a o := by
  induction o with
  | lst xs => obtain ⟨z, its, n, r, e⟩ := x; exact ⟨z, its, n, r, k _ _ (.inl rfl) e⟩
  | tup xs => obtain ⟨z, its, r, ob, e, c⟩ := x; exact ⟨z, its, r, ob, k _ _ (.inl rfl) e, c⟩
  | dK kvs => obtain ⟨z, y, vs, r, ob, es, ep, e, c⟩ := x; exact ⟨z, y, vs, r, ob, es, ep, k _ _ (.inl rfl) e, c⟩
  | dT kvs =>
    obtain ⟨z, y, xs, r, ob, es, ep, e, c⟩ := x
    exact ⟨z, y, xs, Paired.mapP r fun p q z => ⟨z.1, ht _ _ z.2.1, z.2.2⟩, ob, es, ep, k _ _ (.inl rfl) e, c⟩
  | set S n => obtain ⟨ob, es, ep, t, e, c⟩ := x; exact ⟨ob, es, ep, t, k _ _ (.inl rfl) e, c⟩
  | ins C dx fs =>
    obtain ⟨d, z, ne, e, mA, ⟨od, es, ep, e2, c⟩, r⟩ := x
    exact ⟨ho _ d, z, ne, k _ _ (.inl rfl) e, mA, ⟨od, es, ep, k _ _ (.inr d) e2, c⟩, r⟩
  | own y => obtain ⟨ob, e⟩ := x; exact ⟨ob, k _ _ (.inl rfl) e⟩
  | xd fs => obtain ⟨mA, ⟨od, es, ep, e, c⟩, r⟩ := x; exact ⟨mA, ⟨od, es, ep, k _ _ (.inl rfl) e, c⟩, r⟩
  | rng lo hi => obtain ⟨t, u, v, e⟩ := x; exact ⟨t, u, v, k _ _ (.inl rfl) e⟩
  | frz ob u ih => obtain ⟨e, q⟩ := x; exact ⟨k _ _ (.inl rfl) e, ih q⟩
  | tbl ps =>
    have e : h.get? a = some { cls := .none, data := .fields ps } := x
    show h'.get? a = some { cls := .none, data := .fields ps }
    exact k a _ (.inl rfl) e
  | met f y =>
    have e : h.get? a = some (PySem.W.methodObj (.ref f) (.ref y)) := x
    show h'.get? a = some (PySem.W.methodObj (.ref f) (.ref y))
    exact k a _ (.inl rfl) e
  | ext φ => obtain ⟨p, ⟨o, e⟩, st⟩ := x; exact ⟨st _ _ p fun o q => k _ _ (.inl rfl) q, ⟨o, k _ _ (.inl rfl) e⟩, st⟩
theorem HOk.lt (x : HOk P w H h) (e : H a = some o) : a < h.objs.size := (x a o e).lt
theorem HOk.fresh (x : HOk P w H h) (e : h.objs.size ≤ a) : H a = none := by
  cases q : H a with
  | none => rfl
  | some u => exact absurd (Nat.lt_of_lt_of_le (x.lt q) e) (Nat.lt_irrefl _)
/-- every object of the heap is kept -/
theorem HOk.kept (x : HOk P w H h) (k : ∀ b u, h.get? b = some u → h'.get? b = some u) : HOk P w H h' := fun a o e =>
  (x a o e).stay (fun b u _ q => k b u q) (fun _ q => q) fun _ _ q => q
/-- a new object is laid and tracked -/
theorem HOk.laid (x : HOk P w H h) (k : ∀ b u, h.get? b = some u → h'.get? b = some u) (hp : h.objs.size ≤ a) (new : ObjOk P w (upd H a o) h' a o) : HOk P w (upd H a o) h' := fun b u e => by
  have hn := x.fresh hp
  by_cases hb : b = a
  · subst hb; rw [upd_same] at e; cases e; exact new
  · rw [upd_ne hb] at e
    exact (x b u e).stay (fun c v _ q => k c v q) (fun c q => by rw [upd_ne (ne_of_none q hn)]; exact q) fun c xs q => by rw [upd_ne (ne_of_none q hn)]; exact q
end

/-- what may be read as u: it is u, or a known u -/
def Rd (H : Hp) (a : Addr) (u : HO) : Prop := H a = some u ∨ ∃ o, H a = some (.frz o u)
theorem Rd.ok {P : Program} {w : World} {H : Hp} {h : Heap} {a : Addr} {u : HO} (r : Rd H a u) (x : HOk P w H h) : ObjOk P w H h a u := by
  rcases r with r | ⟨o, r⟩
  · exact x a u r
  · obtain ⟨_, q⟩ := x a _ r
    exact q
/-- what may be written -/
def Mut : Option HO → Prop
  | some (.lst _) => True
  | some (.dK _) => True
  | some (.dT _) => True
  | some (.set _ _) => True
  | some (.ins _ _ _) => True
  | some (.ext _) => True
  | _ => False
section
variable {P : Program} {w : World} {H : Hp} {h h' : Heap} {x e : Addr} {o' : HO}
/-- the object at e is changed: x itself, or the dict of the instance x -/
theorem HOk.write (ok : HOk P w H h) (mu : Mut (H x)) (he : e = x ∨ H e = some (.own x)) (k : ∀ b u, b ≠ e → h.get? b = some u → h'.get? b = some u) (heo : ∃ u, h'.get? e = some u)
    (new : ObjOk P w (upd H x o') h' x o') : HOk P w (upd H x o') h' := fun b u q => by
  have nown : ∀ c y, H c = some (.own y) → c ≠ x := fun c y r z => by subst z; rw [r] at mu; exact mu
  have ntup : ∀ c xs, H c = some (.tup xs) → c ≠ x := fun c xs r z => by subst z; rw [r] at mu; exact mu
  by_cases hb : b = x
  · subst hb; rw [upd_same] at q; cases q; exact new
  · rw [upd_ne hb] at q
    by_cases hbe : b = e
    · have q' : H b = some (.own x) := by
        rcases he with z | z
        · exact absurd (hbe.trans z) hb
        · rw [hbe]; exact z
      rw [q] at q'; cases q'
      obtain ⟨v, hv⟩ := heo
      exact ⟨v, by rw [hbe]; exact hv⟩
    · refine (ok b u q).stay (fun c v hc r => k c v ?_ r) (fun c r => by rw [upd_ne (nown c b r)]; exact r) fun c xs r => by rw [upd_ne (ntup c xs r)]; exact r
      rcases hc with rfl | hc
      · exact hbe
      · rintro rfl
        rcases he with z | z
        · exact nown c b hc z
        · rw [hc] at z; cases z; exact hb rfl
end

/-! ### kept unless tracked; of the frames at fs (the callers') the slots may change (an exception that passes writes there); of the records at ex (iterators) nothing is said -/
structure Un (fs ex : List Addr) (H H' : Hp) (h h' : Heap) : Prop where
  keep : ∀ b o, h.get? b = some o → H b = none → b ∉ fs → b ∉ ex → h'.get? b = some o
  slot : ∀ b o, h.get? b = some o → H b = none → b ∈ fs → b ∉ ex → ∃ sl, h'.get? b = some { o with slots := sl }
  free : ∀ b o, h.get? b = some o → H b = none → b ∉ ex → H' b = none
  there : ∀ b o, h.get? b = some o → b ∉ ex → ∃ o', h'.get? b = some o'
  tups : ∀ b xs, H b = some (.tup xs) → H' b = some (.tup xs)
  frzs : ∀ b o u, H b = some (.frz o u) → H' b = some (.frz o u)
  tbls : ∀ b ps, H b = some (.tbl ps) → ∃ more, H' b = some (.tbl (ps ++ more))
section
variable {fs fs' ex ex' : List Addr} {H H1 H2 : Hp} {h h1 h2 h' : Heap} {a x e : Addr} {o : HO}
theorem Un.any (u : Un fs ex H H1 h h1) {b : Addr} {ob : Obj} (q : h.get? b = some ob) (n : H b = none) (hx : b ∉ ex) : ∃ sl, h1.get? b = some { ob with slots := sl } := by
  by_cases hb : b ∈ fs
  · exact u.slot b ob q n hb hx
  · exact ⟨ob.slots, u.keep b ob q n hb hx⟩
theorem Un.kept (k : ∀ b u, h.get? b = some u → h'.get? b = some u) : Un fs ex H H h h' :=
  ⟨fun b ob q _ _ _ => k b ob q, fun b ob q _ _ _ => ⟨ob.slots, k b ob q⟩, fun _ _ _ n _ => n, fun b ob q _ => ⟨ob, k b ob q⟩, fun _ _ q => q, fun _ _ _ q => q, fun _ ps q => ⟨#[], by rw [q]; simp⟩⟩
theorem Un.refl : Un fs ex H H h h := Un.kept fun _ _ q => q
theorem Un.laid (k : ∀ b u, h.get? b = some u → h'.get? b = some u) (hp : h.objs.size ≤ a) (hn : H a = none) : Un fs ex H (upd H a o) h h' where
  keep := fun b u q _ _ _ => k b u q
  slot := fun b u q _ _ _ => ⟨u.slots, k b u q⟩
  free := fun b u q n _ => by rw [upd_ne (Nat.ne_of_lt (Nat.lt_of_lt_of_le (Heap.lt_size q) hp))]; exact n
  there := fun b u q _ => ⟨u, k b u q⟩
  tups := fun b xs q => by rw [upd_ne (ne_of_none q hn)]; exact q
  frzs := fun b u xs q => by rw [upd_ne (ne_of_none q hn)]; exact q
  tbls := fun b ps q => ⟨#[], by rw [upd_ne (ne_of_none q hn), q]; simp⟩
theorem Un.write (mu : Mut (H x)) (he : e = x ∨ H e = some (.own x)) (k : ∀ b u, b ≠ e → h.get? b = some u → h'.get? b = some u) (heo : ∃ u, h'.get? e = some u) : Un fs ex H (upd H x o) h h' := by
  have hx : ∀ b, H b = none → b ≠ x := fun b n z => by subst z; rw [n] at mu; exact mu
  have hb : ∀ b, H b = none → b ≠ e := fun b n z => by
    subst z
    rcases he with r | r
    · exact hx b n r
    · rw [n] at r; cases r
  have hm : ∀ b u, H b = some u → ¬ Mut (some u) → b ≠ x := fun b u q nm z => by subst z; rw [q] at mu; exact nm mu
  refine ⟨fun b u q n _ _ => k b u (hb b n) q, fun b u q n _ _ => ⟨u.slots, k b u (hb b n) q⟩, fun b u q n _ => by rw [upd_ne (hx b n)]; exact n, fun b u q _ => ?_,
    fun b xs q => by rw [upd_ne (hm b _ q fun z => z)]; exact q, fun b u xs q => by rw [upd_ne (hm b _ q fun z => z)]; exact q, fun b ps q => ⟨#[], by rw [upd_ne (hm b _ q fun z => z), q]; simp⟩⟩
  by_cases hbe : b = e
  · subst hbe; exact heo
  · exact ⟨u, k b u hbe q⟩
end

/-! ### the heap without what is tracked -/
def trk (h : Heap) (H : Hp) : List Addr := (List.range h.objs.size).filter fun a => (H a).isSome
def hidT (h : Heap) (H : Hp) : Heap := PySem.W.hideAll h (trk h H)
theorem hidT_size (h : Heap) (H : Hp) : (hidT h H).objs.size = h.objs.size := PySem.W.hideAll_size _ _
theorem hidT_get {h : Heap} {H : Hp} {b : Addr} {o : Obj} (e : h.get? b = some o) (n : H b = none) : (hidT h H).get? b = some o :=
  PySem.W.hideAll_get _ e fun hm => by
    have q : (H b).isSome = true := (List.mem_filter.mp hm).2
    rw [n] at q; simp at q
theorem of_hidT {h : Heap} {H : Hp} {b : Addr} {o : Obj} (e : (hidT h H).get? b = some o) : h.get? b = some o ∧ H b = none := by
  have e' : h.get? b = some o := PySem.W.of_hideAll (trk h H) e
  refine ⟨e', ?_⟩
  cases q : H b with
  | none => rfl
  | some x =>
    have hm : b ∈ trk h H := List.mem_filter.mpr ⟨List.mem_range.mpr (Heap.lt_size e'), by simp [q]⟩
    have z : (hidT h H).get? b = none := PySem.W.hideAll_none (trk h H) hm
    rw [z] at e; cases e

/-! ### OpenK's ledger, filled with every new object but one -/
end L2

namespace L2
open PySem PySem.Spec PyProof.Rows

/-- the module's facts, over the base: the heap at the law's entry without what is tracked there -/
structure Mod (K : PySem.W.Frag) (mg : Str → Option Value) (base : Heap) : Prop where
  kin : K.In base
  glob : base.Ns mainGlobals mg
  blt : ∃ mb, base.Ns builtinsNs mb ∧ ∀ x : Str, x ≠ "__name__" → mb x = bootBuiltins x
  nolimit : base.NoLimit

/-- the context: a def's body (or a comprehension's block) running. base: fixed through the whole law; s₀, H₀: the entry; outer: the frames whose slots others may change (a def's callers); stack: all frames that run;
   ex: iterators that were made ahead of the entry and are walked here (a comprehension's); fn: the names whose cells were made at the entry (a def: all; a comprehension's block: its own); calm: not within an except suite; pn: pins that every state bears; xe: what is wanted of an exception that leaves the code -/
structure Cx where
  prog : Program
  w : World
  K : PySem.W.Frag
  mg : Str → Option Value
  base : Heap
  A : Around
  N : List Str
  s₀ : Shared
  H₀ : Hp
  env : Env
  outer : List Env
  stack : List Env
  ex : List Addr
  fn : Str → Bool
  calm : Bool
  pn : List (Addr × Obj)
  xe : Value → Shared → Prop
/-- the callers' frames -/
def frs (l : List Env) : List Addr := l.filterMap (·.frame)
abbrev Cx.fs (X : Cx) : List Addr := frs X.outer

def Vis (sc : Scope) (x : Str) : Prop := sc.names.lookup x = some .local ∨ sc.names.lookup x = some .cell ∨ sc.names.lookup x = some .free
def Loc (sc : Scope) (x : Str) : Prop := sc.names.lookup x = some .local ∨ sc.names.lookup x = some .cell
def Look (env : Env) (h : Heap) (m : Str → Option Value) (x : Str) (u : Value) : Prop :=
  (env.kindOf x = some .local ∧ m x = some u) ∨ ((env.kindOf x = some .cell ∨ env.kindOf x = some .free) ∧ ∃ c, env.cells.lookup x = some c ∧ h.IsCell c (some u))

structure Cx.Ok (X : Cx) : Prop where
  mod : Mod X.K X.mg X.base
  kind : X.env.scope.kind = .function
  glob : X.env.globals = mainGlobals
  blt : X.env.builtins = builtinsNs
  above : X.s₀.heap.objs.size ≤ X.env.locals
  inj : ∀ x y c, X.env.cells.lookup x = some c → X.env.cells.lookup y = some c → x = y
  has : ∀ x, (X.env.kindOf x = some .cell ∨ X.env.kindOf x = some .free) → ∃ c, X.env.cells.lookup x = some c
  cab : ∀ x c, X.fn x = true → X.env.cells.lookup x = some c → X.s₀.heap.objs.size ≤ c
  hd : X.calm = true → X.A.handled = none
  frames : X.A.frames = some X.stack
  stk : X.stack = X.outer ∨ (X.stack = X.env :: X.outer ∧ X.env.frame = some X.env.locals)
  exf : ∀ b ∈ X.ex, b ≠ X.env.locals ∧ ∀ x c, X.env.cells.lookup x = some c → c ≠ b
  bs : ∀ b o, X.base.get? b = some o → X.s₀.heap.get? b = some o ∧ X.H₀ b = none
  bsz : X.base.objs.size ≤ X.s₀.heap.objs.size
  noex : ∀ b o, X.base.get? b = some o → b ∉ X.ex
  exfs : ∀ b ∈ X.ex, b ∉ X.fs
  funs : X.s₀.heap.FunFrames X.base X.outer
  frf : ∀ b ∈ X.fs, X.H₀ b = none

structure Inv (X : Cx) (pins : List (Addr × Obj)) (σ : List (Option V)) (H : Hp) (s : Shared) : Prop where
  ok : X.Ok
  os : s.os = X.s₀.os
  bare : AllBare s.gens
  base : Un X.fs X.ex X.H₀ H X.s₀.heap s.heap
  loc : ∃ m, s.heap.Ns X.env.locals m ∧ ∀ (i : Nat) (x : Str) (v : V), X.N[i]? = some x → σ[i]? = some (some v) → Vis X.env.scope x → ∃ u, RelV v u ∧ Look X.env s.heap m x u
  cell : ∀ x c, X.env.cells.lookup x = some c → ∃ v, s.heap.IsCell c v
  free : H X.env.locals = none
  freeC : ∀ x c, X.env.cells.lookup x = some c → H c = none
  pin : ∀ p ∈ X.pn ++ pins, s.heap.get? p.1 = some p.2 ∧ H p.1 = none ∧ p.1 ≠ X.env.locals ∧ p.1 ∉ X.fs ∧ ∀ v, p.2.data ≠ .cell v
  hok : HOk X.prog X.w H s.heap
  len : σ.length = X.N.length

section
variable {X : Cx} {pins : List (Addr × Obj)} {σ : List (Option V)} {H H' : Hp} {s : Shared} {h' : Heap}

theorem Cx.Ok.nofr (ok : X.Ok) {b : Addr} {o : Obj} (e : X.base.get? b = some o) : b ∉ X.fs := fun hb => by
  have := (ok.funs.mem hb).1
  rw [e] at this; cases this
theorem Inv.bs (I : Inv X pins σ H s) : ∀ b o, X.base.get? b = some o → s.heap.get? b = some o ∧ H b = none := fun b o e =>
  ⟨I.base.keep b o (I.ok.bs b o e).1 (I.ok.bs b o e).2 (I.ok.nofr e) (I.ok.noex b o e), I.base.free b o (I.ok.bs b o e).1 (I.ok.bs b o e).2 (I.ok.noex b o e)⟩
theorem Inv.bk (I : Inv X pins σ H s) : ∀ b o, X.base.get? b = some o → s.heap.get? b = some o := fun b o e => (I.bs b o e).1
theorem Inv.mod (I : Inv X pins σ H s) : Mod X.K X.mg X.base := I.ok.mod
theorem Inv.kIn (I : Inv X pins σ H s) : X.K.In s.heap := I.ok.mod.kin.keeps I.bk
theorem Inv.lt (I : Inv X pins σ H s) : X.env.locals < s.heap.objs.size := let ⟨_, hn, _⟩ := I.loc; hn.lt
theorem Inv.sz (I : Inv X pins σ H s) : X.s₀.heap.objs.size ≤ s.heap.objs.size := Nat.le_trans I.ok.above (Nat.le_of_lt I.lt)
theorem Inv.nofs (I : Inv X pins σ H s) {a : Addr} (h : s.heap.objs.size ≤ a) : a ∉ X.fs := fun hb => by
  obtain ⟨_, o, ho, _⟩ := I.ok.funs.mem hb
  exact absurd (Nat.lt_of_lt_of_le (Heap.lt_size ho) (Nat.le_trans I.sz h)) (Nat.lt_irrefl _)
theorem Inv.cne (I : Inv X pins σ H s) : ∀ x c, X.env.cells.lookup x = some c → c ≠ X.env.locals := fun x c e z => by
  obtain ⟨v, o, ho, hd⟩ := I.cell x c e
  obtain ⟨m, ⟨o', es, ep, ho', hd', _⟩, _⟩ := I.loc
  rw [z, ho'] at ho; cases ho; rw [hd'] at hd; cases hd
theorem Inv.funs (I : Inv X pins σ H s) : s.heap.FunFrames X.base X.outer := by
  have all : ∀ (l : List Env), (∀ b ∈ frs l, b ∈ X.fs) → X.s₀.heap.FunFrames X.base l → s.heap.FunFrames X.base l := by
    intro l
    induction l with
    | nil => intro _ _; trivial
    | cons env r ih =>
      intro hs hl
      obtain ⟨hk, ⟨L, o, hf, hn, ho, hd⟩, hr⟩ := hl
      have hL : L ∈ X.fs := hs L (by unfold frs; rw [List.filterMap_cons, hf]; exact List.mem_cons_self)
      obtain ⟨sl, e⟩ := I.base.slot L o ho (I.ok.frf L hL) hL fun z => I.ok.exfs L z hL
      exact ⟨hk, ⟨L, _, hf, hn, e, hd⟩, ih (fun b hb => hs b (by unfold frs; rw [List.filterMap_cons, hf]; exact List.mem_cons_of_mem _ hb)) hr⟩
  exact all X.outer (fun _ hb => hb) I.ok.funs

/-- the frames that run, for a call -/
theorem Inv.stack (I : Inv X pins σ H s) : s.heap.FunFrames X.base X.stack := by
  rcases I.ok.stk with e | ⟨e, hf⟩
  · rw [e]; exact I.funs
  · rw [e]
    obtain ⟨m, hn, _⟩ := I.loc
    refine .cons (by rw [I.ok.kind]; decide) hf hn ?_ I.funs
    exact Heap.get?_none_of_le (Nat.le_trans I.ok.bsz I.ok.above)
theorem Inv.stkSub (I : Inv X pins σ H s) : ∀ b ∈ frs X.stack, b ∈ X.env.locals :: X.fs := fun b hb => by
  rcases I.ok.stk with e | ⟨e, hf⟩
  · rw [e] at hb; exact List.mem_cons_of_mem _ hb
  · rw [e] at hb
    unfold frs at hb
    rw [List.filterMap_cons, hf] at hb
    exact hb
theorem Inv.stkFree (I : Inv X pins σ H s) : ∀ b ∈ frs X.stack, H b = none := fun b hb => by
  rcases List.mem_cons.mp (I.stkSub b hb) with e | hb
  · rw [e]; exact I.free
  · obtain ⟨_, o, ho, _⟩ := I.ok.funs.mem hb
    exact I.base.free b o ho (I.ok.frf b hb) fun z => I.ok.exfs b z hb

/-- THE STEP: the untracked objects but the frame and the records at ch are kept (the callers' frames up to slots), the frame's map is kept, the new abstract heap is held -/
theorem Inv.step {g' : Array GenState} {t' : Nat} {d' : Drawn} {ch : List Addr} (I : Inv X pins σ H s)
    (hch : ∀ b ∈ ch, (b ∈ X.ex ∨ X.s₀.heap.objs.size ≤ b) ∧ b ≠ X.env.locals ∧ (∀ x c, X.env.cells.lookup x = some c → c ≠ b) ∧ ∀ p ∈ X.pn ++ pins, p.1 ≠ b)
    (keep : ∀ b o, b ≠ X.env.locals → b ∉ X.fs → b ∉ ch → s.heap.get? b = some o → H b = none → h'.get? b = some o)
    (slot : ∀ b o, b ≠ X.env.locals → b ∈ X.fs → b ∉ ch → s.heap.get? b = some o → H b = none → ∃ sl, h'.get? b = some { o with slots := sl }) (free : ∀ b o, b ∉ ch → s.heap.get? b = some o → H b = none → H' b = none)
    (there : ∀ b o, b ∉ ch → s.heap.get? b = some o → ∃ o', h'.get? b = some o')
    (tups : ∀ b xs, H b = some (.tup xs) → H' b = some (.tup xs)) (frzs : ∀ b o u, H b = some (.frz o u) → H' b = some (.frz o u)) (tbls : ∀ b ps, H b = some (.tbl ps) → ∃ more, H' b = some (.tbl (ps ++ more)))
    (ns : ∀ m, s.heap.Ns X.env.locals m → h'.Ns X.env.locals m) (hok : HOk X.prog X.w H' h') (hg : AllBare g') :
    Inv X pins σ H' { s with heap := h', gens := g', drawn := d', toks := t' } := by
  have neL : ∀ b o, X.s₀.heap.get? b = some o → b ≠ X.env.locals := fun b o e => Nat.ne_of_lt (Nat.lt_of_lt_of_le (Heap.lt_size e) I.ok.above)
  have neC : ∀ b o, X.s₀.heap.get? b = some o → b ∉ X.ex → b ∉ ch := fun b o e hx hb => by
    rcases (hch b hb).1 with z | z
    · exact hx z
    · exact absurd (Nat.lt_of_lt_of_le (Heap.lt_size e) z) (Nat.lt_irrefl _)
  have cellK : ∀ x c, X.env.cells.lookup x = some c → ∀ v, s.heap.IsCell c v → h'.IsCell c v := fun x c e v ⟨o, ho, hd⟩ => by
    have nch : c ∉ ch := fun z => (hch c z).2.2.1 x c e rfl
    by_cases hc : c ∈ X.fs
    · obtain ⟨sl, q⟩ := slot c o (I.cne x c e) hc nch ho (I.freeC x c e)
      exact ⟨_, q, hd⟩
    · exact ⟨o, keep c o (I.cne x c e) hc nch ho (I.freeC x c e), hd⟩
  refine ⟨I.ok, I.os, hg, ⟨fun b o e n hb hx => ?_, fun b o e n hb hx => ?_, fun b o e n hx => ?_, fun b o e hx => ?_, fun b xs e => tups b xs (I.base.tups b xs e), fun b o xs e => frzs b o xs (I.base.frzs b o xs e), fun b ps e => ?_⟩, ?_, fun x c e => ?_, ?_, fun x c e => ?_, fun p hp => ?_, hok, I.len⟩
  · exact keep b o (neL b o e) hb (neC b o e hx) (I.base.keep b o e n hb hx) (I.base.free b o e n hx)
  · obtain ⟨sl, e1⟩ := I.base.slot b o e n hb hx
    obtain ⟨sl', e2⟩ := slot b _ (neL b o e) hb (neC b o e hx) e1 (I.base.free b o e n hx)
    exact ⟨sl', e2⟩
  · obtain ⟨o', e1⟩ := I.base.there b o e hx
    exact free b o' (neC b o e hx) e1 (I.base.free b o e n hx)
  · obtain ⟨o', e1⟩ := I.base.there b o e hx
    exact there b o' (neC b o e hx) e1
  · obtain ⟨m1, e1⟩ := I.base.tbls b ps e
    obtain ⟨m2, e2⟩ := tbls b _ e1
    exact ⟨m1 ++ m2, by rw [e2, Array.append_assoc]⟩
  · obtain ⟨m, hn, hl⟩ := I.loc
    refine ⟨m, ns m hn, fun i x v e1 e2 e3 => ?_⟩
    obtain ⟨u, r, l⟩ := hl i x v e1 e2 e3
    refine ⟨u, r, ?_⟩
    rcases l with l | ⟨k, c, e, z⟩
    · exact .inl l
    · exact .inr ⟨k, c, e, cellK x c e _ z⟩
  · obtain ⟨v, z⟩ := I.cell x c e
    exact ⟨v, cellK x c e v z⟩
  · obtain ⟨m, ⟨o, _, _, ho, _⟩, _⟩ := I.loc
    exact free _ o (fun z => (hch _ z).2.1 rfl) ho I.free
  · obtain ⟨v, o, ho, hd⟩ := I.cell x c e
    exact free c o (fun z => (hch c z).2.2.1 x c e rfl) ho (I.freeC x c e)
  · obtain ⟨e, n, ne, nf, d⟩ := I.pin p hp
    have nch : p.1 ∉ ch := fun z => (hch p.1 z).2.2.2 p hp rfl
    exact ⟨keep p.1 p.2 ne nf nch e n, free p.1 p.2 nch e n, ne, nf, d⟩
/-- .. where the frame's own object is kept too -/
theorem Inv.un {t' : Nat} (I : Inv X pins σ H s) (u : Un X.fs [] H H' s.heap h') (hok : HOk X.prog X.w H' h') : Inv X pins σ H' { s with heap := h', toks := t' } := by
  obtain ⟨m, ⟨o, es, ep, ho, r⟩, _⟩ := id I.loc
  obtain ⟨sl, hL⟩ := u.any ho I.free (by simp)
  exact I.step (g' := s.gens) (d' := s.drawn) (ch := []) (fun _ z => nomatch z) (fun b o _ hb _ e n => u.keep b o e n hb (by simp)) (fun b o _ hb _ e n => u.slot b o e n hb (by simp)) (fun b o _ e n => u.free b o e n (by simp)) (fun b o _ e => u.there b o e (by simp)) u.tups u.frzs u.tbls (fun m' hm => by
    obtain ⟨o', es', ep', ho', r'⟩ := hm
    rw [ho] at ho'; cases ho'
    exact ⟨_, es', ep', hL, r'⟩) hok I.bare
/-- behind a call (or a comprehension's block): the slots of this frame may have changed too, the records at ch may have turned -/
theorem Inv.call {g' : Array GenState} {t' : Nat} {d' : Drawn} {ch : List Addr} (I : Inv X pins σ H s) (u : Un (frs X.stack) ch H H' s.heap h') (hok : HOk X.prog X.w H' h') (hg : AllBare g')
    (hch : ∀ b ∈ ch, (b ∈ X.ex ∨ X.s₀.heap.objs.size ≤ b) ∧ b ≠ X.env.locals ∧ (∀ x c, X.env.cells.lookup x = some c → c ≠ b) ∧ ∀ p ∈ X.pn ++ pins, p.1 ≠ b) :
    Inv X pins σ H' { s with heap := h', gens := g', drawn := d', toks := t' } := by
  obtain ⟨m, ⟨o, es, ep, ho, r⟩, _⟩ := id I.loc
  obtain ⟨sl, hL⟩ := u.any ho I.free fun z => (hch _ z).2.1 rfl
  exact I.step (ch := ch) hch (fun b o hL hb hc e n => u.keep b o e n (fun z => (List.mem_cons.mp (I.stkSub b z)).elim hL hb) hc) (fun b o _ _ hc e n => u.any e n hc) (fun b o hc e n => u.free b o e n hc) (fun b o hc e => u.there b o e hc) u.tups u.frzs u.tbls (fun m' hm => by
    obtain ⟨o', es', ep', ho', r'⟩ := hm
    rw [ho] at ho'; cases ho'
    exact ⟨_, es', ep', hL, r'⟩) hok hg
/-- an untracked record of ours (an iterator) has turned -/
theorem Inv.turned {t' : Nat} {it : Addr} (I : Inv X pins σ H s) (k : ∀ b o, b ≠ it → s.heap.get? b = some o → h'.get? b = some o) (hn : H it = none) (hL : it ≠ X.env.locals)
    (h1 : it ∈ X.ex ∨ X.s₀.heap.objs.size ≤ it) (h2 : ∀ x c, X.env.cells.lookup x = some c → c ≠ it) (h3 : ∀ p ∈ X.pn ++ pins, p.1 ≠ it) : Inv X pins σ H { s with heap := h', toks := t' } := by
  have nit : ∀ b u, H b = some u → b ≠ it := fun b u e z => by rw [z, hn] at e; cases e
  refine I.step (g' := s.gens) (d' := s.drawn) (ch := [it]) (fun b hb => ?_) (fun b o _ _ hc e _ => k b o (fun z => hc (by simp [z])) e) (fun b o _ _ hc e _ => ⟨o.slots, k b o (fun z => hc (by simp [z])) e⟩) (fun _ _ _ _ n => n)
    (fun b o hc e => ⟨o, k b o (fun z => hc (by simp [z])) e⟩) (fun _ _ e => e) (fun _ _ _ e => e) (fun b ps e => ⟨#[], by rw [e]; simp⟩) (fun m hm => ?_) (fun b u e => ?_) I.bare
  · have e : b = it := by simpa using hb
    subst e
    exact ⟨h1, hL, h2, h3⟩
  · obtain ⟨o, es, ep, ho, r⟩ := hm
    exact ⟨o, es, ep, k _ o (Ne.symm hL) ho, r⟩
  · refine (I.hok b u e).stay (fun c v hc q => k c v ?_ q) (fun _ q => q) fun _ _ q => q
    rcases hc with z | z
    · rw [z]; exact nit b u e
    · exact nit c _ z
theorem Inv.tok (I : Inv X pins σ H s) (t : Nat) : Inv X pins σ H { s with toks := t } := I.un (h' := s.heap) (t' := t) Un.refl I.hok
/-- all objects kept -/
theorem Inv.kept {t' : Nat} (I : Inv X pins σ H s) (k : ∀ b u, s.heap.get? b = some u → h'.get? b = some u) : Inv X pins σ H { s with heap := h', toks := t' } := I.un (Un.kept k) (I.hok.kept k)
/-- a new object laid and tracked -/
theorem Inv.laid {a : Addr} {o : HO} {t' : Nat} (I : Inv X pins σ H s) (k : ∀ b u, s.heap.get? b = some u → h'.get? b = some u) (hp : s.heap.objs.size ≤ a) (new : ObjOk X.prog X.w (upd H a o) h' a o) :
    Inv X pins σ (upd H a o) { s with heap := h', toks := t' } := I.un (Un.laid k hp (I.hok.fresh hp)) (I.hok.laid k hp new)
/-- an object written -/
theorem Inv.write {x e : Addr} {o : HO} {t' : Nat} (I : Inv X pins σ H s) (mu : Mut (H x)) (he : e = x ∨ H e = some (.own x)) (k : ∀ b u, b ≠ e → s.heap.get? b = some u → h'.get? b = some u) (heo : ∃ u, h'.get? e = some u)
    (new : ObjOk X.prog X.w (upd H x o) h' x o) : Inv X pins σ (upd H x o) { s with heap := h', toks := t' } := I.un (Un.write mu he k heo) (I.hok.write mu he k heo new)
theorem Inv.pins_of {pins' : List (Addr × Obj)} (I : Inv X pins σ H s) (h : ∀ p ∈ pins', s.heap.get? p.1 = some p.2 ∧ H p.1 = none ∧ p.1 ≠ X.env.locals ∧ p.1 ∉ X.fs ∧ ∀ v, p.2.data ≠ .cell v) : Inv X pins' σ H s :=
  ⟨I.ok, I.os, I.bare, I.base, I.loc, I.cell, I.free, I.freeC, fun p hp => (List.mem_append.mp hp).elim (fun z => I.pin p (List.mem_append_left _ z)) (h p), I.hok, I.len⟩

theorem nodup_ix {N : List Str} (hN : N.Nodup) {i j : Nat} {x : Str} (a : N[i]? = some x) (b : N[j]? = some x) : i = j := by
  obtain ⟨h1, e1⟩ := List.getElem?_eq_some_iff.mp a
  obtain ⟨h2, e2⟩ := List.getElem?_eq_some_iff.mp b
  exact (List.getElem_inj hN).mp (e1.trans e2.symm)

/-- a name is stored; what changed -/
theorem store_ok2 {M : Model} {A : Around} {E : Value → Shared → Prop} {i : Nat} {x : Str} {v : V} {u : Value} {Q : Unit → Shared → Prop} (I : Inv X pins σ H s) (hN : X.N.Nodup) (hi : X.N[i]? = some x) (hx : Loc X.env.scope x) (r : RelV v u)
    (h : ∀ s', Inv X pins (σ.set i (some v)) H s' → (∃ a, Heap.SameBut a s.heap s'.heap ∧ (a = X.env.locals ∨ X.env.cells.lookup x = some a)) → Q () s') (hf : X.fn x = true ∨ X.env.scope.names.lookup x = some .local := by first | exact .inl rfl | exact .inr rfl | assumption) : wpAny M A (storeName X.env x u) Q E s := by
  obtain ⟨m, hn, hl⟩ := id I.loc
  have hcls : (X.env.scope.kind == .class || (X.env.scope.kind == .module && X.env.locals != X.env.globals)) = false := by rw [I.ok.kind]; rfl
  have hiσ : i < σ.length := by rw [I.len]; exact (List.getElem?_eq_some_iff.mp hi).1
  have cne := I.cne
  have tracked : ∀ {a : Addr} {h' : Heap}, (∃ o, s.heap.get? a = some o ∧ H a = none) → Heap.SameBut a s.heap h' → HOk X.prog X.w H h' := fun {a h'} ha hs b ob e => by
    obtain ⟨_, _, hfree⟩ := ha
    refine (I.hok b ob e).stay (fun c w' hc q => (hs.2 c ?_).trans q) (fun _ q => q) fun _ _ q => q
    rintro rfl
    rcases hc with rfl | hc
    · rw [hfree] at e; cases e
    · rw [hfree] at hc; cases hc
  rcases hx with hk | hk
  · refine wpAny_storeName_local hk hn (fun h' hn' hs => ?_) hcls
    obtain ⟨oL, _, _, hoL, _⟩ := id hn
    refine h _ ⟨I.ok, I.os, I.bare, ⟨fun b o e n hb hx => ?_, fun b o e n hb hx => ?_, I.base.free, fun b o e hx => ?_, I.base.tups, I.base.frzs, I.base.tbls⟩, ⟨_, hn', fun j y v' e1 e2 e3 => ?_⟩, fun y c e => ?_, I.free, I.freeC, fun p hp => ?_, tracked ⟨oL, hoL, I.free⟩ hs, by simpa using I.len⟩ ⟨_, hs, .inl rfl⟩
    · exact (hs.2 b (Nat.ne_of_lt (Nat.lt_of_lt_of_le (Heap.lt_size e) I.ok.above))).trans (I.base.keep b o e n hb hx)
    · obtain ⟨sl, e1⟩ := I.base.slot b o e n hb hx
      exact ⟨sl, (hs.2 b (Nat.ne_of_lt (Nat.lt_of_lt_of_le (Heap.lt_size e) I.ok.above))).trans e1⟩
    · obtain ⟨o', e1⟩ := I.base.there b o e hx
      exact ⟨o', (hs.2 b (Nat.ne_of_lt (Nat.lt_of_lt_of_le (Heap.lt_size e) I.ok.above))).trans e1⟩
    · by_cases hj : j = i
      · subst hj
        rw [hi] at e1; cases e1
        rw [List.getElem?_set_self hiσ] at e2
        cases e2
        exact ⟨u, r, .inl ⟨hk, by simp⟩⟩
      · rw [List.getElem?_set_ne (Ne.symm hj)] at e2
        obtain ⟨u', r', q⟩ := hl j y v' e1 e2 e3
        refine ⟨u', r', ?_⟩
        rcases q with ⟨k, e⟩ | ⟨k, c, e, z⟩
        · refine .inl ⟨k, ?_⟩
          have : y ≠ x := fun e => hj (nodup_ix hN e1 (e ▸ hi))
          simp [this, e]
        · exact .inr ⟨k, c, e, z.sameBut hs (cne y c e)⟩
    · obtain ⟨w', z⟩ := I.cell y c e
      exact ⟨w', z.sameBut hs (cne y c e)⟩
    · obtain ⟨e, n, ne, nf, d⟩ := I.pin p hp
      exact ⟨(hs.2 p.1 ne).trans e, n, ne, nf, d⟩
  · have hfn : X.fn x = true := by
      rcases hf with z | z
      · exact z
      · rw [z] at hk; cases hk
    obtain ⟨c, hc⟩ := I.ok.has x (.inl hk)
    obtain ⟨w', z⟩ := I.cell x c hc
    refine wpAny_storeName_cell I.ok.kind hk hc z (fun h' hc' hs => ?_)
    obtain ⟨oc, hoc, hocd⟩ := id z
    refine h { s with heap := h' } ⟨I.ok, I.os, I.bare, ⟨fun b o e n hb hx => ?_, fun b o e n hb hx => ?_, I.base.free, fun b o e hx => ?_, I.base.tups, I.base.frzs, I.base.tbls⟩, ⟨m, hn.sameBut hs (Ne.symm (cne x c hc)), fun j y v' e1 e2 e3 => ?_⟩, fun y c' e => ?_, I.free, I.freeC, fun p hp => ?_, tracked ⟨oc, hoc, I.freeC x c hc⟩ hs, by simpa using I.len⟩ ⟨c, hs, .inr hc⟩
    · exact (hs.2 b (Nat.ne_of_lt (Nat.lt_of_lt_of_le (Heap.lt_size e) (I.ok.cab x c hfn hc)))).trans (I.base.keep b o e n hb hx)
    · obtain ⟨sl, e1⟩ := I.base.slot b o e n hb hx
      exact ⟨sl, (hs.2 b (Nat.ne_of_lt (Nat.lt_of_lt_of_le (Heap.lt_size e) (I.ok.cab x c hfn hc)))).trans e1⟩
    · obtain ⟨o', e1⟩ := I.base.there b o e hx
      exact ⟨o', (hs.2 b (Nat.ne_of_lt (Nat.lt_of_lt_of_le (Heap.lt_size e) (I.ok.cab x c hfn hc)))).trans e1⟩
    · by_cases hj : j = i
      · subst hj
        rw [hi] at e1; cases e1
        rw [List.getElem?_set_self hiσ] at e2
        cases e2
        exact ⟨u, r, .inr ⟨.inl hk, c, hc, hc'⟩⟩
      · rw [List.getElem?_set_ne (Ne.symm hj)] at e2
        obtain ⟨u', r', q⟩ := hl j y v' e1 e2 e3
        refine ⟨u', r', ?_⟩
        rcases q with q | ⟨k, c', e, z'⟩
        · exact .inl q
        · refine .inr ⟨k, c', e, z'.sameBut hs ?_⟩
          rintro rfl
          exact hj (nodup_ix hN e1 (I.ok.inj _ _ _ e hc ▸ hi))
    · by_cases hcc : c' = c
      · subst hcc; exact ⟨_, hc'⟩
      · obtain ⟨w2, z2⟩ := I.cell y c' e
        exact ⟨w2, z2.sameBut hs hcc⟩
    · obtain ⟨e, n, ne, nf, d⟩ := I.pin p hp
      refine ⟨(hs.2 p.1 ?_).trans e, n, ne, nf, d⟩
      intro q
      rw [q, hoc] at e
      have q' : oc = p.2 := Option.some.inj e
      exact d w' (by rw [← q']; exact hocd)
theorem store_ok {M : Model} {A : Around} {E : Value → Shared → Prop} {i : Nat} {x : Str} {v : V} {u : Value} {Q : Unit → Shared → Prop} (I : Inv X pins σ H s) (hN : X.N.Nodup) (hi : X.N[i]? = some x) (hx : Loc X.env.scope x) (r : RelV v u)
    (h : ∀ s', Inv X pins (σ.set i (some v)) H s' → Q () s') (hf : X.fn x = true ∨ X.env.scope.names.lookup x = some .local := by first | exact .inl rfl | exact .inr rfl | assumption) : wpAny M A (storeName X.env x u) Q E s :=
  store_ok2 I hN hi hx r (fun s' I' _ => h s' I') hf
end

/-! ### the judgements -/
/-- an exception: its class, its own dict's address (where it has one), the abstract heap behind it -/
abbrev XK := Value → Option Addr → Hp → Prop
abbrev St := List (Option V)
abbrev VK := V → Hp → Prop
/-- an expression's reading; a test's; an argument list's -/
abbrev TE := St → Hp → VK → Prop
abbrev TT := St → Hp → (Bool → Hp → Prop) → Prop
abbrev TA := St → Hp → (List V → Hp → Prop) → Prop
/-- what is wanted behind a statement -/
structure Ends where
  nx : St → Hp → Prop
  rt : VK
  bk : St → Hp → Prop := fun _ _ => False
  ct : St → Hp → Prop := fun _ _ => False
abbrev TS := Ends → St → Hp → Prop

def EP (X : Cx) (pins : List (Addr × Obj)) (σ : St) (Q : VK) (u : Value) (s' : Shared) : Prop := ∃ v H', Inv X pins σ H' s' ∧ RelV v u ∧ Q v H'
def TP (X : Cx) (pins : List (Addr × Obj)) (σ : St) (Q : Bool → Hp → Prop) (b : Bool) (s' : Shared) : Prop := ∃ H', Inv X pins σ H' s' ∧ Q b H'
def AP (X : Cx) (pins : List (Addr × Obj)) (σ : St) (Q : List V → Hp → Prop) (us : List Value) (s' : Shared) : Prop := ∃ vs H', Inv X pins σ H' s' ∧ Vals vs us ∧ Q vs H'
def SP (X : Cx) (pins : List (Addr × Obj)) (D : Ends) (f : Flow) (s' : Shared) : Prop :=
  match f with
  | .next => ∃ σ' H', Inv X pins σ' H' s' ∧ D.nx σ' H'
  | .brk => ∃ σ' H', Inv X pins σ' H' s' ∧ D.bk σ' H'
  | .cont => ∃ σ' H', Inv X pins σ' H' s' ∧ D.ct σ' H'
  | .ret u => ∃ v σ' H', Inv X pins σ' H' s' ∧ RelV v u ∧ D.rt v H'

def PE (X : Cx) (e : Expr) (t : TE) : Prop :=
  ∀ (pins : List (Addr × Obj)) (s : Shared) (σ : St) (H : Hp) (Q : VK), Inv X pins σ H s → t σ H Q → wpAny (model X.prog X.w) X.A (eval e X.env) (EP X pins σ Q) X.xe s
def PT (X : Cx) (e : Expr) (t : TT) : Prop :=
  ∀ (pins : List (Addr × Obj)) (s : Shared) (σ : St) (H : Hp) (Q : Bool → Hp → Prop), Inv X pins σ H s → t σ H Q → wpAny (model X.prog X.w) X.A (isTrue e X.env (eval e X.env)) (TP X pins σ Q) X.xe s
/-- a test whatever its 'whole' is (and, or) -/
def PW (X : Cx) (e : Expr) (t : TT) : Prop :=
  ∀ (whole : Sem Value) (pins : List (Addr × Obj)) (s : Shared) (σ : St) (H : Hp) (Q : Bool → Hp → Prop), Inv X pins σ H s → t σ H Q → wpAny (model X.prog X.w) X.A (isTrue e X.env whole) (TP X pins σ Q) X.xe s
theorem PW.pt {X : Cx} {e : Expr} {t : TT} (h : PW X e t) : PT X e t := h _
/-- an argument list (no star), from the left -/
def PA (X : Cx) (es : List Expr) (t : TA) : Prop :=
  ∀ (pos : Pos) (pins : List (Addr × Obj)) (s : Shared) (σ : St) (H : Hp) (Q : List V → Hp → Prop), Inv X pins σ H s → t σ H Q → wpAny (model X.prog X.w) X.A (spliced (backTo pos (starEach es X.env))) (AP X pins σ Q) X.xe s
def PS (X : Cx) (st : Stmt) (t : TS) : Prop :=
  ∀ (pins : List (Addr × Obj)) (s : Shared) (σ : St) (H : Hp) (D : Ends), Inv X pins σ H s → t D σ H → wpAny (model X.prog X.w) X.A (exec st X.env) (SP X pins D) X.xe s
def PSs (X : Cx) (st : List Stmt) (t : TS) : Prop :=
  ∀ (pins : List (Addr × Obj)) (s : Shared) (σ : St) (H : Hp) (D : Ends), Inv X pins σ H s → t D σ H → wpAny (model X.prog X.w) X.A (execs st X.env) (SP X pins D) X.xe s
/-- weaken the end -/
theorem thn {α : Type} {t : Sem α} {Q Q' : α → Shared → Prop} {M : Model} {A : Around} {E : Value → Shared → Prop} {s : Shared} (h : wpAny M A t Q E s) (hQ : ∀ a s, Q a s → Q' a s) : wpAny M A t Q' E s := wpAny_mono h hQ fun _ _ x => x
end L2

namespace L2
open PySem PySem.Spec PyProof.Rows
section
variable {X : Cx}

/-- two expressions in a row -/
theorem bin {a b : Expr} {ta tb : TE} (ha : PE X a ta) (hb : PE X b tb) {pins : List (Addr × Obj)} {s : Shared} {σ : St} {H : Hp} {R : V → V → Hp → Prop} (I : Inv X pins σ H s) (h : ta σ H fun x H1 => tb σ H1 fun y H2 => R x y H2)
    {α : Type} {Q : α → Shared → Prop} {f : Value → Value → Sem α}
    (hf : ∀ v u s2 x y H2, Inv X pins σ H2 s2 → RelV x v → RelV y u → R x y H2 → wpAny (model X.prog X.w) X.A (f v u) Q X.xe s2) :
    wpAny (model X.prog X.w) X.A (eval a X.env) (fun v s₁ => wpAny (model X.prog X.w) X.A (eval b X.env) (fun u s₂ => wpAny (model X.prog X.w) X.A (f v u) Q X.xe s₂) X.xe s₁) X.xe s := by
  refine thn (ha pins s σ H _ I h) fun v s1 ⟨x, H1, I1, r1, q1⟩ => ?_
  refine thn (hb pins s1 σ H1 _ I1 q1) fun u s2 ⟨y, H2, I2, r2, q2⟩ => ?_
  exact hf v u s2 x y H2 I2 r1 r2 q2

/-! ### names and constants -/
def tVar (i : Nat) : TE := fun σ H Q => ∃ v, σ[i]? = some (some v) ∧ Q v H
def tC (v : V) : TE := fun _ H Q => Q v H
theorem pe_var {i : Nat} {x : Str} {pos : Pos} (hN : X.N[i]? = some x) (hv : Vis X.env.scope x) (hd : (x == ("__debug__" : Str)) = false := by decide) (hcd : (x == ("__classdict__" : Str)) = false := by decide) : PE X (.Name x pos) (tVar i) := by
  intro pins s σ H Q I h
  obtain ⟨v, e, h⟩ := h
  obtain ⟨m, hn, hl⟩ := I.loc
  obtain ⟨u, r, l⟩ := hl i x v hN e hv
  have fin : EP X pins σ Q u s := ⟨v, H, I, r, h⟩
  rcases l with ⟨hk, hm⟩ | ⟨hk, c, hc, hcell⟩
  · exact wpAny_Name (wpAny_loadName_local I.ok.kind hk hn hm fin) hd
  · rcases hk with hk | hk
    · exact wpAny_Name (wpAny_loadName_cell I.ok.kind hk hc hcell fin) hd
    · exact wpAny_Name (wpAny_loadName_free I.ok.kind hk hc hcell fin hcd) hd
theorem pe_int {i j pos} : PE X (.Constant (.int i) j pos) (tC (.int i)) := fun _ _ _ H _ I h => wpAny_Constant_int ⟨.int i, H, I.tok _, ⟨_, rfl⟩, h⟩
theorem pe_bl {b j pos} : PE X (.Constant (.bool b) j pos) (tC (.bl b)) := fun _ _ _ H _ I h => Constant_bool ⟨.bl b, H, I, rfl, h⟩
theorem pe_non {j pos} : PE X (.Constant .none j pos) (tC .non) := fun _ _ _ H _ I h => Constant_none ⟨.non, H, I, rfl, h⟩
theorem pe_str {x j pos} : PE X (.Constant (.str x) j pos) (tC (.str x)) := fun _ _ _ H _ I h => Calls.Constant_str ⟨.str x, H, I.tok _, ⟨_, rfl⟩, h⟩

/-- a global name of the def -/
def Gl (X : Cx) (x : Str) : Prop := X.env.kindOf x = some .globalImplicit
theorem ld_glob {E : Value → Shared → Prop} {pins : List (Addr × Obj)} {s : Shared} {σ : St} {H : Hp} {x : Str} {u : Value} {pos : Pos} {Q : Value → Shared → Prop} (I : Inv X pins σ H s) (hg : Gl X x) (hm : X.mg x = some u) (h : Q u s)
    (hd : (x == ("__debug__" : Str)) = false := by decide) : wpAny (model X.prog X.w) X.A (eval (.Name x pos) X.env) Q E s :=
  Calls.Name_function_global I.ok.kind hg (Calls.loadGlobal_global (by rw [I.ok.glob]; exact I.mod.glob.keeps I.bk) hm h) hd
theorem ld_blt {E : Value → Shared → Prop} {pins : List (Addr × Obj)} {s : Shared} {σ : St} {H : Hp} {x : Str} {u : Value} {pos : Pos} {Q : Value → Shared → Prop} (I : Inv X pins σ H s) (hg : Gl X x) (hm : X.mg x = none) (hv : bootBuiltins x = some u) (h : Q u s)
    (hn : x ≠ "__name__" := by decide) (hd : (x == ("__debug__" : Str)) = false := by decide) : wpAny (model X.prog X.w) X.A (eval (.Name x pos) X.env) Q E s := by
  obtain ⟨mb, h1, h2⟩ := I.mod.blt
  exact Calls.Name_function_global I.ok.kind hg (Calls.loadGlobal_builtin (by rw [I.ok.glob]; exact I.mod.glob.keeps I.bk) hm (by rw [I.ok.blt]; exact h1.keeps I.bk) ((h2 x hn).trans hv) h) hd
/-- a module's constant, a class, a function, as a value -/
theorem pe_glob {x : Str} {v : V} {u : Value} {pos : Pos} (hg : Gl X x) (hm : X.mg x = some u) (r : RelV v u) (hd : (x == ("__debug__" : Str)) = false := by decide) : PE X (.Name x pos) (tC v) :=
  fun _ _ _ H _ I h => ld_glob I hg hm ⟨v, H, I, r, h⟩ hd
theorem pe_bltn {x : Str} {v : V} {u : Value} {pos : Pos} (hg : Gl X x) (hm : X.mg x = none) (hv : bootBuiltins x = some u) (r : RelV v u) (hn : x ≠ "__name__" := by decide) (hd : (x == ("__debug__" : Str)) = false := by decide) : PE X (.Name x pos) (tC v) :=
  fun _ _ _ H _ I h => ld_blt I hg hm hv ⟨v, H, I, r, h⟩ hn hd

/-! ### arithmetic -/
variable {a b : Expr} {ta tb : TE} {pos : Pos}
/-! ### comparisons -/
def PC (X : Cx) (op : CmpOp) (a b : Expr) (t : TE) : Prop :=
  ∀ (pins : List (Addr × Obj)) (s : Shared) (σ : St) (H : Hp) (Q : VK), Inv X pins σ H s → t σ H Q →
    wpAny (model X.prog X.w) X.A (eval a X.env) (fun v s₁ => wpAny (model X.prog X.w) X.A (eval b X.env) (fun u s₂ => wpAny (model X.prog X.w) X.A (compareOp op v u) (EP X pins σ Q) X.xe s₂) X.xe s₁) X.xe s
/-- a comparison as a value, as a test -/
def tB (t : TE) : TT := fun σ H Q => t σ H fun x H1 => ∃ c, x = .bl c ∧ Q c H1
theorem pt_cmp {op : CmpOp} {t : TE} (h : PC X op a b t) (h1 : behindInMarks op b = false := by first | exact nobehind _ (by decide) (by decide) | rfl) : PT X (.Compare a [op] [b] pos) (tB t) := by
  intro pins s σ H Q I hw
  refine wpAny_isTrue_Compare1 (thn (h pins s σ H _ I hw) fun v s1 h1 => thn h1 fun u s2 h2 => thn h2 fun c s3 ⟨x, H1, I1, r1, q1⟩ => ?_) h1
  obtain ⟨d, rfl, q⟩ := q1
  cases r1
  exact wpAny_truthy_bool ⟨H1, I1, q⟩
/-- an expression whose value is a bool, as a test -/
theorem pt_val {e : Expr} {t : TE} (h : PE X e t) (he : ∀ whole, isTrue e X.env whole = (do let v ← whole; standAt e.pos; holding [v] (truthy v)) := by intro _; rfl) : PT X e (tB t) := by
  intro pins s σ H Q I hw
  refine isTrue_plain (thn (h pins s σ H _ I hw) fun v s1 ⟨x, H1, I1, r1, q1⟩ => ?_) (he _)
  obtain ⟨d, rfl, q⟩ := q1
  cases r1
  exact wpAny_truthy_bool ⟨H1, I1, q⟩

/-! ### and, or, not -/
variable {tA tB' : TT} {rest : List Expr}
def tAnd (t u : TT) : TT := fun σ H Q => t σ H fun c H1 => if c = true then u σ H1 Q else Q false H1
def tOr (t u : TT) : TT := fun σ H Q => t σ H fun c H1 => if c = true then Q true H1 else u σ H1 Q
def tNot (t : TT) : TT := fun σ H Q => t σ H fun c H1 => Q (!c) H1
theorem pw_and1 (ha : PT X a tA) : PW X (.BoolOp .And [a] pos) tA := by
  intro wh pins s σ H Q I h
  refine isTrue_and (thn (ha pins s σ H Q I h) fun c s1 e => ?_)
  cases c with
  | true => exact isTrue_and_nil e
  | false => exact e
theorem pw_or1 (ha : PT X a tA) : PW X (.BoolOp .Or [a] pos) tA := by
  intro wh pins s σ H Q I h
  refine isTrue_or (thn (ha pins s σ H Q I h) fun c s1 e => ?_)
  cases c with
  | false => exact isTrue_or_nil e
  | true => exact e
theorem pw_and (ha : PT X a tA) (hb : PW X (.BoolOp .And (b :: rest) pos) tB') : PW X (.BoolOp .And (a :: b :: rest) pos) (tAnd tA tB') := by
  intro wh pins s σ H Q I h
  refine isTrue_and (thn (ha pins s σ H _ I h) fun c s1 ⟨H1, I1, q1⟩ => ?_)
  cases c with
  | true => exact hb wh pins s1 σ H1 Q I1 q1
  | false => exact ⟨H1, I1, q1⟩
theorem pw_or (ha : PT X a tA) (hb : PW X (.BoolOp .Or (b :: rest) pos) tB') : PW X (.BoolOp .Or (a :: b :: rest) pos) (tOr tA tB') := by
  intro wh pins s σ H Q I h
  refine isTrue_or (thn (ha pins s σ H _ I h) fun c s1 ⟨H1, I1, q1⟩ => ?_)
  cases c with
  | true => exact ⟨H1, I1, q1⟩
  | false => exact hb wh pins s1 σ H1 Q I1 q1
theorem pt_not (ha : PT X a tA) : PT X (.UnaryOp .Not a pos) (tNot tA) := by
  intro pins s σ H Q I h
  exact isTrue_not (ha pins s σ H (fun c H1 => Q (!c) H1) I h)
/-- .. as values (bools) -/
def tAndV (ta tb : TE) : TE := fun σ H Q => ta σ H fun x H1 => ∃ c, x = .bl c ∧ if c = true then tb σ H1 Q else Q (.bl false) H1
def tNotV (ta : TE) : TE := fun σ H Q => ta σ H fun x H1 => ∃ c, x = .bl c ∧ Q (.bl (!c)) H1
theorem pe_one {op} {t : TE} (h : PE X a t) : PE X (.BoolOp op [a] pos) t := fun pins s σ H Q I hw => BoolOp_one (h pins s σ H Q I hw)
theorem pe_and (ha : PE X a ta) (hb : PE X (.BoolOp .And (b :: rest) pos) tb) : PE X (.BoolOp .And (a :: b :: rest) pos) (tAndV ta tb) := by
  intro pins s σ H Q I h
  refine BoolOp_and (thn (ha pins s σ H _ I h) fun v s1 ⟨x, H1, I1, r1, q1⟩ => ?_)
  obtain ⟨c, rfl, q1⟩ := q1
  cases r1
  refine wpAny_truthy_bool ?_
  cases c with
  | true => exact hb pins s1 σ H1 Q I1 q1
  | false => exact ⟨.bl false, H1, I1, rfl, q1⟩
theorem pe_not (ha : PE X a ta) : PE X (.UnaryOp .Not a pos) (tNotV ta) := by
  intro pins s σ H Q I h
  refine UnaryOp_ (thn (ha pins s σ H _ I h) fun v s1 ⟨x, H1, I1, r1, q1⟩ => ?_)
  obtain ⟨c, rfl, q1⟩ := q1
  cases r1
  exact not_of (wpAny_truthy_bool ⟨.bl (!c), H1, I1, rfl, q1⟩)
end
end L2

namespace L2
open PySem PySem.Spec PyProof.Rows

/-! ### a list, a tuple that is read: tracked, frozen, or an object of the module -/
def SqL (K : PySem.W.Frag) (H : Hp) (a : Addr) (xs : List V) : Prop :=
  Rd H a (.lst xs) ∨
    ∃ (o : Obj) (its : Array Value) (n : Nat), K.lookup a = some o ∧ o.cls = .type "list" ∧ o.dict = none ∧ o.data = .seq its n ∧ its.size ≤ sizeLine ∧ Vals xs its.toList
def SqT (K : PySem.W.Frag) (H : Hp) (a : Addr) (xs : List V) : Prop :=
  Rd H a (.tup xs) ∨
    ∃ (o : Obj) (its : Array Value) (n : Nat), K.lookup a = some o ∧ o.cls = .type "tuple" ∧ o.data = .seq its n ∧ its.size ≤ sizeLine ∧ Vals xs its.toList
def absV : Value → Option V
  | .none => some .non
  | .bool b => some (.bl b)
  | .int i _ => some (.int i)
  | .str x _ => some (.str x)
  | .bytes b _ => some (.byt b)
  | .float b _ => some (.flt b)
  | .ref a => some (.ref a)
  | .type n => some (.ty n)
  | _ => none
theorem RelV.abs {x : V} {u : Value} (r : RelV x u) : absV u = some x := by
  cases x with
  | non => cases r; rfl
  | bl _ => cases r; rfl
  | int _ => obtain ⟨t, rfl⟩ := r; rfl
  | str _ => obtain ⟨t, rfl⟩ := r; rfl
  | byt _ => obtain ⟨t, rfl⟩ := r; rfl
  | flt _ => obtain ⟨t, rfl⟩ := r; rfl
  | ref _ => cases r; rfl
  | ty _ => cases r; rfl
theorem RelV.inj {x y : V} {u : Value} (r : RelV x u) (q : RelV y u) : x = y := Option.some.inj (r.abs.symm.trans q.abs)
theorem Vals.inj : ∀ {xs ys : List V} {us : List Value}, Vals xs us → Vals ys us → xs = ys
  | _, _, _, .nil, .nil => rfl
  | _, _, _, .cons r t, .cons r' t' => by rw [r.inj r', Vals.inj t t']
section
variable {X : Cx} {pins : List (Addr × Obj)} {σ : St} {H : Hp} {s : Shared} {a : Addr} {xs ys : List V}
theorem SqL.of {K : PySem.W.Frag} (h : H a = some (.lst xs)) : SqL K H a xs := .inl (.inl h)
theorem SqT.of {K : PySem.W.Frag} (h : H a = some (.tup xs)) : SqT K H a xs := .inl (.inl h)
theorem Inv.list (I : Inv X pins σ H s) (h : SqL X.K H a xs) : ∃ its : List Value, Vals xs its ∧ PlainL s.heap a its.toArray ∧ xs.length ≤ sizeLine := by
  rcases h with h | ⟨o, its, n, hk, hc, hd, hs, hz, r⟩
  · obtain ⟨z, its, n, r, e⟩ := h.ok I.hok
    exact ⟨its, r, ⟨_, n, e, rfl, rfl, rfl⟩, z⟩
  · refine ⟨its.toList, r, ⟨o, n, I.kIn a o hk, hc, hd, by simpa using hs⟩, ?_⟩
    have e := r.length
    simp only [Array.length_toList] at e
    omega
theorem Inv.tuple (I : Inv X pins σ H s) (h : SqT X.K H a xs) : ∃ its : List Value, Vals xs its ∧ IsTup s.heap a its.toArray ∧ xs.length ≤ sizeLine := by
  rcases h with h | ⟨o, its, n, hk, hc, hs, hz, r⟩
  · obtain ⟨z, its, r, p⟩ := h.ok I.hok
    exact ⟨its, r, p, z⟩
  · refine ⟨its.toList, r, ⟨o, I.kIn a o hk, hc, n, by simpa using hs⟩, ?_⟩
    have e := r.length
    simp only [Array.length_toList] at e
    omega
theorem Inv.list_inj (I : Inv X pins σ H s) (h : SqL X.K H a xs) (h' : SqL X.K H a ys) : xs = ys := by
  obtain ⟨its, r, ⟨o, n, e, _, _, d⟩, _⟩ := I.list h
  obtain ⟨its', r', ⟨o', n', e', _, _, d'⟩, _⟩ := I.list h'
  rw [e] at e'; cases e'
  rw [d] at d'
  injection d' with d1 _
  have : its = its' := by simpa using congrArg Array.toList d1
  subst this
  exact r.inj r'
theorem Inv.tuple_inj (I : Inv X pins σ H s) (h : SqT X.K H a xs) (h' : SqT X.K H a ys) : xs = ys := by
  obtain ⟨its, r, ⟨o, e, _, n, d⟩, _⟩ := I.tuple h
  obtain ⟨its', r', ⟨o', e', _, n', d'⟩, _⟩ := I.tuple h'
  rw [e] at e'; cases e'
  rw [d] at d'
  injection d' with d1 _
  have : its = its' := by simpa using congrArg Array.toList d1
  subst this
  exact r.inj r'
end

/-! ### another wish about exceptions -/
abbrev Cx.wish (X : Cx) (E : Value → Shared → Prop) : Cx := { X with xe := E }
/-- no exception leaves -/
abbrev Cx.nox (X : Cx) : Cx := X.wish fun _ _ => False
theorem Cx.Ok.wish {X : Cx} (ok : X.Ok) (E : Value → Shared → Prop) : (X.wish E).Ok :=
  ⟨ok.mod, ok.kind, ok.glob, ok.blt, ok.above, ok.inj, ok.has, ok.cab, ok.hd, ok.frames, ok.stk, ok.exf, ok.bs, ok.bsz, ok.noex, ok.exfs, ok.funs, ok.frf⟩
theorem Cx.Ok.unwish {X : Cx} {E : Value → Shared → Prop} (ok : (X.wish E).Ok) : X.Ok :=
  ⟨ok.mod, ok.kind, ok.glob, ok.blt, ok.above, ok.inj, ok.has, ok.cab, ok.hd, ok.frames, ok.stk, ok.exf, ok.bs, ok.bsz, ok.noex, ok.exfs, ok.funs, ok.frf⟩
section
variable {X : Cx} {pins : List (Addr × Obj)} {σ : St} {H : Hp} {s : Shared} {E : Value → Shared → Prop}
theorem Inv.wish (I : Inv X pins σ H s) (E : Value → Shared → Prop) : Inv (X.wish E) pins σ H s := ⟨I.ok.wish E, I.os, I.bare, I.base, I.loc, I.cell, I.free, I.freeC, I.pin, I.hok, I.len⟩
theorem Inv.unwish (I : Inv (X.wish E) pins σ H s) : Inv X pins σ H s := ⟨I.ok.unwish, I.os, I.bare, I.base, I.loc, I.cell, I.free, I.freeC, I.pin, I.hok, I.len⟩
theorem SP.unwish {D : Ends} {f : Flow} {s' : Shared} (h : SP (X.wish E) pins D f s') : SP X pins D f s' := by
  cases f with
  | next => obtain ⟨σ', H', I, q⟩ := h; exact ⟨σ', H', I.unwish, q⟩
  | brk => obtain ⟨σ', H', I, q⟩ := h; exact ⟨σ', H', I.unwish, q⟩
  | cont => obtain ⟨σ', H', I, q⟩ := h; exact ⟨σ', H', I.unwish, q⟩
  | ret u => obtain ⟨v, σ', H', I, r, q⟩ := h; exact ⟨v, σ', H', I.unwish, r, q⟩
theorem PSs.nox {st : List Stmt} {t : TS} (h : PSs X.nox st t) : PSs X st t := fun pins s σ H D I hw =>
  wpAny_mono (h pins s σ H D (I.wish _) hw) (fun _ _ q => q.unwish) fun _ _ z => False.elim z
end

/-! ### blocks and small statements -/
section
variable {X : Cx} {st : Stmt} {rest : List Stmt} {t u : TS} {e : Expr} {te : TE} {pos : Pos}
def tNext : TS := fun D σ H => D.nx σ H
def tSeq (t u : TS) : TS := fun D σ H => t { D with nx := u D } σ H
theorem pss_nil : PSs X [] tNext := fun _ _ σ H _ I h => wpAny_execs_nil ⟨σ, H, I, h⟩
theorem pss_cons (h1 : PS X st t) (h2 : PSs X rest u) : PSs X (st :: rest) (tSeq t u) := by
  intro pins s σ H D I h
  refine wpAny_execs_cons (thn (h1 pins s σ H { D with nx := u D } I h) fun f s1 q => ?_)
  cases f with
  | next =>
    obtain ⟨σ', H', I', q⟩ := q
    exact h2 pins s1 σ' H' D I' q
  | ret v => exact q
  | brk => exact q
  | cont => exact q
theorem pss_one (h1 : PS X st t) : PSs X [st] t := by
  intro pins s σ H D I h
  refine wpAny_execs_cons (thn (h1 pins s σ H D I h) fun f s1 q => ?_)
  cases f with
  | next => exact wpAny_execs_nil q
  | ret v => exact q
  | brk => exact q
  | cont => exact q
/-- in a def's body nothing is shown -/
theorem Inv.quiet {pins : List (Addr × Obj)} {σ : St} {H : Hp} {s : Shared} (I : Inv X pins σ H s) : interactive X.env = false := by simp [interactive, I.ok.kind]
/-- an expression whose value is dropped -/
def tDrop (te : TE) : TS := fun D σ H => te σ H fun _ H1 => D.nx σ H1
theorem ps_expr (he : PE X e te) (hs : swapsWith e none pos.line X.env = pure false := by rfl) : PS X (.Expr e pos) (tDrop te) := by
  intro pins s σ H D I h
  exact wpAny_Expr_any (thn (he pins s σ H _ I h) fun v s1 ⟨x, H1, I1, r1, q1⟩ => ⟨σ, H1, I1, q1⟩) I.quiet hs
def tRet (te : TE) : TS := fun D σ H => te σ H D.rt
theorem ps_ret (he : PE X e te) : PS X (.Return (some e) pos) (tRet te) := by
  intro pins s σ H D I h
  exact wpAny_Return_some (thn (he pins s σ H _ I h) fun v s1 ⟨x, H1, I1, r1, q1⟩ => ⟨x, σ, H1, I1, r1, q1⟩)
def tIfS (c : TT) (t u : TS) : TS := fun D σ H => c σ H fun b H1 => if b = true then t D σ H1 else u D σ H1
theorem ps_if {c : Expr} {a b : List Stmt} {tc : TT} (hc : PT X c tc) (ha : PSs X a t) (hb : PSs X b u) : PS X (.If c a b pos) (tIfS tc t u) := by
  intro pins s σ H D I h
  refine wpAny_If (thn (hc pins s σ H _ I h) fun d s1 ⟨H1, I1, q1⟩ => ?_)
  cases d with
  | true => exact ha pins s1 σ H1 D I1 q1
  | false => exact hb pins s1 σ H1 D I1 q1
end

/-! ### targets -/
abbrev TG := V → St → Hp → (St → Hp → Prop) → Prop
abbrev TGs := List V → St → Hp → (St → Hp → Prop) → Prop
def PG (X : Cx) (target : Expr) (t : TG) : Prop :=
  ∀ (pins : List (Addr × Obj)) (s : Shared) (σ : St) (H : Hp) (v : V) (u : Value) (Q : St → Hp → Prop), Inv X pins σ H s → RelV v u → t v σ H Q →
    wpAny (model X.prog X.w) X.A (assign target X.env u) (fun _ s' => ∃ σ' H', Inv X pins σ' H' s' ∧ Q σ' H') X.xe s
/-- several targets, one after another -/
def PGs (X : Cx) (ts : List Expr) (t : TGs) : Prop :=
  ∀ (pins : List (Addr × Obj)) (s : Shared) (σ : St) (H : Hp) (vs : List V) (us : List Value) (Q : St → Hp → Prop), Inv X pins σ H s → Vals vs us → t vs σ H Q →
    wpAny (model X.prog X.w) X.A (assignInOrder ((assignEach ts X.env).map (·.2)) us) (fun _ s' => ∃ σ' H', Inv X pins σ' H' s' ∧ Q σ' H') X.xe s
/-- o[i] = v, by values -/
abbrev TSet := V → V → V → Hp → (Hp → Prop) → Prop
def PSet (X : Cx) (t : TSet) : Prop :=
  ∀ (pins : List (Addr × Obj)) (s : Shared) (σ : St) (H : Hp) (o i v : V) (ov iv u : Value) (Q : Hp → Prop), Inv X pins σ H s → RelV o ov → RelV i iv → RelV v u → t o i v H Q →
    wpAny (model X.prog X.w) X.A (setItem ov iv u) (fun _ s' => ∃ H', Inv X pins σ H' s' ∧ Q H') X.xe s
section
variable {X : Cx} {pos : Pos}
def gName (i : Nat) : TG := fun v σ H Q => Q (σ.set i (some v)) H
theorem pg_name {i : Nat} {x : Str} (hN : X.N.Nodup) (hi : X.N[i]? = some x) (hx : Loc X.env.scope x) (hf : X.fn x = true ∨ X.env.scope.names.lookup x = some .local := by first | exact .inl rfl | exact .inr rfl | assumption) : PG X (.Name x pos) (gName i) := by
  intro pins s σ H v u Q I r h
  exact wpAny_assign_Name (store_ok I hN hi hx r (fun s' I' => ⟨_, H, I', h⟩) hf)
def gNil : TGs := fun vs σ H Q => vs = [] ∧ Q σ H
def gCons (t : TG) (u : TGs) : TGs := fun vs σ H Q => ∃ v r, vs = v :: r ∧ t v σ H fun σ' H' => u r σ' H' Q
theorem pgs_nil : PGs X [] gNil := by
  intro pins s σ H vs us Q I r h
  obtain ⟨e, h⟩ := h
  subst e
  cases r
  exact assignInOrder_nil ⟨σ, H, I, h⟩
theorem pgs_cons {e : Expr} {es : List Expr} {t : TG} {u : TGs} (h1 : PG X e t) (h2 : PGs X es u)
    (hs : (assignEach (e :: es) X.env).map (·.2) = assign e X.env :: (assignEach es X.env).map (·.2) := by rfl) : PGs X (e :: es) (gCons t u) := by
  intro pins s σ H vs us Q I r h
  obtain ⟨v, vr, e1, h⟩ := h
  subst e1
  cases r with
  | cons r rr =>
    rw [hs]
    refine assignInOrder_cons (thn (h1 pins s σ H _ _ _ I r h) fun _ s1 ⟨σ1, H1, I1, q1⟩ => ?_)
    exact h2 pins s1 σ1 H1 _ _ Q I1 rr q1
/-- (a, b, ..) = a tuple of that length -/
def gTup (K : PySem.W.Frag) (n : Nat) (t : TGs) : TG := fun v σ H Q => ∃ a xs, v = .ref a ∧ SqT K H a xs ∧ xs.length = n ∧ t xs σ H Q
theorem pg_tup {es : List Expr} {k : Nat} {t : TGs} {n : Nat} (hc : X.calm = true) (h : PGs X es t)
    (hn : (assignEach es X.env).length = n := by rfl) (hst : (assignEach es X.env).findIdx? (·.1) = none := by rfl) : PG X (.Tuple es k pos) (gTup X.K n t) := by
  intro pins s σ H v u Q I r hw
  obtain ⟨a, xs, e1, hq, hl, hw⟩ := hw
  subst e1
  cases r
  obtain ⟨its, rv, ht, hz⟩ := I.tuple hq
  refine assign_Tuple_tuple (I.ok.hd hc) ht (by simp [hn, ← hl, rv.length]) hst fun h' hx => ?_
  have I1 : Inv X pins σ H { s with heap := h' } := I.kept (t' := s.toks) fun b o e => hx b o (Nat.ne_of_lt (Heap.lt_size e)) e
  exact h pins _ σ H xs _ Q I1 (by simpa using rv) hw
/-- o[i] = .. -/
def gSub (to ti : TE) (t : TSet) : TG := fun v σ H Q => to σ H fun o H1 => ti σ H1 fun i H2 => t o i v H2 fun H3 => Q σ H3
theorem pg_sub {o i : Expr} {to ti : TE} {t : TSet} (ho : PE X o to) (hi : PE X i ti) (hs : PSet X t)
    (ha : ∀ v, assign (.Subscript o i pos) X.env v = (do
      let ov ← holding [v] (eval o X.env)
      let iv ← holding [v, ov] (eval i X.env)
      standAt pos
      holding [v, ov, iv] (setItem ov iv v)
      release [v, ov, iv] []) := by intro _; rfl) : PG X (.Subscript o i pos) (gSub to ti t) := by
  intro pins s σ H v u Q I r h
  rw [ha]
  refine wpAny_bind (wpAny_holding (thn (ho pins s σ H _ I h) fun ov s1 ⟨x, H1, I1, r1, q1⟩ => ?_))
  refine wpAny_bind (wpAny_holding (thn (hi pins s1 σ H1 _ I1 q1) fun iv s2 ⟨y, H2, I2, r2, q2⟩ => ?_))
  refine wpAny_bind (wpAny_standAt (wpAny_bind (wpAny_holding (thn (hs pins s2 σ H2 x y v ov iv u _ I2 r1 r2 r q2) fun _ s3 ⟨H3, I3, q3⟩ => ?_))))
  exact wpAny_release ⟨σ, H3, I3, q3⟩
/-- target = value -/
def tAsg (te : TE) (g : TG) : TS := fun D σ H => te σ H fun x H1 => g x σ H1 D.nx
theorem ps_asg {tg e : Expr} {te : TE} {g : TG} (he : PE X e te) (hg : PG X tg g) (hs : swapsWithSole [tg] e pos.line X.env = pure false := by rfl) (hw : swappedStores [tg] e X.env = pure none := by rfl)
    (h1 : (assignEach [tg] X.env).map (·.2) = [assign tg X.env] := by rfl) : PS X (.Assign [tg] e pos) (tAsg te g) := by
  intro pins s σ H D I h
  refine wpAny_Assign_stores (thn (he pins s σ H _ I h) fun v s1 ⟨x, H1, I1, r1, q1⟩ => ?_) hs hw
  rw [h1]
  exact thn (hg pins s1 σ H1 x v _ I1 r1 q1) fun _ s2 q => q
/-- name = value -/
theorem ps_set {i : Nat} {x : Str} {e : Expr} {te : TE} {pos' : Pos} (hN : X.N.Nodup) (hi : X.N[i]? = some x) (hx : Loc X.env.scope x) (he : PE X e te) (hs : swapsWith e (some (.Name x pos')) pos.line X.env = pure false := by rfl) (hf : X.fn x = true ∨ X.env.scope.names.lookup x = some .local := by first | exact .inl rfl | exact .inr rfl | assumption) :
    PS X (.Assign [.Name x pos'] e pos) (tAsg te (gName i)) := by
  intro pins s σ H D I h
  refine wpAny_Assign_Name (thn (he pins s σ H _ I h) fun v s1 ⟨y, H1, I1, r1, q1⟩ => ?_) hs
  exact store_ok I1 hN hi hx r1 (fun s2 I2 => ⟨_, H1, I2, q1⟩) hf
end

/-! ### while -/
section
variable {X : Cx} {pos : Pos}
end

/-! ### what a loop or a comprehension walks -/
/-- at turn i: it yields x (the heap may grow), or it stops -/
structure It where
  go : Nat → Hp → Prop
  yld : Nat → Hp → V → Hp → Prop
  stop : Nat → Hp → Prop
/-- the iterator's own objects may turn: they are not the frame's, not pinned, younger than the entry (or a comprehension's own) -/
def FpOk (X : Cx) (pins : List (Addr × Obj)) (H : Hp) (b : Addr) : Prop :=
  H b = none ∧ b ≠ X.env.locals ∧ b ∉ X.fs ∧ (b ∈ X.ex ∨ X.s₀.heap.objs.size ≤ b) ∧ (∀ x c, X.env.cells.lookup x = some c → c ≠ b) ∧ ∀ p ∈ X.pn ++ pins, p.1 ≠ b
theorem Inv.fpOk {X : Cx} {pins : List (Addr × Obj)} {σ : St} {H H' : Hp} {s : Shared} {b : Addr} (I : Inv X pins σ H s) (hb : s.heap.objs.size ≤ b) (hn : H' b = none) : FpOk X pins H' b := by
  refine ⟨hn, Nat.ne_of_gt (Nat.lt_of_lt_of_le I.lt hb), I.nofs hb, .inr (Nat.le_trans I.sz hb), fun x c e z => ?_, fun p hp z => ?_⟩
  · obtain ⟨v, q⟩ := I.cell x c e
    exact absurd (Nat.lt_of_lt_of_le q.lt (by rw [z]; exact hb)) (Nat.lt_irrefl _)
  · exact absurd (Nat.lt_of_lt_of_le (Heap.lt_size (I.pin p hp).1) (by rw [z]; exact hb)) (Nat.lt_irrefl _)
/-- what is handled stands with no context -/
def HandQ (X : Cx) (s : Shared) : Prop := ∃ (ea : Addr) (o : Obj) (vs : Array Value), X.A.handled = some (.ref ea) ∧ s.heap.get? ea = some o ∧ o.data = .fields vs ∧ vs[2]? = some .none
/-- where an iterator may end: nothing is handled; hb: or what is handled has no context -/
def EndQ (hb : Bool) (X : Cx) (s : Shared) : Prop := X.A.handled = none ∨ (hb = true ∧ HandQ X s)
theorem EndQ.none {X : Cx} {s : Shared} (h : EndQ false X s) : X.A.handled = Option.none := by
  rcases h with h | ⟨z, _⟩
  · exact h
  · cases z
structure Turn (P : Program) (w : World) (K : PySem.W.Frag) (tg : Expr) (J : It) (fp : List Addr) (it : Addr) (tn : Nat → Heap → Prop) (hb : Bool := false) : Prop where
  mem : it ∈ fp
  obj : ∀ i h, tn i h → ∀ b ∈ fp, ∃ o, h.get? b = some o ∧ ∀ v, o.data ≠ .cell v
  keep : ∀ i h h', tn i h → (∀ b ∈ fp, ∀ o, h.get? b = some o → h'.get? b = some o) → tn i h'
  item : ∀ (X : Cx), X.prog = P → X.w = w → X.K = K → ∀ (s : Shared), EndQ hb X s → ∀ (i : Nat) (pins : List (Addr × Obj)) (σ : St) (H : Hp) (E : Value → Shared → Prop), Inv X pins σ H s → (∀ b ∈ fp, FpOk X pins H b) → tn i s.heap → J.go i H →
    wpAny (model P w) X.A (pyNext (.ref it)) (fun r s1 => ∃ u, r = some u ∧
      wpAny (model P w) X.A (letOwnedTupleGo tg (.ref it) u) (fun _ s2 => ∃ x H', Inv X pins σ H' s2 ∧ RelV x u ∧ J.yld i H x H' ∧ tn (i + 1) s2.heap ∧ ∀ b ∈ fp, H' b = none) E s1) E s
  done : ∀ (X : Cx), X.prog = P → X.w = w → X.K = K → ∀ (s : Shared), EndQ hb X s → ∀ (i : Nat) (pins : List (Addr × Obj)) (σ : St) (H : Hp) (E : Value → Shared → Prop), Inv X pins σ H s → (∀ b ∈ fp, FpOk X pins H b) → tn i s.heap → J.stop i H →
    wpAny (model P w) X.A (pyNext (.ref it)) (fun r s1 => r = none ∧ Inv X pins σ H s1) E s
  self : ∀ (A : Around) (i : Nat) (s : Shared) (Q : Value → Shared → Prop) (E : Value → Shared → Prop), tn i s.heap → Q (.ref it) s → wpAny (model P w) A (pyIter (.ref it)) Q E s
abbrev TI := St → Hp → (It → Hp → Prop) → Prop
/-- an iterator has come -/
def PIE (X : Cx) (pins : List (Addr × Obj)) (σ : St) (tg : Expr) (R : It → Hp → Prop) (hb : Bool) (itv : Value) (s2 : Shared) : Prop :=
  ∃ (it : Addr) (fp : List Addr) (tn : Nat → Heap → Prop) (J : It) (H' : Hp), itv = .ref it ∧ Inv X pins σ H' s2 ∧ Turn X.prog X.w X.K tg J fp it tn hb ∧ tn 0 s2.heap ∧ (∀ b ∈ fp, FpOk X pins H' b) ∧ R J H'
def PI (X : Cx) (tg iter : Expr) (wi : TI) (hb : Bool := false) : Prop :=
  ∀ (pins : List (Addr × Obj)) (s : Shared) (σ : St) (H : Hp) (R : It → Hp → Prop), Inv X pins σ H s → wi σ H R →
    wpAny (model X.prog X.w) X.A (eval iter X.env) (fun v s1 => wpAny (model X.prog X.w) X.A (pyIter v) (PIE X pins σ tg R hb) X.xe s1) X.xe s

/-- the step ahead of the store is nothing for an iterator that keeps no tuple -/
theorem go_of {M : Model} {A : Around} {E : Value → Shared → Prop} {s : Shared} {tg : Expr} {it : Addr} {u : Value} {o : Obj} {n : String} {vs : Array Value} {Q : Unit → Shared → Prop} (ho : s.heap.get? it = some o) (hc : o.cls = .type n) (hd : o.data = .fields vs)
    (hn : ["enumerate", "zip", "dict_itemiterator", "dict_reverseitemiterator", "odict_iterator", "itertools.zip_longest", "itertools.pairwise"].contains n = false) (hQ : Q () s) : wpAny M A (letOwnedTupleGo tg (.ref it) u) Q E s := by
  unfold letOwnedTupleGo
  cases tg <;> first
    | exact wpAny_pure hQ
    | (cases u <;> first
        | exact wpAny_pure hQ
        | (refine wpAny_bind (wpAny_load ho ?_)
           rw [hc, hd]
           show wpAny M A (if (["enumerate", "zip", "dict_itemiterator", "dict_reverseitemiterator", "odict_iterator", "itertools.zip_longest", "itertools.pairwise"].contains n && vs[0]? == some (rawInt _)) = true then _ else _) Q E s
           rw [if_neg (by intro h; rw [hn, Bool.false_and] at h; cases h)]
           exact wpAny_pure hQ))

/-- the list at a, as it stands at each turn (a loop may append to it) -/
def Itl (K : PySem.W.Frag) (a : Addr) : It :=
  ⟨fun i H => ∃ xs x, SqL K H a xs ∧ xs[i]? = some x, fun i H x H' => H' = H ∧ ∀ xs, SqL K H a xs → xs[i]? = some x, fun i H => ∃ xs, SqL K H a xs ∧ xs.length ≤ i⟩
def Itt (K : PySem.W.Frag) (a : Addr) : It :=
  ⟨fun i H => ∃ xs x, SqT K H a xs ∧ xs[i]? = some x, fun i H x H' => H' = H ∧ ∀ xs, SqT K H a xs → xs[i]? = some x, fun i H => ∃ xs, SqT K H a xs ∧ xs.length ≤ i⟩
/-- lo, lo + 1, .. (n of them) -/
def Itr (lo : Int) (n : Nat) : It := ⟨fun i _ => i < n, fun i H x H' => H' = H ∧ x = .int (lo + i), fun i _ => n ≤ i⟩
theorem turn_list {P : Program} {w : World} {K : PySem.W.Frag} {tg : Expr} (a it : Addr) : Turn P w K tg (Itl K a) [it] it (fun i h => h.IsListIter it a i) where
  mem := by simp
  obj := fun i h st b hb => by
    have e : b = it := by simpa using hb
    subst e
    obtain ⟨o, e, c, d⟩ := st
    exact ⟨o, e, fun v z => by rw [d] at z; cases z⟩
  keep := fun i h h' st k => st.at fun o e => k it (by simp) o e
  item := by
    intro X hP hw hK s hc i pins σ H E I hf st hg
    subst hP hw hK
    obtain ⟨xs, x, hq, hx⟩ := hg
    obtain ⟨its, rv, p, hz⟩ := I.list hq
    obtain ⟨u, hu, ru⟩ := rv.get hx
    obtain ⟨f0, f1, f2, f3, f4, f5⟩ := hf it (by simp)
    refine wpAny_pyNext_list_item st p.isList (x := u) (by simpa using hu) fun h' st' sb => ?_
    have I1 : Inv X pins σ H { s with heap := h' } := I.turned (t' := s.toks) (fun b o hb e => (sb.2 b hb).trans e) f0 f1 f3 f4 f5
    obtain ⟨o, e, c, d⟩ := id st'
    exact ⟨u, rfl, go_of (s := { s with heap := h' }) e c d (by decide) ⟨x, H, I1, ru, ⟨rfl, fun ys hy => by rw [I.list_inj hy hq]; exact hx⟩, st', fun b hb => (hf b hb).1⟩⟩
  done := by
    intro X hP hw hK s hc i pins σ H E I hf st hg
    subst hP hw hK
    obtain ⟨xs, hq, hx⟩ := hg
    obtain ⟨its, rv, p, hz⟩ := I.list hq
    obtain ⟨f0, f1, f2, f3, f4, f5⟩ := hf it (by simp)
    have hl := rv.length
    exact wpAny_pyNext_list_end hc.none st p.isList (by simp; omega) fun h' eb => ⟨rfl, I.turned (t' := s.toks) (fun b o hb e => eb b o hb e) f0 f1 f3 f4 f5⟩
  self := fun _ _ _ _ _ st h => wpAny_pyIter_listiter st h
theorem turn_tuple {P : Program} {w : World} {K : PySem.W.Frag} {tg : Expr} (a it : Addr) : Turn P w K tg (Itt K a) [it] it (fun i h => h.IsTupleIter it a i) where
  mem := by simp
  obj := fun i h st b hb => by
    have e : b = it := by simpa using hb
    subst e
    obtain ⟨o, e, c, d⟩ := st
    exact ⟨o, e, fun v z => by rw [d] at z; cases z⟩
  keep := fun i h h' st k => st.at fun o e => k it (by simp) o e
  item := by
    intro X hP hw hK s hc i pins σ H E I hf st hg
    subst hP hw hK
    obtain ⟨xs, x, hq, hx⟩ := hg
    obtain ⟨its, rv, p, hz⟩ := I.tuple hq
    obtain ⟨u, hu, ru⟩ := rv.get hx
    obtain ⟨f0, f1, f2, f3, f4, f5⟩ := hf it (by simp)
    refine wpAny_pyNext_tuple_item st (show s.heap.IsTuple a its.toArray from p) (x := u) (by simpa using hu) fun h' st' sb => ?_
    have I1 : Inv X pins σ H { s with heap := h' } := I.turned (t' := s.toks) (fun b o hb e => (sb.2 b hb).trans e) f0 f1 f3 f4 f5
    obtain ⟨o, e, c, d⟩ := id st'
    exact ⟨u, rfl, go_of (s := { s with heap := h' }) e c d (by decide) ⟨x, H, I1, ru, ⟨rfl, fun ys hy => by rw [I.tuple_inj hy hq]; exact hx⟩, st', fun b hb => (hf b hb).1⟩⟩
  done := by
    intro X hP hw hK s hc i pins σ H E I hf st hg
    subst hP hw hK
    obtain ⟨xs, hq, hx⟩ := hg
    obtain ⟨its, rv, p, hz⟩ := I.tuple hq
    obtain ⟨f0, f1, f2, f3, f4, f5⟩ := hf it (by simp)
    have hl := rv.length
    exact wpAny_pyNext_tuple_end hc.none st (show s.heap.IsTuple a its.toArray from p) (by simp; omega) fun h' eb => ⟨rfl, I.turned (t' := s.toks) (fun b o hb e => eb b o hb e) f0 f1 f3 f4 f5⟩
  self := fun _ _ _ _ _ st h => wpAny_pyIter_tupleiter st h
section
variable {prog : Program} {w : World} {A : Around} {E : Value → Shared → Prop} {s : Shared} {e ea it : Addr} {o oe : Obj} {us vs : Array Value}
theorem ent_unchain : entryFor table "proto.unchain" = some Builtin.«proto.unchain» := entryFor_of_tree (by kernel_rfl)
/-- a new exception is raised while another one is handled, which has no context -/
theorem raise_hand {α : Type} {Q : α → Shared → Prop} (hh : A.handled = some (.ref ea)) (hea : s.heap.get? ea = some oe) (hd : oe.data = .fields vs) (h2 : vs[2]? = some .none) (he : s.heap.get? e = some o) (hde : o.data = .fields us) (hsz : 2 < us.size) (hne : ea ≠ e)
    (hE : E (.ref e) { s with heap := s.heap.update e (Obj.mapFields (·.setIfInBounds 2 (.ref ea))) }) : wpAny (model prog w) A (raiseNew (.ref e) : Sem α) Q E s := by
  have n : (Value.ref ea != Value.ref e) = true := by simp [hne]
  unfold raiseNew
  refine wpAny_bind (wpAny_handled ?_)
  rw [hh]
  show wpAny _ _ (if (Value.ref ea != Value.ref e) = true then _ else _) _ _ _
  rw [if_pos n]
  refine wpAny_bind (wpAny_holding (wpAny_runValue (codeAny_builtin ent_unchain ?_)))
  show wpAny _ _ (field (.ref ea) 2 >>= _) _ _ _
  refine wpAny_bind (wpAny_field hea hd h2 ?_)
  show wpAny _ _ (if (Value.none == Value.none) = true then _ else _) _ _ _
  rw [if_pos (show (Value.none == Value.none) = true from rfl)]
  refine wpAny_pure ?_
  exact wpAny_bind (wpAny_setField he hde hsz (wpAny_throw hE))
/-- a range's end, while an exception is handled -/
theorem range_end_hand {x left step : Int} {Q : Option Value → Shared → Prop} (hh : A.handled = some (.ref ea)) (hea : s.heap.get? ea = some oe) (hd : oe.data = .fields vs) (h2 : vs[2]? = some .none) (hit : IsRangeIter s.heap it x left step) (hleft : left ≤ 0)
    (hQ : ∀ h', Heap.ExtBut it s.heap h' → Q none { s with heap := h' }) : wpAny (model prog w) A (pyNext (.ref it)) Q E s := by
  have hT : s.TypeIs (.ref it) "range_iterator" := ⟨_, hit, rfl⟩
  have lt := Heap.lt_size hea
  unfold pyNext; refine wpAny_bind (wpAny_attempt (wpAny_callSpecial?_slot (name := Str.ofString "__next__") hT F.slot_range_iterator_next (wpAny_call_entry F.slot_range_iterator_next hT F.entry_range_iterator_next ?_ (F.args_range_iterator_next_1 _))))
  show wpAny _ _ (field (.ref it) 0 >>= _) _ _ s; refine wpAny_bind (wpAny_field hit rfl (x := rawInt x) rfl ?_); show wpAny _ _ (field (.ref it) 1 >>= _) _ _ s; refine wpAny_bind (wpAny_field hit rfl (x := rawInt left) rfl ?_)
  show wpAny _ _ (field (.ref it) 2 >>= _) _ _ s; refine wpAny_bind (wpAny_field hit rfl (x := rawInt step) rfl ?_); show wpAny _ _ (if left ≤ 0 then _ else _) _ _ s; rw [if_pos hleft]
  refine wpAny_bind (wpAny_rule (wpAny_bind ?_)); show wpAny _ _ (newExc (.type "StopIteration") [] >>= _) _ _ _; refine wpAny_bind ?_; simp only [newExc, newTuple]
  refine wpAny_bind (wpAny_newObj_type ?_ (by size_fits)); refine wpAny_bind (m := firstArgMember _ _) (wpAny_of_eq (a := Value.none) (by first | rfl | (simp only [firstArgMember]; rfl)) ?_); refine wpAny_newObj_type ?_ (by size_fits)
  refine raise_hand (oe := oe) (vs := vs) (by first | exact hh | exact (show A.in1.handled = _ from hh)) (Heap.get?_push_of_some _ (Heap.get?_push_of_some _ hea)) hd h2 (Heap.get?_push_size _ rfl) rfl (by simp; omega) (Nat.ne_of_lt (by rw [Heap.size_push]; exact Nat.lt_succ_of_lt lt)) ?_
  refine wpAny_bind (wpAny_isInstance (T := "StopIteration") (b := true) ⟨_, Heap.get?_update_self _ (Heap.get?_push_size _ rfl) rfl, rfl⟩ isSubtype_stop ?_)
  refine wpAny_pure (hQ _ fun b ob hb q => ?_)
  rw [Heap.get?_update_other _ _ (Nat.ne_of_gt (by rw [Heap.size_push]; exact Nat.lt_succ_of_lt (Heap.lt_size q)))]
  exact Heap.get?_push_of_some _ (Heap.get?_push_of_some _ q)
end
theorem turn_range {P : Program} {w : World} {K : PySem.W.Frag} {tg : Expr} (it : Addr) (lo : Int) (n : Nat) {hb : Bool} : Turn P w K tg (Itr lo n) [it] it (fun i h => IsRangeIter h it (lo + (i : Nat) * 1) ((n : Int) - (i : Nat)) 1) hb where
  mem := by simp
  obj := fun i h st b hb => by
    have e : b = it := by simpa using hb
    subst e
    exact ⟨_, st, fun v z => by
      have z' : Data.fields _ = Data.cell v := z
      cases z'⟩
  keep := fun i h h' st k => k it (by simp) _ st
  item := by
    intro X hP hw hK s hc i pins σ H E I hf st hg
    subst hP hw hK
    obtain ⟨f0, f1, f2, f3, f4, f5⟩ := hf it (by simp)
    have hi : i < n := hg
    refine wpAny_pyNext_range_item st (by omega) fun h' st' sb => ?_
    have I1 : Inv X pins σ H { s with heap := h', toks := s.toks + 1 } := I.turned (fun b o hb e => (sb.2 b hb).trans e) f0 f1 f3 f4 f5
    have e1 : lo + ((i : Nat) : Int) * 1 + 1 = lo + ((i + 1 : Nat) : Int) * 1 := by omega
    have e2 : (n : Int) - ((i : Nat) : Int) - 1 = (n : Int) - ((i + 1 : Nat) : Int) := by omega
    rw [e1, e2] at st'
    refine ⟨_, rfl, go_of (s := { s with heap := h', toks := s.toks + 1 }) (n := "range_iterator") st' rfl rfl (by decide) ⟨.int (lo + i), H, I1, ⟨s.toks, ?_⟩, ⟨rfl, rfl⟩, st', fun b hb => (hf b hb).1⟩⟩
    rw [Int.mul_one]
  done := by
    intro X hP hw hK s hc i pins σ H E I hf st hg
    subst hP hw hK
    obtain ⟨f0, f1, f2, f3, f4, f5⟩ := hf it (by simp)
    have hi : (n : Int) - ((i : Nat) : Int) ≤ 0 := by have : n ≤ i := hg; omega
    rcases hc with hc | ⟨_, ea, o, vs, h1, h2, h3, h4⟩
    · exact wpAny_pyNext_range_end hc st hi fun h' eb => ⟨rfl, I.turned (t' := s.toks) (fun b o hb e => eb b o hb e) f0 f1 f3 f4 f5⟩
    · exact range_end_hand h1 h2 h3 h4 st hi fun h' eb => ⟨rfl, I.turned (t' := s.toks) (fun b o hb e => eb b o hb e) f0 f1 f3 f4 f5⟩
  self := fun _ _ _ _ _ st h => wpAny_pyIter_rangeiter st h
end L2

namespace L2
open PySem PySem.Spec PyProof.Rows
section
variable {X : Cx} {tg : Expr}
def iList (K : PySem.W.Frag) (tl : TE) : TI := fun σ H R => tl σ H fun x H1 => ∃ a, x = .ref a ∧ (∃ xs, SqL K H1 a xs) ∧ R (Itl K a) H1
def iTup (K : PySem.W.Frag) (tl : TE) : TI := fun σ H R => tl σ H fun x H1 => ∃ a, x = .ref a ∧ (∃ xs, SqT K H1 a xs) ∧ R (Itt K a) H1
theorem pi_list {l : Expr} {tl : TE} (hl : PE X l tl) : PI X tg l (iList X.K tl) := by
  intro pins s σ H R I h
  refine thn (hl pins s σ H _ I h) fun v s1 ⟨x, H1, I1, r1, q1⟩ => ?_
  obtain ⟨a, e, ⟨xs, hq⟩, q⟩ := q1
  subst e
  cases r1
  obtain ⟨its, rv, p, hz⟩ := I1.list hq
  refine wpAny_pyIter_list p.isList ?_
  refine ⟨s1.heap.objs.size, [s1.heap.objs.size], _, _, H1, rfl, I1.kept (t' := s1.toks) fun b o e => Heap.get?_push_of_some _ e, turn_list a _, ⟨_, Heap.get?_push_size _ rfl, rfl, rfl⟩, fun b hb => ?_, q⟩
  have e : b = s1.heap.objs.size := by simpa using hb
  subst e
  exact I1.fpOk (Nat.le_refl _) (I1.hok.fresh (Nat.le_refl _))
theorem pi_tup {l : Expr} {tl : TE} (hl : PE X l tl) : PI X tg l (iTup X.K tl) := by
  intro pins s σ H R I h
  refine thn (hl pins s σ H _ I h) fun v s1 ⟨x, H1, I1, r1, q1⟩ => ?_
  obtain ⟨a, e, ⟨xs, hq⟩, q⟩ := q1
  subst e
  cases r1
  obtain ⟨its, rv, p, hz⟩ := I1.tuple hq
  refine wpAny_pyIter_tuple (show s1.heap.IsTuple a its.toArray from p) ?_
  refine ⟨s1.heap.objs.size, [s1.heap.objs.size], _, _, H1, rfl, I1.kept (t' := s1.toks) fun b o e => Heap.get?_push_of_some _ e, turn_tuple a _, ⟨_, Heap.get?_push_size _ rfl, rfl, rfl⟩, fun b hb => ?_, q⟩
  have e : b = s1.heap.objs.size := by simpa using hb
  subst e
  exact I1.fpOk (Nat.le_refl _) (I1.hok.fresh (Nat.le_refl _))
/-- a range object just made, walked -/
theorem range_it {hb : Bool} {pins : List (Addr × Obj)} {σ : St} {H : Hp} {s : Shared} {R : It → Hp → Prop} {E : Value → Shared → Prop} {lo hi : Int} {t u v : Tok} {tk : Nat} (I : Inv X pins σ H s) (h1 : -(2 ^ 62) ≤ lo) (h2 : lo < 2 ^ 62) (h3 : -(2 ^ 62) ≤ hi) (h4 : hi < 2 ^ 62)
    (q : R (Itr lo (hi - lo).toNat) H) : wpAny (model X.prog X.w) X.A (pyIter (.ref s.heap.objs.size)) (PIE X pins σ tg R hb) E { s with heap := s.heap.push { cls := .type "range", data := .fields #[.int lo t, .int hi u, .int 1 v] }, toks := tk } := by
  refine wpAny_pyIter_range (IsRange.new ..) (small_one h1 h2 h3 h4) ?_
  have I1 : Inv X pins σ H { s with heap := s.heap.push { cls := .type "range", data := .fields #[.int lo t, .int hi u, .int 1 v] }, toks := tk } := I.kept fun b o e => Heap.get?_push_of_some _ e
  refine ⟨(s.heap.push { cls := .type "range", data := .fields #[.int lo t, .int hi u, .int 1 v] }).objs.size, [(s.heap.push { cls := .type "range", data := .fields #[.int lo t, .int hi u, .int 1 v] }).objs.size], _, _, H, rfl,
    I1.kept (t' := tk) fun b o e => Heap.get?_push_of_some _ e, turn_range _ lo (hi - lo).toNat, ?_, fun b hb => ?_, q⟩
  · have e1 : lo + ((0 : Nat) : Int) * 1 = lo := by simp
    have e2 : (((hi - lo).toNat : Nat) : Int) - ((0 : Nat) : Int) = Builtin.Range.rangeSize lo hi 1 := by rw [rangeSize_one]; split <;> omega
    show IsRangeIter _ _ (lo + ((0 : Nat) : Int) * 1) ((((hi - lo).toNat : Nat) : Int) - ((0 : Nat) : Int)) 1
    rw [e1, e2]
    exact Heap.get?_push_size _ rfl
  · have e : b = (s.heap.push { cls := .type "range", data := .fields #[.int lo t, .int hi u, .int 1 v] }).objs.size := by simpa using hb
    subst e
    exact I1.fpOk (Nat.le_refl _) (I1.hok.fresh (Nat.le_refl _))
def iRng1 (ta : TA) : TI := fun σ H R => ta σ H fun vs H1 => ∃ j : Int, vs = [.int j] ∧ -(2 ^ 62) ≤ j ∧ j < 2 ^ 62 ∧ R (Itr 0 j.toNat) H1
def iRng2 (ta : TA) : TI := fun σ H R => ta σ H fun vs H1 => ∃ i j : Int, vs = [.int i, .int j] ∧ (-(2 ^ 62) ≤ i ∧ i < 2 ^ 62 ∧ -(2 ^ 62) ≤ j ∧ j < 2 ^ 62) ∧ R (Itr i (j - i).toNat) H1
theorem pi_range1 {hb : Bool} {a : Expr} {ta : TA} {p pos : Pos} (hg : Gl X "range") (hm : X.mg "range" = none) (ha : PA X [a] ta) (hs : starEach [a] X.env = [(false, eval a X.env)] := by rfl) : PI X tg (.Call (.Name "range" p) [a] [] pos) (iRng1 ta) hb := by
  intro pins s σ H R I h
  refine Call_ (ld_blt I hg hm boot_range (PyProof.Rows.callWith_type1 (thn (ha pos pins s σ H _ I h) fun us s1 ⟨vs, H1, I1, r1, q1⟩ => ?_) hs rfl))
  obtain ⟨j, e, q1, q2, q⟩ := q1
  subst e
  cases r1 with
  | cons r rr =>
    cases rr
    obtain ⟨t, rfl⟩ := r
    exact call_range_1 (range_it I1 (by omega) (by omega) q1 q2 (by simpa using q))
theorem pi_range2 {hb : Bool} {a b : Expr} {ta : TA} {p pos : Pos} (hg : Gl X "range") (hm : X.mg "range" = none) (ha : PA X [a, b] ta) (hs : starEach [a, b] X.env = [(false, eval a X.env), (false, eval b X.env)] := by rfl) (hs2 : starEach [b] X.env = [(false, eval b X.env)] := by rfl) :
    PI X tg (.Call (.Name "range" p) [a, b] [] pos) (iRng2 ta) hb := by
  intro pins s σ H R I h
  refine Call_ (ld_blt I hg hm boot_range (PyProof.Rows.callWith_type1 (thn (ha pos pins s σ H _ I h) fun us s1 ⟨vs, H1, I1, r1, q1⟩ => ?_) (by rw [hs, hs2]) (by rw [hs2]; rfl)))
  obtain ⟨i, j, e, ⟨q1, q2, q3, q4⟩, q⟩ := q1
  subst e
  cases r1 with
  | cons r rr =>
    cases rr with
    | cons r' rr =>
      cases rr
      obtain ⟨t, rfl⟩ := r
      obtain ⟨t', rfl⟩ := r'
      exact call_range_2 (range_it I1 q1 q2 q3 q4 q)

/-! ### for -/
/-- W: the invariant by the turn and a measure; N: what the body is to reach -/
def tFor (wi : TI) (g : TG) (tb : TS) : TS := fun D σ H => wi σ H fun J H1 => ∃ W : Nat → Nat → St → Hp → Prop, (∃ m, W 0 m σ H1) ∧ ∀ i m σ H, W i m σ H →
  (J.stop i H ∧ D.nx σ H) ∨ (J.go i H ∧ ∃ N : St → Hp → Prop, (∀ σ' H', N σ' H' → ∃ m', m' < m ∧ W (i + 1) m' σ' H') ∧ ∀ x H', J.yld i H x H' → g x σ H' fun σ2 H2 => tb { D with nx := N, ct := N, bk := D.nx } σ2 H2)
/-- the records at fp as they stand -/
def pinsAt (fp : List Addr) (h : Heap) : List (Addr × Obj) := fp.filterMap fun b => (h.get? b).map fun o => (b, o)
theorem mem_pinsAt {fp : List Addr} {h : Heap} {b : Addr} {o : Obj} (hb : b ∈ fp) (e : h.get? b = some o) : (b, o) ∈ pinsAt fp h := List.mem_filterMap.mpr ⟨b, hb, by rw [e]; rfl⟩
theorem of_pinsAt {fp : List Addr} {h : Heap} {p : Addr × Obj} (hp : p ∈ pinsAt fp h) : p.1 ∈ fp ∧ h.get? p.1 = some p.2 := by
  obtain ⟨b, hb, e⟩ := List.mem_filterMap.mp hp
  cases q : h.get? b with
  | none => rw [q] at e; cases e
  | some o =>
    rw [q] at e
    have e' : (b, o) = p := Option.some.inj e
    subst e'
    exact ⟨hb, q⟩
theorem Inv.pinned {pins : List (Addr × Obj)} {σ : St} {H : Hp} {s : Shared} {fp : List Addr} (I : Inv X pins σ H s) (hf : ∀ b ∈ fp, FpOk X pins H b) (ho : ∀ b ∈ fp, ∃ o, s.heap.get? b = some o ∧ ∀ v, o.data ≠ .cell v) : Inv X (pins ++ pinsAt fp s.heap) σ H s :=
  I.pins_of fun p hp => (List.mem_append.mp hp).elim (fun z => I.pin p (List.mem_append_right _ z)) fun z => by
    obtain ⟨hb, e⟩ := of_pinsAt z
    obtain ⟨f0, f1, f2, _⟩ := hf p.1 hb
    obtain ⟨o, e', d⟩ := ho p.1 hb
    rw [e] at e'; cases e'
    exact ⟨e, f0, f1, f2, d⟩
theorem Inv.unpinned {pins pl : List (Addr × Obj)} {σ : St} {H : Hp} {s : Shared} (I : Inv X (pins ++ pl) σ H s) : Inv X pins σ H s := I.pins_of fun p hp => I.pin p (List.mem_append_right _ (List.mem_append_left _ hp))
theorem ps_for {iter : Expr} {body : List Stmt} {wi : TI} {g : TG} {tb : TS} {pos : Pos} (hp : PassesOwn (model X.prog X.w) X.A X.env X.xe) (hc : X.calm = true) (hi : PI X tg iter wi) (hg : PG X tg g) (hb : PSs X body tb)
    (hs : ∀ x, foldedSetIterable iter X.env x = pure x := by intro _; rfl) : PS X (.For tg iter body [] pos) (tFor wi g tb) := by
  intro pins s σ H D I h
  refine wpAny_For (thn (hi pins s σ H _ I h) fun v s1 h1 => thn h1 fun itv s2 h2 => ?_) hs
  obtain ⟨it, fp, tn, J, H2, e, I2, T, st2, f2, W, ⟨m0, w0⟩, turn⟩ := h2
  subst e
  -- what stays true of the iterator's objects through the loop
  have stat : ∀ {H' : Hp}, (∀ b ∈ fp, H' b = none) → ∀ b ∈ fp, FpOk X pins H' b := fun hn b hb => ⟨hn b hb, (f2 b hb).2⟩
  refine codeAny_forLoop_any (fun n s' => ∃ i σ' H', Inv X pins σ' H' s' ∧ tn i s'.heap ∧ (∀ b ∈ fp, H' b = none) ∧ W i n σ' H') ?_ m0 ⟨0, σ, H2, I2, st2, fun b hb => (f2 b hb).1, w0⟩
  rintro n s3 ⟨i, σ3, H3, I3, st3, fr3, w3⟩
  rcases turn i n σ3 H3 w3 with ⟨stop, qn⟩ | ⟨go, N, hN, step⟩
  · refine wpAny_passesOwn hp (thn (T.done X rfl rfl rfl s3 (.inl (I3.ok.hd hc)) i pins σ3 H3 X.xe I3 (stat fr3) st3 stop) fun r s4 ⟨hr, I4⟩ => ?_)
    subst hr
    exact wpAny_execs_nil ⟨σ3, H3, I4, qn⟩
  · refine wpAny_passesOwn hp (thn (T.item X rfl rfl rfl s3 (.inl (I3.ok.hd hc)) i pins σ3 H3 X.xe I3 (stat fr3) st3 go) fun r s4 ⟨u, hr, h4⟩ => ?_)
    subst hr
    refine wpAny_passesOwn hp (thn h4 fun _ s5 ⟨x, H5, I5, r5, y5, st5, fr5⟩ => ?_)
    have I5' := I5.pinned (stat fr5) (T.obj _ _ st5)
    refine wpAny_passesOwn hp (thn (hg _ s5 σ3 H5 x u _ I5' r5 (step x H5 y5)) fun _ s6 ⟨σ6, H6, I6, q6⟩ => ?_)
    refine wpAny_passesOwn hp (thn (hb _ s6 σ6 H6 _ I6 q6) fun f s7 q7 => ?_)
    have again : ∀ {σ7 : St} {H7 : Hp}, Inv X (pins ++ pinsAt fp s5.heap) σ7 H7 s7 → N σ7 H7 → ∃ m, m < n ∧ ∃ i σ' H', Inv X pins σ' H' s7 ∧ tn i s7.heap ∧ (∀ b ∈ fp, H' b = none) ∧ W i m σ' H' := fun {σ7 H7} I7 n7 => by
      obtain ⟨m', hm, w7⟩ := hN σ7 H7 n7
      refine ⟨m', hm, i + 1, σ7, H7, I7.unpinned, T.keep _ _ _ st5 fun b hb o e => (I7.pin (b, o) (List.mem_append_right _ (List.mem_append_right _ (mem_pinsAt hb e)))).1, fun b hb => ?_, w7⟩
      obtain ⟨o, e, d⟩ := T.obj _ _ st5 b hb
      exact (I7.pin (b, o) (List.mem_append_right _ (List.mem_append_right _ (mem_pinsAt hb e)))).2.1
    cases f with
    | next => obtain ⟨σ7, H7, I7, n7⟩ := q7; exact again I7 n7
    | cont => obtain ⟨σ7, H7, I7, n7⟩ := q7; exact again I7 n7
    | brk => obtain ⟨σ7, H7, I7, q7⟩ := q7; exact ⟨σ7, H7, I7.unpinned, q7⟩
    | ret v => obtain ⟨x7, σ7, H7, I7, r7, q7⟩ := q7; exact ⟨x7, σ7, H7, I7.unpinned, r7, q7⟩
end

/-! ### the forms one uses -/
/-- over a list that the body leaves as it is -/
theorem for_list {K : PySem.W.Frag} {a : Addr} {xs : List V} {g : TG} {tb : TS} {D : Ends} {σ : St} {H : Hp} (Pv : Nat → St → Hp → Prop) (h0 : Pv 0 σ H) (hl : ∀ i σ H, i ≤ xs.length → Pv i σ H → SqL K H a xs)
    (hs : ∀ i x σ H, xs[i]? = some x → Pv i σ H → g x σ H fun σ2 H2 => tb { D with nx := Pv (i + 1), ct := Pv (i + 1), bk := D.nx } σ2 H2) (hd : ∀ σ H, Pv xs.length σ H → D.nx σ H) :
    ∃ W : Nat → Nat → St → Hp → Prop, (∃ m, W 0 m σ H) ∧ ∀ i m σ H, W i m σ H →
      ((Itl K a).stop i H ∧ D.nx σ H) ∨ ((Itl K a).go i H ∧ ∃ N : St → Hp → Prop, (∀ σ' H', N σ' H' → ∃ m', m' < m ∧ W (i + 1) m' σ' H') ∧ ∀ x H', (Itl K a).yld i H x H' → g x σ H' fun σ2 H2 => tb { D with nx := N, ct := N, bk := D.nx } σ2 H2) := by
  refine ⟨fun i m σ H => m = xs.length - i ∧ i ≤ xs.length ∧ Pv i σ H, ⟨xs.length, by simp, Nat.zero_le _, h0⟩, ?_⟩
  rintro i m σ H ⟨rfl, hi, p⟩
  have q := hl i σ H hi p
  by_cases hlt : i < xs.length
  · refine .inr ⟨⟨xs, xs[i], q, by simp [hlt]⟩, Pv (i + 1), fun σ' H' p' => ⟨xs.length - (i + 1), by omega, rfl, hlt, p'⟩, fun x H' y => ?_⟩
    obtain ⟨e, y⟩ := y
    subst e
    exact hs i x σ _ (y xs q) p
  · have e : i = xs.length := by omega
    subst e
    exact .inl ⟨⟨xs, q, Nat.le_refl _⟩, hd σ H p⟩
theorem for_tup {K : PySem.W.Frag} {a : Addr} {xs : List V} {g : TG} {tb : TS} {D : Ends} {σ : St} {H : Hp} (Pv : Nat → St → Hp → Prop) (h0 : Pv 0 σ H) (hl : ∀ i σ H, i ≤ xs.length → Pv i σ H → SqT K H a xs)
    (hs : ∀ i x σ H, xs[i]? = some x → Pv i σ H → g x σ H fun σ2 H2 => tb { D with nx := Pv (i + 1), ct := Pv (i + 1), bk := D.nx } σ2 H2) (hd : ∀ σ H, Pv xs.length σ H → D.nx σ H) :
    ∃ W : Nat → Nat → St → Hp → Prop, (∃ m, W 0 m σ H) ∧ ∀ i m σ H, W i m σ H →
      ((Itt K a).stop i H ∧ D.nx σ H) ∨ ((Itt K a).go i H ∧ ∃ N : St → Hp → Prop, (∀ σ' H', N σ' H' → ∃ m', m' < m ∧ W (i + 1) m' σ' H') ∧ ∀ x H', (Itt K a).yld i H x H' → g x σ H' fun σ2 H2 => tb { D with nx := N, ct := N, bk := D.nx } σ2 H2) := by
  refine ⟨fun i m σ H => m = xs.length - i ∧ i ≤ xs.length ∧ Pv i σ H, ⟨xs.length, by simp, Nat.zero_le _, h0⟩, ?_⟩
  rintro i m σ H ⟨rfl, hi, p⟩
  have q := hl i σ H hi p
  by_cases hlt : i < xs.length
  · refine .inr ⟨⟨xs, xs[i], q, by simp [hlt]⟩, Pv (i + 1), fun σ' H' p' => ⟨xs.length - (i + 1), by omega, rfl, hlt, p'⟩, fun x H' y => ?_⟩
    obtain ⟨e, y⟩ := y
    subst e
    exact hs i x σ _ (y xs q) p
  · have e : i = xs.length := by omega
    subst e
    exact .inl ⟨⟨xs, q, Nat.le_refl _⟩, hd σ H p⟩
theorem for_range {lo : Int} {n : Nat} {g : TG} {tb : TS} {D : Ends} {σ : St} {H : Hp} (Pv : Nat → St → Hp → Prop) (h0 : Pv 0 σ H)
    (hs : ∀ i σ H, i < n → Pv i σ H → g (.int (lo + i)) σ H fun σ2 H2 => tb { D with nx := Pv (i + 1), ct := Pv (i + 1), bk := D.nx } σ2 H2) (hd : ∀ σ H, Pv n σ H → D.nx σ H) :
    ∃ W : Nat → Nat → St → Hp → Prop, (∃ m, W 0 m σ H) ∧ ∀ i m σ H, W i m σ H →
      ((Itr lo n).stop i H ∧ D.nx σ H) ∨ ((Itr lo n).go i H ∧ ∃ N : St → Hp → Prop, (∀ σ' H', N σ' H' → ∃ m', m' < m ∧ W (i + 1) m' σ' H') ∧ ∀ x H', (Itr lo n).yld i H x H' → g x σ H' fun σ2 H2 => tb { D with nx := N, ct := N, bk := D.nx } σ2 H2) := by
  refine ⟨fun i m σ H => m = n - i ∧ i ≤ n ∧ Pv i σ H, ⟨n, by simp, Nat.zero_le _, h0⟩, ?_⟩
  rintro i m σ H ⟨rfl, hi, p⟩
  by_cases hlt : i < n
  · refine .inr ⟨hlt, Pv (i + 1), fun σ' H' p' => ⟨n - (i + 1), by omega, rfl, hlt, p'⟩, fun x H' y => ?_⟩
    obtain ⟨e, y⟩ := y
    subst e y
    exact hs i σ _ hlt p
  · have e : i = n := by omega
    subst e
    exact .inl ⟨Nat.le_refl _, hd σ H p⟩
end L2

namespace L2
open PySem PySem.Spec PyProof.Rows

abbrev R2 := V → V → Hp → VK → Prop
/-- a two-place operation on values: f is binaryOp op, inplaceOp op or compareOp op -/
def OpR (X : Cx) (f : Value → Value → Sem Value) (r : R2) : Prop :=
  ∀ (pins : List (Addr × Obj)) (s : Shared) (σ : St) (H : Hp) (x y : V) (v u : Value) (Q : VK), Inv X pins σ H s → RelV x v → RelV y u → r x y H Q →
    wpAny (model X.prog X.w) X.A (f v u) (EP X pins σ Q) X.xe s
/-- a one-place operation -/
def UnR (X : Cx) (f : Value → Sem Value) (r : V → Hp → VK → Prop) : Prop :=
  ∀ (pins : List (Addr × Obj)) (s : Shared) (σ : St) (H : Hp) (x : V) (v : Value) (Q : VK), Inv X pins σ H s → RelV x v → r x H Q →
    wpAny (model X.prog X.w) X.A (f v) (EP X pins σ Q) X.xe s
/-- a call of a value that is known (a builtin, a type) with values -/
def CallR (X : Cx) (f : Value) (r : List V → Hp → VK → Prop) : Prop :=
  ∀ (pins : List (Addr × Obj)) (s : Shared) (σ : St) (H : Hp) (xs : List V) (us : List Value) (Q : VK), Inv X pins σ H s → Vals xs us → r xs H Q →
    wpAny (model X.prog X.w) X.A (call f us) (EP X pins σ Q) X.xe s
def tOp (r : R2) (ta tb : TE) : TE := fun σ H Q => ta σ H fun x H1 => tb σ H1 fun y H2 => r x y H2 Q
def tUn (r : V → Hp → VK → Prop) (ta : TE) : TE := fun σ H Q => ta σ H fun x H1 => r x H1 Q
/-- ints in, under C, and a value out -/
def rI (C : Int → Int → Prop) (g : Int → Int → V) : R2 := fun x y H Q => ∃ i j, x = .int i ∧ y = .int j ∧ C i j ∧ Q (g i j) H
def rI0 (g : Int → Int → V) : R2 := fun x y H Q => ∃ i j, x = .int i ∧ y = .int j ∧ Q (g i j) H
def rU (g : Int → V) : V → Hp → VK → Prop := fun x H Q => ∃ i, x = .int i ∧ Q (g i) H

section
variable {X : Cx} {a b c : Expr} {ta tb tc : TE} {pos : Pos}

theorem binT (ha : PE X a ta) (hb : PE X b tb) {pins : List (Addr × Obj)} {s : Shared} {σ : St} {H : Hp} {R : V → V → Hp → Prop} (I : Inv X pins σ H s)
    (h : ta σ H fun x H1 => tb σ H1 fun y H2 => R x y H2) {Q : Value → Shared → Prop} {f : Value → Value → Sem Value}
    (hf : ∀ v u s2 x y H2, Inv X pins σ H2 s2 → RelV x v → RelV y u → R x y H2 → wpAny (model X.prog X.w) X.A (f v u) Q X.xe s2) :
    wpAny (model X.prog X.w) X.A (eval a X.env) (fun v s₁ => wpAny (model X.prog X.w) X.A (eval b X.env) (fun u s₂ => wpAny (model X.prog X.w) X.A (f v u) Q X.xe s₂) X.xe s₁) X.xe s := by
  refine thn (ha pins s σ H _ I h) fun v s1 ⟨x, H1, I1, r1, q1⟩ => ?_
  refine thn (hb pins s1 σ H1 _ I1 q1) fun u s2 ⟨y, H2, I2, r2, q2⟩ => ?_
  exact hf v u s2 x y H2 I2 r1 r2 q2

theorem pe_op {op : Operator} {r : R2} (ho : OpR X (binaryOp op) r) (ha : PE X a ta) (hb : PE X b tb) : PE X (.BinOp a op b pos) (tOp r ta tb) := by
  intro pins s σ H Q I h
  exact wpAny_BinOp (binT ha hb I h fun v u s2 x y H2 I2 rx ry q => ho pins s2 σ H2 x y v u Q I2 rx ry q)
theorem pe_un {op : UnaryOp} {r : V → Hp → VK → Prop} (ho : UnR X (unaryOp op) r) (ha : PE X a ta) : PE X (.UnaryOp op a pos) (tUn r ta) := by
  intro pins s σ H Q I h
  exact UnaryOp_ (thn (ha pins s σ H _ I h) fun v s1 ⟨x, H1, I1, r1, q1⟩ => ho pins s1 σ H1 x v Q I1 r1 q1)
/-! ### ints -/
theorem opI {f : Value → Value → Sem Value} {C : Int → Int → Prop} {g : Int → Int → Int}
    (rule : ∀ (i j : Int) (t u : Tok) (s : Shared) (Q : Value → Shared → Prop) (E : Value → Shared → Prop), C i j → Q (.int (g i j) s.toks) { s with toks := s.toks + 1 } → wpAny (model X.prog X.w) X.A (f (.int i t) (.int j u)) Q E s) :
    OpR X f (rI C fun i j => .int (g i j)) := by
  intro pins s σ H x y v u Q I rx ry h
  obtain ⟨i, j, rfl, rfl, hc, q⟩ := h
  obtain ⟨t, rfl⟩ := rx
  obtain ⟨t', rfl⟩ := ry
  exact rule i j t t' s _ _ hc ⟨.int (g i j), H, I.tok _, ⟨_, rfl⟩, q⟩
theorem opI0 {f : Value → Value → Sem Value} {g : Int → Int → Int}
    (rule : ∀ (i j : Int) (t u : Tok) (s : Shared) (Q : Value → Shared → Prop) (E : Value → Shared → Prop), Q (.int (g i j) s.toks) { s with toks := s.toks + 1 } → wpAny (model X.prog X.w) X.A (f (.int i t) (.int j u)) Q E s) :
    OpR X f (rI0 fun i j => .int (g i j)) := by
  intro pins s σ H x y v u Q I rx ry h
  obtain ⟨i, j, rfl, rfl, q⟩ := h
  obtain ⟨t, rfl⟩ := rx
  obtain ⟨t', rfl⟩ := ry
  exact rule i j t t' s _ _ ⟨.int (g i j), H, I.tok _, ⟨_, rfl⟩, q⟩
theorem opB0 {f : Value → Value → Sem Value} {g : Int → Int → Bool}
    (rule : ∀ (i j : Int) (t u : Tok) (s : Shared) (Q : Value → Shared → Prop) (E : Value → Shared → Prop), Q (.bool (g i j)) s → wpAny (model X.prog X.w) X.A (f (.int i t) (.int j u)) Q E s) :
    OpR X f (rI0 fun i j => .bl (g i j)) := by
  intro pins s σ H x y v u Q I rx ry h
  obtain ⟨i, j, rfl, rfl, q⟩ := h
  obtain ⟨t, rfl⟩ := rx
  obtain ⟨t', rfl⟩ := ry
  exact rule i j t t' s _ _ ⟨.bl (g i j), H, I, rfl, q⟩

def CDiv (i j : Int) : Prop := 0 < j ∧ j < 1073741824
def CPow (i j : Int) : Prop := 0 ≤ j ∧ j ≤ 1000000 ∧ i.natAbs < 2 ^ 64
def CMul (i j : Int) : Prop := (-(2 ^ 64) < i ∧ i < 2 ^ 64) ∨ (-(2 ^ 64) < j ∧ j < 2 ^ 64)
theorem CMul.ok {i j : Int} (h : CMul i j) : IntMulOk i j := by
  rcases h with ⟨h1, h2⟩ | ⟨h1, h2⟩
  · exact .of_left (intBits_le_64 h1 h2)
  · exact .of_right (intBits_le_64 h1 h2)
theorem op_add : OpR X (binaryOp .Add) (rI0 fun i j => .int (i + j)) := opI0 fun _ _ _ _ _ _ _ q => add_int q
theorem op_sub : OpR X (binaryOp .Sub) (rI0 fun i j => .int (i - j)) := opI0 fun _ _ _ _ _ _ _ q => sub_int q
theorem op_mul : OpR X (binaryOp .Mult) (rI CMul fun i j => .int (i * j)) := opI fun _ _ _ _ _ _ _ hc q => mul_int q hc.ok
/-- // by a positive divisor -/
theorem op_fdiv : OpR X (binaryOp .FloorDiv) (rI CDiv fun i j => .int (i / j)) := opI fun i j _ _ _ _ _ hc q => by
  have h1 : (0 : Int) < j := hc.1
  have h2 : j < 1073741824 := hc.2
  exact floordiv_int (by omega) (by rw [Int.fdiv_eq_ediv_of_nonneg i (by omega)]; exact q) (.inl (PyProof.noPylong_small (by omega)))
/-- % by a positive divisor of any size -/
theorem op_mod : OpR X (binaryOp .Mod) (rI (fun _ j => 0 < j) fun i j => .int (i % j)) := opI fun i j _ _ _ _ _ hc q => by
  have h1 : (0 : Int) < j := hc
  exact mod_int' (by omega) (by rw [Int.fmod_eq_emod_of_nonneg i (by omega)]; exact q)
theorem op_pow : OpR X (binaryOp .Pow) (rI CPow fun i j => .int (i ^ j.toNat)) := opI fun _ _ _ _ _ _ _ hc q => pow_int_small hc.1 hc.2.1 hc.2.2 q
theorem unI {f : Value → Sem Value} {g : Int → Int}
    (rule : ∀ (i : Int) (t : Tok) (s : Shared) (Q : Value → Shared → Prop) (E : Value → Shared → Prop), Q (.int (g i) s.toks) { s with toks := s.toks + 1 } → wpAny (model X.prog X.w) X.A (f (.int i t)) Q E s) :
    UnR X f (rU fun i => .int (g i)) := by
  intro pins s σ H x v Q I rx h
  obtain ⟨i, rfl, q⟩ := h
  obtain ⟨t, rfl⟩ := rx
  exact rule i t s _ _ ⟨.int (g i), H, I.tok _, ⟨_, rfl⟩, q⟩
theorem un_neg : UnR X (unaryOp .USub) (rU fun i => .int (-i)) := unI fun _ _ _ _ _ q => neg_int q
/-! ### bools among ints: n += (a < b) -/
end

/-! ### comparisons -/
/-- the scalars that == tells apart as data does -/
def scal : V → V → Bool
  | .non, .non => true | .non, .int _ => true | .int _, .non => true | .non, .bl _ => true | .bl _, .non => true | .non, .str _ => true | .str _, .non => true
  | .int _, .int _ => true | .bl _, .bl _ => true | .str _, .str _ => true | .byt _, .byt _ => true
  | .int _, .str _ => true | .str _, .int _ => true | .bl _, .str _ => true | .str _, .bl _ => true
  | _, _ => false
def rEq : R2 := fun x y H Q => scal x y = true ∧ Q (.bl (decide (x = y))) H
def rNe : R2 := fun x y H Q => scal x y = true ∧ Q (.bl (!decide (x = y))) H

theorem dec_int {i j : Int} : decide (V.int i = V.int j) = (i == j) := by
  rw [Bool.eq_iff_iff]
  simp
theorem dec_bl {i j : Bool} : decide (V.bl i = V.bl j) = (i == j) := by
  rw [Bool.eq_iff_iff]
  simp
theorem dec_str {i j : Str} : decide (V.str i = V.str j) = (i == j) := by
  rw [Bool.eq_iff_iff]
  simp
theorem dec_byt {i j : Array UInt8} : decide (V.byt i = V.byt j) = (i.toList == j.toList) := by
  rw [Bool.eq_iff_iff]
  cases i
  cases j
  simp

section
variable {X : Cx} {a b c : Expr} {ta tb tc : TE} {pos : Pos}
theorem fin_bl {pins : List (Addr × Obj)} {σ : St} {H : Hp} {s : Shared} {Q : VK} {k k' : Bool} (I : Inv X pins σ H s) (q : Q (.bl k) H) (e : k = k') : EP X pins σ Q (.bool k') s := by
  subst e
  exact ⟨.bl k, H, I, rfl, q⟩
theorem op_eq : OpR X (compareOp .Eq) rEq := by
  intro pins s σ H x y v u Q I rx ry h
  obtain ⟨hs, q⟩ := h
  cases x with
  | non =>
    cases rx
    cases y with
    | non => cases ry; exact PySem.EqNone.eq_none_none (fin_bl I q (by simp))
    | bl j => cases ry; exact PySem.EqNone.eq_none_bool (fin_bl I q (by simp))
    | int j => obtain ⟨t', rfl⟩ := ry; exact PySem.EqNone.eq_none_int (fin_bl I q (by simp))
    | str j => obtain ⟨t', rfl⟩ := ry; exact PySem.EqNone.eq_none_str (fin_bl I q (by simp))
    | _ => exact absurd (show false = true from hs) Bool.false_ne_true
  | bl i =>
    cases rx
    cases y with
    | non => cases ry; exact PySem.EqNone.eq_bool_none (fin_bl I q (by simp))
    | bl j => cases ry; exact eq_bool (fin_bl I q dec_bl)
    | str j => obtain ⟨t', rfl⟩ := ry; exact PySem.EqMixed.eq_bool_str (fin_bl I q (by simp))
    | _ => exact absurd (show false = true from hs) Bool.false_ne_true
  | int i =>
    obtain ⟨t, rfl⟩ := rx
    cases y with
    | non => cases ry; exact PySem.EqNone.eq_int_none (fin_bl I q (by simp))
    | int j => obtain ⟨t', rfl⟩ := ry; exact eq_int (fin_bl I q dec_int)
    | str j => obtain ⟨t', rfl⟩ := ry; exact PySem.EqMixed.eq_int_str (fin_bl I q (by simp))
    | _ => exact absurd (show false = true from hs) Bool.false_ne_true
  | str i =>
    obtain ⟨t, rfl⟩ := rx
    cases y with
    | non => cases ry; exact PySem.EqNone.eq_str_none (fin_bl I q (by simp))
    | bl j => cases ry; exact PySem.EqMixed.eq_str_bool (fin_bl I q (by simp))
    | int j => obtain ⟨t', rfl⟩ := ry; exact PySem.EqMixed.eq_str_int (fin_bl I q (by simp))
    | str j => obtain ⟨t', rfl⟩ := ry; exact eq_str (fin_bl I q dec_str)
    | _ => exact absurd (show false = true from hs) Bool.false_ne_true
  | byt i =>
    obtain ⟨t, rfl⟩ := rx
    cases y with
    | byt j => obtain ⟨t', rfl⟩ := ry; exact PySem.W.eq_bytes (fin_bl I q dec_byt)
    | _ => exact absurd (show false = true from hs) Bool.false_ne_true
  | _ => cases y <;> exact absurd (show false = true from hs) Bool.false_ne_true
theorem op_ne : OpR X (compareOp .NotEq) rNe := by
  intro pins s σ H x y v u Q I rx ry h
  obtain ⟨hs, q⟩ := h
  cases x with
  | non =>
    cases rx
    cases y with
    | non => cases ry; exact PySem.EqNone.ne_none_none (fin_bl I q (by simp))
    | bl j => cases ry; exact PySem.EqNone.ne_none_bool (fin_bl I q (by simp))
    | int j => obtain ⟨t', rfl⟩ := ry; exact PySem.EqNone.ne_none_int (fin_bl I q (by simp))
    | str j => obtain ⟨t', rfl⟩ := ry; exact PySem.EqNone.ne_none_str (fin_bl I q (by simp))
    | _ => exact absurd (show false = true from hs) Bool.false_ne_true
  | bl i =>
    cases rx
    cases y with
    | non => cases ry; exact PySem.EqNone.ne_bool_none (fin_bl I q (by simp))
    | bl j => cases ry; exact ne_bool (fin_bl I q (congrArg not dec_bl))
    | str j => obtain ⟨t', rfl⟩ := ry; exact PySem.EqMixed.ne_bool_str (fin_bl I q (by simp))
    | _ => exact absurd (show false = true from hs) Bool.false_ne_true
  | int i =>
    obtain ⟨t, rfl⟩ := rx
    cases y with
    | non => cases ry; exact PySem.EqNone.ne_int_none (fin_bl I q (by simp))
    | int j => obtain ⟨t', rfl⟩ := ry; exact ne_int (fin_bl I q (congrArg not dec_int))
    | str j => obtain ⟨t', rfl⟩ := ry; exact PySem.EqMixed.ne_int_str (fin_bl I q (by simp))
    | _ => exact absurd (show false = true from hs) Bool.false_ne_true
  | str i =>
    obtain ⟨t, rfl⟩ := rx
    cases y with
    | non => cases ry; exact PySem.EqNone.ne_str_none (fin_bl I q (by simp))
    | bl j => cases ry; exact PySem.EqMixed.ne_str_bool (fin_bl I q (by simp))
    | int j => obtain ⟨t', rfl⟩ := ry; exact PySem.EqMixed.ne_str_int (fin_bl I q (by simp))
    | str j => obtain ⟨t', rfl⟩ := ry; exact ne_str (fin_bl I q (congrArg not dec_str))
    | _ => exact absurd (show false = true from hs) Bool.false_ne_true
  | byt i =>
    obtain ⟨t, rfl⟩ := rx
    cases y with
    | byt j => obtain ⟨t', rfl⟩ := ry; exact PySem.W.ne_bytes (fin_bl I q (congrArg not dec_byt))
    | _ => exact absurd (show false = true from hs) Bool.false_ne_true
  | _ => cases y <;> exact absurd (show false = true from hs) Bool.false_ne_true

theorem op_lt : OpR X (compareOp .Lt) (rI0 fun i j => .bl (decide (i < j))) := opB0 fun _ _ _ _ _ _ _ q => lt_int q
theorem op_le : OpR X (compareOp .LtE) (rI0 fun i j => .bl (decide (i ≤ j))) := opB0 fun _ _ _ _ _ _ _ q => le_int q
theorem op_gt : OpR X (compareOp .Gt) (rI0 fun i j => .bl (decide (j < i))) := opB0 fun _ _ _ _ _ _ _ q => gt_int q
theorem nomark (b : Expr) {op : CmpOp} (h : op ≠ .In := by decide) (h2 : op ≠ .NotIn := by decide) : behindInMarks op b = false := by
  have e1 : (op == CmpOp.In) = false := by cases op <;> first | rfl | exact absurd rfl h
  have e2 : (op == CmpOp.NotIn) = false := by cases op <;> first | rfl | exact absurd rfl h2
  cases b <;> simp [behindInMarks, e1, e2]
/-- a comparison as a value; hm: nomark b, or (for in, not in) by with_unfolding_all rfl -/
theorem pe_cmpR {op : CmpOp} {r : R2} (ho : OpR X (compareOp op) r) (ha : PE X a ta) (hb : PE X b tb) (hm : behindInMarks op b = false) : PE X (.Compare a [op] [b] pos) (tOp r ta tb) := by
  intro pins s σ H Q I h
  exact wpAny_Compare1 (binT ha hb I h fun v u s2 x y H2 I2 rx ry q => ho pins s2 σ H2 x y v u Q I2 rx ry q) hm
/-- a reading of a value as a test -/
def tTest (t : TE) : TT := fun σ H Q => t σ H fun x H' => ∃ k, x = .bl k ∧ Q k H'
theorem pt_cmpR {op : CmpOp} {r : R2} (ho : OpR X (compareOp op) r) (ha : PE X a ta) (hb : PE X b tb) (hm : behindInMarks op b = false) : PT X (.Compare a [op] [b] pos) (tTest (tOp r ta tb)) := by
  intro pins s σ H Q I h
  refine wpAny_isTrue_Compare1 (thn (ha pins s σ H _ I h) fun v s1 ⟨x, H1, I1, r1, q1⟩ => thn (hb pins s1 σ H1 _ I1 q1) fun u s2 ⟨y, H2, I2, r2, q2⟩ =>
    thn (ho pins s2 σ H2 x y v u _ I2 r1 r2 q2) fun c s3 ⟨z, H3, I3, r3, k, e, q3⟩ => ?_) hm
  subst e
  cases r3
  exact wpAny_truthy_bool ⟨H3, I3, q3⟩
/-- a op1 b op2 c -/
def tChain (r r' : R2) (ta tb tc : TE) : TE := fun σ H Q => ta σ H fun x H1 => tb σ H1 fun y H2 => r x y H2 fun z H3 => ∃ k, z = .bl k ∧
  (if k = true then tc σ H3 fun w' H4 => r' y w' H4 Q else Q (.bl false) H3)
theorem pe_chain {op op' : CmpOp} {r r' : R2} (ho : OpR X (compareOp op) r) (ho' : OpR X (compareOp op') r') (ha : PE X a ta) (hb : PE X b tb) (hc : PE X c tc)
    (hm : lastMarks [op, op'] [b, c] = false := by with_unfolding_all rfl) : PE X (.Compare a [op, op'] [b, c] pos) (tChain r r' ta tb tc) := by
  intro pins s σ H Q I h
  refine Compare_chain (thn (ha pins s σ H _ I h) fun v s1 ⟨x, H1, I1, r1, q1⟩ => chain_link (thn (hb pins s1 σ H1 _ I1 q1) fun u s2 ⟨y, H2, I2, r2, q2⟩ =>
    thn (ho pins s2 σ H2 x y v u _ I2 r1 r2 q2) fun d s3 ⟨z, H3, I3, r3, k, e, q3⟩ => ?_)) hm
  subst e
  cases r3
  refine wpAny_truthy_bool ?_
  cases k with
  | false => exact ite_ff ⟨.bl false, H3, I3, rfl, q3⟩
  | true => exact ite_tt (chain_last (thn (hc pins s3 σ H3 _ I3 q3) fun w' s4 ⟨z', H4, I4, r4, q4⟩ => ho' pins s4 σ H4 y z' u w' Q I4 r2 r4 q4))
/-! ### truth -/
theorem line63 : (sizeLine : Nat) < 2 ^ 63 := by rw [sizeLine_eq]; decide
/-! ### strs and bytes -/
/-! ### scalar builtins, by CallR -/
theorem vals1 {x : V} {us : List Value} (r : Vals [x] us) : ∃ u, us = [u] ∧ RelV x u := by
  cases r with
  | cons r1 r2 => cases r2; exact ⟨_, rfl, r1⟩
theorem vals2 {x y : V} {us : List Value} (r : Vals [x, y] us) : ∃ u w', us = [u, w'] ∧ RelV x u ∧ RelV y w' := by
  cases r with
  | cons r1 r2 =>
    cases r2 with
    | cons r3 r4 => cases r4; exact ⟨_, _, rfl, r1, r3⟩
theorem call_max2 (hc : X.calm = true) : CallR X (.builtin "max") (fun xs H Q => ∃ i j, xs = [.int i, .int j] ∧ Q (.int (if j > i then j else i)) H) := by
  intro pins s σ H xs us Q I r h
  obtain ⟨i, j, rfl, q⟩ := h
  obtain ⟨u, w', rfl, ⟨t, rfl⟩, ⟨t', rfl⟩⟩ := vals2 r
  refine max_two_ints (I.ok.hd hc) fun h' tk k => ⟨_, H, I.kept k, ?_, q⟩
  by_cases hj : j > i
  · rw [if_pos hj, if_pos hj]; exact ⟨_, rfl⟩
  · rw [if_neg hj, if_neg hj]; exact ⟨_, rfl⟩
theorem call_min2 (hc : X.calm = true) : CallR X (.builtin "min") (fun xs H Q => ∃ i j, xs = [.int i, .int j] ∧ Q (.int (if j < i then j else i)) H) := by
  intro pins s σ H xs us Q I r h
  obtain ⟨i, j, rfl, q⟩ := h
  obtain ⟨u, w', rfl, ⟨t, rfl⟩, ⟨t', rfl⟩⟩ := vals2 r
  refine min_two_ints (I.ok.hd hc) fun h' tk k => ⟨_, H, I.kept k, ?_, q⟩
  by_cases hj : j < i
  · rw [if_pos hj, if_pos hj]; exact ⟨_, rfl⟩
  · rw [if_neg hj, if_neg hj]; exact ⟨_, rfl⟩
end
end L2

namespace L2
open PySem PySem.Spec PyProof.Rows

/-! ### an instance, its attributes a map -/
structure ObjM (h : Heap) (x dx C : Addr) (mA : Str → Option Value) : Prop where
  obj : h.get? x = some (PySem.W.instObj C dx)
  ns : h.Ns1 dx mA
  ne : dx ≠ x

theorem lookIn_ns {h : Heap} {dx : Addr} {mA : Str → Option Value} (n : h.Ns1 dx mA) : ∃ od, h.get? dx = some od ∧ ∀ name, PySem.W.lookIn name od = some (mA name) := by
  obtain ⟨o, es, ep, ho, hd, hk, _, hm⟩ := n
  refine ⟨o, ho, fun name => ?_⟩
  have e := hm name
  unfold nsFind findBy at e
  rw [← Array.find?_toList] at e
  unfold PySem.W.lookIn
  rw [hd]
  dsimp only
  split
  · rename_i y q
    rw [q] at e
    exact congrArg some e
  · rename_i q
    rw [q] at e
    have a : es.toList.any (·.refKey) = false := by
      rw [List.any_eq_false]
      intro y hy
      obtain ⟨z, t, hkey⟩ := hk y (Array.mem_toList_iff.mp hy)
      simp [DictEntry.refKey, hkey]
    have a' : ¬ es.toList.any (·.refKey) = true := by rw [a]; exact Bool.false_ne_true
    rw [if_neg a']
    exact congrArg some e

theorem ObjM.look {h : Heap} {x dx C : Addr} {mA : Str → Option Value} (I : ObjM h x dx C mA) : ∃ od, PySem.W.InstAt h x (PySem.W.instObj C dx) C (some od) ∧ ∀ name, PySem.W.lookIn name od = some (mA name) :=
  let ⟨od, ho, hl⟩ := lookIn_ns I.ns
  ⟨od, ⟨I.obj, rfl, rfl, ho⟩, hl⟩

section
variable {prog : Program} {w : World} {A : Around} {E : Value → Shared → Prop} {s : Shared} {K : PySem.W.Frag} {x dx C f : Addr} {mA : Str → Option Value} {name : Str} {v : Value}

end

/-! ### the attributes as a list of pairs -/
theorem RelO.some_of {v : V} {o : Option Value} (r : RelO (some v) o) : ∃ u, o = some u ∧ RelV v u := by
  cases o with
  | none => exact (show False from r).elim
  | some u => exact ⟨u, rfl, r⟩
section
variable {P : Program} {w : World} {H H' : Hp} {h h' : Heap} {a C dx : Addr} {fs fs' : List (Str × V)}
theorem ins_get (hok : HOk P w H h) (e : H a = some (.ins C dx fs)) : ∃ mA, ObjM h a dx C mA ∧ (∀ f, RelO (fs.lookup f) (mA f)) ∧ PySem.Within mA (fs.map (·.1)) ∧ fs.length ≤ 1000 ∧ H dx = some (.own a) := by
  obtain ⟨d, z, ne, ob, mA, n, r, q⟩ := (show ObjOk P w H h a (.ins C dx fs) from hok a _ e)
  exact ⟨mA, ⟨ob, n, ne⟩, r, q, z, d⟩
end

/-! ### what of the text a class must have -/
structure Cls (K : PySem.W.Frag) (C : Addr) : Prop where
  pg : PySem.W.plainGet K C Str.empty = true
  hd : PySem.W.hasDictIn K C = true
  po : PySem.W.plainOver K C = true
  sa : PySem.W.findIn K (.ref C) "__setattr__" = some (some (.builtin "object.__setattr__"))
theorem Cls.get {K : PySem.W.Frag} {C : Addr} (c : Cls K C) (f : Str) : PySem.W.plainGet K C f = true := c.pg
section
variable {X : Cx} {pins : List (Addr × Obj)} {σ : St} {H : Hp} {s : Shared} {a C dx : Addr} {fs : List (Str × V)} {f : Str} {v : V} {A : Around} {E : Value → Shared → Prop}

end

/-! ### readings and rules -/
section
variable {X : Cx} {o e value : Expr} {f : Str} {pos pos' tpos : Pos} {ta tv : TE}
end

/-! ### isinstance -/
section
variable {X : Cx} {pins : List (Addr × Obj)} {σ : St} {H : Hp} {s : Shared} {A : Around} {E : Value → Shared → Prop} {Q : Value → Shared → Prop} {c : Value} {b : Bool}
/-- the type of a value, as the fragment's deciders take it; for an instance its class -/
inductive TyOf (K : PySem.W.Frag) (H : Hp) : V → Value → Prop where
  | non : TyOf K H .non (.type "NoneType")
  | bl (x : Bool) : TyOf K H (.bl x) (.type "bool")
  | int (i : Int) : TyOf K H (.int i) (.type "int")
  | str (x : Str) : TyOf K H (.str x) (.type "str")
  | flt (x : UInt64) : TyOf K H (.flt x) (.type "float")
  | lst {a : Addr} {xs : List V} (e : H a = some (.lst xs)) : TyOf K H (.ref a) (.type "list")
  | frz {a : Addr} {o : Obj} {xs : List V} (e : H a = some (.frz o (.lst xs))) : TyOf K H (.ref a) (.type "list")
  | tup {a : Addr} {xs : List V} (e : H a = some (.tup xs)) : TyOf K H (.ref a) (.type "tuple")
  | dK {a : Addr} {kvs : List (Key × V)} (e : H a = some (.dK kvs)) : TyOf K H (.ref a) (.type "dict")
  | dT {a : Addr} {kvs : List (List Key × V)} (e : H a = some (.dT kvs)) : TyOf K H (.ref a) (.type "dict")
  | ins {a C dx : Addr} {fs : List (Str × V)} (e : H a = some (.ins C dx fs)) (cl : Cls K C) (ha : PySem.W.findIn K (.ref C) "__class__" = some (some (.builtin "object.__class__")))
      (hn : PySem.W.specialIn K (.builtin "object.__class__") "__get__" = some (some (.builtin "getset_descriptor.__get__"))) (htk : PySem.W.takesIn K (.builtin "object.__class__") = some true)
      (hm : PySem.W.mroIn K C (.type "object") = some true) : TyOf K H (.ref a) (.ref C)
/-- isinstance(x, c) for one class c, a built-in or an own one: kitOne's answer -/
theorem isinst_ok {x : V} {u t : Value} (I : Inv X pins σ H s) (rx : RelV x u) (ty : TyOf X.K H x t) (e : PySem.W.kitOne X.K t c = some b) (h : ∀ tk, Q (.bool b) { s with toks := tk }) :
    wpAny (model X.prog X.w) A (call (.builtin "isinstance") [u, c]) Q E s := by
  cases ty with
  | non => cases (show u = Value.none from rx); exact PySem.W.kia_one PySem.W.kitx_none I.kIn True.intro e (fun z => nomatch z) h
  | bl y => cases (show u = Value.bool y from rx); exact PySem.W.kia_one PySem.W.kitx_bool I.kIn True.intro e (fun z => nomatch z) h
  | int i => obtain ⟨t, q⟩ := (show ∃ t, u = Value.int i t from rx); cases q; exact PySem.W.kia_one PySem.W.kitx_int I.kIn True.intro e (fun z => nomatch z) h
  | str y => obtain ⟨t, q⟩ := (show ∃ t, u = Value.str y t from rx); cases q; exact PySem.W.kia_one PySem.W.kitx_str I.kIn True.intro e (fun z => nomatch z) h
  | flt y => obtain ⟨t, q⟩ := (show ∃ t, u = Value.float y t from rx); cases q; exact PySem.W.kia_one PySem.W.kitx_float I.kIn True.intro e (fun z => nomatch z) h
  | @lst a xs ea =>
    cases (show u = Value.ref a from rx)
    obtain ⟨_, _, n, _, h1⟩ := (show ObjOk X.prog X.w H s.heap a (.lst xs) from I.hok a _ ea)
    exact PySem.W.kia_one PySem.W.kitx_list I.kIn ⟨_, h1, rfl⟩ e (fun z => nomatch z) h
  | @frz a ob xs ea =>
    cases (show u = Value.ref a from rx)
    obtain ⟨_, _, _, n, _, h1⟩ := (show ObjOk X.prog X.w H s.heap a (.frz ob (.lst xs)) from I.hok a _ ea)
    exact PySem.W.kia_one PySem.W.kitx_list I.kIn ⟨_, h1, rfl⟩ e (fun z => nomatch z) h
  | @tup a xs ea =>
    cases (show u = Value.ref a from rx)
    obtain ⟨_, _, _, p⟩ := (show ObjOk X.prog X.w H s.heap a (.tup xs) from I.hok a _ ea)
    obtain ⟨o, h1, h2, _⟩ := p
    exact PySem.W.kia_one PySem.W.kitx_tuple I.kIn ⟨o, h1, h2⟩ e (fun z => nomatch z) h
  | @dK a kvs ea =>
    cases (show u = Value.ref a from rx)
    obtain ⟨_, _, vs, _, p⟩ := (show ObjOk X.prog X.w H s.heap a (.dK kvs) from I.hok a _ ea)
    obtain ⟨o, es, ep, h1, h2, _⟩ := p
    exact PySem.W.kia_one PySem.W.kitx_dict I.kIn ⟨o, h1, h2.1⟩ e (fun z => nomatch z) h
  | @dT a kvs ea =>
    cases (show u = Value.ref a from rx)
    obtain ⟨_, _, xs, _, o, es, ep, h1, h2, _⟩ := (show ObjOk X.prog X.w H s.heap a (.dT kvs) from I.hok a _ ea)
    exact PySem.W.kia_one PySem.W.kitx_dict I.kIn ⟨o, h1, h2.1⟩ e (fun z => nomatch z) h
  | @ins a C dx fs ea cl ha hn htk hm =>
    cases (show u = Value.ref a from rx)
    obtain ⟨mA, O, _⟩ := ins_get I.hok ea
    obtain ⟨od, J, _⟩ := O.look
    exact PySem.W.kia_one (PySem.W.kitx_own (cl.get _) cl.hd ha hn htk hm) I.kIn J e (fun z => nomatch z) h
end
end L2

namespace L2
open PySem PySem.Spec PyProof.Rows

/-! ### room -/
structure Room (k : Nat) (A : Around) (c : Bool := true) : Prop where
  hc : c = true → A.handled = none
  dp : A.depth + 3 * k + 5 < recursionLimit
  un : A.units + 16 * k + 200 < cLine
theorem Room.hd {k : Nat} {A : Around} (r : Room k A) : A.handled = none := r.hc rfl
theorem Room.mono {j k : Nat} {A : Around} {c : Bool} (r : Room k A c) (h : j ≤ k) : Room j A c := ⟨r.hc, by have := r.dp; omega, by have := r.un; omega⟩
theorem Room.deeper {k : Nat} {A : Around} {c : Bool} (r : Room (k + 1) A c) (env : Env) : Room k (A.deeper env) c :=
  ⟨r.hc, by have := r.dp; show A.depth + 1 + 3 * k + 5 < _; omega, by have := r.un; show A.units + 3 + 16 * k + 200 < _; omega⟩
theorem Room.depth {k : Nat} {A : Around} {c : Bool} (r : Room k A c) : A.depth < recursionLimit := by have := r.dp; omega
theorem Room.units {k : Nat} {A : Around} {c : Bool} (r : Room k A c) : A.units + 64 < cLine := by have := r.un; omega
/-! ### argument lists and displays -/
def tNil : TA := fun _ H Q => Q [] H
def tCons (ta : TE) (tr : TA) : TA := fun σ H Q => ta σ H fun x H1 => tr σ H1 fun xs H2 => Q (x :: xs) H2
section
variable {X : Cx} {e : Expr} {es : List Expr} {te : TE} {t : TA} {pos : Pos}
theorem pa_nil : PA X [] tNil := fun _ _ _ _ H Q I h => Calls.spliced_nil ⟨[], H, I, .nil, h⟩
theorem pa_cons (ha : PE X e te) (hr : PA X es t) (hs : starEach (e :: es) X.env = (false, eval e X.env) :: starEach es X.env := by rfl) : PA X (e :: es) (tCons te t) := by
  intro pos pins s σ H Q I h
  rw [hs]
  show wpAny _ _ (spliced ((false, eval e X.env) :: backTo pos (starEach es X.env))) _ _ s
  refine Calls.spliced_cons (thn (ha pins s σ H _ I h) fun u s1 ⟨x, H1, I1, r1, q1⟩ => ?_)
  exact thn (hr pos pins s1 σ H1 _ I1 q1) fun us s2 ⟨xs, H2, I2, r2, q2⟩ => ⟨x :: xs, H2, I2, .cons r1 r2, q2⟩

/-- a tuple, a list of written items -/
def tTup (t : TA) : TE := fun σ H Q => t σ H fun xs H1 => xs.length ≤ sizeLine ∧ ∀ p, H1 p = none → Q (.ref p) (upd H1 p (.tup xs))
def tLst (t : TA) : TE := fun σ H Q => t σ H fun xs H1 => xs.length ≤ sizeLine ∧ ∀ p, H1 p = none → Q (.ref p) (upd H1 p (.lst xs))
theorem pe_tup {x1} (h : PA X es t) : PE X (.Tuple es x1 pos) (tTup t) := by
  intro pins s σ H Q I hq
  refine wpAny_Tuple_spliced (thn (h pos pins s σ H _ I hq) fun us s1 ⟨xs, H1, I1, r, z, q⟩ => ⟨by rw [← r.length]; exact z, ?_⟩)
  have hf : H1 s1.heap.objs.size = none := I1.hok.fresh (Nat.le_refl _)
  refine ⟨.ref s1.heap.objs.size, upd H1 s1.heap.objs.size (.tup xs), I1.laid (t' := s1.toks) (fun b u e => Heap.get?_push_of_some _ e) (Nat.le_refl _) ?_, rfl, q _ hf⟩
  exact ⟨z, us, r, ⟨_, Heap.get?_push_size _ rfl, rfl, _, rfl⟩⟩
theorem pe_lst (h : PA X es t) : PE X (.List es pos) (tLst t) := by
  intro pins s σ H Q I hq
  refine wpAny_List_spliced (thn (h pos pins s σ H _ I hq) fun us s1 ⟨xs, H1, I1, r, z, q⟩ => ⟨by rw [← r.length]; exact z, ?_⟩)
  have hf : H1 s1.heap.objs.size = none := I1.hok.fresh (Nat.le_refl _)
  refine ⟨.ref s1.heap.objs.size, upd H1 s1.heap.objs.size (.lst xs), I1.laid (t' := s1.toks) (fun b u e => Heap.get?_push_of_some _ e) (Nat.le_refl _) ?_, rfl, q _ hf⟩
  exact ⟨z, us, 0, r, Heap.get?_push_size _ rfl⟩
end

/-! ### what a def promises -/
/-- a def's promise: the bound arguments in the parameters' order, the heap, the wanted end, the wanted exception -/
abbrev Sp := List V → Hp → VK → XK → Prop
/-- how an exception lies behind a call (file 08 gives it): the callers' frames, abstract heap and state ahead of the call, the wish, the exception, the state -/
abbrev CXT := List Env → Hp → Shared → XK → Value → Shared → Prop

/-- the state at a call -/
structure Env0 (P : Program) (w : World) (K : PySem.W.Frag) (mg : Str → Option Value) (base : Heap) (A : Around) (outer : List Env) (s : Shared) (H : Hp) : Prop where
  frames : A.frames = some outer
  mod : Mod K mg base
  bs : ∀ b o, base.get? b = some o → s.heap.get? b = some o ∧ H b = none
  bsz : base.objs.size ≤ s.heap.objs.size
  funs : s.heap.FunFrames base outer
  frf : ∀ b ∈ frs outer, H b = none
  hok : HOk P w H s.heap
  bare : AllBare s.gens
/-- a call's end -/
def CE (outer : List Env) (P : Program) (w : World) (H : Hp) (s : Shared) (Q : VK) (u : Value) (s' : Shared) : Prop :=
  ∃ v H', s'.os = s.os ∧ AllBare s'.gens ∧ Un (frs outer) [] H H' s.heap s'.heap ∧ HOk P w H' s'.heap ∧ RelV v u ∧ Q v H'
def CR (CX : CXT) (outer : List Env) (P : Program) (w : World) (H : Hp) (s : Shared) (Q : VK) (E : XK) (r : Result) (s' : Shared) : Prop :=
  match r with
  | .ok (.ret u) => CE outer P w H s Q u s'
  | .ok _ => False
  | .error e => CX outer H s E e s'
structure FnOk (P : Program) (w : World) (K : PySem.W.Frag) (mg : Str → Option Value) (base : Heap) (CX : CXT) (k : Nat) (f : Addr) (fd : FuncData) (ps : List Str) (sp : Sp) (c : Bool := true) : Prop where
  len : ∀ vs H Q E, sp vs H Q E → vs.length = ps.length
  run : ∀ (A : Around) (outer : List Env) (s : Shared) (H : Hp) (args : Args) (us : List Value) (vs : List V) (Q : VK) (E : XK), Room k A c → Env0 P w K mg base A outer s H → BindsTo s fd args (ps.zip us) → Vals vs us → sp vs H Q E →
    codeAny (model P w) A (.call (.ref f) args) (CR CX outer P w H s Q E) s
section
variable {X : Cx} {pins : List (Addr × Obj)} {σ : St} {H : Hp} {s s' : Shared}
/-- from a body: what a callee wants -/
theorem Inv.env0 (I : Inv X pins σ H s) : Env0 X.prog X.w X.K X.mg X.base X.A X.stack s H :=
  ⟨I.ok.frames, I.ok.mod, I.bs, Nat.le_trans I.ok.bsz I.sz, I.stack, I.stkFree, I.hok, I.bare⟩
/-- behind a call -/
theorem Inv.after {Q : VK} {u : Value} (I : Inv X pins σ H s) (h : CE X.stack X.prog X.w H s Q u s') : EP X pins σ Q u s' := by
  obtain ⟨v, H', os, bare, un, hok, r, q⟩ := h
  obtain ⟨hh, g, d, t, os'⟩ := s'
  obtain rfl : os' = s.os := os
  exact ⟨v, H', I.call (h' := hh) (g' := g) (d' := d) (t' := t) (ch := []) un hok bare (fun b z => absurd z (by simp)), r, q⟩
end

/-! ### calls -/
/-- f(..): the written arguments, then the defaults dvs; E: what is wanted of an exception -/
def tCall (sp : Sp) (dvs : List V) (E : XK) (t : TA) : TE := fun σ H Q => t σ H fun vs H1 => sp (vs ++ dvs) H1 Q E
/-- how the parameters are bound: us the positional arguments, kw the keywords' values by name, ds the defaults that fill up -/
def Binds (K : PySem.W.Frag) (fd : FuncData) (ps : List Str) (ds : List Value) : Prop :=
  ∀ (s : Shared) (us : List Value), K.In s.heap → (us ++ ds).length = ps.length → BindsTo s fd ⟨us, []⟩ (ps.zip (us ++ ds))
/-- every parameter is given -/
theorem Binds.all {K : PySem.W.Frag} {fd : FuncData} {ps : List Str} (h : ∀ us : List Value, us.length = ps.length → bindArgs fd ⟨us, []⟩ = pure (ps.zip us)) : Binds K fd ps [] := fun s us _ hl => by
  rw [List.append_nil] at hl ⊢
  exact .of_eq (h us hl)

/-- an exception of a callee reaches what this body wants of exceptions -/
def Passes (CX : CXT) (X : Cx) (E : XK) : Prop := ∀ (pins : List (Addr × Obj)) (σ : St) (H : Hp) (s : Shared) (e : Value) (s' : Shared), Inv X pins σ H s → CX X.stack H s E e s' → X.xe e s'

section
variable {X : Cx} {CX : CXT} {k : Nat} {f C : Addr} {fd : FuncData} {ps : List Str} {sp : Sp} {dvs : List V} {ds : List Value} {E : XK} {x m : Str} {p pos apos : Pos} {e o : Expr} {es : List Expr} {ta : TE} {t : TA}

/-- the callee runs -/
theorem run_fn {pins : List (Addr × Obj)} {σ : St} {H : Hp} {s : Shared} {Q : VK} {us : List Value} {vs : List V} {cc : Bool} (F : FnOk X.prog X.w X.K X.mg X.base CX k f fd ps sp cc) (hr : Room k X.A cc) (hb : Binds X.K fd ps ds) (hd : Vals dvs ds) (hx : Passes CX X E)
    (I : Inv X pins σ H s) (r : Vals vs us) (h : sp (vs ++ dvs) H Q E) : wpAny (model X.prog X.w) X.A (call (.ref f) us) (EP X pins σ Q) X.xe s := by
  have r2 : Vals (vs ++ dvs) (us ++ ds) := r.append hd
  have hl : (us ++ ds).length = ps.length := by rw [← r2.length]; exact F.len _ _ _ _ h
  refine wpAny_call (codeAny_mono (F.run X.A X.stack s H ⟨us, []⟩ (us ++ ds) (vs ++ dvs) Q E hr I.env0 (hb s us I.kIn hl) r2 h) fun r s' hq => ?_)
  cases r with
  | error e => exact hx pins σ H s e s' I hq
  | ok fl =>
    cases fl with
    | ret u => exact I.after hq
    | next => exact False.elim hq
    | brk => exact False.elim hq
    | cont => exact False.elim hq

theorem pe_call {cc : Bool} (F : FnOk X.prog X.w X.K X.mg X.base CX k f fd ps sp cc) (hr : Room k X.A cc) (hg : Gl X x) (hm : X.mg x = some (.ref f)) (hk : PySem.W.keepIn X.K (.ref f) = true) (hb : Binds X.K fd ps ds) (hd : Vals dvs ds) (hx : Passes CX X E)
    (ha : PA X (e :: es) t) (hdb : (x == ("__debug__" : Str)) = false := by decide) (he : starEach (e :: es) X.env = (false, eval e X.env) :: starEach es X.env := by rfl) (hpl : (backTo pos (starEach es X.env)).any (·.1) = false := by rfl) :
    PE X (.Call (.Name x p) (e :: es) [] pos) (tCall sp dvs E t) := by
  intro pins s σ H Q I h
  refine wpAny_Call_Name_kw (ld_glob I hg hm ?_ hdb)
  refine PySem.W.callWith_K (h₀ := X.base) I.ok.mod.kin hk (thn (ha pos pins s σ H _ I h) fun us s1 ⟨vs, H1, I1, r, q⟩ => ⟨I1.kIn, ?_⟩) he hpl
  exact run_fn F hr hb hd hx I1 r q
end

/-! ### keywords -/
section
variable {X : Cx} {CX : CXT} {k : Nat} {f C : Addr} {fd : FuncData} {ps ks : List Str} {sp : Sp} {E : XK} {x m : Str} {p pos apos kpos : Pos} {e o : Expr} {es : List Expr} {kws : List Keyword} {te ta : TE} {t tk : TA} {nm : Option Str}
variable {g : List Value → List Value → List Value} {gV : List V → List V → List V}
end

/-! ### a def's body keeps its promise -/
/-- names: the parameters first -/
structure FnScope (N P : List Str) (sc : Scope) : Prop where
  kind : sc.kind = .function
  co : sc.isCoroutine = false
  gen : sc.isGenerator = false
  nd : N.Nodup
  pre : N.take P.length = P
  par : ∀ x ∈ P, sc.names.lookup x = some .local ∨ sc.names.lookup x = some .cell
  nofree : ∀ y ∈ sc.names, y.2 ≠ .free

theorem bindL_out {kindOf : Str → Option NameKind} {x : Str} : ∀ {binds : List (Str × Value)} {m : Str → Option Value}, (∀ v, (x, v) ∉ binds) → bindL kindOf binds m x = m x
  | [], _, _ => rfl
  | (n, v) :: r, m, h => by
    unfold bindL
    rw [bindL_out fun w hw => h w (List.mem_cons_of_mem _ hw)]
    split
    · have : x ≠ n := by rintro rfl; exact h v List.mem_cons_self
      simp [this]
    · rfl
theorem bindC_out {kindOf : Str → Option NameKind} {x : Str} : ∀ {binds : List (Str × Value)} {m : Str → Option Value}, (∀ v, (x, v) ∉ binds) → bindC kindOf binds m x = m x
  | [], _, _ => rfl
  | (n, v) :: r, m, h => by
    unfold bindC
    rw [bindC_out fun w hw => h w (List.mem_cons_of_mem _ hw)]
    split
    · rfl
    · have : x ≠ n := by rintro rfl; exact h v List.mem_cons_self
      simp [this]
theorem bindL_get {kindOf : Str → Option NameKind} {x : Str} {v : Value} : ∀ {P : List Str} {vs : List Value} {i : Nat} {m : Str → Option Value}, P.Nodup → P[i]? = some x → vs[i]? = some v → kindOf x = some .local →
    bindL kindOf (P.zip vs) m x = some v
  | [], _, _, _, _, h, _, _ => by simp at h
  | _ :: _, [], _, _, _, _, h, _ => by simp at h
  | p :: P, w :: vs, 0, m, nd, h1, h2, hk => by
    simp at h1 h2; subst h1; subst h2
    show bindL kindOf ((p, w) :: P.zip vs) m p = _
    unfold bindL
    rw [bindL_out fun v hv => (List.nodup_cons.mp nd).1 (List.of_mem_zip hv).1, if_pos hk]
    simp
  | p :: P, w :: vs, i + 1, m, nd, h1, h2, hk => by
    show bindL kindOf ((p, w) :: P.zip vs) m x = _
    unfold bindL
    exact bindL_get (i := i) (List.nodup_cons.mp nd).2 (by simpa using h1) (by simpa using h2) hk
theorem bindC_get {kindOf : Str → Option NameKind} {x : Str} {v : Value} : ∀ {P : List Str} {vs : List Value} {i : Nat} {m : Str → Option Value}, P.Nodup → P[i]? = some x → vs[i]? = some v → kindOf x ≠ some .local →
    bindC kindOf (P.zip vs) m x = some v
  | [], _, _, _, _, h, _, _ => by simp at h
  | _ :: _, [], _, _, _, _, h, _ => by simp at h
  | p :: P, w :: vs, 0, m, nd, h1, h2, hk => by
    simp at h1 h2; subst h1; subst h2
    show bindC kindOf ((p, w) :: P.zip vs) m p = _
    unfold bindC
    rw [bindC_out fun v hv => (List.nodup_cons.mp nd).1 (List.of_mem_zip hv).1, if_neg hk]
    simp
  | p :: P, w :: vs, i + 1, m, nd, h1, h2, hk => by
    show bindC kindOf ((p, w) :: P.zip vs) m x = _
    unfold bindC
    exact bindC_get (i := i) (List.nodup_cons.mp nd).2 (by simpa using h1) (by simpa using h2) hk

/-- the names' values at the entry -/
def start (N : List Str) (vs : List V) : St := vs.map some ++ List.replicate (N.length - vs.length) none

/-- the context of a def's body, at its entry; an exception leaves the frame, then lies as CX says -/
def cxOf (CX : CXT) (P : Program) (w : World) (K : PySem.W.Frag) (mg : Str → Option Value) (base : Heap) (N : List Str) (qual : Str) (scope : Scope) (f : Addr) (cd : Value) (A : Around) (outer : List Env) (s : Shared) (H : Hp) (E : XK) (c : Bool := true) : Cx where
  prog := P
  w := w
  K := K
  mg := mg
  base := base
  A := A.deeper (envOfC qual scope s.heap.objs.size f cd)
  N := N
  s₀ := s
  H₀ := H
  env := envOfC qual scope s.heap.objs.size f cd
  outer := outer
  stack := envOfC qual scope s.heap.objs.size f cd :: outer
  ex := []
  calm := c
  fn := fun _ => true
  pn := []
  xe := fun e s' => wpAny (model P w) (A.deeper (envOfC qual scope s.heap.objs.size f cd)) (leaving (envOfC qual scope s.heap.objs.size f cd) e) (fun _ s'' => CX outer H s E e s'') (fun e' s'' => CX outer H s E e' s'') s'

theorem cell_has {sc : Scope} {n : Nat} {x : Str} (h : sc.names.lookup x = some .cell) : ∃ c, (cellsFrom n sc.names []).lookup x = some c := by
  have q := PySem.W.cellsFrom_some sc.names n [] (.inl h)
  exact Option.isSome_iff_exists.mp q

theorem inv_start {CX : CXT} {P : Program} {w : World} {K : PySem.W.Frag} {mg : Str → Option Value} {base : Heap} {N ps : List Str} {qual : Str} {scope : Scope} {f : Addr} {cd : Value} {A : Around} {outer : List Env} {s s1 : Shared} {H : Hp} {E : XK} {us : List Value} {vs : List V} {c : Bool}
    (S : FnScope N ps scope) (hd : c = true → A.handled = none) (e0 : Env0 P w K mg base A outer s H) (hl : vs.length = ps.length) (r : Vals vs us)
    (x : InCallC s s.heap.objs.size (bindL (envOfC qual scope s.heap.objs.size f cd).kindOf (ps.zip us) fun _ => none) (cellsFrom (s.heap.objs.size + 1) scope.names []) (bindC (envOfC qual scope s.heap.objs.size f cd).kindOf (ps.zip us) fun _ => none) s1) :
    Inv (cxOf CX P w K mg base N qual scope f cd A outer s H E c) [] (start N vs) H s1 := by
  have hpl : ps.length ≤ N.length := by have := congrArg List.length S.pre; rw [List.length_take] at this; omega
  obtain ⟨h1, tk, rfl, hk⟩ := x.done
  have noA : ∀ b : Addr, b ∉ (cxOf CX P w K mg base N qual scope f cd A outer s H E c).ex := fun b z => absurd (show b ∈ ([] : List Addr) from z) (by simp)
  refine ⟨⟨e0.mod, S.kind, rfl, rfl, Nat.le_refl _, fun y z c' h1 h2 => ?_, fun y hy => ?_, fun y c _ h => ?_, hd, Around.frames_deeper e0.frames, .inr ⟨rfl, rfl⟩, fun b z => absurd z (noA b), e0.bs, e0.bsz, fun b _ _ => noA b, fun b z => absurd z (noA b), e0.funs, e0.frf⟩,
    rfl, e0.bare, Un.kept hk, ⟨_, x.toInCall.ns, fun i y v h1 h2 h3 => ?_⟩, fun y c h => ⟨_, x.cell y c h⟩, e0.hok.fresh (Nat.le_refl _), fun y c h => ?_, fun p hp => absurd (show p ∈ ([] : List (Addr × Obj)) from hp) (by simp), e0.hok.kept hk, ?_⟩
  · exact name_of_addr x.apart (PySem.mem_of_lookup h1) (PySem.mem_of_lookup h2)
  · have hy : scope.names.lookup y = some .cell ∨ scope.names.lookup y = some .free := hy
    rcases hy with hy | hy
    · exact cell_has hy
    · exact absurd rfl (S.nofree _ (PySem.mem_of_lookup hy))
  · exact Nat.le_of_lt (x.above y c (PySem.mem_of_lookup h))
  · have hi : i < vs.length := by
      unfold start at h2
      by_cases hi : i < vs.length
      · exact hi
      · rw [List.getElem?_append_right (by simpa using hi)] at h2
        rw [List.getElem?_replicate] at h2
        split at h2 <;> cases h2
    have ha : vs[i]? = some v := by
      unfold start at h2
      rw [List.getElem?_append_left (by simpa using hi), List.getElem?_map] at h2
      cases e : vs[i]? with
      | none => rw [e] at h2; cases h2
      | some a => rw [e] at h2; cases h2; rfl
    obtain ⟨u, hu, rv⟩ := r.get ha
    have hp : ps[i]? = some y := by
      rw [← S.pre, List.getElem?_take_of_lt (by omega)]; exact h1
    have ndP : ps.Nodup := by rw [← S.pre]; exact S.nd.sublist (List.take_sublist _ _)
    refine ⟨u, rv, ?_⟩
    rcases S.par y (List.mem_of_getElem? hp) with k | k
    · exact .inl ⟨k, bindL_get ndP hp hu k⟩
    · obtain ⟨c, e⟩ := cell_has (n := s.heap.objs.size + 1) k
      refine .inr ⟨.inl k, c, e, ?_⟩
      have q := x.cell y c e
      rw [bindC_get ndP hp hu (by show scope.names.lookup y ≠ _; rw [k]; decide)] at q
      exact q
  · exact e0.hok.fresh (Nat.le_of_lt (x.above y c (PySem.mem_of_lookup h)))
  · unfold start
    show _ = N.length
    rw [List.length_append, List.length_map, List.length_replicate]
    omega

/-- THE RULE: a def (or a method) of the text, by its body. The body's reading t is chosen for each entry; it is run at the parameters' values -/
theorem fn_of {CX : CXT} {P : Program} {w : World} {K : PySem.W.Frag} {mg : Str → Option Value} {base : Heap} {k : Nat} {f : Addr} {name qual : Str} {params : Arguments} {body : List Stmt} {scope : Scope} {dV kV doc pm cdv ct oc : Value} {an od : Option Addr}
    {osl : Array (Option Value)} {N ps : List Str} {sp : Sp} {c : Bool} (lk : K.lookup f = some ⟨oc, od, .func (PySem.W.fnOf name qual params body scope dV kV doc pm an cdv ct), osl⟩) (hcd : PySem.W.codeIn K cdv qual = true) (S : FnScope N ps scope)
    (len : ∀ vs H Q E, sp vs H Q E → vs.length = ps.length)
    (hbody : ∀ (A : Around) (outer : List Env) (s : Shared) (H : Hp) (vs : List V) (Q : VK) (E : XK), Room k (A.deeper (envOfC qual scope s.heap.objs.size f cdv)) c → sp vs H Q E →
      ∃ t, PSs (cxOf CX P w K mg base N qual scope f cdv A outer s H E c) body t ∧ t { nx := fun _ H' => Q .non H', rt := Q } (start N vs) H) :
    FnOk P w K mg base CX (k + 1) f (PySem.W.fnOf name qual params body scope dV kV doc pm an cdv ct) ps sp c := by
  refine ⟨len, fun A outer s H args us vs Q E hr e0 hb r hsp => ?_⟩
  have hl := len _ _ _ _ hsp
  have KX : K.In s.heap := e0.mod.kin.keeps fun b o e => (e0.bs b o e).1
  have lim : s.heap.NoLimit := e0.mod.nolimit.keeps fun b o e => (e0.bs b o e).1
  have hkind : ∀ y ∈ ps.zip us, scope.names.lookup y.1 = some .local ∨ (scope.names.lookup y.1 = some .cell ∧ ((cellsFrom (s.heap.objs.size + 1) scope.names []).lookup y.1).isSome = true) := fun ⟨n, v⟩ hy => by
    rcases S.par n (List.of_mem_zip hy).1 with q | q
    · exact .inl q
    · exact .inr ⟨q, PySem.W.cellsFrom_some _ _ _ (.inl q)⟩
  refine codeAny_call_function hr.depth (KX _ _ lk) rfl S.co S.gen rfl (PySem.W.codeRec_of KX hcd) (hb _ _ _ _ ?_)
  refine wpAny_newFunctionEnv_cells S.kind hkind fun env he s1 x => ?_
  subst he
  refine ⟨lim.keeps x.toInCall.keep, codeAny_func ?_⟩
  obtain ⟨t, ht, hq⟩ := hbody A outer s H vs Q E (hr.deeper _) hsp
  have I : Inv (cxOf CX P w K mg base N qual scope f cdv A outer s H E c) [] (start N vs) H s1 := inv_start S hr.hc e0 hl r x
  refine wpAny_mono (ht [] s1 (start N vs) H _ I hq) (fun fl s' hs => ?_) fun e s' hs => hs
  have fin : ∀ {σ' : St} {H' : Hp} {v : V} {u : Value}, Inv (cxOf CX P w K mg base N qual scope f cdv A outer s H E c) [] σ' H' s' → RelV v u → Q v H' → CE outer P w H s Q u s' :=
    fun {σ' H' v u} J rv q => ⟨v, H', J.os, J.bare, J.base, J.hok, rv, q⟩
  cases fl with
  | ret u =>
    obtain ⟨v, σ', H', J, rv, q⟩ := hs
    exact fin J rv q
  | next =>
    obtain ⟨σ', H', J, q⟩ := hs
    exact fin (v := V.non) (u := Value.none) J rfl q
  | brk =>
    obtain ⟨_, _, _, q⟩ := hs
    exact False.elim q
  | cont =>
    obtain ⟨_, _, _, q⟩ := hs
    exact False.elim q
end L2

namespace L2
open PySem PySem.Spec PyProof.Rows
section
variable {X : Cx} {x : Str} {p pos : Pos} {e : Expr} {es : List Expr} {t : TA} {id T : String} {r : List V → Hp → VK → Prop}

def tCB (r : List V → Hp → VK → Prop) (t : TA) : TE := fun σ H Q => t σ H fun vs H1 => r vs H1 Q
/-- f(e, ..), f a built-in function -/
theorem pe_callB (hc : CallR X (.builtin id) r) (hg : Gl X x) (hm : X.mg x = none) (hv : bootBuiltins x = some (.builtin id)) (ha : PA X (e :: es) t) (hn : x ≠ "__name__" := by decide) (hdb : (x == ("__debug__" : Str)) = false := by decide)
    (he : starEach (e :: es) X.env = (false, eval e X.env) :: starEach es X.env := by rfl) (hpl : (backTo pos (starEach es X.env)).any (·.1) = false := by rfl) : PE X (.Call (.Name x p) (e :: es) [] pos) (tCB r t) := by
  intro pins s σ H Q I h
  refine wpAny_Call_Name_kw (ld_blt I hg hm hv ?_ hn hdb)
  exact PyProof.Rows.callWith_builtin1 (thn (ha pos pins s σ H _ I h) fun us s1 ⟨vs, H1, I1, r1, q1⟩ => hc pins s1 σ H1 vs us Q I1 r1 q1) he hpl
/-- T(e, ..), T a built-in type -/
theorem pe_callTy (hc : CallR X (.type T) r) (hg : Gl X x) (hm : X.mg x = none) (hv : bootBuiltins x = some (.type T)) (ha : PA X (e :: es) t) (hn : x ≠ "__name__" := by decide) (hdb : (x == ("__debug__" : Str)) = false := by decide)
    (he : starEach (e :: es) X.env = (false, eval e X.env) :: starEach es X.env := by rfl) (hpl : (backTo pos (starEach es X.env)).any (·.1) = false := by rfl) : PE X (.Call (.Name x p) (e :: es) [] pos) (tCB r t) := by
  intro pins s σ H Q I h
  refine wpAny_Call_Name_kw (ld_blt I hg hm hv ?_ hn hdb)
  exact PyProof.Rows.callWith_type1 (thn (ha pos pins s σ H _ I h) fun us s1 ⟨vs, H1, I1, r1, q1⟩ => hc pins s1 σ H1 vs us Q I1 r1 q1) he hpl
end
end L2

namespace HT
open PySem PyProof.Rows

section
open PySem.SeqAt
open PySem.AutoSeq1 (wpAny_loadPart')
open PySem.MeetsSeq PySem.MeetsSeq2 PySem.MeetsSeq3

end

section
variable {prog : Program} {w : World} {A : Around} {E : Value → Shared → Prop} {s : Shared}

/-- t + u, t not empty -/
theorem cat_tup {t b : Addr} {vs ws : List Value} {Q : Value → Shared → Prop} (ht : IsTup s.heap t vs.toArray) (hb : IsTup s.heap b ws.toArray) (hv : vs ≠ [])
    (h1 : ws = [] → Q (.ref t) s) (h2 : ws ≠ [] → Q (.ref s.heap.objs.size) { s with heap := s.heap.push { cls := .type "tuple", data := .seq (vs ++ ws).toArray } })
    (hsz : vs.length + ws.length ≤ sizeLine) : wpAny (model prog w) A (binaryOp .Add (.ref t) (.ref b)) Q E s := by
  obtain ⟨⟨cls, dd, data, sl⟩, ho, hc, n, hd⟩ := id ht
  obtain ⟨⟨cls2, dd2, data2, sl2⟩, ho2, hc2, n2, hd2⟩ := id hb
  simp only at hc hd hc2 hd2
  subst hc hd hc2 hd2
  have e : vs.toArray ++ ws.toArray = (vs ++ ws).toArray := by simp
  by_cases hw : ws = []
  · exact concat_meets ⟨_, ho, rfl⟩ ⟨_, ho2, rfl⟩ noFill_tuple_add seq_tuple_add PySem.F.slot_tuple_add PySem.F.entry_tuple_add (PySem.F.args_tuple_add_2 _ _)
      (tuple_addW1 t b vs.toArray ws.toArray n n2 dd dd2 sl sl2 (by simpa using hv) (by simp [hw])) ⟨ho, ho2, h1 hw⟩
  · refine concat_meets ⟨_, ho, rfl⟩ ⟨_, ho2, rfl⟩ noFill_tuple_add seq_tuple_add PySem.F.slot_tuple_add PySem.F.entry_tuple_add (PySem.F.args_tuple_add_2 _ _)
      (tuple_addW2 t b vs.toArray ws.toArray n n2 dd dd2 sl sl2 (by simpa using hv) (by simpa using hw) (by rw [List.size_toArray, List.size_toArray]; exact hsz)) ⟨ho, ho2, ?_⟩
    rw [e]
    exact h2 hw

/-! ### t[a:b], not the whole -/
/-- a slice's bound as a place among n (d where it is left out) -/
def sIx (n d : Nat) : Option Int → Nat
  | none => d
  | some v => if v < 0 then (v + (n : Int)).toNat else min v.toNat n
theorem sIx_none (n d : Nat) : sIx n d none = d := rfl
theorem sIx_nat (n d k : Nat) : sIx n d (some (k : Int)) = min k n := by
  show (if (k : Int) < 0 then ((k : Int) + (n : Int)).toNat else min (k : Int).toNat n) = min k n
  rw [if_neg (by omega), Int.toNat_natCast]
theorem sIx_le (n d : Nat) (hd : d ≤ n) (o : Option Int) : sIx n d o ≤ n := by
  cases o with
  | none => exact hd
  | some v =>
    show (if v < 0 then (v + (n : Int)).toNat else min v.toNat n) ≤ n
    by_cases hv : v < 0
    · rw [if_pos hv]; omega
    · rw [if_neg hv]; exact Nat.min_le_right _ _
theorem clip_eq (v : Int) (n d : Nat) : (if v < 0 then max (v + (n : Int)) 0 else min v (n : Int)) = ((sIx n d (some v) : Nat) : Int) := by
  show (if v < 0 then max (v + (n : Int)) 0 else min v (n : Int)) = (((if v < 0 then (v + (n : Int)).toNat else min v.toNat n) : Nat) : Int)
  by_cases hv : v < 0
  · simp only [if_pos hv]; omega
  · simp only [if_neg hv]; omega
theorem adjust_gen (lo hi : Option Int) (n : Nat) : Builtin.Slice.sliceAdjust lo hi 1 (n : Int) = (((sIx n 0 lo : Nat) : Int), ((sIx n n hi : Nat) : Int)) := by
  have h1 : ¬ ((1 : Int) < 0) := by omega
  unfold Builtin.Slice.sliceAdjust
  simp only [h1, if_false]
  refine Prod.ext ?_ ?_
  · cases lo with
    | none => rfl
    | some v => exact clip_eq v n 0
  · cases hi with
    | none => rfl
    | some v => exact clip_eq v n n
theorem places_gen (i j : Nat) : Builtin.Slice.slicePlaces (i : Int) (j : Int) 1 = j - i := by
  unfold Builtin.Slice.slicePlaces
  have h1 : (1 : Int) > 0 := by omega
  simp only [h1, if_true, Int.ediv_one]
  split <;> omega
theorem slicePart_ {v : Value} {o : Option Int} {Q : Option Int → Shared → Prop} (p : IsPart v o) (h : Q o s) : wpAny (model prog w) A (Builtin.Slice.slicePartIndex v) Q E s := by
  cases p with
  | none => exact slicePart_none h
  | int i t => exact slicePart_int h
theorem sliceApplied_gen {sl : Addr} {vl vu : Value} {lo hi : Option Int} {n : Nat} {Q : Int × Int × Nat → Shared → Prop} (hs : s.heap.IsSliceOf sl vl vu .none) (pl : IsPart vl lo) (pu : IsPart vu hi)
    (h : Q (((sIx n 0 lo : Nat) : Int), 1, sIx n n hi - sIx n 0 lo) s) : wpAny (model prog w) A (Builtin.Slice.sliceApplied (.ref sl) (pure (n : Int))) Q E s := by
  obtain ⟨os, hos, hcs, hds⟩ := id hs
  unfold Builtin.Slice.sliceApplied Builtin.Slice.sliceFields
  refine wpAny_bind (wpAny_bind (wpAny_field hos hds (x := vl) rfl (wpAny_bind (wpAny_field hos hds (x := vu) rfl (wpAny_bind (wpAny_field hos hds (x := .none) rfl (wpAny_pure ?_)))))))
  refine wpAny_bind (slicePart_none ?_)
  show wpAny _ _ (if ((1 : Int) == 0) = true then _ else _) _ _ s
  rw [if_neg (by decide)]
  refine wpAny_bind (slicePart_ pl (wpAny_bind (slicePart_ pu (wpAny_bind (wpAny_pure ?_)))))
  show wpAny _ _ (match Builtin.Slice.sliceAdjust lo hi 1 (n : Int) with | (lo, hi) => pure (lo, (1 : Int), Builtin.Slice.slicePlaces lo hi 1)) _ _ s
  rw [adjust_gen lo hi n]
  show wpAny _ _ (pure (((sIx n 0 lo : Nat) : Int), (1 : Int), Builtin.Slice.slicePlaces ((sIx n 0 lo : Nat) : Int) ((sIx n n hi : Nat) : Int) 1)) _ _ s
  rw [places_gen]
  exact wpAny_pure h
theorem pick_gen (xs : Array Value) (i k : Nat) : ((List.range k).filterMap fun (m : Nat) => xs[((i : Int) + (m : Int) * 1).toNat]?).toArray = ((xs.toList.drop i).take k).toArray := by
  have e : (fun (m : Nat) => xs[((i : Int) + (m : Int) * 1).toNat]?) = fun m => xs[i + m]? := by
    funext m
    have : ((i : Int) + (m : Int) * 1).toNat = i + m := by omega
    rw [this]
  rw [e]
  have := pick_run xs i k
  rw [List.filterMap_map] at this
  have e2 : ((fun x => xs[x]?) ∘ fun x => i + x) = fun m => xs[i + m]? := rfl
  rw [e2] at this
  rw [this]

theorem getItem_tuple_cut {t sl : Addr} {items : Array Value} {vl vu : Value} {lo hi : Option Int} {Q : Value → Shared → Prop} (ht : IsTup s.heap t items) (hs : s.heap.IsSliceOf sl vl vu .none) (pl : IsPart vl lo) (pu : IsPart vu hi)
    (hw : ¬ (sIx items.size 0 lo = 0 ∧ sIx items.size items.size hi = items.size))
    (h : Q (.ref s.heap.objs.size) { s with heap := s.heap.push { cls := .type "tuple", data := .seq ((items.toList.drop (sIx items.size 0 lo)).take (sIx items.size items.size hi - sIx items.size 0 lo)).toArray } })
    (hsz : items.size ≤ sizeLine) : wpAny (model prog w) A (getItem (.ref t) (.ref sl)) Q E s := by
  have htake : sizeOk (.seq ((items.toList.drop (sIx items.size 0 lo)).take (sIx items.size items.size hi - sIx items.size 0 lo)).toArray) := by
    show ((items.toList.drop (sIx items.size 0 lo)).take (sIx items.size items.size hi - sIx items.size 0 lo)).toArray.size ≤ sizeLine
    rw [List.size_toArray, List.length_take, List.length_drop, Array.length_toList]
    omega
  have hj : sIx items.size items.size hi ≤ items.size := sIx_le _ _ (Nat.le_refl _) hi
  obtain ⟨os, hos, hcs, hds⟩ := id hs
  have hTs : s.TypeIs (.ref sl) "slice" := ⟨os, hos, hcs⟩
  unfold getItem
  try with_reducible refine wpAny_holding ?_
  first | refine wpAny_bind (wpAny_pure ?_) | skip
  refine wpAny_bind (wpAny_sequenceKey ht.typeIs (by decide) ?_)
  refine wpAny_bind (wpAny_callSpecial?_slot (name := Str.ofString "__getitem__") ht.typeIs PyProof.Rows.slot_tuple_getitem
    (wpAny_call_entry PyProof.Rows.slot_tuple_getitem ht.typeIs entry_tuple_getitem ?_ (args_tuple_getitem _ _)))
  show wpAny _ _ (Builtin.Tuple.tupleItemsOf (.ref t) >>= _) _ _ s
  refine wpAny_bind (tupleItemsOf_ ht ?_)
  refine wpAny_bind (wpAny_typeOf hTs ?_)
  rw [if_pos (by decide)]
  refine wpAny_bind (sliceApplied_gen hs pl pu ?_)
  have hno : ¬ ((((sIx items.size 0 lo : Nat) : Int) == 0 && (1 : Int) == 1 && (sIx items.size items.size hi - sIx items.size 0 lo) == items.size) = true) := by
    intro q
    rw [Bool.and_eq_true, Bool.and_eq_true] at q
    have q1 : ((sIx items.size 0 lo : Nat) : Int) = 0 := eq_of_beq q.1.1
    have q2 : sIx items.size items.size hi - sIx items.size 0 lo = items.size := eq_of_beq q.2
    exact hw ⟨by omega, by omega⟩
  show wpAny _ _ (if (((sIx items.size 0 lo : Nat) : Int) == 0 && (1 : Int) == 1 && (sIx items.size items.size hi - sIx items.size 0 lo) == items.size) = true then _ else _) _ _ s
  rw [if_neg hno, pick_gen]
  first
    | exact wpAny_bind (m := Builtin.Tuple.tupleExact _) (wpAny_newObj_type (wpAny_pure ⟨_, rfl, wpAny_pure h⟩) htake)
    | exact wpAny_bind (m := Builtin.Tuple.tupleExact _) (wpAny_newObj_type (wpAny_bind (wpAny_pure (wpAny_pure ⟨_, rfl, wpAny_pure h⟩))) htake)
    | exact wpAny_bind (wpAny_bind (m := Builtin.Tuple.tupleExact _) (wpAny_newObj_type (wpAny_pure (wpAny_pure ⟨_, rfl, wpAny_pure h⟩)) htake))
    | exact wpAny_bind (wpAny_bind (m := Builtin.Tuple.tupleExact _) (wpAny_newObj_type (wpAny_pure ⟨_, rfl, wpAny_pure h⟩) htake))
end
end HT

namespace L2
open PySem PySem.Spec PyProof.Rows

/-! ### the parts of a slice -/
abbrev TO := St → Hp → (Option Int → Hp → Prop) → Prop
/-- a slice's part (left out, or an int) -/
def PO (X : Cx) (e : Option Expr) (t : TO) : Prop :=
  ∀ (pins : List (Addr × Obj)) (s : Shared) (σ : St) (H : Hp) (Q : Option Int → Hp → Prop), Inv X pins σ H s → t σ H Q →
    wpAny (model X.prog X.w) X.A (evalPart e X.env) (fun u s' => ∃ o H', Inv X pins σ H' s' ∧ IsPart u o ∧ Q o H') X.xe s
def tNoPart : TO := fun _ H Q => Q none H
def tPart (t : TE) : TO := fun σ H Q => t σ H fun x H1 => ∃ i, x = .int i ∧ Q (some i) H1

section
variable {X : Cx} {e : Expr} {te : TE} {lo hi : Option Expr} {tl th : TO} {pos p2 : Pos}

theorem po_none : PO X none tNoPart := by
  intro pins s σ H Q I h
  rw [evalPart_none]
  exact wpAny_pure ⟨none, H, I, .none, h⟩
theorem po_some (h : PE X e te) : PO X (some e) (tPart te) := by
  intro pins s σ H Q I hw
  rw [evalPart_some]
  refine thn (h pins s σ H _ I hw) fun u s1 ⟨x, H1, I1, r1, q1⟩ => ?_
  obtain ⟨i, rfl, q⟩ := q1
  obtain ⟨t, rfl⟩ := r1
  exact ⟨some i, H1, I1, .int i t, q⟩

/-- what a slice of a value is, by values: the slice object stands at sl -/
def SlR (X : Cx) (r : V → Option Int → Option Int → Hp → VK → Prop) : Prop :=
  ∀ (pins : List (Addr × Obj)) (s : Shared) (σ : St) (H : Hp) (x : V) (v vl vu : Value) (lo hi : Option Int) (sl : Addr) (Q : VK), Inv X pins σ H s → RelV x v → s.heap.IsSliceOf sl vl vu .none → IsPart vl lo → IsPart vu hi → r x lo hi H Q →
    ∃ T id, typeLookup (.type T) "__getitem__" = pure (some (.builtin id)) ∧ s.TypeIs v T ∧ wpAny (model X.prog X.w) X.A (getItem v (.ref sl)) (EP X pins σ Q) X.xe s
def tSl (r : V → Option Int → Option Int → Hp → VK → Prop) (te : TE) (tl th : TO) : TE := fun σ H Q => te σ H fun x H1 => tl σ H1 fun l H2 => th σ H2 fun u H3 => r x l u H3 Q
/-- a[lo:hi], any a -/
theorem pe_slice {r : V → Option Int → Option Int → Hp → VK → Prop} (hr : SlR X r) (he : PE X e te) (hl : PO X lo tl) (hu : PO X hi th) : PE X (.Subscript e (.Slice lo hi none p2) pos) (tSl r te tl th) := by
  intro pins s σ H Q I h
  refine Subscript_ (thn (he pins s σ H _ I h) fun v s1 ⟨x, H1, I1, r1, q1⟩ => ?_)
  refine wpAny_Slice (thn (hl pins s1 σ H1 _ I1 q1) fun vl s2 ⟨l, H2, I2, pl, q2⟩ => thn (hu pins s2 σ H2 _ I2 q2) fun vu s3 ⟨u, H3, I3, pu, q3⟩ => ?_)
  rw [evalPart_none]
  refine wpAny_pure ?_
  have I4 : Inv X pins σ H3 { s3 with heap := s3.heap.push { cls := .type "slice", data := .fields #[vl, vu, .none] } } := I3.kept (t' := s3.toks) fun b ob q => Heap.get?_push_of_some _ q
  obtain ⟨T, id, hT, ht, hg⟩ := hr pins { s3 with heap := s3.heap.push { cls := .type "slice", data := .fields #[vl, vu, .none] } } σ H3 x v vl vu l u s3.heap.objs.size Q I4 r1 (Heap.IsSliceOf.new ..) pl pu q3
  show wpAny (model X.prog X.w) X.A (subscriptTail e (.Slice lo hi none p2) v (.ref s3.heap.objs.size)) (EP X pins σ Q) X.xe { s3 with heap := s3.heap.push { cls := .type "slice", data := .fields #[vl, vu, .none] } }
  exact tail_any (ops := [.ref s3.heap.objs.size, v]) ht hT hg (by with_unfolding_all rfl)

/-- the items of xs[lo:hi] -/
def cutV (xs : List V) (lo hi : Option Int) : List V := (xs.drop (HT.sIx xs.length 0 lo)).take (HT.sIx xs.length xs.length hi - HT.sIx xs.length 0 lo)
theorem cutV_length (xs : List V) (lo hi : Option Int) : (cutV xs lo hi).length ≤ xs.length := by
  unfold cutV
  rw [List.length_take, List.length_drop]
  omega
/-- t[lo:hi], not the whole of it (the whole would be t itself) -/
def rSlT (K : PySem.W.Frag) : V → Option Int → Option Int → Hp → VK → Prop := fun x lo hi H Q => ∃ a xs, x = .ref a ∧ SqT K H a xs ∧
  ¬ (HT.sIx xs.length 0 lo = 0 ∧ HT.sIx xs.length xs.length hi = xs.length) ∧ ∀ p, H p = none → Q (.ref p) (upd H p (.tup (cutV xs lo hi)))
theorem sl_tup : SlR X (rSlT X.K) := by
  intro pins s σ H x v vl vu lo hi sl Q I rx hs pl pu h
  obtain ⟨a, xs, rfl, hx, hw, q⟩ := h
  cases rx
  obtain ⟨its, r, ht, hz⟩ := I.tuple hx
  have hlen : its.toArray.size = xs.length := by rw [List.size_toArray]; exact r.length.symm
  refine ⟨"tuple", _, PyProof.Rows.slot_tuple_getitem.lookup, ht.typeIs, ?_⟩
  refine HT.getItem_tuple_cut ht hs pl pu (by rw [hlen]; exact hw) ?_ (by rw [hlen]; exact hz)
  rw [hlen]
  refine ⟨.ref s.heap.objs.size, _, I.laid (t' := s.toks) (o := .tup (cutV xs lo hi)) (fun b ob q => Heap.get?_push_of_some _ q) (Nat.le_refl _) ?_, rfl, q _ (I.hok.fresh (Nat.le_refl _))⟩
  exact ⟨Nat.le_trans (cutV_length xs lo hi) hz, _, (r.drop (HT.sIx xs.length 0 lo)).take (HT.sIx xs.length xs.length hi - HT.sIx xs.length 0 lo), IsTup.new _ _⟩

/-! ### t < u, t + u -/
/-- t + u, t not empty: u empty gives t itself -/
def rCatT (K : PySem.W.Frag) : R2 := fun x y H Q => ∃ a b xs ys, x = .ref a ∧ y = .ref b ∧ SqT K H a xs ∧ SqT K H b ys ∧ xs ≠ [] ∧ xs.length + ys.length ≤ sizeLine ∧
  (ys = [] → Q (.ref a) H) ∧ (ys ≠ [] → ∀ p, H p = none → Q (.ref p) (upd H p (.tup (xs ++ ys))))
theorem Vals.nil_iff {xs : List V} {us : List Value} (r : Vals xs us) : us = [] ↔ xs = [] := by
  cases r with
  | nil => simp
  | cons _ _ => simp
theorem op_catT : OpR X (binaryOp .Add) (rCatT X.K) := by
  intro pins s σ H x y v u Q I rx ry h
  obtain ⟨a, b, xs, ys, rfl, rfl, ha, hb, hx, hz, q1, q2⟩ := h
  cases rx
  cases ry
  obtain ⟨its, r1, p1, _⟩ := I.tuple ha
  obtain ⟨its2, r2, p2, _⟩ := I.tuple hb
  refine HT.cat_tup p1 p2 (fun z => hx (r1.nil_iff.mp z)) (fun z => ⟨.ref a, H, I, rfl, q1 (r2.nil_iff.mp z)⟩) (fun z => ?_) (by rw [← r1.length, ← r2.length]; exact hz)
  refine ⟨.ref s.heap.objs.size, _, I.laid (t' := s.toks) (o := .tup (xs ++ ys)) (fun b ob q => Heap.get?_push_of_some _ q) (Nat.le_refl _) ?_, rfl, q2 (fun w => z (r2.nil_iff.mpr w)) _ (I.hok.fresh (Nat.le_refl _))⟩
  exact ⟨by rw [List.length_append]; exact hz, _, r1.append r2, IsTup.new _ _⟩
end
end L2

namespace L2
open PySem PySem.Spec PyProof.Rows

/-! ### places -/
/-- the place that an index of any sign means -/
def ixN (n : Nat) (i : Int) : Option Nat := if 0 ≤ i then (if i < n then some i.toNat else none) else if -(n : Int) ≤ i then some (i + n).toNat else none
def atI {α : Type} (xs : List α) (i : Int) : Option α := (ixN xs.length i).bind fun j => xs[j]?
theorem ixN_seq {n : Nat} {i : Int} {j : Nat} (h : ixN n i = some j) : seqIndex? i n = some j ∧ j < n ∧ -(n : Int) ≤ i ∧ i < n := by
  unfold ixN at h
  by_cases h0 : 0 ≤ i
  · rw [if_pos h0] at h
    by_cases h1 : i < n
    · rw [if_pos h1] at h
      have e : i.toNat = j := Option.some.inj h
      exact ⟨by rw [seqIndex_of h0 h1, e], by omega, by omega, h1⟩
    · rw [if_neg h1] at h; cases h
  · rw [if_neg h0] at h
    by_cases h1 : -(n : Int) ≤ i
    · rw [if_pos h1] at h
      have e : (i + n).toNat = j := Option.some.inj h
      exact ⟨by rw [seqIndex_neg (by omega) h1, e], by omega, h1, by omega⟩
    · rw [if_neg h1] at h; cases h
theorem atI_get {α : Type} {xs : List α} {i : Int} {v : α} (h : atI xs i = some v) : ∃ j, seqIndex? i xs.length = some j ∧ xs[j]? = some v ∧ j < xs.length ∧ -(xs.length : Int) ≤ i ∧ i < xs.length := by
  unfold atI at h
  cases e : ixN xs.length i with
  | none => rw [e] at h; cases h
  | some j =>
    rw [e] at h
    obtain ⟨h1, h2, h3, h4⟩ := ixN_seq e
    exact ⟨j, h1, h, h2, h3, h4⟩
theorem atI_nat {α : Type} {xs : List α} {j : Nat} {v : α} (h : xs[j]? = some v) : atI xs (j : Int) = some v := by
  have hj : j < xs.length := (List.getElem?_eq_some_iff.mp h).1
  have e : ixN xs.length (j : Int) = some j := by
    unfold ixN
    rw [if_pos (by omega), if_pos (by omega)]; simp
  unfold atI; rw [e]; exact h
theorem atI_last {α : Type} (xs : List α) (v : α) : atI (xs ++ [v]) (-1) = some v := by
  have hl : (xs ++ [v]).length = xs.length + 1 := by simp
  have e : ixN (xs ++ [v]).length (-1) = some xs.length := by
    unfold ixN
    rw [hl, if_neg (by decide), if_pos (by omega)]
    congr 1
    omega
  unfold atI
  rw [e]
  show (xs ++ [v])[xs.length]? = some v
  simp

/-! ### what may be subscripted -/
/-- what stands as an index of a plain subscript -/
def PlainIx (b : Expr) : Prop := ∀ o i, subscripted b false o i = operate [o, i] (getItem o i)
/-- a subscript by values -/
def IxR (X : Cx) (r : R2) : Prop :=
  ∀ (value slice : Expr) (pins : List (Addr × Obj)) (s : Shared) (σ : St) (H : Hp) (x y : V) (v u : Value) (Q : VK), Inv X pins σ H s → RelV x v → RelV y u → r x y H Q →
    subscripted slice false v u = operate [v, u] (getItem v u) → wpAny (model X.prog X.w) X.A (subscriptTail value slice v u) (EP X pins σ Q) X.xe s
/-- a call of a builtin's method by values: the receiver, the arguments -/
def MtR (X : Cx) (id : String) (r : V → List V → Hp → VK → Prop) : Prop :=
  ∀ (pins : List (Addr × Obj)) (s : Shared) (σ : St) (H : Hp) (x : V) (xs : List V) (v : Value) (us : List Value) (Q : VK), Inv X pins σ H s → RelV x v → Vals xs us → r x xs H Q →
    wpAny (model X.prog X.w) X.A (call (.builtin id) (v :: us)) (EP X pins σ Q) X.xe s
section
variable {X : Cx} {a b : Expr} {ta tb : TE} {pos : Pos}
/-- a[b] -/
theorem pe_ix {r : R2} (hr : IxR X r) (ha : PE X a ta) (hb : PE X b tb) (hs : PlainIx b) : PE X (.Subscript a b pos) (tOp r ta tb) := by
  intro pins s σ H Q I h
  exact Subscript_ (binT ha hb I h fun v u s2 x y H2 I2 rx ry q => hr a b pins s2 σ H2 x y v u Q I2 rx ry q (hs _ _))

def rIxL (K : PySem.W.Frag) : R2 := fun x y H Q => ∃ p xs i v, x = .ref p ∧ y = .int i ∧ SqL K H p xs ∧ atI xs i = some v ∧ Q v H
def rIxT (K : PySem.W.Frag) : R2 := fun x y H Q => ∃ p xs i v, x = .ref p ∧ y = .int i ∧ SqT K H p xs ∧ atI xs i = some v ∧ Q v H
theorem ix_list : IxR X (rIxL X.K) := by
  intro value slice pins s σ H x y v u Q I rx ry h hs
  obtain ⟨p, xs, i, z, rfl, rfl, hq, he, q⟩ := h
  cases rx
  obtain ⟨t, rfl⟩ := ry
  obtain ⟨its, r, pl, hz⟩ := I.list hq
  obtain ⟨j, h1, h2, h3, h4, h5⟩ := atI_get he
  obtain ⟨w, ew, rw'⟩ := r.get h2
  have hl := r.length
  have hn := line63
  have fin : EP X pins σ Q w s := ⟨z, H, I, rw', q⟩
  by_cases h0 : 0 ≤ i
  · have hj : i.toNat = j := by
      rw [seqIndex_of h0 h5] at h1
      exact Option.some.inj h1
    exact item_listR pl.isList h0 (by omega) (by rw [hj]; simpa using ew) fin hs
  · have hj : (i + (its.toArray.size : Int)).toNat = j := by
      rw [seqIndex_neg (by omega) h4] at h1
      rw [List.size_toArray, ← hl]
      exact Option.some.inj h1
    exact subscriptTail_builtinR (x := w) pl.isList.typeIs slot_list_getitem.lookup
      (wpAny_getItem_list_neg (Q := fun r s' => r = w ∧ EP X pins σ Q r s') pl.isList (by omega) (by rw [List.size_toArray] <;> omega) (by omega) (by rw [hj]; simpa using ew) ⟨rfl, fin⟩) hs
theorem ix_tup : IxR X (rIxT X.K) := by
  intro value slice pins s σ H x y v u Q I rx ry h hs
  obtain ⟨p, xs, i, z, rfl, rfl, hq, he, q⟩ := h
  cases rx
  obtain ⟨t, rfl⟩ := ry
  obtain ⟨its, r, pl, hz⟩ := I.tuple hq
  obtain ⟨j, h1, h2, h3, h4, h5⟩ := atI_get he
  obtain ⟨w, ew, rw'⟩ := r.get h2
  have hl := r.length
  have hn := line63
  have fin : EP X pins σ Q w s := ⟨z, H, I, rw', q⟩
  exact subscriptTail_builtinR (x := w) pl.typeIs slot_tuple_getitem.lookup
    (getItem_tuple (j := j) (Q := fun r s' => r = w ∧ EP X pins σ Q r s') pl (by omega) (by omega) (by rw [List.size_toArray, ← hl]; exact h1) (by simpa using ew) ⟨rfl, fin⟩) hs
/-! ### xs[i] = v, any sign -/
/-- the list's object behind a store -/
theorem mapSeq_set (its : List Value) (n j : Nat) (u : Value) : Obj.mapSeq (·.setIfInBounds j u) { cls := .type "list", data := .seq its.toArray n } = { cls := .type "list", data := .seq (its.set j u).toArray n } := by
  simp [Obj.mapSeq]
theorem Inv.lst {pins : List (Addr × Obj)} {σ : St} {H : Hp} {s : Shared} {p : Addr} {xs : List V} (I : Inv X pins σ H s) (h : H p = some (.lst xs)) :
    ∃ (its : List Value) (n : Nat), Vals xs its ∧ s.heap.get? p = some { cls := .type "list", data := .seq its.toArray n } ∧ xs.length ≤ sizeLine := by
  obtain ⟨z, its, n, r, e⟩ := I.hok p _ h
  exact ⟨its, n, r, e, z⟩
/-- the list at p is written by an update of its object -/
theorem Inv.lstUpd {pins : List (Addr × Obj)} {σ : St} {H : Hp} {s : Shared} {p : Addr} {xs ys : List V} {its its' : List Value} {n n' : Nat} {f : Obj → Obj} (I : Inv X pins σ H s) (h : H p = some (.lst xs))
    (ho : s.heap.get? p = some { cls := .type "list", data := .seq its.toArray n }) (hf : f { cls := .type "list", data := .seq its.toArray n } = { cls := .type "list", data := .seq its'.toArray n' }) (r : Vals ys its') (hz : ys.length ≤ sizeLine) (t : Nat) :
    Inv X pins σ (upd H p (.lst ys)) { s with heap := s.heap.update p f, toks := t } := by
  have e : (s.heap.update p f).get? p = some { cls := .type "list", data := .seq its'.toArray n' } := by
    rw [Heap.get?_update_self f ho (by rw [hf] <;> rfl), hf]
  refine I.write (x := p) (e := p) (by rw [h]; trivial) (.inl rfl) (fun b u hb q => (Heap.get?_update_other _ _ (Ne.symm hb)).trans q) ⟨_, e⟩ ?_
  exact ⟨hz, its', n', r, e⟩
def rSetL : V → V → V → Hp → (Hp → Prop) → Prop := fun o i v H Q => ∃ p xs k j, o = .ref p ∧ i = .int k ∧ H p = some (.lst xs) ∧ ixN xs.length k = some j ∧ Q (upd H p (.lst (xs.set j v)))
theorem set_list : PSet X rSetL := by
  intro pins s σ H o i v ov iv u Q I ro ri rv h
  obtain ⟨p, xs, k, j, rfl, rfl, hp, hj, q⟩ := h
  cases ro
  obtain ⟨t, rfl⟩ := ri
  obtain ⟨its, n, r, ho, hz⟩ := I.lst hp
  obtain ⟨h1, h2, h3, h4⟩ := ixN_seq hj
  have hl := r.length
  have hn := line63
  have I' : Inv X pins σ (upd H p (.lst (xs.set j v))) { s with heap := s.heap.update p (Obj.mapSeq (·.setIfInBounds j u)) } :=
    I.lstUpd hp ho (mapSeq_set its n j u) (r.set rv j) (by rw [List.length_set]; exact hz) s.toks
  by_cases h0 : 0 ≤ k
  · have hk : k.toNat = j := by
      rw [seqIndex_of h0 h4] at h1
      exact Option.some.inj h1
    exact PySem.W.ki_setAt ho h0 (by omega) (by rw [List.size_toArray, ← hl]; exact h4) (by rw [hk]; exact ⟨_, I', q⟩)
  · have hk : (k + (its.toArray.size : Int)).toNat = j := by
      rw [seqIndex_neg (by omega) h3] at h1
      rw [List.size_toArray, ← hl]
      exact Option.some.inj h1
    exact PySem.W.ki_setBack ho (by omega) (by rw [List.size_toArray, ← hl]; exact h3) (by omega) (by rw [hk]; exact ⟨_, I', q⟩)

/-! ### slices -/
theorem slice_bounds (lo hi : Option Int) (n : Nat) : (sliceBounds lo hi none n).1 = ((HT.sIx n 0 lo : Nat) : Int) ∧ (sliceBounds lo hi none n).2.1 = ((HT.sIx n n hi : Nat) : Int) ∧ (sliceBounds lo hi none n).2.2 = 1 := by
  refine ⟨?_, ?_, rfl⟩
  · cases lo with
    | none => simp [sliceBounds, HT.sIx]
    | some i =>
      simp only [sliceBounds, HT.sIx, Option.getD_none, show (1 : Int) > 0 by decide, if_true]
      by_cases h : i < 0
      · simp only [h, if_true] <;> omega
      · simp only [h, if_false] <;> omega
  · cases hi with
    | none => simp [sliceBounds, HT.sIx]
    | some i =>
      simp only [sliceBounds, HT.sIx, Option.getD_none, show (1 : Int) > 0 by decide, if_true]
      by_cases h : i < 0
      · simp only [h, if_true] <;> omega
      · simp only [h, if_false] <;> omega
theorem slicePick_cut (its : List Value) (lo hi : Option Int) : slicePick its.toArray lo hi none = ((its.drop (HT.sIx its.length 0 lo)).take (HT.sIx its.length its.length hi - HT.sIx its.length 0 lo)).toArray := by
  obtain ⟨h1, h2, h3⟩ := slice_bounds lo hi its.toArray.size
  unfold slicePick
  rw [h1, h2, h3]
  simp only [sliceRange_one, pick_run, List.size_toArray] <;> rfl
/-- xs[lo:hi] of a list: a new list -/
def rSlL (K : PySem.W.Frag) : V → Option Int → Option Int → Hp → VK → Prop := fun x lo hi H Q => ∃ a xs, x = .ref a ∧ SqL K H a xs ∧ ∀ p, H p = none → Q (.ref p) (upd H p (.lst (cutV xs lo hi)))
theorem sl_list : SlR X (rSlL X.K) := by
  intro pins s σ H x v vl vu lo hi sl Q I rx hs pl pu h
  obtain ⟨a, xs, rfl, hx, q⟩ := h
  cases rx
  obtain ⟨its, r, ht, hz⟩ := I.list hx
  have hlen := r.length
  refine ⟨"list", _, slot_list_getitem.lookup, ht.isList.typeIs, ?_⟩
  refine wpAny_getItem_list_slice ht.isList hs pl pu .none (by simp) ?_ (by rw [List.size_toArray] <;> omega)
  rw [slicePick_cut, ← hlen]
  refine ⟨.ref s.heap.objs.size, _, I.laid (t' := s.toks) (o := .lst (cutV xs lo hi)) (fun b ob q => Heap.get?_push_of_some _ q) (Nat.le_refl _) ?_, rfl, q _ (I.hok.fresh (Nat.le_refl _))⟩
  exact ⟨Nat.le_trans (cutV_length xs lo hi) hz, _, 0, (r.drop (HT.sIx xs.length 0 lo)).take (HT.sIx xs.length xs.length hi - HT.sIx xs.length 0 lo), Heap.get?_push_size _ rfl⟩

/-! ### in, not in: flat items -/
def flatV : V → Bool
  | .non => true
  | .bl _ => true
  | .int _ => true
  | .str _ => true
  | _ => false
/-- == of flat values -/
def eqV : V → V → Bool
  | .non, .non => true
  | .bl a, .bl b => a == b
  | .bl a, .int b => (if a then 1 else 0) == b
  | .int a, .bl b => a == (if b then 1 else 0)
  | .int a, .int b => a == b
  | .str a, .str b => a == b
  | _, _ => false
theorem eqAt_V {A : Around} {s : Shared} {y x : V} {u v : Value} (ry : RelV y u) (rx : RelV x v) (fy : flatV y = true) (fx : flatV x = true) : SeqAt.EqAt A s u v (eqV y x) := by
  cases y with
  | non =>
    cases ry
    cases x with
    | non => cases rx; exact SeqAt.EqAt.same _
    | bl b => cases rx; exact SeqAt.EqAt.none_bool b
    | int b => obtain ⟨t, rfl⟩ := rx; exact SeqAt.EqAt.none_int b t
    | str b => obtain ⟨t, rfl⟩ := rx; exact SeqAt.EqAt.none_str b t
    | _ => exact absurd (show false = true from fx) Bool.false_ne_true
  | bl a =>
    cases ry
    cases x with
    | non => cases rx; exact SeqAt.EqAt.bool_none a
    | bl b => cases rx; exact SeqAt.EqAt.bool_bool a b
    | int b => obtain ⟨t, rfl⟩ := rx; exact SeqAt.EqAt.bool_int a b t
    | str b => obtain ⟨t, rfl⟩ := rx; exact SeqAt.EqAt.bool_str a b t
    | _ => exact absurd (show false = true from fx) Bool.false_ne_true
  | int a =>
    obtain ⟨t', rfl⟩ := ry
    cases x with
    | non => cases rx; exact SeqAt.EqAt.int_none a t'
    | bl b => cases rx; exact SeqAt.EqAt.int_bool a t' b
    | int b => obtain ⟨t, rfl⟩ := rx; exact SeqAt.EqAt.int_int a t' b t
    | str b => obtain ⟨t, rfl⟩ := rx; exact SeqAt.EqAt.int_str a t' b t
    | _ => exact absurd (show false = true from fx) Bool.false_ne_true
  | str a =>
    obtain ⟨t', rfl⟩ := ry
    cases x with
    | non => cases rx; exact SeqAt.EqAt.str_none a t'
    | bl b => cases rx; exact SeqAt.EqAt.str_bool a t' b
    | int b => obtain ⟨t, rfl⟩ := rx; exact SeqAt.EqAt.str_int a t' b t
    | str b => obtain ⟨t, rfl⟩ := rx; exact SeqAt.EqAt.str_str a t' b t
    | _ => exact absurd (show false = true from fx) Bool.false_ne_true
  | _ => exact absurd (show false = true from fy) Bool.false_ne_true
/-! ### len, list(x), tuple(x) of any list or tuple that is read -/
theorem call_len_seq : CallR X (.builtin "len") (fun xs H Q => ∃ p ys, xs = [.ref p] ∧ (SqL X.K H p ys ∨ SqT X.K H p ys) ∧ Q (.int ys.length) H) := by
  intro pins s σ H xs us Q I r h
  obtain ⟨p, ys, rfl, hq, q⟩ := h
  obtain ⟨u, rfl, rx⟩ := vals1 r
  cases rx
  have hn := line63
  rcases hq with hq | hq
  · obtain ⟨its, r', pl, hz⟩ := I.list hq
    have hlen := r'.length
    exact Calls.call_len_list pl.isList (by simp only [List.size_toArray] <;> omega) ⟨.int ys.length, H, I.tok _, ⟨s.toks + 1, by rw [List.size_toArray, hlen]⟩, q⟩
  · obtain ⟨its, r', pl, hz⟩ := I.tuple hq
    have hlen := r'.length
    exact len_tuple pl (by simp only [List.size_toArray] <;> omega) ⟨.int ys.length, H, I.tok _, ⟨s.toks + 1, by rw [List.size_toArray, hlen]⟩, q⟩
theorem call_list_of : CallR X (.type "list") (fun xs H Q => ∃ p ys, xs = [.ref p] ∧ (SqL X.K H p ys ∨ SqT X.K H p ys) ∧ ∀ l, H l = none → Q (.ref l) (upd H l (.lst ys))) := by
  intro pins s σ H xs us Q I r h
  obtain ⟨p, ys, rfl, hq, q⟩ := h
  obtain ⟨u, rfl, rx⟩ := vals1 r
  cases rx
  have fin : ∀ (its : List Value), Vals ys its → ys.length ≤ sizeLine → ∀ (h' : Heap) (c' : Nat), (∀ b o', s.heap.get? b = some o' → h'.get? b = some o') →
      h'.get? s.heap.objs.size = some { cls := .type "list", dict := none, data := .seq its.toArray c', slots := #[] } → EP X pins σ Q (.ref s.heap.objs.size) { s with heap := h' } := fun its r' hz h' c' kp e =>
    ⟨.ref s.heap.objs.size, _, I.laid (t' := s.toks) kp (Nat.le_refl _) (show ObjOk X.prog X.w _ h' _ (.lst ys) from ⟨hz, its, c', r', e⟩), rfl, q _ (I.hok.fresh (Nat.le_refl _))⟩
  rcases hq with hq | hq
  · obtain ⟨its, r', pl, hz⟩ := I.list hq
    have hlen := r'.length
    obtain ⟨o, ho, hc, n, hd⟩ := pl.isList
    exact call_list_seq p (.inl rfl) ho hc hd (fun h' c' kp e => fin its r' hz h' c' kp e) (by simp only [List.size_toArray] <;> omega)
  · obtain ⟨its, r', pl, hz⟩ := I.tuple hq
    have hlen := r'.length
    obtain ⟨o, ho, hc, n, hd⟩ := pl
    exact call_list_seq p (.inr rfl) ho hc hd (fun h' c' kp e => fin its r' hz h' c' kp e) (by simp only [List.size_toArray] <;> omega)
theorem call_tuple_of : CallR X (.type "tuple") (fun xs H Q => ∃ p ys, xs = [.ref p] ∧ ((SqL X.K H p ys ∧ ∀ l, H l = none → Q (.ref l) (upd H l (.tup ys))) ∨ (SqT X.K H p ys ∧ Q (.ref p) H))) := by
  intro pins s σ H xs us Q I r h
  obtain ⟨p, ys, rfl, h⟩ := h
  obtain ⟨u, rfl, rx⟩ := vals1 r
  cases rx
  rcases h with ⟨hq, q⟩ | ⟨hq, q⟩
  · obtain ⟨its, r', pl, hz⟩ := I.list hq
    have hlen := r'.length
    refine call_tuple_list pl.isList (fun h' kp => ?_) (by simp only [List.size_toArray] <;> omega)
    have I1 : Inv X pins σ H { s with heap := h' } := I.kept (t' := s.toks) kp
    have I2 : Inv X pins σ (upd H h'.objs.size (.tup ys)) { s with heap := h'.push { cls := .type "tuple", data := .seq its.toArray } } :=
      I1.laid (t' := s.toks) (fun b o e => Heap.get?_push_of_some _ e) (Nat.le_refl _) (show ObjOk X.prog X.w _ _ _ (.tup ys) from ⟨hz, its, r', IsTup.new _ _⟩)
    exact ⟨.ref h'.objs.size, _, I2, rfl, q _ (I1.hok.fresh (Nat.le_refl _))⟩
  · obtain ⟨its, r', pl, hz⟩ := I.tuple hq
    exact call_tuple_same pl ⟨.ref p, H, I, rfl, q⟩

/-! ### the call of a builtin's method: o.m(..) -/
/-- the value is of that builtin type -/
def tyV (K : PySem.W.Frag) (T : String) (x : V) (H : Hp) : Prop := match x with
  | .str _ => T = "str"
  | .int _ => T = "int"
  | .ref p => (T = "list" ∧ ∃ xs, SqL K H p xs) ∨ (T = "tuple" ∧ ∃ o, K.lookup p = some o ∧ o.cls = .type "tuple" ∧ o.dict = none) ∨
      (T = "dict" ∧ ((∃ kvs, H p = some (.dK kvs)) ∨ ∃ kvs, H p = some (.dT kvs))) ∨ (T = "set" ∧ ∃ S n, H p = some (.set S n))
  | _ => False
theorem tyV_is {pins : List (Addr × Obj)} {σ : St} {H : Hp} {s : Shared} {T : String} {x : V} {v : Value} (I : Inv X pins σ H s) (r : RelV x v) (ty : tyV X.K T x H) :
    s.TypeIs v T ∧ ∀ a, v = .ref a → ∃ ob, s.heap.get? a = some ob ∧ ob.dict = none := by
  cases x with
  | str z =>
    obtain ⟨t, rfl⟩ := r
    cases (show T = "str" from ty)
    exact ⟨typeIs_str s z t, fun _ e => nomatch e⟩
  | int i =>
    obtain ⟨t, rfl⟩ := r
    cases (show T = "int" from ty)
    exact ⟨typeIs_int s i t, fun _ e => nomatch e⟩
  | ref p =>
    cases r
    rcases ty with ⟨rfl, xs, hq⟩ | ⟨rfl, o, hk, hc, hd⟩ | ⟨rfl, hk⟩ | ⟨rfl, S, n, hk⟩
    · obtain ⟨its, _, pl, _⟩ := I.list hq
      refine ⟨pl.isList.typeIs, fun a e => ?_⟩
      cases e
      obtain ⟨o, n, e, c, hd, _⟩ := pl
      exact ⟨o, e, hd⟩
    · refine ⟨⟨o, I.kIn p o hk, hc⟩, fun a e => ?_⟩
      cases e
      exact ⟨o, I.kIn _ o hk, hd⟩
    · have z : ∃ o, s.heap.get? p = some o ∧ o.ExactDict := by
        rcases hk with ⟨kvs, hk⟩ | ⟨kvs, hk⟩
        · obtain ⟨_, _, _, _, o, _, _, e, ex, _⟩ := I.hok p _ hk
          exact ⟨o, e, ex⟩
        · obtain ⟨_, _, _, _, o, _, _, e, ex, _⟩ := I.hok p _ hk
          exact ⟨o, e, ex⟩
      obtain ⟨o, e, ex⟩ := z
      refine ⟨⟨o, e, ex.1⟩, fun a e2 => ?_⟩
      cases e2
      exact ⟨o, e, ex.2.1⟩
    · obtain ⟨o, _, _, _, e, ex, _⟩ := I.hok p _ hk
      refine ⟨⟨o, e, ex.1⟩, fun a e2 => ?_⟩
      cases e2
      exact ⟨o, e, ex.2.1⟩
  | _ => exact False.elim ty
def tBM (K : PySem.W.Frag) (T : String) (r : V → List V → Hp → VK → Prop) (to : TE) (t : TA) : TE := fun σ H Q => to σ H fun x H1 => tyV K T x H1 ∧ t σ H1 fun xs H2 => r x xs H2 Q
variable {o e : Expr} {es : List Expr} {to : TE} {t : TA} {name : Str} {apos cpos : Pos} {T id : String} {r : V → List V → Hp → VK → Prop}
theorem pe_bm (pa : PlainAttrs T) (slot : Slot T name id) (hty : typeOf (.builtin id) = pure (.type "method_descriptor")) (hm : MtR X id r) (ho : PE X o to) (ha : PA X (e :: es) t)
    (hbase : attributeBase o name X.env (eval o X.env) = eval o X.env := by rfl)
    (hfew : ((backTo cpos (starEach (e :: es) X.env)).all (fun x => !x.1) && (backToKw cpos (keywordEach [] X.env)).all (fun x => x.1.isSome)
      && decide ((e :: es).length + ([] : List Keyword).length + (if ([] : List Keyword).isEmpty then 0 else 1) < 30)) = true := by rfl)
    (hline : (apos.endLine == cpos.line) = true := by rfl) (hs : starEach (e :: es) X.env = (false, eval e X.env) :: starEach es X.env := by rfl) (hplain : (backTo cpos (starEach es X.env)).any (·.1) = false := by rfl) :
    PE X (.Call (.Attribute o name apos) (e :: es) [] cpos) (tBM X.K T r to t) := by
  intro pins s σ H Q I h
  refine wpAny_Call_method_late hbase hfew hline rfl (thn (ho pins s σ H _ I h) fun v s1 ⟨x, H1, I1, r1, ty, q1⟩ => ?_)
  obtain ⟨h1, h2⟩ := tyV_is I1 r1 ty
  refine ⟨T, id, pa, slot, hty, h1, h2, ?_⟩
  have hA := ha cpos pins s1 σ H1 _ I1 q1
  rw [hs] at hA ⊢
  refine Calls.callWith_builtin (by show (false || (backTo cpos (starEach es X.env)).any (·.1)) = false; rw [hplain] <;> rfl) (Calls.evalArgs_plain ?_)
  exact thn hA fun us s2 ⟨vs, H2, I2, r2, q2⟩ => hm pins s2 σ H2 x vs v us Q I2 r1 r2 q2
/- xs.append(e), list.index on a module's tuple .. are MtR facts of 06m -/
end
end L2

namespace L2
open PySem PySem.Spec PyProof.Rows

def MtM (X : Cx) (id : String) (r : V → List V → Hp → VK → Prop) : Prop :=
  ∀ (pins : List (Addr × Obj)) (s : Shared) (σ : St) (H : Hp) (x : V) (xs : List V) (v : Value) (us : List Value) (Q : VK), Inv X pins σ H s → RelV x v → Vals xs us → r x xs H Q →
    wpAny (model X.prog X.w) X.A (call (.builtin id) (v :: us)) (EP X pins σ Q) X.xe s

/-! ### lists of values -/
theorem Vals.one : ∀ {x : V} {us : List Value}, Vals [x] us → ∃ u, us = [u] ∧ RelV x u
  | _, _, .cons r .nil => ⟨_, rfl, r⟩
theorem Vals.two : ∀ {x y : V} {us : List Value}, Vals [x, y] us → ∃ u v, us = [u, v] ∧ RelV x u ∧ RelV y v
  | _, _, _, .cons r (.cons q .nil) => ⟨_, _, rfl, r, q⟩
section
variable {X : Cx} {pins : List (Addr × Obj)} {σ : St} {H : Hp} {s : Shared} {l b : Addr} {xs ys zs : List V}

/-! ### the two steps: a tracked list is rewritten, a new list is laid -/
theorem Inv.lset {its its' : List Value} {n : Nat} {f : Array Value → Array Value} {t' : Nat} (I : Inv X pins σ H s) (hH : H l = some (.lst xs))
    (e : s.heap.get? l = some { cls := .type "list", data := .seq its.toArray n }) (hf : f its.toArray = its'.toArray) (hv : Vals ys its') (hz : ys.length ≤ sizeLine) :
    Inv X pins σ (upd H l (.lst ys)) { s with heap := s.heap.update l (Obj.mapSeq f), toks := t' } := by
  have q := PySem.IsL.update e f
  rw [hf] at q
  refine I.write (x := l) (e := l) (by rw [hH]; exact trivial) (.inl rfl) (fun b' u hb hu => (Heap.get?_update_other s.heap (Obj.mapSeq f) (Ne.symm hb)).trans hu) ⟨_, q⟩ ?_
  exact ⟨hz, its', _, hv, q⟩
theorem Inv.lnew {its : List Value} {t' : Nat} (I : Inv X pins σ H s) (hv : Vals ys its) (hz : ys.length ≤ sizeLine) :
    Inv X pins σ (upd H s.heap.objs.size (.lst ys)) { s with heap := s.heap.push { cls := .type "list", data := .seq its.toArray }, toks := t' } :=
  I.laid (fun _ _ q => Heap.get?_push_of_some _ q) (Nat.le_refl _) ⟨hz, its, 0, hv, Heap.get?_push_size _ rfl⟩
theorem Inv.fresh (I : Inv X pins σ H s) : H s.heap.objs.size = none := I.hok.fresh (Nat.le_refl _)
theorem Inv.lstM (I : Inv X pins σ H s) (hH : H l = some (.lst xs)) : xs.length ≤ sizeLine ∧ ∃ (its : List Value) (n : Nat), Vals xs its ∧ xs.length = its.length ∧ s.heap.get? l = some { cls := .type "list", data := .seq its.toArray n } := by
  obtain ⟨z, its, n, r, e⟩ := I.hok l _ hH
  exact ⟨z, its, n, r, r.length, e⟩

theorem notLongL {n : Nat} (h : n ≤ sizeLine) : Builtin.List.listTooLong n = false := by
  unfold Builtin.List.listTooLong
  exact decide_eq_false (by omega)
end

section
variable {X : Cx}

/-! ### methods -/
def rAppend : V → List V → Hp → VK → Prop := fun x vs H Q => ∃ l xs y, x = .ref l ∧ vs = [y] ∧ H l = some (.lst xs) ∧ xs.length < sizeLine ∧ Q .non (upd H l (.lst (xs ++ [y])))
theorem mt_append : MtM X "list.append" rAppend := by
  intro pins s σ H x vs v us Q I rx rv h
  obtain ⟨l, xs, y, rfl, rfl, hH, hz, q⟩ := h
  cases rx
  obtain ⟨u, rfl, ru⟩ := rv.one
  obtain ⟨z, its, n, r, hl, e⟩ := I.lstM hH
  refine call_meets F.slot_list_append ⟨_, e, rfl⟩ F.entry_list_append (F.args_list_append_2 _ _) (PySem.list_append l its.toArray n u (by rw [List.size_toArray]; omega)) ⟨e, ?_⟩
  refine ⟨.non, _, I.lset (its' := its ++ [u]) hH e (by simp) (r.append (.cons ru .nil)) ?_, rfl, q⟩
  rw [List.length_append, List.length_singleton]
  omega

def rExtend : V → List V → Hp → VK → Prop := fun x vs H Q => ∃ l b xs zs, x = .ref l ∧ vs = [.ref b] ∧ H l = some (.lst xs) ∧ H b = some (.lst zs) ∧ xs.length + zs.length ≤ sizeLine ∧ Q .non (upd H l (.lst (xs ++ zs)))
theorem mt_extend : MtM X "list.extend" rExtend := by
  intro pins s σ H x vs v us Q I rx rv h
  obtain ⟨l, b, xs, zs, rfl, rfl, hH, hB, hz, q⟩ := h
  cases rx
  obtain ⟨u, rfl, ru⟩ := rv.one
  cases ru
  obtain ⟨z, its, n, r, hl, e⟩ := I.lstM hH
  obtain ⟨z2, its2, n2, r2, hl2, e2⟩ := I.lstM hB
  have hsz : its.toArray.size + its2.toArray.size ≤ sizeLine := by rw [List.size_toArray, List.size_toArray]; omega
  have hlong : ¬ (!its.toArray.isEmpty && Builtin.List.listTooLong (its.toArray.size + its2.toArray.size)) = true := by
    rw [notLongL hsz, Bool.and_false]
    exact Bool.false_ne_true
  refine call_meets F.slot_list_extend ⟨_, e, rfl⟩ F.entry_list_extend (F.args_list_extend_2 _ _)
    (AutoSeq1.list_extend_list_list_0 l its.toArray n b its2.toArray n2 hlong (by rw [List.size_toArray]; omega) (by omega)) ⟨e, e2, ?_⟩
  refine ⟨.non, _, I.lset (its' := its ++ its2) hH e (by simp) (r.append r2) ?_, rfl, q⟩
  rw [List.length_append]
  omega

/-! ### list + list, list += list, list * int -/
def rCat : R2 := fun x y H Q => ∃ l b xs zs, x = .ref l ∧ y = .ref b ∧ H l = some (.lst xs) ∧ H b = some (.lst zs) ∧ xs.length + zs.length ≤ sizeLine ∧ ∀ p, H p = none → Q (.ref p) (upd H p (.lst (xs ++ zs)))
theorem op_cat : OpR X (binaryOp .Add) rCat := by
  intro pins s σ H x y v u Q I rx ry h
  obtain ⟨l, b, xs, zs, rfl, rfl, hH, hB, hz, q⟩ := h
  cases rx
  cases ry
  obtain ⟨z, its, n, r, hl, e⟩ := I.lstM hH
  obtain ⟨z2, its2, n2, r2, hl2, e2⟩ := I.lstM hB
  refine PySem.P.add_list e e2 ?_ (by rw [List.size_toArray, List.size_toArray]; omega)
  have ea : its.toArray ++ its2.toArray = (its ++ its2).toArray := by simp
  rw [ea]
  exact ⟨.ref _, _, I.lnew (t' := s.toks) (r.append r2) (by rw [List.length_append]; omega), rfl, q _ I.fresh⟩
/-! ### del xs[i] -/
end

/-! ### xs[a:b] = ys -/
section
variable {prog : Program} {w : World} {A : Around} {E : Value → Shared → Prop} {s : Shared}
end

section
variable {X : Cx}
end
end L2

namespace Att
open PySem PySem.W PySem.Calls PyProof.Rows

/-! ### the script -/
theorem ints_of_wellAll {P : Params} {h : Heap} : ∀ (ns : List Int) (vs : List Value), WellAll P h vs (ns.map WData.int) → IntsAre vs ns := by
  intro ns
  induction ns with
  | nil =>
    intro vs w
    rw [List.map_nil] at w
    cases w
    exact .nil
  | cons n ns ih =>
    intro vs w
    rw [List.map_cons] at w
    cases w with
    | cons a b =>
      cases a
      exact .cons _ _ (ih _ b)

theorem script_of {l : OpenLaw} {n : Nat} (hn : l.most = some n) {P : Params} {h : Heap} {args : List WData} {vals : List Value}
    (hpre : l.row.toRowW.claim.pre args = true) (hwl : WellAll P h vals args) :
    ∃ a vs ns, vals = [Value.ref a] ∧ args = [WData.list (ns.map WData.int)] ∧ h.get? a = some { cls := .type "list", data := .seq vs.toArray } ∧ IntsAre vs ns ∧ ns.length ≤ n := by
  have hsh : WShape.hasAll [] args [.list .int] = true := (pre_splitW hpre).1
  have hc : l.pre.holds [] { args := args } = true := (pre_splitW hpre).2
  obtain ⟨d, r, rfl, h1, h2⟩ := hasAllW_cons hsh
  obtain rfl := hasAllW_nil h2
  obtain ⟨xs, rfl, h3⟩ := hasW_list h1
  obtain ⟨ns, rfl⟩ := items_int h3
  have hlen : ns.length ≤ n := by
    unfold OpenLaw.pre at hc
    have h4 : (WTm.not (.lt (.lit (.int (n : Int))) (.len (.arg 0)))).holds [] { args := [.list (ns.map .int)] } = true := by
      have h4 := (holds_andW hc).1
      rw [hn] at h4
      exact h4
    have h5 := condW_of h4 (w_not (w_lt w_lit (w_len_list (w_arg rfl))))
    rw [List.length_map] at h5
    refine Nat.le_of_not_lt fun q => ?_
    have q' : (n : Int) < ((ns.length : Nat) : Int) := by omega
    first
      | (rw [decide_eq_true q'] at h5; exact absurd h5 (by decide))
      | (simp at h5; omega)
  cases hwl with
  | cons w1 w2 =>
    cases w2
    cases w1 with
    | list ho hall => exact ⟨_, _, ns, rfl, rfl, ho, ints_of_wellAll ns _ hall, hlen⟩

theorem post_true (l : OpenLaw) (args : List WData) : l.row.toRowW.claim.post args (.bool true) args = true :=
  postW_of (r := l.row.toRowW) (X := (true == true))
    (show WShape.has [] (.bool true) .bool = true by first | rfl | decide | simp [WShape.has, WShape.arms, WShape.armsAll])
    (show (WTm.eq .res (.lit (.bool true))).value [] { args := args, res := some (.bool true), after := args } = some (.bool (true == true)) from w_eq_bool (w_res rfl) w_lit) rfl

/-! ### the attachment: holds_open's last premise (the goal 'hc' behind k_head) from a wpAny of the law's body -/
/-- the same from a codeAny of the CALL (for a layer whose function contracts speak of calls) -/
theorem attach_call {l : OpenLaw} {n : Nat} {q : Program} {loose : List Str} {XP : (Str → Option Value) → Heap → Prop} {YP : World → Heap → Prop} {d : DefRec}
    (hn : l.most = some n) (hdf : d.params.defaults = [])
    (call : ∀ (w : World) (s₀ s₁ : Shared) (mg mb : Str → Option Value) (fa : Addr) (o : Obj) (pm cd doc : Value) (a : Addr) (vs : List Value) (ns : List Int),
      Ground q loose [] XP w s₀ mg mb s₁.heap → YP w s₁.heap →
      s₁.heap.get? fa = some o → o.data = .func (docDef d.name d.params d.body d.scope pm cd doc) → s₁.heap.CodeRec cd d.name → mg d.name = some (.ref fa) →
      s₁.heap.get? a = some { cls := .type "list", data := .seq vs.toArray } → IntsAre vs ns → ns.length ≤ n → s₁.gens = #[] →
      codeAny (model l.prog w) callerA (.call (.ref fa) ⟨[.ref a], []⟩) (fun r s' => r = .ok (.ret (.bool true)) ∧ OldK s₁.heap s'.heap ∧ s'.os = s₁.os ∧ AllBare s'.gens) s₁) :
    WalkO q loose XP YP l.row.toRowW d [] (fun f vs => PySem.call f vs) := by
  intro w s₀ s₁ mg mb G Y fa o pm cd doc dV kV ho hd hcd hD hmg hg args vals as hpre hlay hrd hwl hlo
  obtain rfl : dV = .none := Dflts.none hD hdf
  obtain rfl : kV = .none := Dflts.noKw hD
  obtain ⟨a, vs, ns, rfl, rfl, hobj, hints, hlen⟩ := script_of hn hpre hwl
  refine enter_call (codeAny_mono (call w s₀ s₁ mg mb fa o pm cd doc a vs ns G Y ho (fd_plain hd) hcd hmg hobj hints hlen hg) fun r s' hq => ?_)
  obtain ⟨rfl, h2, h3, h4⟩ := hq
  exact ⟨.inl ⟨.bool true, .bool true, [], rfl, fun _ => rfl, .bool true, post_true l _, fun _ => ⟨List.Pairwise.nil, fun _ hm => (nomatch hm)⟩⟩, h2, h3, h4⟩

/-! ### rules over ANY heap (no ledger) from facts about the written part K: the library's own take a ledger (News) for what they write -/
section
variable {prog : Program} {w : World} {A : Around} {E : Value → Shared → Prop} {s : Shared} {K : Frag}

/-! the whole heap as the ledger: makes every rule that writes through a ledger a rule over any heap -/
end
end Att

namespace L2
open PySem PySem.Spec PyProof.Rows

theorem vals_ints : ∀ {vs : List Value} {ns : List Int}, IntsAre vs ns → Vals (ns.map V.int) vs
  | _, _, .nil => .nil
  | _, _, .cons n t h => .cons ⟨t, rfl⟩ (vals_ints h)

/-- nothing is tracked but the script, known to the object (or it is an object of the module) -/
def Only (H : Hp) : Prop := ∀ b, H b = none ∨ ∃ o xs, H b = some (.frz o (.lst xs))

/-- THE HEAD: the law's promise, at the heap behind the top. F, the promise of the law's def, may use that base is part of the heap (so K.In base, base.Ns mainGlobals mg stand in Mod) -/
theorem law_call {P : Program} {w : World} {K : PySem.W.Frag} {mg mb : Str → Option Value} {CX : CXT} {k : Nat} {fa a : Addr} {fd : FuncData} {x : Str} {sp : Sp} {s₁ : Shared} {vs : List Value} {ns : List Int}
    (KX : K.In s₁.heap) (hns : s₁.heap.Ns mainGlobals mg) (hb : s₁.heap.Ns builtinsNs mb) (hbb : ∀ x : Str, x ≠ "__name__" → mb x = bootBuiltins x) (hlim : s₁.heap.NoLimit) (hg : s₁.gens = #[])
    (ha : s₁.heap.get? a = some { cls := .type "list", data := .seq vs.toArray }) (hi : IntsAre vs ns) (hl : ns.length ≤ sizeLine) (hr : Room k callerA)
    (F : ∀ base : Heap, K.In base → base.Ns mainGlobals mg → FnOk P w K mg base CX k fa fd [x] sp) (hbind : ∀ (s : Shared) (u : Value), BindsTo s fd ⟨[u], []⟩ [(x, u)])
    (hsp : ∀ H : Hp, Only H → SqL K H a (ns.map V.int) → sp [.ref a] H (fun v _ => v = .bl true) fun _ _ _ => False)
    (hCX : ∀ H e s', CX [] H s₁ (fun _ _ _ => False) e s' → False) :
    codeAny (model P w) callerA (.call (.ref fa) ⟨[.ref a], []⟩) (fun r s' => r = .ok (.ret (.bool true)) ∧ OldK s₁.heap s'.heap ∧ s'.os = s₁.os ∧ AllBare s'.gens) s₁ := by
  have rv := vals_ints hi
  have lenV := hi.length
  -- from an abstract heap in which nothing but the script may be tracked
  have core : ∀ H : Hp, Only H → SqL K H a (ns.map V.int) → HOk P w H s₁.heap → (∀ b, H b ≠ none → b = a) → (H a ≠ none → K.lookup a = none) →
      codeAny (model P w) callerA (.call (.ref fa) ⟨[.ref a], []⟩) (fun r s' => r = .ok (.ret (.bool true)) ∧ OldK s₁.heap s'.heap ∧ s'.os = s₁.os ∧ AllBare s'.gens) s₁ := by
    intro H hO hS hok hA hK
    have base_of : ∀ {b : Addr} {o : Obj}, s₁.heap.get? b = some o → H b = none → (hidT s₁.heap H).get? b = some o := fun e n => hidT_get e n
    have noA : ∀ {b : Addr} {o : Obj} {es : Array DictEntry} {ep : Nat}, s₁.heap.get? b = some o → o.data = .dict es ep → H b = none := fun {b o es ep} e d => by
      cases q : H b with
      | none => rfl
      | some u =>
        have e' : b = a := hA b (by rw [q]; simp)
        subst e'
        rw [ha] at e; cases e
        have d' : Data.seq vs.toArray _ = Data.dict es ep := d
        cases d'
    have nsK : ∀ {b : Addr} {m : Str → Option Value}, s₁.heap.Ns b m → (hidT s₁.heap H).Ns b m := fun {b m} ⟨o, es, ep, e, d, r⟩ => ⟨o, es, ep, base_of e (noA e d), d, r⟩
    have hKb : K.In (hidT s₁.heap H) := fun b o e => base_of (KX b o e) (by
      cases q : H b with
      | none => rfl
      | some u =>
        have e' : b = a := hA b (by rw [q]; simp)
        subst e'
        rw [hK (by rw [q]; simp)] at e; cases e)
    have hM : Mod K mg (hidT s₁.heap H) := ⟨hKb, nsK hns, ⟨mb, nsK hb, hbb⟩, let ⟨mc, h1, h2⟩ := hlim; ⟨mc, nsK h1, h2⟩⟩
    have e0 : Env0 P w K mg (hidT s₁.heap H) callerA [] s₁ H := ⟨rfl, hM, fun b o e => of_hidT e, Nat.le_of_eq (hidT_size _ _), trivial, fun b hb => absurd (show b ∈ ([] : List Addr) from hb) (by simp), hok, .of_eq hg⟩
    refine codeAny_mono ((F _ hKb (nsK hns)).run callerA [] s₁ H ⟨[.ref a], []⟩ [.ref a] [.ref a] _ _ hr e0 (hbind s₁ (.ref a)) (.cons rfl .nil) (hsp H hO hS)) fun r s' h => ?_
    cases r with
    | error e => exact (hCX H e s' h).elim
    | ok fl =>
      cases fl with
      | next => exact False.elim h
      | brk => exact False.elim h
      | cont => exact False.elim h
      | ret u =>
        obtain ⟨v, H', os, bare, un, hok', r', q⟩ := h
        have q' : v = .bl true := q
        subst q'
        obtain rfl : u = Value.bool true := r'
        refine ⟨rfl, OldK.of_keep fun b o e => ?_, os, bare⟩
        cases q : H b with
        | none => exact un.keep b o e q (by intro z; exact absurd (show b ∈ ([] : List Addr) from z) (by simp)) (by simp)
        | some u =>
          rcases hO b with z | ⟨ob, xs, z⟩
          · rw [q] at z; cases z
          · have z2 := un.frzs b ob _ z
            obtain ⟨e1, _⟩ := hok b _ z
            obtain ⟨e2, _⟩ := hok' b _ z2
            rw [e] at e1; cases e1
            exact e2
  cases hk : K.lookup a with
  | some o =>
    -- the script is one of the module's own objects
    have e := KX a o hk
    rw [ha] at e
    cases e
    refine core (fun _ => none) (fun _ => .inl rfl) (.inr ⟨_, vs.toArray, _, hk, rfl, rfl, rfl, by rw [List.size_toArray, lenV]; exact hl, by simpa using rv⟩) (fun b u z => by have z' : (none : Option HO) = some u := z; cases z') (fun b z => absurd rfl z) fun z => absurd rfl z
  | none =>
    refine core (fun b => if b = a then some (.frz { cls := .type "list", data := .seq vs.toArray } (.lst (ns.map V.int))) else none) (fun b => ?_) (.inl (.inr ⟨{ cls := .type "list", data := .seq vs.toArray }, if_pos rfl⟩)) (fun b u z => ?_) (fun b z => ?_) fun _ => hk
    · by_cases hb : b = a
      · exact .inr ⟨_, _, if_pos hb⟩
      · exact .inl (if_neg hb)
    · by_cases hb : b = a
      · have z' := (if_pos hb).symm.trans z
        cases z'
        subst hb
        exact ⟨ha, by rw [List.length_map]; exact hl, vs, _, rv, ha⟩
      · have z' := (if_neg hb).symm.trans z
        cases z'
    · by_cases hb : b = a
      · exact hb
      · exact absurd (if_neg hb) z
end L2

namespace L2
open PySem PySem.Spec PyProof.Rows

/-- the goal that k_head leaves (case hc), from the law's promise. F gives the function object fd (K's own) once, then the promise over every base -/
theorem walk_of {l : PySem.W.OpenLaw} {n k : Nat} {q : Program} {loose : List Str} {XP : (Str → Option Value) → Heap → Prop} {YP : World → Heap → Prop} {d : DefRec} {K : Params → PySem.W.Frag} {CX : World → CXT} {sp : World → Sp} {x : Str}
    (hn : l.most = some n) (hn2 : n ≤ sizeLine) (hdf : d.params.defaults = []) (hr : Room k callerA)
    (hY : ∀ (w : World) (h : Heap), YP w h → (K w.params).In h)
    (F : ∀ (w : World) (mg : Str → Option Value) (fa : Addr) (h : Heap), (K w.params).In h → h.Ns mainGlobals mg → mg d.name = some (.ref fa) →
      ∃ fd : FuncData, (∀ (s : Shared) (u : Value), BindsTo s fd ⟨[u], []⟩ [(x, u)]) ∧
        ∀ base : Heap, (K w.params).In base → base.Ns mainGlobals mg → FnOk l.prog w (K w.params) mg base (CX w) k fa fd [x] (sp w))
    (hsp : ∀ (w : World) (H : Hp) (a : Addr) (ns : List Int), ns.length ≤ n → Only H → SqL (K w.params) H a (ns.map V.int) → sp w [.ref a] H (fun v _ => v = .bl true) fun _ _ _ => False)
    (hCX : ∀ (w : World) (H : Hp) (s : Shared) (e : Value) (s' : Shared), CX w [] H s (fun _ _ _ => False) e s' → False) :
    PySem.W.WalkO q loose XP YP l.row.toRowW d [] (fun f vs => PySem.call f vs) := by
  refine Att.attach_call hn hdf fun w s₀ s₁ mg mb fa o pm cd doc a vs ns G Y ho hd hcd hmg hobj hints hlen hg => ?_
  have KX := hY w _ Y
  obtain ⟨fd, hb, hF⟩ := F w mg fa _ KX G.T.g hmg
  exact law_call KX G.T.g G.T.b G.T.builtins G.T.nolimit hg hobj hints (Nat.le_trans hlen hn2) hr hF hb (fun H hO hS => hsp w H a ns hlen hO hS) fun H e s' => hCX w H s₁ e s'
end L2

/- THE LAST THEOREM (shape; LID, My.* are yours):
   My.Adr: a structure of the addresses that your layer names (classes, functions); My.Txt K t: a structure (Prop) of the equations over K;
   My.txt_mk : {K} {implicit addresses ..} (e1 : nsIn K mainGlobals "law" = some (some (.ref f))) (e2 : K.lookup f = some ⟨oc, od, .func (fnOf "law" "law" params body scope dV kV doc pm an cdv ct), sl⟩) (e3 : codeIn K cdv "law" = true) .. : ∃ t, My.Txt K t

set_option maxRecDepth 100000 in
set_option maxHeartbeats 0 in
theorem PySem.Challenge.cw_LID_holds : PySem.Challenge.rw_LID.Holds := by
  w_on; o_law; k_head; (case hw => w_witness2)
  k_fill
  refine L2.walk_of (l := PySem.Challenge.rw_LID) (n := 63) (k := 40) (x := "script") (CX := fun w => ..) (sp := fun _ => My.sp_law) rfl (by decide) rfl ⟨rfl, by decide, by decide⟩ (fun w h Y => PySem.W.kIn_of Y) ?F ?S ?C
  case F =>
    intro w mg fa h KX G hmg
    have T : ∃ t, My.Txt (L2.KOf KX) t := by
      dsimp only [L2.KOf]                          -- K must stand as «<heap const> w.params» for k_is
      refine' My.txt_mk ?e1 ?e2 ?e3 ..
      (case e1 => PySem.W.k_is)                    -- in the order: a name -> its address -> its object -> its parts
      (case e2 => PySem.W.k_is)
      ..
    obtain ⟨t, T⟩ := T
    have e0 := hmg.symm.trans (PySem.W.mg_of KX G T.law)
    cases e0                                       -- fa is the law's own address
    exact ⟨_, fun s u => .of_eq rfl, fun base kb nb => My.law_fn T kb nb⟩     -- if «.of_eq rfl» comes too early: refine' ⟨_, ?b, fun base kb nb => My.law_fn T kb nb⟩; exact fun s u => .of_eq rfl
  case S => exact fun w H a ns hl hO hS => ..
  case C => exact ..
(the tactic k_is has no namespace: write k_is) -/

/-! SHORT WORDS over the layer: a def of the text, its body, what a loop and a test want. -/
namespace L2
open PySem PySem.Spec PyProof.Rows

/-! ### the text by places -/
def defArgs (s : Stmt) : Arguments := match s with
  | .FunctionDef _ a _ _ _ _ _ _ _ _ => a
  | _ => { posonlyargs := [], args := [], vararg := none, kwonlyargs := [], kw_defaults := [], kwarg := none, defaults := [] }
def defBody (s : Stmt) : List Stmt := match s with
  | .FunctionDef _ _ b _ _ _ _ _ _ _ => b
  | _ => []
def defScope (s : Stmt) : Scope := match s with
  | .FunctionDef _ _ _ _ _ _ sc _ _ _ => sc
  | _ => { kind := .function, names := [], isGenerator := false, isCoroutine := false }

/-! ### no exception leaves a def -/
abbrev CX0 : CXT := fun _ _ _ _ _ _ => False
abbrev E0 : XK := fun _ _ _ => False
theorem pass0 {X : Cx} : Passes CX0 X E0 := fun _ _ _ _ _ _ _ h => h.elim

/-! ### a def (or method) of the text as it stands behind the top -/
structure Fun (K : PySem.W.Frag) (x qual : Str) (st : Stmt) (f : Addr) (fd : FuncData) : Prop where
  ex : ∃ (oc : Value) (od : Option Addr) (kV doc pm : Value) (an : Option Addr) (cdv ct : Value) (osl : Array (Option Value)),
    fd = PySem.W.fnOf x qual (defArgs st) (defBody st) (defScope st) .none kV doc pm an cdv ct ∧ K.lookup f = some ⟨oc, od, .func fd, osl⟩ ∧ PySem.W.codeIn K cdv qual = true
  kp : PySem.W.keepIn K (.ref f) = true
section
variable {P : Program} {w : World} {K : PySem.W.Frag} {mg : Str → Option Value} {base : Heap}
/-- THE RULE for a def: its body as a term of rules, and the reading of that term -/
theorem Fun.ok {x qual : Str} {st : Stmt} {f : Addr} {fd : FuncData} {N ps : List Str} {k : Nat} {sp : Sp} {c : Bool} (F : Fun K x qual st f fd) (S : FnScope N ps (defScope st)) (len : ∀ vs H Q E, sp vs H Q E → vs.length = ps.length)
    (hbody : ∀ (cdv : Value) (A : Around) (outer : List Env) (s : Shared) (H : Hp) (vs : List V) (Q : VK) (E : XK), Room k (A.deeper (envOfC qual (defScope st) s.heap.objs.size f cdv)) c → sp vs H Q E →
      ∃ t, PSs (cxOf CX0 P w K mg base N qual (defScope st) f cdv A outer s H E c).nox (defBody st) t ∧ t { nx := fun _ H' => Q .non H', rt := Q } (start N vs) H) : FnOk P w K mg base CX0 (k + 1) f fd ps sp c := by
  obtain ⟨oc, od, kV, doc, pm, an, cdv, ct, osl, rfl, lk, hcd⟩ := F.ex
  refine fn_of lk hcd S len fun A outer s H vs Q E hr hsp => ?_
  obtain ⟨t, h, q⟩ := hbody cdv A outer s H vs Q E hr hsp
  exact ⟨t, h.nox, q⟩
/-- how its arguments bind (no defaults): h is «fun _ _ _ _ _ _ us hl => match us, hl with | [_, _], _ => rfl», one _ a parameter -/
theorem Fun.binds {x qual : Str} {st : Stmt} {f : Addr} {fd : FuncData} {ps : List Str} (F : Fun K x qual st f fd)
    (h : ∀ (kV doc pm : Value) (an : Option Addr) (cdv ct : Value) (us : List Value), us.length = ps.length → bindArgs (PySem.W.fnOf x qual (defArgs st) (defBody st) (defScope st) .none kV doc pm an cdv ct) ⟨us, []⟩ = pure (ps.zip us)) : Binds K fd ps [] := by
  obtain ⟨oc, od, kV, doc, pm, an, cdv, ct, osl, rfl, lk, hcd⟩ := F.ex
  exact .all (h kV doc pm an cdv ct)
theorem fun_mk {x qual : Str} {st : Stmt} {f : Addr} {oc : Value} {od an : Option Addr} {osl : Array (Option Value)} {kV doc pm cdv ct : Value} (l : K.lookup f = some ⟨oc, od, .func (PySem.W.fnOf x qual (defArgs st) (defBody st) (defScope st) .none kV doc pm an cdv ct), osl⟩)
    (c : PySem.W.codeIn K cdv qual = true) (k : PySem.W.keepIn K (.ref f) = true) : Fun K x qual st f (PySem.W.fnOf x qual (defArgs st) (defBody st) (defScope st) .none kV doc pm an cdv ct) := ⟨⟨oc, od, kV, doc, pm, an, cdv, ct, osl, rfl, l, c⟩, k⟩
end
theorem hu_of {A : Around} {k : Nat} {c : Bool} (hr : Room k A c) : A.units + 1 < cLine := Nat.lt_of_le_of_lt (Nat.add_le_add_left (by decide : 1 ≤ 64) _) hr.units
/-! ### expressions in short: the name that stands in the i-th slot -/
section
variable {X : Cx}
theorem pv (i : Nat) {x : Str} {pos : Pos} (hN : X.N[i]? = some x := by rfl) (hv : Vis X.env.scope x := by first | exact Or.inl rfl | exact Or.inr (Or.inl rfl) | exact Or.inr (Or.inr rfl)) (hd : (x == ("__debug__" : Str)) = false := by decide)
    (hcd : (x == ("__classdict__" : Str)) = false := by decide) : PE X (.Name x pos) (tVar i) := pe_var hN hv hd hcd
end

/-! ### tests -/
theorem iteF {A B : Prop} (h : B) : if false = true then A else B := by
  rw [if_neg Bool.false_ne_true]
  exact h
theorem iteT {A B : Prop} (h : A) : if true = true then A else B := by
  rw [if_pos rfl]
  exact h
theorem ite2 {c A B : Prop} [Decidable c] (h1 : c → A) (h2 : ¬ c → B) : if c then A else B := by
  by_cases h : c
  · rw [if_pos h]
    exact h1 h
  · rw [if_neg h]
    exact h2 h
/-! ### heaps -/
/-- all that was tracked is as it was -/
def Same (H H' : Hp) : Prop := ∀ b o, H b = some o → H' b = some o
theorem Same.refl (H : Hp) : Same H H := fun _ _ h => h
theorem Same.trans {H H1 H2 : Hp} (a : Same H H1) (b : Same H1 H2) : Same H H2 := fun c o h => b c o (a c o h)
theorem Same.seq {K : PySem.W.Frag} {H H' : Hp} {a : Addr} {xs : List V} (e : Same H H') (h : SqL K H a xs) : SqL K H' a xs := by
  rcases h with (h | ⟨o, h⟩) | h
  · exact .inl (.inl (e _ _ h))
  · exact .inl (.inr ⟨o, e _ _ h⟩)
  · exact .inr h

end L2
namespace L2
open PySem PySem.Spec PyProof.Rows

/-! ### no exception -/
abbrev NoX : Value → Shared → Prop := fun _ _ => False
theorem noX {α : Type} {M : Model} {A : Around} {t : Sem α} {Q : α → Shared → Prop} {E : Value → Shared → Prop} {s : Shared} (h : wpAny M A t Q NoX s) : wpAny M A t Q E s := wpAny_mono h (fun _ _ q => q) fun _ _ z => z.elim

/-! ### a comprehension's turns -/
abbrev tstSem (ifs : List Expr) (env : Env) : Sem Bool := forIn ifs true fun c r => if r = true then do let ok ← isTrue c env (eval c env); pure (ForInStep.yield ok) else pure (ForInStep.yield r)
section
variable {prog : Program} {w : World} {A : Around} {R : Result → Shared → Prop} {s : Shared}
theorem comp_loop {elt tg iter : Expr} {ifs : List Expr} {sc : Scope} {pos : Pos} {it acc : Value} {env : Env} (I : Nat → Shared → Prop)
    (turn : ∀ n s, I n s → wpAny (model prog w) A (pyNext it) (fun r s1 => match r with
      | none => R (.ok .next) s1
      | some v => wpAny (model prog w) A (letOwnedTupleGo tg it v) (fun _ s2 => wpAny (model prog w) A (assign tg env v) (fun _ s3 => wpAny (model prog w) A (tstSem ifs env) (fun ok s4 =>
          if ok = true then wpAny (model prog w) A (eval elt env) (fun x s5 => wpAny (model prog w) A (call (.builtin "list.append") [acc, x]) (fun _ s6 => ∃ m, m < n ∧ I m s6) NoX s5) NoX s4
          else ∃ m, m < n ∧ I m s4) NoX s3) NoX s2) NoX s1) NoX s)
    (n : Nat) (h : I n s) : codeAny (model prog w) A (.compLoop (.ListComp elt [⟨tg, iter, ifs, 0⟩] sc pos) 0 it acc env) R s := by
  refine codeAny_loop rfl I (fun n s hI => ?_) n h
  show wpAny _ A ((compTurn (.ListComp elt [⟨tg, iter, ifs, 0⟩] sc pos) 0 it acc env).onRaise (fun x => do noteFrame x env; theTreesLotGoes x)) _ _ s
  refine wpAny_noted ?_
  rw [compTurn_list]
  refine wpAny_bind (wpAny_standAt (wpAny_bind (noX (thn (turn n s hI) fun r s1 h1 => ?_))))
  cases r with
  | none => exact wpAny_pure h1
  | some v =>
    refine wpAny_bind (noX (thn h1 fun _ s2 h2 => wpAny_bind (noX (thn h2 fun _ s3 h3 => wpAny_bind (noX (thn h3 fun ok s4 h4 => ?_))))))
    cases ok with
    | false => exact wpAny_pure ⟨rfl, h4⟩
    | true => exact wpAny_bind (wpAny_bind (noX (thn h4 fun x s5 h5 => wpAny_bind (noX (thn h5 fun _ s6 h6 => wpAny_pure (wpAny_pure ⟨rfl, h6⟩))))))
end

/-! ### the cells of the names that a block takes from around it -/
theorem closure_go {env : Env} : ∀ (l : List (Str × NameKind)) (acc : List (Str × Addr)), (∀ y ∈ l, y.2 = .free → ∃ c, env.cells.lookup y.1 = some c) → (∀ y c, acc.lookup y = some c → env.cells.lookup y = some c) →
    ∃ cl, (forIn l acc fun x r => if (x.2 == NameKind.free) = true then (do let c ← cellOf env x.1; pure (ForInStep.yield ((x.1, c) :: r))) else pure (ForInStep.yield r)) = (pure cl : Sem (List (Str × Addr))) ∧
      (∀ y c, cl.lookup y = some c → env.cells.lookup y = some c) ∧ (∀ y ∈ l, y.2 = .free → ∃ c, cl.lookup y.1 = some c) ∧ (∀ y c, acc.lookup y = some c → ∃ c', cl.lookup y = some c')
  | [], acc, _, h2 => ⟨acc, rfl, h2, (fun _ z => nomatch z), (fun _ c e => ⟨c, e⟩)⟩
  | (n, k) :: r, acc, h1, h2 => by
    rw [List.forIn_cons]
    by_cases hk : k = .free
    · subst hk
      obtain ⟨c, hc⟩ := h1 (n, .free) List.mem_cons_self rfl
      have e : cellOf env n = pure c := by
        have hc' : env.cells.lookup n = some c := hc
        unfold cellOf
        rw [hc']
      obtain ⟨cl, q1, q2, q3, q4⟩ := closure_go r ((n, c) :: acc) (fun y hy => h1 y (List.mem_cons_of_mem _ hy)) (fun y c' e' => by
        rw [List.lookup_cons] at e'
        by_cases hy : (y == n) = true
        · rw [hy] at e'
          have hn : y = n := eq_of_beq hy
          subst hn
          cases e'
          exact hc
        · rw [Bool.not_eq_true] at hy
          rw [hy] at e'
          exact h2 y c' e')
      refine ⟨cl, ?_, q2, fun y hy hf => ?_, fun y c' e' => ?_⟩
      · simp only [beq_self_eq_true, if_true, e, pure_bind]
        exact q1
      · rcases List.mem_cons.mp hy with rfl | hy
        · exact q4 n c (by simp)
        · exact q3 y hy hf
      · by_cases hy : (y == n) = true
        · have hn : y = n := eq_of_beq hy
          subst hn
          exact q4 y c (by simp)
        · rw [Bool.not_eq_true] at hy
          exact q4 y c' (by rw [List.lookup_cons, hy]; exact e')
    · have hb : (k == NameKind.free) = false := by simpa using hk
      obtain ⟨cl, q1, q2, q3, q4⟩ := closure_go r acc (fun y hy => h1 y (List.mem_cons_of_mem _ hy)) h2
      refine ⟨cl, ?_, q2, fun y hy hf => ?_, q4⟩
      · simp only [hb, Bool.false_eq_true, if_false, pure_bind]
        exact q1
      · rcases List.mem_cons.mp hy with rfl | hy
        · exact absurd hf hk
        · exact q3 y hy hf
theorem closure_ok {env : Env} {sc : Scope} (h : ∀ y ∈ sc.names, y.2 = .free → ∃ c, env.cells.lookup y.1 = some c) :
    ∃ cl, closureFor sc env = pure cl ∧ (∀ y c, cl.lookup y = some c → env.cells.lookup y = some c) ∧ ∀ y ∈ sc.names, y.2 = .free → ∃ c, cl.lookup y.1 = some c := by
  obtain ⟨cl, q1, q2, q3, _⟩ := closure_go sc.names [] h (fun _ _ z => nomatch z)
  refine ⟨cl, ?_, q2, q3⟩
  unfold closureFor
  rw [bind_pure]
  exact q1
theorem relabel_look {env : Env} {y : Str} {k : NameKind} {sc : Scope} (h : (relabel sc env).names.lookup y = some k) : ∃ k0, sc.names.lookup y = some k0 ∧ (k = k0 ∨ (k0 = .free ∧ k = .cell)) := by
  have go : ∀ l : List (Str × NameKind), (l.map fun (n, k) => if (k == .free && env.scope.kind == .function && env.kindOf n == some .cell) then (n, NameKind.cell) else (n, k)).lookup y = some k → ∃ k0, l.lookup y = some k0 ∧ (k = k0 ∨ (k0 = .free ∧ k = .cell)) := by
    intro l
    induction l with
    | nil => intro z; cases z
    | cons a r ih =>
      obtain ⟨n, k1⟩ := a
      intro z
      rw [List.map_cons] at z
      by_cases hc : (k1 == NameKind.free && env.scope.kind == .function && env.kindOf n == some .cell) = true
      · have hf : k1 = .free := by
          rw [Bool.and_eq_true, Bool.and_eq_true] at hc
          simpa using hc.1.1
        simp only [hc, if_true] at z
        rw [List.lookup_cons] at z ⊢
        by_cases hy : (y == n) = true
        · rw [hy] at z ⊢
          cases z
          exact ⟨k1, rfl, .inr ⟨hf, rfl⟩⟩
        · rw [Bool.not_eq_true] at hy
          rw [hy] at z ⊢
          exact ih z
      · simp only [hc, Bool.false_eq_true, if_false] at z
        rw [List.lookup_cons] at z ⊢
        by_cases hy : (y == n) = true
        · rw [hy] at z ⊢
          cases z
          exact ⟨_, rfl, .inl rfl⟩
        · rw [Bool.not_eq_true] at hy
          rw [hy] at z ⊢
          exact ih z
  exact go sc.names h
theorem relabel_free {env : Env} {y : Str} {sc : Scope} (h : sc.names.lookup y = some .free) : (relabel sc env).names.lookup y = some .cell ∨ (relabel sc env).names.lookup y = some .free := by
  have go : ∀ l : List (Str × NameKind), l.lookup y = some .free → (l.map fun (n, k) => if (k == .free && env.scope.kind == .function && env.kindOf n == some .cell) then (n, NameKind.cell) else (n, k)).lookup y = some .cell ∨
      (l.map fun (n, k) => if (k == .free && env.scope.kind == .function && env.kindOf n == some .cell) then (n, NameKind.cell) else (n, k)).lookup y = some .free := by
    intro l
    induction l with
    | nil => intro z; cases z
    | cons a r ih =>
      obtain ⟨n, k1⟩ := a
      intro z
      rw [List.lookup_cons] at z
      rw [List.map_cons]
      by_cases hy : (y == n) = true
      · rw [hy] at z
        cases z
        by_cases hc : (NameKind.free == NameKind.free && env.scope.kind == .function && env.kindOf n == some .cell) = true
        · simp only [hc, if_true]
          exact .inl (by rw [List.lookup_cons, hy])
        · simp only [hc, Bool.false_eq_true, if_false]
          exact .inr (by rw [List.lookup_cons, hy])
      · rw [Bool.not_eq_true] at hy
        rw [hy] at z
        by_cases hc : (k1 == NameKind.free && env.scope.kind == .function && env.kindOf n == some .cell) = true
        · simp only [hc, if_true]
          rw [List.lookup_cons, hy]
          exact ih z
        · simp only [hc, Bool.false_eq_true, if_false]
          rw [List.lookup_cons, hy]
          exact ih z
  exact go sc.names h

/-! ### the block's context -/
abbrev cxComp (X : Cx) (N : List Str) (sc : Scope) (cl : List (Str × Addr)) (C : Addr) (s : Shared) (H : Hp) (ex : List Addr) (pn : List (Addr × Obj)) : Cx :=
  { prog := X.prog, w := X.w, K := X.K, mg := X.mg, base := X.base, A := X.A, N := N, s₀ := s, H₀ := H, env := compEnvC sc cl C X.env, outer := X.stack, stack := X.stack, ex := ex, fn := fun _ => false, calm := X.calm, pn := pn, xe := fun _ _ => False }
/-- a block's tests -/
def PTs (X : Cx) (ifs : List Expr) (t : TT) : Prop :=
  ∀ (pins : List (Addr × Obj)) (s : Shared) (σ : St) (H : Hp) (Q : Bool → Hp → Prop), Inv X pins σ H s → t σ H Q → wpAny (model X.prog X.w) X.A (tstSem ifs X.env) (TP X pins σ Q) X.xe s
def tTrue : TT := fun _ H Q => Q true H
theorem ttT {σ : St} {H : Hp} {A B : Hp → Prop} (h : A H) : tTrue σ H (fun b H4 => if b = true then A H4 else B H4) := by
  show if true = true then A H else B H
  rw [if_pos rfl]
  exact h
theorem pts_nil {X : Cx} : PTs X [] tTrue := fun _ _ _ H _ I h => wpAny_tests_nil ⟨H, I, h⟩
/-- what the block sees of the names around it -/
def capV (σ : St) (caps : List Nat) : St := caps.map fun i => (σ[i]?).getD none
def CompW (J : It) (p : Addr) (tt : TT) (te : TE) (cs : St) (Q : VK) (H1 : Hp) : Prop := ∃ W : Nat → Nat → List V → Hp → Prop, (∃ m, W 0 m [] (upd H1 p (.lst []))) ∧ ∀ i m ys H2, W i m ys H2 →
  (J.stop i H2 ∧ Q (.ref p) H2) ∨ (J.go i H2 ∧ ∃ N : List V → Hp → Prop, (∀ ys' H', N ys' H' → ∃ m', m' < m ∧ W (i + 1) m' ys' H') ∧
    ∀ v H3, J.yld i H2 v H3 → tt (some v :: cs) H3 fun b H4 => if b = true then te (some v :: cs) H4 fun y H5 => H5 p = some (.lst ys) ∧ ys.length < sizeLine ∧ N (ys ++ [y]) (upd H5 p (.lst (ys ++ [y]))) else N ys H4)
/-- .. with what must hold of the heap at each turn and at the end -/
def CompWG (Gs : Hp → Prop) (J : It) (p : Addr) (tt : TT) (te : TE) (cs : St) (Q : VK) (H1 : Hp) : Prop := ∃ W : Nat → Nat → List V → Hp → Prop, (∃ m, W 0 m [] (upd H1 p (.lst []))) ∧ ∀ i m ys H2, W i m ys H2 →
  (J.stop i H2 ∧ Gs H2 ∧ Q (.ref p) H2) ∨ (J.go i H2 ∧ Gs H2 ∧ ∃ N : List V → Hp → Prop, (∀ ys' H', N ys' H' → ∃ m', m' < m ∧ W (i + 1) m' ys' H') ∧
    ∀ v H3, J.yld i H2 v H3 → tt (some v :: cs) H3 fun b H4 => if b = true then te (some v :: cs) H4 fun y H5 => H5 p = some (.lst ys) ∧ ys.length < sizeLine ∧ N (ys ++ [y]) (upd H5 p (.lst (ys ++ [y]))) else N ys H4)
def tCompC (CW : It → Addr → St → VK → Hp → Prop) (wi : TI) (caps : List Nat) : TE := fun σ H Q => wi σ H fun J H1 => ∀ p, H1 p = none → CW J p (capV σ caps) Q H1
def tComp (wi : TI) (tt : TT) (te : TE) (caps : List Nat) : TE := fun σ H Q => wi σ H fun J H1 => ∀ p, H1 p = none → CompW J p tt te (capV σ caps) Q H1

theorem comp_go {X : Cx} {use : Option (Value → Sem Unit)} {Post : Value → Shared → Prop} {pins : List (Addr × Obj)} {s : Shared} {σ : St} {H : Hp} {Q : VK} {Gs : Hp → Prop} {hb : Bool} {CW : It → Addr → St → VK → Hp → Prop} {elt iter : Expr} {ifs : List Expr} {x : Str} {px pos : Pos} {sc : Scope} {wi : TI} {tt : TT} {te : TE} (caps : List Nat) (capsN : List Str)
    (hi : PI X (.Name x px) iter wi hb)
    (ht : ∀ cl C s H ex pn, PTs (cxComp X (x :: capsN) sc cl C s H ex pn) ifs tt)
    (he : ∀ cl C s H ex pn, PE (cxComp X (x :: capsN) sc cl C s H ex pn) elt te)
    (hkind : sc.kind = .function) (hcell : ∀ y ∈ sc.names, y.2 ≠ .cell) (hnames : ∀ y ∈ sc.names, y.2 = .local → sc.names.lookup y.1 = some .local) (hx : sc.names.lookup x = some .local)
    (hfr : ∀ y ∈ sc.names, y.2 = .free → y.1 ∈ capsN)
    (hcap : ∀ (j : Nat) (y : Str), capsN[j]? = some y → ∃ i : Nat, caps[j]? = some i ∧ X.N[i]? = some y ∧ sc.names.lookup y = some .free ∧ (X.env.kindOf y = some .cell ∨ X.env.kindOf y = some .free)) (hlen : caps.length = capsN.length)
    (hnd : (x :: capsN).Nodup) (hc : X.calm = true ∨ (hb = true ∧ ∀ s H, HOk X.prog X.w H s.heap → Gs H → HandQ X s)) (kW : ∀ J p cs Q H1, CW J p cs Q H1 → CompWG Gs J p tt te cs Q H1)
    (hs : ∀ x, foldedSetIterable iter X.env x = pure x) (I : Inv X pins σ H s) (h : tCompC CW wi caps σ H Q)
    (fin : ∀ (C p : Addr) (H5 : Hp) (s5 : Shared), (∃ m, s5.heap.Ns C m) → Inv X pins σ H5 s5 → FpOk X pins H5 C → Q (.ref p) H5 → compPost (model X.prog X.w) X.A X.xe use Post (.ref p) C (.ok .next) s5) :
    wpAny (model X.prog X.w) X.A (comprehension (.ListComp elt [⟨.Name x px, iter, ifs, 0⟩] sc pos) sc X.env (firstIterPos [⟨.Name x px, iter, ifs, 0⟩] pos) (newList []) (firstAsync [⟨.Name x px, iter, ifs, 0⟩]) (firstIter [⟨.Name x px, iter, ifs, 0⟩] X.env) use) Post X.xe s := by
  have hEnd : ∀ s H, HOk X.prog X.w H s.heap → Gs H → EndQ hb X s := by
    rcases hc with hc | ⟨e, k⟩
    · exact fun _ _ _ _ => .inl (I.ok.hd hc)
    · exact fun s H o g => .inr ⟨e, k s H o g⟩
  obtain ⟨cl, hclos, hq2, hq3⟩ := closure_ok (env := X.env) (sc := sc) (fun y hy hf => by
    obtain ⟨j, hj⟩ := List.mem_iff_getElem?.mp (hfr y hy hf)
    obtain ⟨_, _, _, _, k⟩ := hcap j y.1 hj
    exact I.ok.has y.1 k)
  refine wpAny_comprehension_free (use := use) rfl hs hclos hkind hnames (thn (hi pins s σ H _ I h) fun v s1 h1 => thn h1 fun itv s2 h2 => ?_)
  obtain ⟨it, fp, tn, J, H2, e, I2, T, st2, f2, q⟩ := h2
  subst e
  refine wpAny_newObj_type (wpAny_newFunctionEnv hcell (by intro y hy; simp at hy) (fun h1 hns hsb => ?_) hkind)
  dsimp only at hns hsb ⊢
  obtain ⟨W, ⟨m0, w0⟩, turn⟩ := kW _ _ _ _ _ (q s2.heap.objs.size (I2.hok.fresh (Nat.le_refl _)))
  have I3 : Inv X pins σ (upd H2 s2.heap.objs.size (.lst [])) { s2 with heap := s2.heap.push { cls := .type "list", dict := none, data := .seq ([] : List Value).toArray }, toks := s2.toks } := I2.lnew (its := []) (ys := []) (t' := s2.toks) .nil (Nat.zero_le _)
  generalize hH3 : s2.heap.push { cls := .type "list", dict := none, data := .seq ([] : List Value).toArray } = g3 at hns hsb I3 ⊢
  have hsz3 : g3.objs.size = s2.heap.objs.size + 1 := by rw [← hH3, Heap.size_push]
  generalize hHp : upd H2 s2.heap.objs.size (.lst []) = Hp3 at w0 I3
  have hlt : ∀ b o, g3.get? b = some o → b ≠ g3.objs.size := fun b o e => Nat.ne_of_lt (Heap.lt_size e)
  have old : ∀ b o, g3.get? b = some o → h1.get? b = some o := fun b o e => hsb.extBut b o (hlt b o e) (Heap.get?_push_of_some _ e)
  have fpo : ∀ b ∈ fp, ∃ o, g3.get? b = some o := fun b hb => by
    obtain ⟨o, e, _⟩ := T.obj 0 s2.heap st2 b hb
    exact ⟨o, by rw [← hH3]; exact Heap.get?_push_of_some _ e⟩
  have fpC : ∀ b ∈ fp, b ≠ g3.objs.size := fun b hb => by obtain ⟨o, e⟩ := fpo b hb; exact hlt b o e
  have fpH : ∀ b ∈ fp, Hp3 b = none := fun b hb => by
    obtain ⟨o, e, _⟩ := T.obj 0 s2.heap st2 b hb
    rw [← hHp, upd_ne (Nat.ne_of_lt (Heap.lt_size e))]
    exact (f2 b hb).1
  have fsSub : ∀ b, b ≠ X.env.locals → b ∉ X.fs → b ∉ frs X.stack := fun b h1 h2 z => by
    rcases List.mem_cons.mp (I2.stkSub b z) with z | z
    · exact h1 z
    · exact h2 z
  -- the block's context
  have okc : (cxComp X (x :: capsN) sc cl g3.objs.size { s2 with heap := g3, toks := s2.toks } Hp3 fp (X.pn ++ pins)).Ok := by
    refine ⟨I3.ok.mod, hkind, I3.ok.glob, I3.ok.blt, Nat.le_refl _, fun y z c e1 e2 => I3.ok.inj y z c (hq2 y c e1) (hq2 z c e2), fun y hy => ?_, fun y c z => absurd z Bool.false_ne_true, I3.ok.hd, I3.ok.frames, .inl rfl, fun b hb => ⟨fpC b hb, fun y c e => (f2 b hb).2.2.2.2.1 y c (hq2 y c e)⟩,
      I3.bs, Nat.le_trans I3.ok.bsz I3.sz, fun b o e hb => ?_, fun b hb => fsSub b (f2 b hb).2.1 (f2 b hb).2.2.1, I3.stack, I3.stkFree⟩
    · have hy' : ∃ k, (relabel sc X.env).names.lookup y = some k ∧ (k = .cell ∨ k = .free) := by
        rcases hy with hy | hy
        · exact ⟨_, hy, .inl rfl⟩
        · exact ⟨_, hy, .inr rfl⟩
      obtain ⟨k, e, hk⟩ := hy'
      obtain ⟨k0, e0, hk0⟩ := relabel_look e
      have em := PySem.mem_of_lookup e0
      rcases hk0 with rfl | ⟨rfl, _⟩
      · rcases hk with rfl | rfl
        · exact absurd rfl (hcell _ em)
        · exact hq3 _ em rfl
      · exact hq3 _ em rfl
    · rcases (f2 b hb).2.2.2.1 with z | z
      · exact I3.ok.noex b o e z
      · have h1 : b < X.base.objs.size := Heap.lt_size e
        have h2 := I3.ok.bsz
        exact absurd (Nat.lt_of_lt_of_le h1 (Nat.le_trans h2 z)) (Nat.lt_irrefl _)
  have Ic : Inv (cxComp X (x :: capsN) sc cl g3.objs.size { s2 with heap := g3, toks := s2.toks } Hp3 fp (X.pn ++ pins)) [] (none :: capV σ caps) Hp3 { s2 with heap := h1, toks := s2.toks + ([] : List (Str × Value)).length } := by
    refine ⟨okc, rfl, I3.bare, Un.kept old, ⟨_, hns, fun i y v e1 e2 e3 => ?_⟩, fun y c e => ?_, I3.hok.fresh (Nat.le_refl _), fun y c e => I3.freeC y c (hq2 y c e), fun p hp => ?_, I3.hok.kept old, ?_⟩
    · cases i with
      | zero => cases e2
      | succ j =>
        have e1' : capsN[j]? = some y := e1
        obtain ⟨i, c1, c2, c3, c4⟩ := hcap j y e1'
        have e2' : (capV σ caps)[j]? = some (some v) := e2
        have hv : σ[i]? = some (some v) := by
          unfold capV at e2'
          rw [List.getElem?_map, c1] at e2'
          have e4 : (σ[i]?).getD none = some v := Option.some.inj e2'
          cases e5 : σ[i]? with
          | none => rw [e5] at e4; cases e4
          | some w => rw [e5] at e4; exact congrArg some e4
        obtain ⟨m, _, hl⟩ := I3.loc
        have vis : Vis X.env.scope y := by
          rcases c4 with z | z
          · exact .inr (.inl z)
          · exact .inr (.inr z)
        obtain ⟨u, r, l⟩ := hl i y v c2 hv vis
        refine ⟨u, r, .inr ⟨relabel_free c3, ?_⟩⟩
        rcases l with ⟨lk, _⟩ | ⟨_, c, ec, o, ho, hd⟩
        · rcases c4 with z | z <;> (rw [lk] at z; cases z)
        · obtain ⟨c', e'⟩ := hq3 _ (PySem.mem_of_lookup c3) rfl
          have e'' := hq2 _ _ e'
          have e3' : (some c' : Option Addr) = some c := e''.symm.trans ec
          cases e3'
          exact ⟨c, e', o, old _ _ ho, hd⟩
    · obtain ⟨v, o, ho, hd⟩ := I3.cell y c (hq2 y c e)
      exact ⟨v, o, old _ _ ho, hd⟩
    · have hp' : p ∈ X.pn ++ pins := by simpa using hp
      obtain ⟨e1, e2, e3, e4, e5⟩ := I3.pin p hp'
      exact ⟨old _ _ e1, e2, hlt _ _ e1, fsSub _ e3 e4, e5⟩
    · show (capV σ caps).length + 1 = capsN.length + 1
      unfold capV
      rw [List.length_map, hlen]
  have stat : ∀ {H' : Hp}, (∀ b ∈ fp, H' b = none) → ∀ b ∈ fp, FpOk (cxComp X (x :: capsN) sc cl g3.objs.size { s2 with heap := g3, toks := s2.toks } Hp3 fp (X.pn ++ pins)) [] H' b := fun hn b hb =>
    ⟨hn b hb, fpC b hb, fsSub b (f2 b hb).2.1 (f2 b hb).2.2.1, .inl hb, fun y c e => (f2 b hb).2.2.2.2.1 y c (hq2 y c e), fun p hp => (f2 b hb).2.2.2.2.2 p (by simpa using hp)⟩
  -- behind the block
  have back : ∀ {pins5 : List (Addr × Obj)} {σ5 : St} {H5 : Hp} {s5 : Shared} {h' : Heap}, Inv (cxComp X (x :: capsN) sc cl g3.objs.size { s2 with heap := g3, toks := s2.toks } Hp3 fp (X.pn ++ pins)) pins5 σ5 H5 s5 → Heap.SameBut g3.objs.size s5.heap h' → Inv X pins σ H5 { s5 with heap := h' } := by
    intro pins5 σ5 H5 s5 h' I5 sb
    have un : Un (frs X.stack) fp Hp3 H5 g3 s5.heap := I5.base
    have fr : H5 g3.objs.size = none := I5.free
    have un' : Un (frs X.stack) fp Hp3 H5 g3 h' := ⟨fun b o e n hb hx => (sb.2 b (hlt b o e)).trans (un.keep b o e n hb hx),
      fun b o e n hb hx => by obtain ⟨sl, z⟩ := un.slot b o e n hb hx; exact ⟨sl, (sb.2 b (hlt b o e)).trans z⟩, un.free,
      fun b o e hx => by obtain ⟨o', z⟩ := un.there b o e hx; exact ⟨o', (sb.2 b (hlt b o e)).trans z⟩, un.tups, un.frzs, un.tbls⟩
    have hok : HOk X.prog X.w H5 h' := fun b u e => (I5.hok b u e).stay (fun c v hc' z => (sb.2 c (by
      rintro rfl
      rcases hc' with hc' | hc'
      · rw [hc', e] at fr; cases fr
      · rw [fr] at hc'; cases hc')).trans z) (fun _ z => z) (fun _ _ z => z)
    obtain ⟨hh, g, d, t, os⟩ := s5
    have eo : os = s2.os := I5.os
    subst eo
    have z := I3.call (h' := h') (g' := g) (d' := d) (t' := t) (ch := fp) un' hok I5.bare fun b hb => ⟨(f2 b hb).2.2.2.1, (f2 b hb).2.1, (f2 b hb).2.2.2.2.1, (f2 b hb).2.2.2.2.2⟩
    exact z
  have st4 : tn 0 h1 := T.keep 0 s2.heap h1 st2 fun b hb o e => old b o (by rw [← hH3]; exact Heap.get?_push_of_some _ e)
  have loop : codeAny (model X.prog X.w) X.A (.compLoop (.ListComp elt [⟨.Name x px, iter, ifs, 0⟩] sc pos) 0 (.ref it) (.ref s2.heap.objs.size) (compEnvC sc cl g3.objs.size X.env))
      (compPost (model X.prog X.w) X.A X.xe use Post (.ref s2.heap.objs.size) g3.objs.size) { s2 with heap := h1, toks := s2.toks + ([] : List (Str × Value)).length } := by
    refine comp_loop (fun n s' => ∃ i ys v0 H', Inv (cxComp X (x :: capsN) sc cl g3.objs.size { s2 with heap := g3, toks := s2.toks } Hp3 fp (X.pn ++ pins)) [] (v0 :: capV σ caps) H' s' ∧ tn i s'.heap ∧ (∀ b ∈ fp, H' b = none) ∧ W i n ys H') ?_ m0 ⟨0, [], none, Hp3, Ic, st4, fpH, w0⟩
    rintro n s' ⟨i, ys, v0, H', I', st', fr', w'⟩
    rcases turn i n ys H' w' with ⟨stop, gs, qn⟩ | ⟨go, gs, N, hN, step⟩
    · refine thn (T.done (cxComp X (x :: capsN) sc cl g3.objs.size { s2 with heap := g3, toks := s2.toks } Hp3 fp (X.pn ++ pins)) rfl rfl rfl s' (hEnd s' H' I'.hok gs) i [] _ H' NoX I' (stat fr') st' stop) fun r s5 ⟨hr, I5⟩ => ?_
      subst hr
      obtain ⟨m, hn, _⟩ := id I5.loc
      exact fin g3.objs.size s2.heap.objs.size H' s5 ⟨m, hn⟩ (back (h' := s5.heap) I5 ⟨rfl, fun _ _ => rfl⟩) (I3.fpOk (Nat.le_refl _) I5.free) qn
    · refine thn (T.item (cxComp X (x :: capsN) sc cl g3.objs.size { s2 with heap := g3, toks := s2.toks } Hp3 fp (X.pn ++ pins)) rfl rfl rfl s' (hEnd s' H' I'.hok gs) i [] _ H' NoX I' (stat fr') st' go) fun r s5 ⟨u, hr, h5⟩ => ?_
      subst hr
      refine thn h5 fun _ s6 ⟨v, H6, I6, r6, y6, st6, fr6⟩ => ?_
      have I6' := I6.pinned (stat fr6) (T.obj _ _ st6)
      have again : ∀ {σ7 : St} {H7 : Hp} {s7 : Shared} {ys' : List V}, σ7 = some v :: capV σ caps → Inv (cxComp X (x :: capsN) sc cl g3.objs.size { s2 with heap := g3, toks := s2.toks } Hp3 fp (X.pn ++ pins)) ([] ++ pinsAt fp s6.heap) σ7 H7 s7 → N ys' H7 →
          ∃ m, m < n ∧ ∃ i ys v0 H', Inv (cxComp X (x :: capsN) sc cl g3.objs.size { s2 with heap := g3, toks := s2.toks } Hp3 fp (X.pn ++ pins)) [] (v0 :: capV σ caps) H' s7 ∧ tn i s7.heap ∧ (∀ b ∈ fp, H' b = none) ∧ W i m ys H' := by
        intro σ7 H7 s7 ys' eσ I7 n7
        subst eσ
        obtain ⟨m', hm, w7⟩ := hN ys' H7 n7
        refine ⟨m', hm, i + 1, ys', some v, H7, I7.unpinned, T.keep _ _ _ st6 fun b hb o e => (I7.pin (b, o) (List.mem_append_right _ (List.mem_append_right _ (mem_pinsAt hb e)))).1, fun b hb => ?_, w7⟩
        obtain ⟨o, e, d⟩ := T.obj _ _ st6 b hb
        exact (I7.pin (b, o) (List.mem_append_right _ (List.mem_append_right _ (mem_pinsAt hb e)))).2.1
      refine thn (pg_name (X := cxComp X (x :: capsN) sc cl g3.objs.size { s2 with heap := g3, toks := s2.toks } Hp3 fp (X.pn ++ pins)) (i := 0) hnd rfl (Or.inl (lookup_relabel_local hx)) (.inr (lookup_relabel_local hx)) _ s6 _ H6 v u
        (fun σ' H' => σ' = some v :: capV σ caps ∧ H' = H6) I6' r6 ⟨rfl, rfl⟩) fun _ s7 ⟨σ7, H7, I7, e7, e7'⟩ => ?_
      subst e7 e7'
      refine thn (ht _ _ _ _ _ _ _ s7 _ H7 _ I7 (step v H7 y6)) fun ok s8 ⟨H8, I8, q8⟩ => ?_
      cases ok with
      | false => exact again rfl I8 q8
      | true =>
        refine thn (he _ _ _ _ _ _ _ s8 _ H8 _ I8 q8) fun y s9 ⟨yv, H9, I9, r9, hp9, hz9, n9⟩ => ?_
        refine thn (mt_append (X := cxComp X (x :: capsN) sc cl g3.objs.size { s2 with heap := g3, toks := s2.toks } Hp3 fp (X.pn ++ pins)) _ s9 _ H9 (.ref s2.heap.objs.size) [yv] (.ref s2.heap.objs.size) [y] (fun _ H' => H' = upd H9 s2.heap.objs.size (.lst (ys ++ [yv]))) I9 rfl (.cons r9 .nil)
          ⟨s2.heap.objs.size, ys, yv, rfl, rfl, hp9, hz9, rfl⟩) fun _ s10 ⟨_, H10, I10, _, e10⟩ => ?_
        subst e10
        exact again rfl I10 n9
  exact codeAny_compStart_list loop (T.self X.A 0 _ _ _ st4 loop)

theorem pe_compG {X : Cx} {Gs : Hp → Prop} {hb : Bool} {CW : It → Addr → St → VK → Hp → Prop} {elt iter : Expr} {ifs : List Expr} {x : Str} {px pos : Pos} {sc : Scope} {wi : TI} {tt : TT} {te : TE} (caps : List Nat) (capsN : List Str)
    (hi : PI X (.Name x px) iter wi hb)
    (ht : ∀ cl C s H ex pn, PTs (cxComp X (x :: capsN) sc cl C s H ex pn) ifs tt)
    (he : ∀ cl C s H ex pn, PE (cxComp X (x :: capsN) sc cl C s H ex pn) elt te)
    (hkind : sc.kind = .function) (hcell : ∀ y ∈ sc.names, y.2 ≠ .cell) (hnames : ∀ y ∈ sc.names, y.2 = .local → sc.names.lookup y.1 = some .local) (hx : sc.names.lookup x = some .local)
    (hfr : ∀ y ∈ sc.names, y.2 = .free → y.1 ∈ capsN)
    (hcap : ∀ (j : Nat) (y : Str), capsN[j]? = some y → ∃ i : Nat, caps[j]? = some i ∧ X.N[i]? = some y ∧ sc.names.lookup y = some .free ∧ (X.env.kindOf y = some .cell ∨ X.env.kindOf y = some .free)) (hlen : caps.length = capsN.length)
    (hnd : (x :: capsN).Nodup) (hc : X.calm = true ∨ (hb = true ∧ ∀ s H, HOk X.prog X.w H s.heap → Gs H → HandQ X s)) (kW : ∀ J p cs Q H1, CW J p cs Q H1 → CompWG Gs J p tt te cs Q H1)
    (hs : ∀ x, foldedSetIterable iter X.env x = pure x := by intro _; rfl) :
    PE X (.ListComp elt [⟨.Name x px, iter, ifs, 0⟩] sc pos) (tCompC CW wi caps) := by
  intro pins s σ H Q I h
  rw [eval_ListComp]
  exact comp_go (use := none) caps capsN hi ht he hkind hcell hnames hx hfr hcap hlen hnd hc kW hs I h fun C p H5 s5 ⟨m, hn⟩ I5 f q => ⟨m, hn, fun h' sb => ⟨.ref p, H5, I5.turned (t' := s5.toks) (fun b o hb e => (sb.2 b hb).trans e) f.1 f.2.1 f.2.2.2.1 f.2.2.2.2.1 f.2.2.2.2.2, rfl, q⟩⟩
theorem CompW.g {J : It} {p : Addr} {tt : TT} {te : TE} {cs : St} {Q : VK} {H1 : Hp} (h : CompW J p tt te cs Q H1) : CompWG (fun _ => True) J p tt te cs Q H1 := by
  obtain ⟨W, h0, h1⟩ := h
  refine ⟨W, h0, fun i m ys H2 w => ?_⟩
  rcases h1 i m ys H2 w with ⟨a, b⟩ | ⟨a, b⟩
  · exact .inl ⟨a, trivial, b⟩
  · exact .inr ⟨a, trivial, b⟩
theorem pe_comp {X : Cx} {elt iter : Expr} {ifs : List Expr} {x : Str} {px pos : Pos} {sc : Scope} {wi : TI} {tt : TT} {te : TE} (caps : List Nat) (capsN : List Str)
    (hi : PI X (.Name x px) iter wi)
    (ht : ∀ cl C s H ex pn, PTs (cxComp X (x :: capsN) sc cl C s H ex pn) ifs tt)
    (he : ∀ cl C s H ex pn, PE (cxComp X (x :: capsN) sc cl C s H ex pn) elt te)
    (hkind : sc.kind = .function) (hcell : ∀ y ∈ sc.names, y.2 ≠ .cell) (hnames : ∀ y ∈ sc.names, y.2 = .local → sc.names.lookup y.1 = some .local) (hx : sc.names.lookup x = some .local)
    (hfr : ∀ y ∈ sc.names, y.2 = .free → y.1 ∈ capsN)
    (hcap : ∀ (j : Nat) (y : Str), capsN[j]? = some y → ∃ i : Nat, caps[j]? = some i ∧ X.N[i]? = some y ∧ sc.names.lookup y = some .free ∧ (X.env.kindOf y = some .cell ∨ X.env.kindOf y = some .free)) (hlen : caps.length = capsN.length)
    (hnd : (x :: capsN).Nodup) (hc : X.calm = true)
    (hs : ∀ x, foldedSetIterable iter X.env x = pure x := by intro _; rfl) :
    PE X (.ListComp elt [⟨.Name x px, iter, ifs, 0⟩] sc pos) (tComp wi tt te caps) :=
  pe_compG (Gs := fun _ => True) (hb := false) (CW := fun J p cs Q H1 => CompW J p tt te cs Q H1) caps capsN hi ht he hkind hcell hnames hx hfr hcap hlen hnd (.inl hc) (fun _ _ _ _ _ h => h.g) hs

/-- a block over n items, by its word: turn, what is made so far, heap -/
theorem comp_by {J : It} {p : Addr} {tt : TT} {te : TE} {cs : St} {Q : VK} {H1 : Hp} (n : Nat) (Pv : Nat → List V → Hp → Prop) (h0 : Pv 0 [] (upd H1 p (.lst [])))
    (hs : ∀ i ys H, i < n → Pv i ys H → J.go i H ∧ ∀ v H3, J.yld i H v H3 → tt (some v :: cs) H3 fun b H4 => if b = true then te (some v :: cs) H4 fun y H5 => H5 p = some (.lst ys) ∧ ys.length < sizeLine ∧ Pv (i + 1) (ys ++ [y]) (upd H5 p (.lst (ys ++ [y]))) else Pv (i + 1) ys H4)
    (hd : ∀ ys H, Pv n ys H → J.stop n H ∧ Q (.ref p) H) : CompW J p tt te cs Q H1 := by
  refine ⟨fun i m ys H => m = n - i ∧ i ≤ n ∧ Pv i ys H, ⟨n, by simp, Nat.zero_le _, h0⟩, ?_⟩
  rintro i m ys H ⟨rfl, hi, pv⟩
  by_cases hlt : i < n
  · obtain ⟨g, st⟩ := hs i ys H hlt pv
    exact .inr ⟨g, Pv (i + 1), fun ys' H' p' => ⟨n - (i + 1), by omega, rfl, hlt, p'⟩, st⟩
  · have e : i = n := by omega
    subst e
    exact .inl (hd ys H pv)

/-! ### over a text's signs -/
/-! ### isinstance -/
section
variable {X : Cx}
theorem call_isinst : CallR X (.builtin "isinstance") (fun vs H Q => ∃ x T t b, vs = [x, .ty T] ∧ TyOf X.K H x t ∧ PySem.W.kitOne X.K t (.type T) = some b ∧ Q (.bl b) H) := by
  intro pins s σ H xs us Q I r h
  obtain ⟨x, T, t, b, rfl, ty, e, q⟩ := h
  obtain ⟨u, v, rfl, rx, rv⟩ := r.two
  cases (show v = Value.type T from rv)
  exact isinst_ok I rx ty e fun tk => ⟨.bl b, H, I.tok tk, rfl, q⟩

/-! ### texts -/
/-! ### lists compared, flat items -/
def eqVs : List V → List V → Bool
  | [], [] => true
  | x :: xs, y :: ys => eqV x y && eqVs xs ys
  | _, _ => false
theorem eqVs_len : ∀ {xs ys : List V}, xs.length ≠ ys.length → eqVs xs ys = false
  | [], [], h => absurd rfl h
  | [], _ :: _, _ => rfl
  | _ :: _, [], _ => rfl
  | x :: xs, y :: ys, h => by
    have h' : xs.length ≠ ys.length := fun e => h (by rw [List.length_cons, List.length_cons, e])
    show (eqV x y && eqVs xs ys) = false
    rw [eqVs_len h', Bool.and_false]
def eqAtN (xs ys : List V) (j : Nat) : Bool := match xs[j]?, ys[j]? with
  | some a, some b => eqV a b
  | _, _ => false
theorem all_eqAtN : ∀ {xs ys : List V}, xs.length = ys.length → (List.range xs.length).all (eqAtN xs ys) = eqVs xs ys
  | [], [], _ => rfl
  | [], _ :: _, h => by simp at h
  | _ :: _, [], h => by simp at h
  | x :: xs, y :: ys, h => by
    have h' : xs.length = ys.length := by simpa using h
    rw [List.length_cons, List.range_succ_eq_map, List.all_cons, List.all_map]
    have e : ((eqAtN (x :: xs) (y :: ys)) ∘ Nat.succ) = eqAtN xs ys := by
      funext j
      simp [eqAtN]
    rw [e, all_eqAtN h']
    rfl
theorem items_eqAt {A : Around} {s : Shared} {xs ys : List V} {us vs : List Value} (r : Vals xs us) (q : Vals ys vs) (fx : xs.all flatV = true) (fy : ys.all flatV = true) (j : Nat) (h1 : j < us.toArray.size) (h2 : j < vs.toArray.size) :
    SeqAt.EqAt A s us.toArray[j] vs.toArray[j] (eqAtN xs ys j) := by
  have l1 := r.length
  have l2 := q.length
  have h1' : j < xs.length := by rw [l1]; simpa using h1
  have h2' : j < ys.length := by rw [l2]; simpa using h2
  obtain ⟨u, eu, ru⟩ := r.get (i := j) (x := xs[j]) (by simp [h1'])
  obtain ⟨v, ev, rv⟩ := q.get (i := j) (x := ys[j]) (by simp [h2'])
  have e1 : us.toArray[j] = u := by
    obtain ⟨_, e⟩ := List.getElem?_eq_some_iff.mp eu
    simpa using e
  have e2 : vs.toArray[j] = v := by
    obtain ⟨_, e⟩ := List.getElem?_eq_some_iff.mp ev
    simpa using e
  have e3 : eqAtN xs ys j = eqV xs[j] ys[j] := by simp [eqAtN, h1', h2']
  rw [e1, e2, e3]
  exact eqAt_V ru rv (List.all_eq_true.mp fx _ (List.getElem_mem h1')) (List.all_eq_true.mp fy _ (List.getElem_mem h2'))
def rEqL (K : PySem.W.Frag) (neg : Bool) : R2 := fun x y H Q => ∃ a b xs ys, x = .ref a ∧ y = .ref b ∧ SqL K H a xs ∧ SqL K H b ys ∧ xs.all flatV = true ∧ ys.all flatV = true ∧ Q (.bl (if neg then !eqVs xs ys else eqVs xs ys)) H
theorem op_eqL (hu : X.A.units < cLine) : OpR X (compareOp .Eq) (rEqL X.K false) := by
  intro pins s σ H x y v u Q I rx ry h
  obtain ⟨a, b, xs, ys, rfl, rfl, ha, hb, fx, fy, q⟩ := h
  cases rx
  cases ry
  obtain ⟨its, r1, p1, _⟩ := I.list ha
  obtain ⟨its2, r2, p2, _⟩ := I.list hb
  have l1 := r1.length
  have l2 := r2.length
  by_cases hl : xs.length = ys.length
  · refine SeqAt.eq_listAt (e := eqAtN xs ys) p1.isList p2.isList (by simp; omega) hu (fun j h1 h2 => items_eqAt r1 r2 fx fy j h1 h2) ⟨.bl _, H, I, rfl, ?_⟩
    rw [List.size_toArray, ← l1, all_eqAtN hl]
    exact q
  · refine SeqAt.eq_list_lengthsAt p1.isList p2.isList (by simp; omega) hu ⟨.bl false, H, I, rfl, ?_⟩
    have e := eqVs_len hl
    simp only [e] at q
    exact q
theorem op_neL (hu : X.A.units < cLine) : OpR X (compareOp .NotEq) (rEqL X.K true) := by
  intro pins s σ H x y v u Q I rx ry h
  obtain ⟨a, b, xs, ys, rfl, rfl, ha, hb, fx, fy, q⟩ := h
  cases rx
  cases ry
  obtain ⟨its, r1, p1, _⟩ := I.list ha
  obtain ⟨its2, r2, p2, _⟩ := I.list hb
  have l1 := r1.length
  have l2 := r2.length
  by_cases hl : xs.length = ys.length
  · refine SeqAt.RcNeAt.lists (e := eqAtN xs ys) p1.isList p2.isList (by simp; omega) hu (fun j h1 h2 => items_eqAt r1 r2 fx fy j h1 h2) _ _ _ _ ⟨.bl _, H, I, rfl, ?_⟩
    rw [List.size_toArray, ← l1, all_eqAtN hl]
    exact q
  · refine SeqAt.RcNeAt.lists_lengths p1.isList p2.isList (by simp; omega) hu _ _ _ _ ⟨.bl true, H, I, rfl, ?_⟩
    have e := eqVs_len hl
    simp only [e] at q
    exact q

/-! ### sum of a list of ints -/
/-! ### // by any written positive number -/
/-! ### tuples put together: whichever is empty -/
theorem cat_all {prog : Program} {w : World} {A : Around} {E : Value → Shared → Prop} {s : Shared} {t b : Addr} {vs ws : List Value} {Q : Value → Shared → Prop} (ht : IsTup s.heap t vs.toArray) (hb : IsTup s.heap b ws.toArray) (hv : vs = [])
    (h0 : Q (.ref b) s) : wpAny (model prog w) A (binaryOp .Add (.ref t) (.ref b)) Q E s := by
  obtain ⟨⟨cls, dd, data, sl⟩, ho, hc, n, hd⟩ := id ht
  obtain ⟨⟨cls2, dd2, data2, sl2⟩, ho2, hc2, n2, hd2⟩ := id hb
  simp only at hc hd hc2 hd2
  subst hc hd hc2 hd2
  exact concat_meets ⟨_, ho, rfl⟩ ⟨_, ho2, rfl⟩ noFill_tuple_add seq_tuple_add PySem.F.slot_tuple_add PySem.F.entry_tuple_add (PySem.F.args_tuple_add_2 _ _) (tuple_addW0 t b _ _ n n2 dd dd2 sl sl2 (by simp [hv])) ⟨ho, ho2, h0⟩
def rCatA : R2 := fun x y H Q => ∃ a b xs ys, x = .ref a ∧ y = .ref b ∧ H a = some (.tup xs) ∧ H b = some (.tup ys) ∧ xs.length + ys.length ≤ sizeLine ∧ ∀ r H', Same H H' → H' r = some (.tup (xs ++ ys)) → Q (.ref r) H'
theorem op_catA : OpR X (binaryOp .Add) rCatA := by
  intro pins s σ H x y v u Q I rx ry h
  obtain ⟨a, b, xs, ys, rfl, rfl, ha, hb, hz, q⟩ := h
  by_cases hx : xs = []
  · cases rx
    cases ry
    obtain ⟨its, r1, p1, _⟩ := I.tuple (SqT.of ha)
    obtain ⟨its2, r2, p2, _⟩ := I.tuple (SqT.of hb)
    refine cat_all p1 p2 (r1.nil_iff.mpr hx) ⟨.ref b, H, I, rfl, q b H (Same.refl H) ?_⟩
    rw [hx]
    exact hb
  · refine op_catT pins s σ H (.ref a) (.ref b) v u Q I rx ry ⟨a, b, xs, ys, rfl, rfl, SqT.of ha, SqT.of hb, hx, hz, fun e => q a H (Same.refl H) ?_, fun _ p hp => q p _ (fun c o e => by rw [upd_ne (ne_of_none e hp)]; exact e) upd_same⟩
    rw [e, List.append_nil]
    exact ha
end
end L2
namespace L2
open PySem PySem.Spec PyProof.Rows
/-! ### lists of pairs as tables -/
section
variable {κ : Type} [DecidableEq κ]
def valV (kvs : List (κ × V)) (k : κ) : Option V := (kvs.find? fun kv => decide (kv.1 = k)).map (·.2)
/-- in its place, or at the end -/
def putK (kvs : List (κ × V)) (k : κ) (v : V) : List (κ × V) :=
  if (kvs.any fun kv => decide (kv.1 = k)) = true then kvs.map (fun kv => if kv.1 = k then (kv.1, v) else kv) else kvs ++ [(k, v)]
theorem valV_pos {p : κ × V} {r : List (κ × V)} {k : κ} (e : p.1 = k) : valV (p :: r) k = some p.2 := by simp [valV, List.find?_cons, e]
theorem valV_neg {p : κ × V} {r : List (κ × V)} {k : κ} (e : ¬ p.1 = k) : valV (p :: r) k = valV r k := by simp [valV, List.find?_cons, e]
theorem valV_any (k : κ) : ∀ kvs : List (κ × V), (kvs.any fun kv => decide (kv.1 = k)) = (valV kvs k).isSome
  | [] => rfl
  | p :: r => by
    rw [List.any_cons]
    by_cases e : p.1 = k
    · simp only [valV_pos e, decide_eq_true e, Bool.true_or, Option.isSome_some]
    · rw [valV_neg e, decide_eq_false e, Bool.false_or]; exact valV_any k r
theorem length_putK (kvs : List (κ × V)) (k : κ) (v : V) : (putK kvs k v).length ≤ kvs.length + 1 := by
  unfold putK
  split
  · rw [List.length_map]; omega
  · rw [List.length_append, List.length_cons, List.length_nil]; omega
theorem putK_new {kvs : List (κ × V)} {k : κ} (v : V) (h : valV kvs k = none) : putK kvs k v = kvs ++ [(k, v)] := by
  unfold putK
  rw [valV_any, h]
  exact if_neg (by decide)

theorem RelO.isSome_eq {o : Option V} {u : Option Value} (r : RelO o u) : o.isSome = u.isSome := by
  cases o with
  | none => cases u with
    | none => rfl
    | some _ => exact (show False from r).elim
  | some _ => cases u with
    | none => exact (show False from r).elim
    | some _ => rfl
/-- raw tables of the same keys -/
theorem KV.val {kvs : List (κ × V)} {vs : List (κ × Value)} (r : KV kvs vs) (k : κ) : RelO (valV kvs k) (valueAt vs k) := by
  unfold KV at r
  induction r with
  | nil => exact True.intro
  | @cons p q ps qs h t ih =>
    obtain ⟨h1, h2⟩ := h
    by_cases e : p.1 = k
    · have e' : q.1 = k := h1.symm.trans e
      have b : valueAt (q :: qs) k = some q.2 := by simp [valueAt, List.find?_cons, e']
      rw [valV_pos e, b]; exact h2
    · have e' : ¬ q.1 = k := fun z => e (h1.trans z)
      have b : valueAt (q :: qs) k = valueAt qs k := by simp [valueAt, List.find?_cons, e']
      rw [valV_neg e, b]; exact ih
theorem KV.any {kvs : List (κ × V)} {vs : List (κ × Value)} (r : KV kvs vs) (k : κ) : (kvs.any fun kv => decide (kv.1 = k)) = vs.any fun kv => decide (kv.1 = k) := by
  unfold KV at r
  induction r with
  | nil => rfl
  | cons h t ih => rw [List.any_cons, List.any_cons, ih, h.1]
theorem KV.repl {kvs : List (κ × V)} {vs : List (κ × Value)} (r : KV kvs vs) (k : κ) {y : V} {u : Value} (ry : RelV y u) :
    KV (kvs.map fun kv => if kv.1 = k then (kv.1, y) else kv) (vs.map fun kv => if kv.1 = k then (kv.1, u) else kv) := by
  unfold KV at r ⊢
  induction r with
  | nil => exact .nil
  | @cons p q ps qs h t ih =>
    rw [List.map_cons, List.map_cons]
    refine .cons ?_ ih
    obtain ⟨h1, h2⟩ := h
    by_cases e : p.1 = k
    · rw [if_pos e, if_pos (h1.symm.trans e)]; exact ⟨h1, ry⟩
    · rw [if_neg e, if_neg (fun z => e (h1.trans z))]; exact ⟨h1, h2⟩
theorem KV.put {kvs : List (κ × V)} {vs : List (κ × Value)} (r : KV kvs vs) (k : κ) {y : V} {u : Value} (ry : RelV y u) : KV (putK kvs k y) (stored vs k u) := by
  unfold putK stored
  rw [r.any k]
  by_cases e : (vs.any fun kv => decide (kv.1 = k)) = true
  · rw [if_pos e, if_pos e]; exact r.repl k ry
  · rw [if_neg e, if_neg e]; exact Paired.snoc r ⟨rfl, ry⟩
theorem KV.length {kvs : List (κ × V)} {vs : List (κ × Value)} (r : KV kvs vs) : kvs.length = vs.length := Paired.length r
end


/-! ### a tracked dict, its keys ints and texts or tuples of these -/
theorem kV_is {P : Program} {w : World} {k : Key} {u : Value} (r : RelV (kV k) u) : (mixKind P w).is k u = true := by
  cases k with
  | inl i => obtain ⟨t, e⟩ := (show ∃ t, u = Value.int i t from r); subst e; exact mixKind_int P w i t
  | inr x => obtain ⟨t, e⟩ := (show ∃ t, u = Value.str x t from r); subst e; exact mixKind_str P w x t
theorem items_are {P : Program} {w : World} : ∀ {ks : List Key} {us : List Value}, Vals (ks.map kV) us → ItemsAre (mixKind P w) ks us
  | [], _, r => by rw [List.map_nil] at r; cases r; exact .nil
  | k :: ks, _, r => by
    rw [List.map_cons] at r
    cases r with
    | cons h t => exact .cons (kV_is h) (items_are t)

/-- raw entries of a dict with tuple keys -/
abbrev KT (H : Hp) : List (List Key × V) → List (List Key × Addr × Value) → Prop := Paired fun p q => p.1 = q.1 ∧ H q.2.1 = some (.tup (p.1.map kV)) ∧ RelV p.2 q.2.2
theorem KT.val {H : Hp} {kvs : List (List Key × V)} {xs : List (List Key × Addr × Value)} (r : KT H kvs xs) (k : List Key) : RelO (valV kvs k) ((atKey xs k).map (·.2)) := by
  induction r with
  | nil => exact True.intro
  | @cons p q ps qs h t ih =>
    obtain ⟨h1, _, h2⟩ := h
    by_cases e : p.1 = k
    · have e' : q.1 = k := h1.symm.trans e
      have b : atKey (q :: qs) k = some q.2 := by simp [atKey, List.find?_cons, e']
      rw [valV_pos e, b]; exact h2
    · have e' : ¬ q.1 = k := fun z => e (h1.trans z)
      have b : atKey (q :: qs) k = atKey qs k := by simp [atKey, List.find?_cons, e']
      rw [valV_neg e, b]; exact ih
theorem KT.repl {H : Hp} {kvs : List (List Key × V)} {xs : List (List Key × Addr × Value)} (r : KT H kvs xs) (k : List Key) {y : V} {u : Value} (ry : RelV y u) :
    KT H (kvs.map fun kv => if kv.1 = k then (kv.1, y) else kv) (xs.map (putAt k u)) := by
  induction r with
  | nil => exact .nil
  | @cons p q ps qs h t ih =>
    rw [List.map_cons, List.map_cons]
    refine .cons ?_ ih
    obtain ⟨h1, h2, h3⟩ := h
    unfold putAt
    by_cases e : p.1 = k
    · rw [if_pos e, if_pos (h1.symm.trans e)]; exact ⟨h1, h2, ry⟩
    · rw [if_neg e, if_neg (fun z => e (h1.trans z))]; exact ⟨h1, h2, h3⟩
theorem KT.put {H : Hp} {kvs : List (List Key × V)} {xs : List (List Key × Addr × Value)} (r : KT H kvs xs) (k : List Key) {b : Addr} {y : V} {u : Value} (hb : H b = some (.tup (k.map kV))) (ry : RelV y u) :
    KT H (putK kvs k y) (storedH xs k b u) := by
  have e : (kvs.any fun kv => decide (kv.1 = k)) = (atKey xs k).isSome := by
    rw [valV_any, (r.val k).isSome_eq, Option.isSome_map]
  unfold putK storedH
  rw [e]
  by_cases q : (atKey xs k).isSome = true
  · rw [if_pos q, if_pos q]; exact r.repl k ry
  · rw [if_neg q, if_neg q]; exact Paired.snoc r ⟨rfl, hb, ry⟩
theorem KT.keeps {H H' : Hp} {kvs : List (List Key × V)} {xs : List (List Key × Addr × Value)} (r : KT H kvs xs) (ht : ∀ b ys, H b = some (.tup ys) → H' b = some (.tup ys)) : KT H' kvs xs :=
  Paired.mapP r fun _ _ z => ⟨z.1, ht _ _ z.2.1, z.2.2⟩

section
variable {P : Program} {w : World} {H : Hp} {h : Heap} {a : Addr}
theorem rd_of {u : HO} (ok : HOk P w H h) (e : Rd H a u) : ObjOk P w H h a u := e.ok ok
theorem dk_rd {kvs : List (Key × V)} (ok : HOk P w H h) (e : Rd H a (.dK kvs)) : kvs.length ≤ sizeLine ∧ (a == sysModules) = false ∧ ∃ vs, KV kvs vs ∧ h.DictOf (mixKind P w) a vs :=
  show ObjOk P w H h a (.dK kvs) from rd_of ok e
theorem dk_of {kvs : List (Key × V)} (ok : HOk P w H h) (e : H a = some (.dK kvs)) : kvs.length ≤ sizeLine ∧ (a == sysModules) = false ∧ ∃ vs, KV kvs vs ∧ h.DictOf (mixKind P w) a vs := dk_rd ok (.inl e)
/-- a tracked tuple of ints and texts is a key -/
theorem key_of {ks : List Key} (ok : HOk P w H h) (e : H a = some (.tup (ks.map kV))) : (tupleKind (mixKind P w)).is h ks a := by
  obtain ⟨_, its, r, o, h1, h2, n, h3⟩ := (show ObjOk P w H h a (.tup (ks.map kV)) from ok a _ e)
  exact ⟨o, its.toArray, n, h1, h2, h3, by simpa using items_are r⟩
theorem dt_rd {kvs : List (List Key × V)} (ok : HOk P w H h) (e : Rd H a (.dT kvs)) : kvs.length ≤ sizeLine ∧ (a == sysModules) = false ∧
    ∃ xs, KT H kvs xs ∧ h.DictOfH (tupleKind (mixKind P w)) a xs := by
  obtain ⟨z, y, xs, r, o, es, ep, h1, h2, h3, h4, h5⟩ := (show ObjOk P w H h a (.dT kvs) from rd_of ok e)
  refine ⟨z, y, xs, r, o, es, ep, h1, h2, h3, h4, fun x hx => ?_, h5⟩
  have all : ∀ {l : List (List Key × V)} {m : List (List Key × Addr × Value)}, KT H l m → ∀ x ∈ m, (tupleKind (mixKind P w)).is h x.1 x.2.1 := by
    intro l m q
    induction q with
    | nil => intro x hx; exact nomatch hx
    | @cons p q ps qs hq t ih =>
      intro x hx
      rcases List.mem_cons.mp hx with e | hx
      · subst e
        exact key_of ok (by rw [← hq.1]; exact hq.2.1)
      · exact ih x hx
  exact all r x hx
theorem dt_of {kvs : List (List Key × V)} (ok : HOk P w H h) (e : H a = some (.dT kvs)) : kvs.length ≤ sizeLine ∧ (a == sysModules) = false ∧
    ∃ xs, KT H kvs xs ∧ h.DictOfH (tupleKind (mixKind P w)) a xs := dt_rd ok (.inl e)
end

/-- what the dict at a holds at the key y -/
def DGet (H : Hp) (a : Addr) (y : V) (r : Option V) : Prop :=
  (∃ kvs k, Rd H a (.dK kvs) ∧ y = kV k ∧ r = valV kvs k) ∨ ∃ kvs k b, Rd H a (.dT kvs) ∧ y = .ref b ∧ H b = some (.tup (k.map kV)) ∧ r = valV kvs k
/-- the heap behind a[y] = v -/
def DPut (H : Hp) (a : Addr) (y v : V) (H' : Hp) : Prop :=
  (∃ kvs k, H a = some (.dK kvs) ∧ y = kV k ∧ kvs.length < sizeLine ∧ H' = upd H a (.dK (putK kvs k v))) ∨
  ∃ kvs k b, H a = some (.dT kvs) ∧ y = .ref b ∧ H b = some (.tup (k.map kV)) ∧ kvs.length < sizeLine ∧ H' = upd H a (.dT (putK kvs k v))
theorem DGet.k {H : Hp} {a : Addr} {kvs : List (Key × V)} {k : Key} (e : H a = some (.dK kvs)) : DGet H a (kV k) (valV kvs k) := .inl ⟨kvs, k, .inl e, rfl, rfl⟩
theorem DPut.k {H : Hp} {a : Addr} {kvs : List (Key × V)} {k : Key} {v : V} (e : H a = some (.dK kvs)) (hl : kvs.length < sizeLine) : DPut H a (kV k) v (upd H a (.dK (putK kvs k v))) := .inl ⟨kvs, k, e, rfl, hl, rfl⟩
section
variable {X : Cx} {pins : List (Addr × Obj)} {σ : St} {H : Hp} {s : Shared} {a : Addr} {y v : V} {u r : Value} {o : Option V} {A : Around} {E : Value → Shared → Prop}

theorem Inv.big (I : Inv X pins σ H s) : sysModules < s.heap.objs.size := by
  have h : mainGlobals < s.heap.objs.size := (I.mod.glob.keeps I.bk).lt
  exact Nat.lt_trans (by decide) h

/-- d[y], there -/
theorem d_getItem {Q : Value → Shared → Prop} (hu : A.units + 1 < cLine) (I : Inv X pins σ H s) (g : DGet H a y (some v)) (ry : RelV y u) (h : ∀ w' s', Inv X pins σ H s' → RelV v w' → Q w' s') :
    wpAny (model X.prog X.w) A (getItem (.ref a) u) Q E s := by
  rcases g with ⟨kvs, k, e, ey, l⟩ | ⟨kvs, k, b, e, ey, eb, l⟩
  · subst ey
    obtain ⟨z, hd, vs, rel, dd⟩ := dk_rd I.hok e
    obtain ⟨w', hw, rw'⟩ := RelO.some_of (v := v) (o := valueAt vs k) (by rw [l]; exact rel.val k)
    exact wpAny_getItem_of (kV_is ry) dd.mapOf hw (h w' _ (I.tok _) rw')
  · subst ey
    cases (show u = Value.ref b from ry)
    obtain ⟨z, hd, xs, rel, dd⟩ := dt_rd I.hok e
    obtain ⟨w', hw, rw'⟩ := RelO.some_of (v := v) (o := (atKey xs k).map (·.2)) (by rw [l]; exact rel.val k)
    obtain ⟨p, hp, hp2⟩ := Option.map_eq_some_iff.mp hw
    refine wpAny_getItem_heap (tupleKind_room_in1 hu) (key_of I.hok eb) dd hp ?_
    rw [hp2]
    exact h w' _ (I.tok _) rw'
/-- a dict's object is replaced -/
theorem d_write {h' : Heap} {t' : Nat} {ob : HO} (I : Inv X pins σ H s) (mu : Mut (H a)) (hs : Heap.SameBut a s.heap h') (he : ∃ q, h'.get? a = some q) (new : ObjOk X.prog X.w (upd H a ob) h' a ob) :
    Inv X pins σ (upd H a ob) { s with heap := h', toks := t' } :=
  I.write (x := a) (e := a) mu (.inl rfl) (fun b q hb z => (hs.2 b hb).trans z) he new
theorem dk_new {P : Program} {w : World} {H' : Hp} {h' : Heap} {kvs : List (Key × V)} {vs : List (Key × Value)} (z : kvs.length ≤ sizeLine) (hd : (a == sysModules) = false) (rel : KV kvs vs) (dd : h'.DictOf (mixKind P w) a vs) :
    ObjOk P w H' h' a (.dK kvs) := ⟨z, hd, vs, rel, dd⟩
/-- d[y] = v -/
theorem d_setItem {H' : Hp} {Q : Unit → Shared → Prop} (hu : A.units + 1 < cLine) (I : Inv X pins σ H s) (g : DPut H a y v H') (ry : RelV y u) (rv : RelV v r) (h : ∀ s', Inv X pins σ H' s' → Q () s') :
    wpAny (model X.prog X.w) A (setItem (.ref a) u r) Q E s := by
  rcases g with ⟨kvs, k, e, ey, l, eH⟩ | ⟨kvs, k, b, e, ey, eb, l, eH⟩
  · subst ey eH
    obtain ⟨z, hd, vs, rel, dd⟩ := dk_of I.hok e
    have hz : vs.length ≤ sizeLine := by rw [← rel.length]; exact z
    have hl : (putK kvs k v).length ≤ sizeLine := by have := length_putK kvs k v; omega
    refine wpAny_setItem_pairs (hsz := hz) (kV_is ry) dd fun h' dd' hs => h _ ?_
    have he : ∃ q, h'.get? a = some q := let ⟨q, _, _, hq, _⟩ := dd'; ⟨q, hq⟩
    exact d_write I (by rw [e]; exact True.intro) hs he (dk_new hl hd (rel.put k rv) dd')
  · subst ey eH
    cases (show u = Value.ref b from ry)
    obtain ⟨z, hd, xs, rel, dd⟩ := dt_of I.hok e
    have hz : xs.length ≤ sizeLine := by rw [← Paired.length rel]; exact z
    have hl : (putK kvs k v).length ≤ sizeLine := by have := length_putK kvs k v; omega
    refine wpAny_setItem_heap (hsz := hz) (tupleKind_room_in1 hu) (key_of I.hok eb) dd fun h' dd' hs => h _ ?_
    obtain ⟨q, es, ep, hq, h2, h3, h4, _, h5⟩ := dd'
    refine d_write I (by rw [e]; exact True.intro) hs ⟨q, hq⟩ ⟨hl, hd, _, (rel.put k eb rv).keeps fun c ys ec => ?_, q, es, ep, hq, h2, h3, h4, h5⟩
    rw [upd_ne (ne_of ec e (fun z => nomatch z))]
    exact ec
end

section
variable {X : Cx} {pins : List (Addr × Obj)} {σ : St} {H : Hp} {s : Shared} {a : Addr} {kvs : List (Key × V)} {k : Key} {u : Value} {A : Around} {E : Value → Shared → Prop}
end


/-! ### readings and rules -/
/-- the element of a subscription, not a slice -/
def NoSl (i : Expr) : Prop := ∀ ov iv, subscripted i false ov iv = operate [ov, iv] (getItem ov iv)
theorem subD_of {prog : Program} {w : World} {A : Around} {E : Value → Shared → Prop} {s : Shared} {env : Env} {value slice : Expr} {pos : Pos} {T id : String} {Q : Value → Shared → Prop}
    (hl : typeLookup (.type T) "__getitem__" = pure (some (.builtin id))) (hs : NoSl slice)
    (h : wpAny (model prog w) A (eval value env) (fun o s₁ => wpAny (model prog w) A (eval slice env) (fun i s₂ => s₂.TypeIs o T ∧ wpAny (model prog w) A (getItem o i) Q E s₂) E s₁) E s) :
    wpAny (model prog w) A (eval (.Subscript value slice pos) env) Q E s := by
  refine Subscript_ (wpAny_mono h (fun o s₁ h₁ => wpAny_mono h₁ (fun i s₂ h₂ => ?_) fun _ _ x => x) fun _ _ x => x)
  obtain ⟨hT, h₂⟩ := h₂
  unfold subscriptTail
  refine wpAny_bind ?_
  rw [getitemInPython_of_ne hT.not_modules]
  refine wpAny_bind (wpAny_specialOf hT hl ?_)
  have fin : wpAny (model prog w) A (subscripted slice false o i) (fun r s₃ => wpAny (model prog w) A (letTemporaryGo value o r >>= fun _ => pure r) Q E s₃) E s₂ := by
    rw [hs o i]
    exact wpAny_operating (wpAny_mono h₂ (fun r s₃ h₃ => wpAny_bind (wpAny_letTemporaryGo (wpAny_pure h₃))) fun _ _ x => x)
  first
    | exact wpAny_pure (wpAny_bind fin)
    | exact wpAny_bind (wpAny_pure (wpAny_bind fin))
    | exact wpAny_bind fin

theorem dict_typeIs {X : Cx} {pins : List (Addr × Obj)} {σ : St} {H : Hp} {s : Shared} {a : Addr} {y : V} {o : Option V} (I : Inv X pins σ H s) (g : DGet H a y o) : s.TypeIs (.ref a) "dict" := by
  rcases g with ⟨kvs, k, e, _, _⟩ | ⟨kvs, k, b, e, _, _, _⟩
  · obtain ⟨_, _, vs, _, dd⟩ := dk_rd I.hok e
    exact dd.typeIs
  · obtain ⟨_, _, xs, _, dd⟩ := dt_rd I.hok e
    exact dd.typeIs
/-- d[y] -/
def tDGet (td ty : TE) : TE := fun σ H Q => td σ H fun x H1 => ty σ H1 fun y H2 => ∃ a v, x = .ref a ∧ DGet H2 a y (some v) ∧ Q v H2
/-- d[y] = v -/
def sDPut (td ty tv : TE) : TS := fun D σ H => tv σ H fun v H1 => td σ H1 fun x H2 => ty σ H2 fun y H3 => ∃ a H4, x = .ref a ∧ DPut H3 a y v H4 ∧ D.nx σ H4
section
variable {X : Cx} {o i e value : Expr} {pos pos' tpos : Pos} {td ty tv : TE}
theorem pe_dget (hu : X.A.units + 1 < cLine) (ho : PE X o td) (hi : PE X i ty) (hs : NoSl i) : PE X (.Subscript o i pos) (tDGet td ty) := by
  intro pins s σ H Q I h
  refine subD_of PySem.F.slot_dict_getitem.lookup hs (thn (ho pins s σ H _ I h) fun u s1 ⟨x, H1, I1, rx, q1⟩ => thn (hi pins s1 σ H1 _ I1 q1) fun iv s2 ⟨y, H2, I2, ry, a, v, ex, g, q2⟩ => ?_)
  subst ex
  obtain rfl : u = Value.ref a := rx
  exact ⟨dict_typeIs I2 g, d_getItem hu I2 g ry fun w' s3 I3 rw' => ⟨v, H2, I3, rw', q2⟩⟩
theorem ps_dput (hu : X.A.units + 1 < cLine) (ho : PE X o td) (hi : PE X i ty) (hv : PE X value tv) (hs : swapsWith value (some (.Subscript o i pos')) pos.line X.env = pure false) :
    PS X (.Assign [.Subscript o i pos'] value pos) (sDPut td ty tv) := by
  intro pins s σ H D I h
  refine wpAny_Assign_Subscript (thn (hv pins s σ H _ I h) fun r s1 ⟨v, H1, I1, rv, q1⟩ => thn (ho pins s1 σ H1 _ I1 q1) fun u s2 ⟨x, H2, I2, rx, q2⟩ => thn (hi pins s2 σ H2 _ I2 q2) fun iv s3 ⟨y, H3, I3, ry, a, H4, ex, g, q3⟩ => ?_) hs
  subst ex
  obtain rfl : u = Value.ref a := rx
  exact d_setItem hu I3 g ry rv fun s4 I4 => ⟨σ, H4, I4, q3⟩
end


/-! ### displays -/
theorem dk_empty {P : Program} {w : World} {H : Hp} (h : Heap) (hb : sysModules < h.objs.size) : ObjOk P w H (h.push { cls := .type "dict", data := .dict #[] }) h.objs.size (.dK []) :=
  ⟨Nat.zero_le _, beq_eq_false_iff_ne.mpr (Ne.symm (Nat.ne_of_lt hb)), [], .nil, Heap.DictOf.new h⟩
/-- {}, to be a dict of the kind that is wanted -/
def tDNewK : TE := fun _ H Q => ∀ p, H p = none → Q (.ref p) (upd H p (.dK []))
section
variable {X : Cx} {pos : Pos}
theorem pe_dnewK : PE X (.Dict [] [] pos) tDNewK := fun pins s σ H Q I h =>
  wpAny_Dict_empty ⟨.ref s.heap.objs.size, _, I.laid (a := s.heap.objs.size) (o := .dK []) (t' := s.toks) (fun _ _ q => Heap.get?_push_of_some _ q) (Nat.le_refl _) (dk_empty s.heap I.big), rfl, h _ (I.hok.fresh (Nat.le_refl _))⟩
end

def mergeK (kvs more : List (Key × V)) : List (Key × V) := more.foldl (fun acc kv => putK acc kv.1 kv.2) kvs
theorem KV.merge : ∀ {more : List (Key × V)} {rs : List (Key × Value)} {kvs : List (Key × V)} {vs : List (Key × Value)}, KV more rs → KV kvs vs → KV (mergeK kvs more) (merged vs rs) := by
  intro more rs kvs vs r
  unfold KV at r
  induction r generalizing kvs vs with
  | nil => intro q; exact q
  | @cons p q ps qs h t ih =>
    intro r0
    have e : KV (putK kvs p.1 p.2) (stored vs q.1 q.2) := by
      have := r0.put p.1 h.2
      rw [← h.1]; exact this
    exact ih e
theorem length_mergeK : ∀ (more kvs : List (Key × V)), (mergeK kvs more).length ≤ kvs.length + more.length
  | [], kvs => by show kvs.length ≤ kvs.length + 0; omega
  | p :: r, kvs => by
    have h1 := length_mergeK r (putK kvs p.1 p.2)
    have h2 := length_putK kvs p.1 p.2
    show (mergeK (putK kvs p.1 p.2) r).length ≤ _
    rw [List.length_cons]; omega
/-! ### methods -/
/-- a method call o.m(e) of a built-in, with one argument: what must be seen of the text -/
structure M1 (X : Cx) (o : Expr) (m : Str) (apos : Pos) (e : Expr) (cpos : Pos) : Prop where
  base : attributeBase o m X.env (eval o X.env) = eval o X.env
  few : ((backTo cpos (starEach [e] X.env)).all (fun x => !x.1) && (backToKw cpos (keywordEach [] X.env)).all (fun x => x.1.isSome)
    && decide (([e] : List Expr).length + ([] : List Keyword).length + (if ([] : List Keyword).isEmpty then 0 else 1) < 30)) = true
  line : (apos.endLine == cpos.line) = true
  trees : backTo cpos (starEach [e] X.env) = [(false, eval e X.env)]
/-- a is a dict, whatever its keys -/
def IsD (H : Hp) (a : Addr) : Prop := (∃ kvs, Rd H a (.dK kvs)) ∨ ∃ kvs, Rd H a (.dT kvs)
theorem isD_at {X : Cx} {pins : List (Addr × Obj)} {σ : St} {H : Hp} {s : Shared} {a : Addr} (I : Inv X pins σ H s) (d : IsD H a) :
    s.TypeIs (.ref a) "dict" ∧ (∀ b, Value.ref a = .ref b → ∃ ob, s.heap.get? b = some ob ∧ ob.dict = none) ∧ (a == sysModules) = false := by
  rcases d with ⟨kvs, e⟩ | ⟨kvs, e⟩
  · obtain ⟨_, hd, vs, _, dd⟩ := dk_rd I.hok e
    refine ⟨dd.typeIs, fun b q => ?_, hd⟩
    cases q
    obtain ⟨ob, _, _, h1, h2, _⟩ := dd
    exact ⟨ob, h1, h2.2.1⟩
  · obtain ⟨_, hd, xs, _, dd⟩ := dt_rd I.hok e
    refine ⟨dd.typeIs, fun b q => ?_, hd⟩
    cases q
    obtain ⟨ob, _, _, h1, h2, _⟩ := dd
    exact ⟨ob, h1, h2.2.1⟩

section
variable {X : Cx} {pins : List (Addr × Obj)} {σ : St} {H : Hp} {s : Shared} {a : Addr} {y d : V} {u r : Value} {o : Option V} {A : Around} {E : Value → Shared → Prop}
end

section
variable {X : Cx} {o e f : Expr} {apos cpos : Pos} {td ty tx : TE}
end

/-! ### dict(d): a copy -/
section
variable {X : Cx} {pins : List (Addr × Obj)} {σ : St} {H : Hp} {s : Shared} {a : Addr} {kvs : List (Key × V)} {A : Around} {E : Value → Shared → Prop}
end


section
variable {X : Cx} {pins : List (Addr × Obj)} {σ : St} {H : Hp} {s : Shared} {a : Addr} {y : V} {u : Value} {A : Around} {E : Value → Shared → Prop}
end
section
variable {X : Cx}
end
/-! ### a dict's pairs: keys that differ -/
section
variable {κ : Type} [DecidableEq κ]
end
end L2
namespace L2
open PySem PySem.Spec PyProof.Rows

/-! ### an exception of an own class: its object, its traceback -/
section
variable {M : Model} {A : Around} {E : Value → Shared → Prop} {s : Shared}
end
end L2
namespace L2
open PySem PySem.Spec PyProof.Rows PySem.W PySem.Builtin PySem.Builtin.ObjectAttr

/-! ### a field of an exception of an own class is stored, read -/
section
variable {prog : Program} {w : World} {A : Around} {E : Value → Shared → Prop} {s : Shared} {K : Frag} {x C : Addr} {ox : Obj} {od : Option Obj} {R : Result → Shared → Prop}
end
end L2
namespace L2
open PySem PySem.Spec PyProof.Rows PySem.W

/-! ### an exception of an own class with an own __init__ is made -/
section
variable {prog : Program} {w : World} {A : Around} {E : Value → Shared → Prop} {h : Heap} {g : Array GenState} {d : Drawn} {t : Nat} {os : OsState} {nm q : Str} {C N fI : Addr} {bs bm bmB rest : List Value} {hdct : Bool} {sn : List Str} {sub : List Value}
  {ab : Bool} {col : Option Bool} {dd : Option Addr} {k0 k1 k2 k3 k5 : Option Value} {B newId initId : String}
end
end L2
namespace L2
open PySem PySem.Spec PyProof.Rows PySem.W
section
variable {M : Model} {A : Around} {E : Value → Shared → Prop} {h : Heap} {g : Array GenState} {d : Drawn} {t : Nat} {os : OsState} {nm q : Str} {C N : Addr} {bs bm : List Value} {hdct : Bool} {sn : List Str} {sub : List Value}
  {ab : Bool} {col : Option Bool} {dd : Option Addr} {k0 k1 k2 k3 k5 : Option Value} {newId : String} {env : Env}
variable {nm2 q2 : Str} {D N2 : Addr} {bs2 bm2 : List Value} {hdct2 : Bool} {sn2 : List Str} {sub2 : List Value} {ab2 : Bool} {col2 : Option Bool} {dd2 : Option Addr} {j0 j1 j2 j3 j5 : Option Value} {newId2 : String}
end
end L2
namespace L2
open PySem PySem.Spec PyProof.Rows PySem.W

/-! ### exceptions in the abstract heap -/
section
variable {P : Program} {w : World} {H : Hp} {h : Heap} {e C dx : Addr} {dd : Option Addr} {tb : Value} {fs : List (Str × V)}
end
section
variable {X : Cx} {pins : List (Addr × Obj)} {σ : St} {H : Hp} {s : Shared} {h' : Heap} {ea C T : Addr} {dd : Option Addr} {tb : Value}
end

/-! ### how an exception lies behind a call; within a body -/
section
variable {X : Cx} {pins : List (Addr × Obj)} {σ : St} {H : Hp} {s s' : Shared} {E : XK} {e : Value}
end
end L2
namespace L2
open PySem PySem.Spec PyProof.Rows PySem.W

/-! ### an own class of exceptions, by the text -/
section
variable {X : Cx} {CX : CXT} {k : Nat} {f C : Addr} {bm : List Value} {fd : FuncData} {ps : List Str} {sp : Sp} {dvs : List V} {ds : List Value} {E : XK} {x m : Str} {p pos apos : Pos} {e o : Expr} {es : List Expr} {ta : TE} {t : TA}
end

/-! ### its fields -/
section
variable {X : Cx} {pins : List (Addr × Obj)} {σ : St} {H : Hp} {s : Shared} {a C dx : Addr} {fs : List (Str × V)} {f : Str} {A : Around} {E : Value → Shared → Prop}
end
section
variable {X : Cx} {o e value : Expr} {f : Str} {pos pos' tpos : Pos} {ta tv : TE}
end
/-! ### an own exception class without an __init__ of its own -/
section
variable {X : Cx} {C : Addr} {bm : List Value} {x : Str} {p pos : Pos}
end
end L2
namespace L2
open PySem PySem.Spec PyProof.Rows PySem.W

/-! ### code whose exceptions are caught in the same body -/
section
variable {X : Cx} {k : Nat} {f C : Addr} {fd : FuncData} {ps : List Str} {sp : Sp} {dvs : List V} {ds : List Value} {E : XK} {x m : Str} {p pos apos : Pos} {e o : Expr} {es : List Expr} {ta : TE} {t : TA}
end

/-! ### try: .. except D as n: .. -/
section
variable {X : Cx} {pins : List (Addr × Obj)} {σ : St} {H : Hp} {s : Shared} {ea : Addr}
end
section
variable {X : Cx} {body suite : List Stmt} {b₀ : Stmt} {tb : TB} {ts : Addr → TS} {wn n : Str} {D : Addr} {bmD : List Value} {i : Nat} {np hpos pos : Pos}
end
end L2
namespace L2
open PySem PySem.Spec PyProof.Rows PySem.W

/-! ### try with several clauses, with or without a name; with an else -/
section
variable {X : Cx} {rest : List ExceptHandler} {suite : List Stmt} {b₀ : Stmt} {ts : Addr → TS} {tr : THs} {wn n : Str} {D : Addr} {bmD : List Value} {i : Nat} {np hpos pos : Pos}
end
end L2
namespace L2
open PySem PySem.Spec PyProof.Rows PySem.W

/-! ### loops in a def that may raise -/
section
variable {X : Cx} {E : XK}
end

/-! ### methods and makings that raise, within a try's body -/
section
variable {X : Cx} {k : Nat} {f C : Addr} {fd : FuncData} {ps : List Str} {sp : Sp} {dvs : List V} {ds : List Value} {x m : Str} {p pos apos : Pos} {e o : Expr} {es : List Expr} {ta : TE} {t : TA}
end
end L2
namespace L2
open PySem PySem.Spec PyProof.Rows
section
variable {X : Cx}
/-- all(xs) of a list of truths -/
theorem bools_items : ∀ {bs : List Bool} {us : List Value}, Vals (bs.map V.bl) us → us = bs.map Value.bool
  | [], us, r => by
    rw [List.map_nil] at r
    cases r
    rfl
  | b :: bs, us, r => by
    rw [List.map_cons] at r
    cases r with
    | cons r1 r2 =>
      cases (show _ = Value.bool b from r1)
      rw [bools_items r2, List.map_cons]
theorem call_all (hh : X.A.handled = none) : CallR X (.builtin "all") (fun vs H Q => ∃ (p : Addr) (bs : List Bool), vs = [.ref p] ∧ SqL X.K H p (bs.map V.bl) ∧ Q (.bl (bs.all id)) H) := by
  intro pins s σ H xs us Q I r h
  obtain ⟨p, bs, rfl, hq, q⟩ := h
  obtain ⟨u, rfl, ru⟩ := r.one
  cases ru
  obtain ⟨its, r1, p1, _⟩ := I.list hq
  cases bools_items r1
  have hl : s.heap.IsList p (bs.map Value.bool).toArray := p1.isList
  have hlt : p < s.heap.objs.size := by obtain ⟨_, e, _⟩ := hl; exact Heap.lt_size e
  refine call_all_walk (wpAny_pyIter_list hl ?_)
  refine ⟨_, _, _, _, _, _, fun i => bs.getD i true, rfl, Walks.list (A := X.A.in1) hh _ p (Nat.ne_of_lt hlt) (bs.map Value.bool).toArray, ⟨⟨_, Heap.get?_push_size _ rfl, rfl, rfl⟩, hl.push _⟩, ?_, fun h' tk hk => ?_⟩
  · intro i v s' Q' E' hi hq'
    have hi' : (bs.map Value.bool)[i]? = some v := by simpa using hi
    rw [List.getElem?_map] at hi'
    cases e : bs[i]? with
    | none => rw [e] at hi'; cases hi'
    | some b =>
      rw [e] at hi'
      cases hi'
      have eb : bs.getD i true = b := by simp [List.getD, e]
      have hq2 : Q' b s' := by rw [← eb]; exact hq'
      exact wpAny_truthy_bool hq2
  · have ea : (List.range (bs.map Value.bool).toArray.size).all (fun i => bs.getD i true) = bs.all id := by
      have : (List.range bs.length).map (fun i => bs.getD i true) = bs := by
        apply List.ext_getElem
        · simp
        · intro n h1 h2
          simp [List.getD, List.getElem?_eq_getElem h2]
      calc _ = ((List.range bs.length).map (fun i => bs.getD i true)).all id := by rw [List.all_map]; simp
        _ = bs.all id := by rw [this]
    rw [ea]
    exact ⟨.bl _, H, I.kept (h' := h') (t' := tk) (fun b o e => hk b o (by simp; exact Nat.ne_of_lt (Heap.lt_size e)) (Heap.get?_push_of_some _ e)), rfl, q⟩
end
end L2
namespace L2
open PySem PySem.Spec PyProof.Rows
/-! ### lists and tuples within one another that are equal -/
mutual
/-- equal things, n deep -/
def Eqv (K : PySem.W.Frag) (H : Hp) : Nat → V → V → Prop
  | 0, x, y => (flatV x = true ∧ flatV y = true ∧ eqV x y = true) ∨ ∃ a, x = .ref a ∧ y = .ref a
  | n + 1, x, y => (flatV x = true ∧ flatV y = true ∧ eqV x y = true) ∨ (∃ a, x = .ref a ∧ y = .ref a) ∨ EqvS K H n x y
/-- two tuples or two lists, item by item -/
def EqvS (K : PySem.W.Frag) (H : Hp) : Nat → V → V → Prop
  | n, x, y => ∃ a b xs ys, x = .ref a ∧ y = .ref b ∧ ((SqT K H a xs ∧ SqT K H b ys) ∨ (SqL K H a xs ∧ SqL K H b ys)) ∧ xs.length = ys.length ∧ ∀ (i : Nat) u v, xs[i]? = some u → ys[i]? = some v → Eqv K H n u v
end
section
variable {X : Cx} {pins : List (Addr × Obj)} {σ : St} {H : Hp} {s : Shared}
end
end L2
/-! ### general words over the layer -/
namespace L2
open PySem PySem.Spec PyProof.Rows
section
variable {P : Program} {w : World} {K : PySem.W.Frag} {mg : Str → Option Value} {base : Heap}
theorem same_new {H : Hp} {p : Addr} (h : H p = none) (o : HO) : Same H (upd H p o) := fun b u q => by rw [upd_ne (ne_of_none q h)]; exact q
theorem same_over {H H' : Hp} {p : Addr} (s : Same H H') (h : H p = none) (o : HO) : Same H (upd H' p o) := fun b u q => by rw [upd_ne (ne_of_none q h)]; exact s b u q
theorem small {n : Nat} (h : n ≤ 100000) : n < sizeLine := Nat.lt_of_le_of_lt h (by decide)
theorem take_snoc {α β : Type} (f : α → β) {l : List α} {i : Nat} {c : α} (h : l[i]? = some c) : (l.take (i + 1)).map f = (l.take i).map f ++ [f c] := by
  rw [List.take_add_one, h, List.map_append]
  rfl
structure Has (K : PySem.W.Frag) (mg : Str → Option Value) (x : Str) (st : Stmt) (ps : List Str) (f : Addr) (fd : FuncData) : Prop where
  fn : Fun K x x st f fd
  bd : Binds K fd ps []
  nm : mg x = some (.ref f)
end
end L2
namespace L2
open PySem PyProof.Rows
/-- an if whose ends go on as one: R holds behind either -/
theorem if_rest {c : TT} {t : TS} {rt : VK} {bk ct : St → Hp → Prop} {σ : St} {H : Hp} {U : St → Hp → Prop} (R : St → Hp → Prop) (h1 : ∀ σ' H', R σ' H' → U σ' H') (h2 : (∀ σ' H', R σ' H' → U σ' H') → tIfS c t tNext { nx := U, rt := rt, bk := bk, ct := ct } σ H) :
    tIfS c t tNext { nx := U, rt := rt, bk := bk, ct := ct } σ H := h2 h1
theorem at_next {i : Nat} {v : V} {σ : St} {H : Hp} {k : St → Hp → Prop} (h : k (σ.set i (some v)) H) : gName i v σ H k := h
theorem seq_in {t u : TS} {D : Ends} {σ : St} {H : Hp} (h : t { nx := u D, rt := D.rt, bk := D.bk, ct := D.ct } σ H) : tSeq t u D σ H := h
/-! ### classes of exceptions by the text -/
end L2
/-! ### things of any kind; is_whole, is_within -/
namespace L2
open PySem PySem.Spec PyProof.Rows
def Ty0 (H : Hp) (x : V) : Prop := (∃ n, x = .int n) ∨ (∃ z, x = .str z) ∨ (∃ b, x = .bl b) ∨ x = .non ∨ (∃ a xs, x = .ref a ∧ H a = some (.lst xs)) ∨ (∃ a xs, x = .ref a ∧ H a = some (.tup xs)) ∨ (∃ a kvs, x = .ref a ∧ H a = some (.dK kvs))
theorem Ty0.int {H : Hp} (n : Int) : Ty0 H (.int n) := .inl ⟨n, rfl⟩
theorem Ty0.mono {H H' : Hp} {x : V} (s : Same H H') (h : Ty0 H x) : Ty0 H' x := by
  rcases h with h | h | h | h | ⟨a, z, e, q⟩ | ⟨a, z, e, q⟩ | ⟨a, z, e, q⟩
  · exact .inl h
  · exact .inr (.inl h)
  · exact .inr (.inr (.inl h))
  · exact .inr (.inr (.inr (.inl h)))
  · exact .inr (.inr (.inr (.inr (.inl ⟨a, z, e, s _ _ q⟩))))
  · exact .inr (.inr (.inr (.inr (.inr (.inl ⟨a, z, e, s _ _ q⟩)))))
  · exact .inr (.inr (.inr (.inr (.inr (.inr ⟨a, z, e, s _ _ q⟩)))))
def isI0 : V → Bool
  | .int _ => true
  | .bl _ => true
  | _ => false
def isB0 : V → Bool
  | .bl _ => true
  | _ => false
section
variable (K : PySem.W.Frag)
theorem k0_ii : PySem.W.kitOne K (.type "int") (.type "int") = some true := by kernel_rfl
theorem k0_ib : PySem.W.kitOne K (.type "int") (.type "bool") = some false := by kernel_rfl
theorem k0_si : PySem.W.kitOne K (.type "str") (.type "int") = some false := by kernel_rfl
theorem k0_sb : PySem.W.kitOne K (.type "str") (.type "bool") = some false := by kernel_rfl
theorem k0_bi : PySem.W.kitOne K (.type "bool") (.type "int") = some true := by kernel_rfl
theorem k0_bb : PySem.W.kitOne K (.type "bool") (.type "bool") = some true := by kernel_rfl
theorem k0_ni : PySem.W.kitOne K (.type "NoneType") (.type "int") = some false := by kernel_rfl
theorem k0_nb : PySem.W.kitOne K (.type "NoneType") (.type "bool") = some false := by kernel_rfl
theorem k0_li : PySem.W.kitOne K (.type "list") (.type "int") = some false := by kernel_rfl
theorem k0_lb : PySem.W.kitOne K (.type "list") (.type "bool") = some false := by kernel_rfl
theorem k0_ti : PySem.W.kitOne K (.type "tuple") (.type "int") = some false := by kernel_rfl
theorem k0_tb : PySem.W.kitOne K (.type "tuple") (.type "bool") = some false := by kernel_rfl
theorem k0_di : PySem.W.kitOne K (.type "dict") (.type "int") = some false := by kernel_rfl
theorem k0_db : PySem.W.kitOne K (.type "dict") (.type "bool") = some false := by kernel_rfl
end
theorem Ty0.ty {K : PySem.W.Frag} {H : Hp} {x : V} (h : Ty0 H x) : ∃ t, TyOf K H x t ∧ PySem.W.kitOne K t (.type "int") = some (isI0 x) ∧ PySem.W.kitOne K t (.type "bool") = some (isB0 x) := by
  rcases h with ⟨n, rfl⟩ | ⟨z, rfl⟩ | ⟨b, rfl⟩ | rfl | ⟨a, z, rfl, q⟩ | ⟨a, z, rfl, q⟩ | ⟨a, z, rfl, q⟩
  · exact ⟨_, .int n, k0_ii K, k0_ib K⟩
  · exact ⟨_, .str z, k0_si K, k0_sb K⟩
  · exact ⟨_, .bl b, k0_bi K, k0_bb K⟩
  · exact ⟨_, .non, k0_ni K, k0_nb K⟩
  · exact ⟨_, .lst q, k0_li K, k0_lb K⟩
  · exact ⟨_, .tup q, k0_ti K, k0_tb K⟩
  · exact ⟨_, .dK q, k0_di K, k0_db K⟩
def who0 (x : V) : Bool := isI0 x && !isB0 x
def wth0 (x : V) (l h : Int) : Bool := match x with
  | .int n => decide (l ≤ n) && decide (n ≤ h)
  | _ => false
theorem wth0_int {x : V} {l h : Int} (e : wth0 x l h = true) : ∃ n, x = .int n ∧ l ≤ n ∧ n ≤ h := by
  cases x with
  | int n =>
    have e : (decide (l ≤ n) && decide (n ≤ h)) = true := e
    rw [Bool.and_eq_true] at e
    exact ⟨n, rfl, of_decide_eq_true e.1, of_decide_eq_true e.2⟩
  | _ => cases e
def spWho0 : Sp := fun vs H Q _ => ∃ x, vs = [x] ∧ Ty0 H x ∧ Q (.bl (who0 x)) H
def spWth0 : Sp := fun vs H Q _ => ∃ x l h, vs = [x, .int l, .int h] ∧ Ty0 H x ∧ Q (.bl (wth0 x l h)) H
theorem hu40 {A : Around} {k : Nat} {c : Bool} (hr : Room k A c) : A.units + 40 < cLine := Nat.lt_of_le_of_lt (Nat.add_le_add_left (by decide : 40 ≤ 64) _) hr.units
theorem nx_in {D : Ends} {σ : St} {H : Hp} (h : D.nx σ H) : tNext D σ H := h
/-! ### methods; classes of exceptions -/
end L2
/-! ### a floor -/
namespace FL
open PySem L2 PyProof.Rows
structure FS where
  n : Int
  kp : List (Key × V)
  ks : List (Key × V)
  ws : List V
  d : Bool
  l : V
section
variable {C p pc sp wr : Addr} {H H' : Hp} {st st' : FS}
end
structure Cl where
  F : Addr
  W : Addr
  PG : Addr
  NF : Addr
  NP : Addr
  NI : Addr
  SO : Addr
/-! ### what each of its methods promises -/
end FL
namespace L2
open PySem PySem.Spec PyProof.Rows
section
variable {X : Cx}
end
end L2
namespace FL
open PySem L2 PyProof.Rows
/-! ### what the law keeps beside a floor -/
structure LS where
  bn : List (Key × V)
  bd : List (Key × V)
  dn : List V
  lf : Int
  dk : Bool
section
variable {H H' : Hp} {q b a d : Addr} {ls : LS}
end
section
variable {H : Hp} {q b a d : Addr} {ls : LS}
end
/-! ### both tell the same -/
section
variable {st : FS} {ls : LS} {m : Nat} {i : Int} {v : V}
/-! ### a floor and what is kept beside it -/
structure AD where
  p : Addr
  pc : Addr
  sp : Addr
  wr : Addr
  q : Addr
  b : Addr
  a : Addr
  d : Addr
section
variable {R R' : FS → LS → Prop} {c : Cl} {H H' : Hp} {A B : AD} {n : Int}
end
end
end FL
namespace L2
open PySem PySem.Spec PyProof.Rows
/-! ### comprehensions whose target is any: a tuple of names -/
end L2
/-! ### sorted, min and max of lists, min of three -/
namespace L2
open PySem PySem.Spec PyProof.Rows
theorem ints_of : ∀ {ns : List Int} {us : List Value}, Vals (ns.map V.int) us → IntsAre us ns
  | [], _, .nil => .nil
  | _ :: _, _, .cons ⟨t, e⟩ r => by
    subst e
    exact .cons _ t (ints_of r)
theorem of_ints : ∀ {ns : List Int} {us : List Value}, IntsAre us ns → Vals (ns.map V.int) us
  | _, _, .nil => .nil
  | _, _, .cons n t r => .cons ⟨t, rfl⟩ (of_ints r)
theorem vals3 {x y z : V} {us : List Value} (r : Vals [x, y, z] us) : ∃ a b c, us = [a, b, c] ∧ RelV x a ∧ RelV y b ∧ RelV z c := by
  cases r with
  | cons h1 r => cases r with
    | cons h2 r => cases r with
      | cons h3 r => cases r with
        | nil => exact ⟨_, _, _, rfl, h1, h2, h3⟩
section
variable {X : Cx}
/-- min(a, b, c) of ints -/
theorem args_min3 (a b c : Value) : argsOk "min" ⟨[a, b, c], []⟩ := by unfold argsOk; kernel_rfl
theorem min3_walk {prog : Program} {w : World} {A : Around} {E : Value → Shared → Prop} {s : Shared} {a b c : Value} {Q : Value → Shared → Prop}
    (h : wpAny (model prog w) A.in1 (pyIter (.ref s.heap.objs.size)) (fun z s1 => ∃ J fp wr n P St bt, z = .ref J ∧ Walks prog w A.in1 J fp wr n P St ∧ St 0 s1.heap ∧ (∀ x ∈ fp, x < s1.heap.objs.size) ∧ 0 < n ∧ CmpOf prog w A.in1 .Lt P bt ∧ ∀ y h' tk, P (argBest bt (n - 1)) y → (∀ x o, x ∉ wr → s1.heap.get? x = some o → h'.get? x = some o) → Q y { s1 with heap := h', toks := tk }) E { s with heap := s.heap.push { cls := .type "tuple", data := .seq #[a, b, c] } }) :
    wpAny (model prog w) A (call (.builtin "min") [a, b, c]) Q E s := by
  have nm : (toString "min" ++ toString ".loop" : String) = "min.loop" := by decide
  refine call_function_tree F.kind_min F.plain_min F.entry_min (args_min3 a b c) ?_
  have bp : Builtin.Builtins.bindParams "min" ["key", "default"] 0 ⟨[], []⟩ = pure [none, none] := rfl
  show wpAny (model prog w) A.in1 (Builtin.Builtins.bindParams "min" ["key", "default"] 0 ⟨[], []⟩ >>= _) _ E s
  refine wpAny_bind (wpAny_of_eq bp ?_)
  show wpAny (model prog w) A.in1 (newTuple [a, b, c] >>= _) _ E s
  refine wpAny_bind (wpAny_newObj_type (wpAny_bind (wpAny_mono h (fun z s1 hz => ?_) fun _ _ e => e)))
  obtain ⟨J, fp, wr, n, P, St, bt, rfl, W, st, hf, hn, hc, k⟩ := hz
  have nf : s1.heap.objs.size ∉ fp := fun m => Nat.lt_irrefl _ (hf _ m)
  refine wpAny_bind (wpAny_newObj_type ?_)
  rw [nm]
  have fr : St 0 (s1.heap.push { cls := .type "list", data := .seq ([] : List Value).toArray }) := W.frame _ _ _ st fun x _ o e => Heap.get?_push_of_some _ e
  refine wpAny_pure ⟨plainId_quiet F.plain_min_loop _, codeAny_min_loop_first W bt hc s1.heap.objs.size nf hn fr (Heap.get?_push_size _ rfl) ?_⟩
  intro y h' tk hP hk
  refine k y h' tk hP fun x o hx e => ?_
  exact hk x o hx (Nat.ne_of_lt (Heap.lt_size e)) (Heap.get?_push_of_some _ e)
theorem min3_ints {prog : Program} {w : World} {A : Around} {E : Value → Shared → Prop} {s : Shared} {a b c : Int} {t u v : Tok} {Q : Value → Shared → Prop} (hh : A.handled = none)
    (h : ∀ h' tk r tr, (∀ x o, s.heap.get? x = some o → h'.get? x = some o) → r = min (min a b) c → Q (.int r tr) { s with heap := h', toks := tk }) : wpAny (model prog w) A (call (.builtin "min") [.int a t, .int b u, .int c v]) Q E s := by
  have it : (s.heap.push { cls := .type "tuple", data := .seq #[.int a t, .int b u, .int c v] }).IsTuple s.heap.objs.size (intItems #[(a, t), (b, u), (c, v)]) := ⟨_, Heap.get?_push_size _ rfl, rfl, 0, by simp [intItems]⟩
  have sz : (s.heap.push { cls := .type "tuple", data := .seq #[.int a t, .int b u, .int c v] }).objs.size = s.heap.objs.size + 1 := Heap.size_push ..
  refine min3_walk (wpAny_pyIter_tuple it ⟨_, [_, s.heap.objs.size], [_], _, _, _, _, rfl, Walks.tuple (A := A.in1) hh _ s.heap.objs.size (by rw [sz]; exact Nat.ne_of_lt (Nat.lt_succ_self _)) (intItems #[(a, t), (b, u), (c, v)]), ⟨⟨_, Heap.get?_push_size _ rfl, rfl, rfl⟩, it.push _⟩, fun x hx => ?_, by simp [intItems], CmpOf.ints_lt (numAt #[(a, t), (b, u), (c, v)]) (fun _ _ => intItems_at), fun y h' tk hP hk => ?_⟩)
  · show x < ((s.heap.push _).push _).objs.size
    rw [Heap.size_push, sz]
    rcases List.mem_cons.mp hx with e | hx
    · rw [e, sz]
      exact Nat.lt_succ_self _
    · rw [List.mem_singleton.mp hx]
      exact Nat.lt_succ_of_lt (Nat.lt_succ_self _)
  · have hold : ∀ x o, s.heap.get? x = some o → h'.get? x = some o := fun x o e => by
      refine hk x o (fun m => ?_) (Heap.get?_push_of_some _ (Heap.get?_push_of_some _ e))
      have l := Heap.lt_size e
      rw [List.mem_singleton] at m
      rw [m, sz] at l
      exact Nat.lt_irrefl _ (Nat.lt_of_succ_lt l)
    have hP' : (intItems #[(a, t), (b, u), (c, v)])[argBest (fun i j => decide (numAt #[(a, t), (b, u), (c, v)] i < numAt #[(a, t), (b, u), (c, v)] j)) 2]? = some y := by
      have z2 : (intItems #[(a, t), (b, u), (c, v)]).size - 1 = 2 := by simp [intItems]
      rw [← z2]
      exact hP
    obtain ⟨tr, hy⟩ := intItems_at hP'
    rw [hy]
    refine h h' tk _ tr hold ?_
    by_cases h1 : b < a
    · by_cases h2 : c < b
      · simp [argBest, numAt, h1, h2]
        omega
      · simp [argBest, numAt, h1, h2]
        omega
    · by_cases h2 : c < a
      · simp [argBest, numAt, h1, h2]
        omega
      · simp [argBest, numAt, h1, h2]
        omega
theorem call_min3 (hc : X.calm = true) : CallR X (.builtin "min") (fun xs H Q => ∃ i j k, xs = [.int i, .int j, .int k] ∧ Q (.int (min (min i j) k)) H) := by
  intro pins s σ H xs us Q I r h
  obtain ⟨i, j, k, rfl, q⟩ := h
  obtain ⟨a, b, c, rfl, ⟨t, rfl⟩, ⟨t', rfl⟩, ⟨t2, rfl⟩⟩ := vals3 r
  exact min3_ints (I.ok.hd hc) fun h' tk r tr kp e => ⟨.int (min (min i j) k), H, I.kept kp, ⟨tr, by rw [e]⟩, q⟩
end
end L2
/-! ### a dict's keys as a list, sorted -/
namespace L2
open PySem PySem.Spec PyProof.Rows PySem.W
theorem is_kV {P : Program} {w : World} {k : Key} {u : Value} (h : (mixKind P w).is k u = true) : RelV (kV k) u := by
  rcases keyIs_shape (k := k) (v := u) h with ⟨i, t, rfl, rfl⟩ | ⟨x, t, rfl, rfl⟩
  · exact ⟨t, rfl⟩
  · exact ⟨t, rfl⟩
theorem vals_keys {P : Program} {w : World} {kvs : List (Key × V)} {vs : List (Key × Value)} {us : List Value} (rel : KV kvs vs) (hl : us.length = vs.length)
    (h : ∀ (j : Nat) (v : Value), us[j]? = some v → ∃ k x, vs[j]? = some (k, x) ∧ (mixKind P w).is k v = true) : Vals (kvs.map fun p => kV p.1) us := by
  unfold KV at rel
  induction rel generalizing us with
  | nil =>
    cases us with
    | nil => exact .nil
    | cons a r => cases hl
  | @cons p q ps qs hr r ih =>
    cases us with
    | nil => cases hl
    | cons u us =>
      obtain ⟨kk, x, e, hk⟩ := h 0 u rfl
      have e' : q = (kk, x) := Option.some.inj e
      refine .cons ?_ (ih (Nat.succ.inj hl) fun j v hj => h (j + 1) v hj)
      show RelV (kV p.1) u
      rw [hr.1, e']
      exact is_kV hk
section
variable {X : Cx}
/-- what a source gives, collected -/
theorem coll_src {prog : Program} {w : World} {A : Around} {E : Value → Shared → Prop} {s : Shared} {T : String} {r d : Addr} {n : Nat} {P : Nat → Value → Prop} {OK : Heap → Prop} {Q : List Value → Shared → Prop} (K : KdlSrc prog w T r d n P OK) (hh : A.handled = none) (ok : OK s.heap) (hn : n ≤ sizeLine)
    (h : ∀ h' tk acc, (∀ b o, s.heap.get? b = some o → h'.get? b = some o) → s.heap.objs.size < h'.objs.size → ItemsOf P acc n → Q acc.toList { s with heap := h', toks := tk }) : wpAny (model prog w) A (collect (.ref r)) Q E s := by
  have lt := K.there _ ok
  unfold collect
  refine wpAny_bind (wpAny_runValue (codeAny_builtin PySem.F.entry_proto_collect ?_))
  rw [Around.under_plainId PySem.F.plain_proto_collect _]
  have new : (s.heap.push { cls := .type "list", data := .seq ([] : List Value).toArray }).get? s.heap.objs.size = some { cls := .type "list", data := .seq #[] 0 } := Heap.get?_push_size _ rfl
  have ok1 := K.keep s.heap (s.heap.push { cls := .type "list", data := .seq ([] : List Value).toArray }) ok fun b _ o e => Heap.get?_push_of_some _ e
  have key : ∀ R : Result → Shared → Prop, (∀ h' tk acc c, (∀ b o, b ≠ s.heap.objs.size → (s.heap.push { cls := .type "list", data := .seq ([] : List Value).toArray }).get? b = some o → h'.get? b = some o) → h'.get? s.heap.objs.size = some { cls := .type "list", dict := none, data := .seq acc c, slots := #[] } → ItemsOf P acc n → R (.ok (.ret (.ref s.heap.objs.size))) { s with heap := h', toks := tk }) →
      codeAny (model prog w) A (.builtin "list.__iadd__" ⟨[.ref s.heap.objs.size, .ref r], []⟩) R { s with heap := s.heap.push { cls := .type "list", data := .seq ([] : List Value).toArray } } := by
    intro R hR
    refine codeAny_builtin PySem.F.entry_list_iadd ?_
    rw [Around.under_plainId PySem.F.plain_list_iadd _]
    exact kdl_extend (s := { s with heap := s.heap.push { cls := .type "list", data := .seq ([] : List Value).toArray } }) K hh ok1 s.heap.objs.size (Nat.ne_of_gt lt.1) (Nat.ne_of_gt lt.2) (.ref s.heap.objs.size) 0 new (fun h' tk acc c kp hS it => hR h' tk acc c kp hS it) hn
  show wpAny (model prog w) A.in1 (newList [] >>= fun x => again (.builtin "list.__iadd__" ⟨[x, .ref r], []⟩)) _ _ s
  refine wpAny_bind (wpAny_newObj_type (wpAny_pure ⟨plainId_quiet PySem.F.plain_list_iadd _, key _ fun h' tk acc c kp hS it => ?_⟩))
  show wpAny (model prog w) A (load s.heap.objs.size >>= _) Q E { s with heap := h', toks := tk }
  refine wpAny_bind (wpAny_load hS (wpAny_pure ?_))
  refine h h' tk acc (fun b o e => ?_) (Heap.lt_size hS) it
  exact kp b o (Nat.ne_of_lt (Heap.lt_size e)) (Heap.get?_push_of_some _ e)
/-- sorted(d), the keys ints -/
theorem call_sortedK (hc : X.calm = true) : CallR X (.builtin "sorted") (fun xs H Q => ∃ (a : Addr) (kvs : List (Key × V)) (ns : List Int), xs = [V.ref a] ∧ H a = some (.dK kvs) ∧ kvs.map (·.1) = ns.map Sum.inl ∧ ns.length < 64 ∧
    ∀ (l : Addr) (ms : List Int), ms.Perm ns → ms.Pairwise (· ≤ ·) → H l = none → Q (.ref l) (upd H l (.lst (ms.map V.int)))) := by
  intro pins s σ H xs us Q I r h
  obtain ⟨a, kvs, ns, rfl, ha, hk, h64, q⟩ := h
  obtain ⟨u, rfl, ru⟩ := vals1 r
  cases ru
  obtain ⟨z, hd, vs, rel, dd⟩ := dk_of I.hok ha
  obtain ⟨ep, da⟩ := dd.dictAt
  have hz : vs.length ≤ sizeLine := by rw [← rel.length]; exact z
  refine Calls.call_function_entry kind_sorted plain_sorted entry_sorted (args_sorted1 (.ref a)) ?_
  unfold Builtin.«sorted»
  refine wpAny_bind (m := checkCount "sorted" 1 1 _) (wpAny_pure (wpAny_bind (coll_src (kdl_dict hd) (I.ok.hd hc) da hz fun h1 tk acc kp lt0 it => ?_)))
  have big := Nat.le_of_lt lt0
  have rv : Vals (kvs.map fun p => kV p.1) acc.toList := vals_keys (P := X.prog) (w := X.w) rel (by rw [← it.1]; simp) fun j v hj => it.2 j v (by simpa using hj)
  have em : (kvs.map fun p => kV p.1) = ns.map V.int := by
    have e2 : (kvs.map (·.1)).map kV = (ns.map Sum.inl).map kV := by rw [hk]
    rw [List.map_map, List.map_map] at e2
    exact e2
  rw [em] at rv
  have hl : acc.toList.length = ns.length := by
    have := rv.length
    rw [List.length_map] at this
    exact this.symm
  have hL : (h1.push (seqObj "list" acc.toList.toArray 0)).get? h1.objs.size = some (seqObj "list" acc.toList.toArray 0) := Heap.get?_push_size _ rfl
  refine wpAny_bind (wpAny_newList ?_)
  have hn := I.hok.fresh big
  refine wpAny_bind (wpAny_holding (wpAny_call_entry slot_list_sort ⟨_, hL, rfl⟩ entry_list_sort (list_sort_tree hL (ints_of rv) (by rw [hl]; exact h64) fun out ms a1 a2 a3 => ⟨_, rfl, ?_⟩) (args_list_sort _)))
  refine wpAny_pure ⟨_, rfl, ?_⟩
  obtain ⟨e, he⟩ := sortedHeap_at (out := out) hL
  refine ⟨.ref h1.objs.size, _, I.laid (a := h1.objs.size) (o := .lst (ms.map V.int)) (t' := tk) (fun b o z => ?_) big ?_, rfl, q _ ms a2 a3 hn⟩
  · have hb := kp b o z
    have lt := Heap.lt_size hb
    rw [sortedHeap_old (Nat.ne_of_lt lt) (by rw [Heap.size_push]; exact Nat.lt_succ_of_lt lt)]
    exact Heap.get?_push_of_some _ hb
  · refine ⟨?_, out.toList, e, of_ints a1, ?_⟩
    · rw [List.length_map, a2.length_eq]
      exact Nat.le_of_lt (small (by omega))
    · rw [he]
end
end L2
/-! ### d.update(e), both dicts of ints and texts -/
namespace L2
open PySem PySem.Spec PyProof.Rows
section
variable {X : Cx} {pins : List (Addr × Obj)} {σ : St} {H : Hp} {s : Shared} {a b : Addr} {A : Around} {E : Value → Shared → Prop}
theorem d_update {kvs more : List (Key × V)} {Q : Value → Shared → Prop} (I : Inv X pins σ H s) (e : H a = some (.dK kvs)) (e2 : H b = some (.dK more)) (ne : a ≠ b) (z : kvs.length + more.length ≤ sizeLine) (h : ∀ s', Inv X pins σ (upd H a (.dK (mergeK kvs more))) s' → Q .none s') :
    wpAny (model X.prog X.w) A (call (.builtin "dict.update") [.ref a, .ref b]) Q E s := by
  obtain ⟨_, hd, vs, rel, dd⟩ := dk_of I.hok e
  obtain ⟨_, hd2, ws, rel2, dd2⟩ := dk_of I.hok e2
  refine call_meetsIn PySem.F.slot_dict_update dd.typeIs PySem.F.entry_dict_update (PySem.F.args_dict_update_2 _ _) (meets_dict_update (mixKind X.prog X.w) a b ne hd2) ⟨vs, ws, dd, dd2, by rw [← rel.length, ← rel2.length]; exact z, fun h' dd' _ hs => h _ ?_⟩
  have he : ∃ q, h'.get? a = some q := let ⟨q, _, _, hq, _⟩ := dd'; ⟨q, hq⟩
  have hl := length_mergeK more kvs
  exact d_write (t' := s.toks) I (by rw [e]; exact True.intro) hs he (dk_new (by omega) hd (rel2.merge rel) dd')
end
section
variable {X : Cx} {o e : Expr} {apos cpos : Pos} {td ty : TE}
def tDUpd (td ty : TE) : TE := fun σ H Q => td σ H fun x H1 => ∃ a, x = .ref a ∧ IsD H1 a ∧ ty σ H1 fun y H2 => ∃ b kvs more, y = .ref b ∧ H2 a = some (.dK kvs) ∧ H2 b = some (.dK more) ∧ a ≠ b ∧ kvs.length + more.length ≤ sizeLine ∧ Q .non (upd H2 a (.dK (mergeK kvs more)))
theorem pe_dupd (ho : PE X o td) (he : PE X e ty) (m : M1 X o "update" apos e cpos) : PE X (.Call (.Attribute o "update" apos) [e] [] cpos) (tDUpd td ty) := by
  intro pins s σ H Q I h
  refine wpAny_Call_method m.base m.few m.line PySem.F.plainAttrs_dict PySem.F.slot_dict_update PySem.F.type_dict_update (thn (ho pins s σ H _ I h) fun u s1 ⟨x, H1, I1, rx, a, ex, d, q1⟩ => ?_)
  subst ex
  obtain rfl : u = Value.ref a := rx
  obtain ⟨t1, t2, _⟩ := isD_at I1 d
  refine ⟨t1, t2, ?_⟩
  rw [m.trees]
  refine Calls.callWith_builtin rfl (Calls.evalArgs_plain (Calls.spliced_cons (thn (he pins s1 σ H1 _ I1 q1) fun iv s2 ⟨y, H2, I2, ry, b, kvs, more, ey, ea, eb, ne, z, q2⟩ => Calls.spliced_nil ?_)))
  subst ey
  obtain rfl : iv = Value.ref b := ry
  exact d_update I2 ea eb ne z fun s3 I3 => ⟨.non, _, I3, rfl, q2⟩
end
end L2
/-! ### several records of ours turn; zip of two lists, its pairs taken apart at once -/
namespace L2
open PySem PySem.Spec PyProof.Rows
section
variable {X : Cx} {pins : List (Addr × Obj)} {σ : St} {H : Hp} {s : Shared} {h' : Heap}
/-- untracked records of ours have turned -/
theorem Inv.turns {t' : Nat} {W : List Addr} (I : Inv X pins σ H s) (hW : ∀ b ∈ W, FpOk X pins H b) (k : ∀ b o, b ∉ W → s.heap.get? b = some o → h'.get? b = some o) : Inv X pins σ H { s with heap := h', toks := t' } := by
  have nit : ∀ b u, H b = some u → b ∉ W := fun b u e z => by
    have q := (hW b z).1
    rw [q] at e
    cases e
  have lW : X.env.locals ∉ W := fun z => (hW _ z).2.1 rfl
  refine I.step (g' := s.gens) (d' := s.drawn) (ch := W) (fun b hb => ?_) (fun b o _ _ hc e _ => k b o hc e) (fun b o _ _ hc e _ => ⟨o.slots, k b o hc e⟩) (fun _ _ _ _ n => n) (fun b o hc e => ⟨o, k b o hc e⟩) (fun _ _ e => e) (fun _ _ _ e => e)
    (fun b ps e => ⟨#[], by rw [e]; simp⟩) (fun m hm => ?_) (fun b u e => ?_) I.bare
  · obtain ⟨_, a2, _, a4, a5, a6⟩ := hW b hb
    exact ⟨a4, a2, a5, a6⟩
  · obtain ⟨o, es, ep, ho, r⟩ := hm
    exact ⟨o, es, ep, k _ o lW ho, r⟩
  · refine (I.hok b u e).stay (fun c v hc q => k c v ?_ q) (fun _ q => q) fun _ _ q => q
    rcases hc with z | z
    · exact z ▸ nit b u e
    · exact nit c _ z
/-- the same, and a new object is tracked -/
theorem Inv.turnsLaid {t' : Nat} {W : List Addr} {T : Addr} {o : HO} (I : Inv X pins σ H s) (hW : ∀ b ∈ W, FpOk X pins H b) (k : ∀ b u, b ∉ W → s.heap.get? b = some u → h'.get? b = some u) (hT : s.heap.objs.size ≤ T)
    (new : ObjOk X.prog X.w (upd H T o) h' T o) : Inv X pins σ (upd H T o) { s with heap := h', toks := t' } := by
  have nT := I.hok.fresh hT
  have nit : ∀ b u, H b = some u → b ∉ W := fun b u e z => by
    have q := (hW b z).1
    rw [q] at e
    cases e
  have lW : X.env.locals ∉ W := fun z => (hW _ z).2.1 rfl
  refine I.step (g' := s.gens) (d' := s.drawn) (ch := W) (fun b hb => ?_) (fun b o _ _ hc e _ => k b o hc e) (fun b o _ _ hc e _ => ⟨o.slots, k b o hc e⟩)
    (fun b o _ e n => by rw [upd_ne (Nat.ne_of_lt (Nat.lt_of_lt_of_le (Heap.lt_size e) hT))]; exact n) (fun b o hc e => ⟨o, k b o hc e⟩)
    (fun b xs e => by rw [upd_ne (ne_of_none e nT)]; exact e) (fun b _ _ e => by rw [upd_ne (ne_of_none e nT)]; exact e)
    (fun b ps e => ⟨#[], by rw [upd_ne (ne_of_none e nT), e]; simp⟩) (fun m hm => ?_) (fun b u e => ?_) I.bare
  · obtain ⟨_, a2, _, a4, a5, a6⟩ := hW b hb
    exact ⟨a4, a2, a5, a6⟩
  · obtain ⟨o, es, ep, ho, r⟩ := hm
    exact ⟨o, es, ep, k _ o lW ho, r⟩
  · by_cases hb : b = T
    · subst hb
      rw [upd_same] at e
      cases e
      exact new
    · rw [upd_ne hb] at e
      refine (I.hok b u e).stay (fun c v hc q => k c v ?_ q) (fun c q => by rw [upd_ne (ne_of_none q nT)]; exact q) fun c xs q => by rw [upd_ne (ne_of_none q nT)]; exact q
      rcases hc with z | z
      · exact z ▸ nit b u e
      · exact nit c _ z
end
end L2
/-! ### zip of two tuples, its pairs taken apart at once -/
namespace L2
open PySem PySem.Spec PyProof.Rows
section
variable {prog : Program} {w : World} {A : Around} {E : Value → Shared → Prop} {s : Shared}
/-- one turn of a tuple's iterator, as zip draws it -/
theorem drawT {j c : Addr} {k : Nat} {us : Array Value} {u : Value} {Q : Value → Shared → Prop} (hj : s.heap.IsTupleIter j c k) (hc : s.heap.IsTuple c us) (hu : us[k]? = some u)
    (q : ∀ g, g.IsTupleIter j c (k + 1) → Heap.SameBut j s.heap g → Q u { s with heap := g }) : wpAny (model prog w) A (Builtin.SmallTypes.nextOf (.ref j)) Q E s := by
  obtain ⟨oj, ej, kj, dj⟩ := id hj
  obtain ⟨oc, ec, _, nc, dc⟩ := hc
  unfold Builtin.SmallTypes.nextOf
  have T := hj.typeIs
  refine wpAny_bind (wpAny_callSpecial?_slot (name := Str.ofString "__next__") T F.slot_tuple_iterator_next (wpAny_call_entry F.slot_tuple_iterator_next T F.entry_tuple_iterator_next ?_ (F.args_tuple_iterator_next_1 _)))
  show wpAny (model prog w) _ (field (.ref j) 0 >>= _) _ _ s
  refine wpAny_bind (wpAny_field ej dj (x := .ref c) rfl ?_)
  show wpAny (model prog w) _ (if (Value.ref c == Value.none) = true then _ else _) _ _ s
  rw [if_neg (show ¬ ((Value.ref c == Value.none) = true) by simp)]
  show wpAny (model prog w) _ (field (.ref j) 1 >>= _) _ _ s
  refine wpAny_bind (wpAny_field ej dj (x := .int k 0) rfl ?_)
  show wpAny (model prog w) _ (seqItems? (.ref c) >>= _) _ _ s
  refine wpAny_bind (wpAny_seqItems ec dc ?_)
  simp only [Int.toNat_natCast, hu]
  refine wpAny_bind (wpAny_setField ej dj (by simp) (wpAny_pure ⟨u, rfl, wpAny_pure (q _ ⟨_, Heap.get?_update_self _ ej (Obj.isFreed_of_fields (Obj.data_mapFields dj _)), (Obj.cls_mapFields ..).trans kj, ?_⟩ (Heap.SameBut.update ..))⟩))
  rw [Obj.data_mapFields dj]
  simp [rawInt]
theorem drawT_end {j c : Addr} {k : Nat} {us : Array Value} {Q : Value → Shared → Prop} (hh : A.handled = none) (hj : s.heap.IsTupleIter j c k) (hc : s.heap.IsTuple c us) (hu : us[k]? = none)
    (q : ∀ g e, Heap.ExtBut j s.heap g → (∃ o, g.get? e = some o ∧ o.cls = .type "StopIteration") → E (.ref e) { s with heap := g }) : wpAny (model prog w) A (Builtin.SmallTypes.nextOf (.ref j)) Q E s := by
  obtain ⟨oj, ej, kj, dj⟩ := id hj
  obtain ⟨oc, ec, _, nc, dc⟩ := hc
  unfold Builtin.SmallTypes.nextOf
  have T := hj.typeIs
  refine wpAny_bind (wpAny_callSpecial?_slot (name := Str.ofString "__next__") T F.slot_tuple_iterator_next (wpAny_call_entry F.slot_tuple_iterator_next T F.entry_tuple_iterator_next ?_ (F.args_tuple_iterator_next_1 _)))
  show wpAny (model prog w) _ (field (.ref j) 0 >>= _) _ _ s
  refine wpAny_bind (wpAny_field ej dj (x := .ref c) rfl ?_)
  show wpAny (model prog w) _ (if (Value.ref c == Value.none) = true then _ else _) _ _ s
  rw [if_neg (show ¬ ((Value.ref c == Value.none) = true) by simp)]
  show wpAny (model prog w) _ (field (.ref j) 1 >>= _) _ _ s
  refine wpAny_bind (wpAny_field ej dj (x := .int k 0) rfl ?_)
  show wpAny (model prog w) _ (seqItems? (.ref c) >>= _) _ _ s
  refine wpAny_bind (wpAny_seqItems ec dc ?_)
  simp only [Int.toNat_natCast, hu]
  refine wpAny_bind (wpAny_rule (wpAny_bind (wpAny_setField ej dj (by simp) ?_)))
  show wpAny (model prog w) _ (newExc (.type "StopIteration") [] >>= _) _ _ _
  refine wpAny_bind ?_
  simp only [newExc, newTuple]
  refine wpAny_bind (wpAny_newObj_type ?_ (by size_fits))
  refine wpAny_bind (m := firstArgMember _ _) (wpAny_of_eq (a := Value.none) (by simp only [firstArgMember]; rfl) ?_)
  refine wpAny_newObj_type ?_ (by size_fits)
  simp only [raiseNew]
  refine wpAny_bind (wpAny_handled ?_)
  rw [show A.in1.handled = none from hh]
  exact wpAny_bind (wpAny_pure (wpAny_throw (q _ _ (((Heap.SameBut.update ..).extBut.push _).push _) ⟨_, Heap.get?_push_size _ rfl, rfl⟩)))
/-- zip's step, both have one more -/
theorem zipT_item {z p o i1 i2 c1 c2 : Addr} {k : Nat} {us vs : Array Value} {u v a b : Value} {Q : Value → Shared → Prop} (D : ZipApart z p o i1 i2 c1 c2) (hz : IsZip s.heap z p o .none) (hp : IsPair s.heap p (.ref i1) (.ref i2)) (ho : IsPair s.heap o a b)
    (j1 : s.heap.IsTupleIter i1 c1 k) (j2 : s.heap.IsTupleIter i2 c2 k) (t1 : s.heap.IsTuple c1 us) (t2 : s.heap.IsTuple c2 vs) (hu : us[k]? = some u) (hv : vs[k]? = some v)
    (q : ∀ g, IsZip g z p o (rawInt s.heap.objs.size) → IsPair g o u v → g.IsTupleIter i1 c1 (k + 1) → g.IsTupleIter i2 c2 (k + 1) → IsPair g s.heap.objs.size u v →
      (∀ c x, c ≠ z → c ≠ o → c ≠ i1 → c ≠ i2 → s.heap.get? c = some x → g.get? c = some x) → Q (.ref s.heap.objs.size) { s with heap := g }) :
    wpAny (model prog w) A (Builtin.«zip.__next__» ⟨[.ref z], []⟩) (fun f s' => ∃ r, f = .done (.ret r) ∧ Q r s') E s := by
  show wpAny (model prog w) _ (field (.ref z) 2 >>= _) _ _ _
  refine wpAny_bind (wpAny_field hz rfl (x := .bool false) rfl ?_)
  show wpAny (model prog w) _ (field (.ref z) 3 >>= _) _ _ _
  refine wpAny_bind (wpAny_field hz rfl (x := .ref p) rfl (wpAny_bind (wpAny_seqItems hp rfl ?_)))
  show wpAny (model prog w) _ (Builtin.SmallTypes.ownedTupleIsFree (.ref z) >>= _) _ _ _
  refine wpAny_bind ?_
  unfold Builtin.SmallTypes.ownedTupleIsFree
  refine wpAny_bind (wpAny_field hz rfl (x := .none) rfl (wpAny_pure ?_))
  simp only [if_true]
  refine wpAny_bind (wpAny_rule (wpAny_bind (wpAny_field hz rfl (x := .ref o) rfl (wpAny_bind (wpAny_setField_rec hz (by simp) fun g1 z1 s1 => ?_)))))
  refine wpAny_bind ?_
  simp only [List.zipIdx_cons, List.zipIdx_nil, List.forIn_cons, List.forIn_nil]
  refine wpAny_bind (wpAny_bind (wpAny_onRaise ?_))
  show wpAny (model prog w) _ (Builtin.SmallTypes.nextOf (.ref i1) >>= _) _ _ _
  refine wpAny_bind (drawT (j1.extBut s1.extBut D.i1z) (t1.extBut s1.extBut D.l1z) hu fun g2 j12 s2 => wpAny_pure ?_)
  have o2 : IsPair g2 o a b := s2.extBut _ _ D.TOi1 (s1.extBut _ _ D.TOz ho)
  refine wpAny_bind (wpAny_seqItems o2 rfl (wpAny_bind (wpAny_updateSeq_pair o2 fun g3 o3 s3 => ?_)))
  replace o3 : IsPair g3 o u b := o3
  refine wpAny_bind (wpAny_letGo (wpAny_pure (wpAny_bind (wpAny_bind (wpAny_onRaise ?_)))))
  show wpAny (model prog w) _ (Builtin.SmallTypes.nextOf (.ref i2) >>= _) _ _ _
  refine wpAny_bind (drawT (((j2.extBut s1.extBut D.i2z).extBut s2.extBut D.i12.symm).extBut s3.extBut D.TOi2.symm) (((t2.extBut s1.extBut D.l2z).extBut s2.extBut D.l2i1).extBut s3.extBut D.l2TO) hv fun g4 j24 s4 => wpAny_pure ?_)
  have o4 : IsPair g4 o u b := s4.extBut _ _ D.TOi2 o3
  refine wpAny_bind (wpAny_seqItems o4 rfl (wpAny_bind (wpAny_updateSeq_pair o4 fun g5 o5 s5 => ?_)))
  replace o5 : IsPair g5 o u v := o5
  refine wpAny_bind (wpAny_letGo (wpAny_pure (wpAny_pure (wpAny_bind (wpAny_seqItems o5 rfl (wpAny_bind (wpAny_newTuple ?_)))))))
  have sz : g5.objs.size = s.heap.objs.size := by rw [s5.1, s4.1, s3.1, s2.1, s1.1]
  have z5 : IsZip g5 z p o .ellipsis := s5.extBut _ _ D.TOz.symm (s4.extBut _ _ D.i2z.symm (s3.extBut _ _ D.TOz.symm (s2.extBut _ _ D.i1z.symm z1)))
  have k5 : ∀ c x, c ≠ z → c ≠ o → c ≠ i1 → c ≠ i2 → s.heap.get? c = some x → g5.get? c = some x := fun c x n1 n2 n3 n4 e => s5.extBut _ _ n2 (s4.extBut _ _ n4 (s3.extBut _ _ n2 (s2.extBut _ _ n3 (s1.extBut _ _ n1 e))))
  have j15 : g5.IsTupleIter i1 c1 (k + 1) := ((j12.extBut s3.extBut D.TOi1.symm).extBut s4.extBut D.i12).extBut s5.extBut D.TOi1.symm
  have j25 : g5.IsTupleIter i2 c2 (k + 1) := j24.extBut s5.extBut D.TOi2.symm
  have lz : z < g5.objs.size := Heap.lt_size z5
  show wpAny (model prog w) _ (Builtin.SmallTypes.ownedTupleHandOut (.ref z) (.ref g5.objs.size) >>= _) _ _ _
  refine wpAny_bind ?_
  unfold Builtin.SmallTypes.ownedTupleHandOut
  have z6 : IsZip (g5.push { cls := .type "tuple", data := .seq #[u, v] }) z p o .ellipsis := Heap.get?_push_of_some _ z5
  refine wpAny_bind (wpAny_setField_rec z6 (by simp) fun g7 z7 s7 => ?_)
  replace z7 : IsZip g7 z p o (rawInt g5.objs.size) := z7
  refine wpAny_setField_rec z7 (by simp) fun g8 z8 s8 => ?_
  replace z8 : IsZip g8 z p o (rawInt g5.objs.size) := z8
  have up : ∀ c x, c ≠ z → g5.get? c = some x → g8.get? c = some x := fun c x n1 e => s8.extBut _ _ n1 (s7.extBut _ _ n1 (Heap.get?_push_of_some _ e))
  have n8 : IsPair g8 g5.objs.size u v := s8.extBut _ _ (Nat.ne_of_gt lz) (s7.extBut _ _ (Nat.ne_of_gt lz) (Heap.get?_push_size _ rfl))
  rw [sz] at z8 n8
  refine wpAny_pure ⟨_, rfl, ?_⟩
  show Q (.ref g5.objs.size) _
  rw [sz]
  obtain ⟨x1, e1, r1⟩ := j15
  obtain ⟨x2, e2, r2⟩ := j25
  exact q g8 z8 (up _ _ D.TOz o5) ⟨x1, up _ _ D.i1z e1, r1⟩ ⟨x2, up _ _ D.i2z e2, r2⟩ n8 fun c x n1 n2 n3 n4 e => up c x n1 (k5 c x n1 n2 n3 n4 e)
/-- zip's step, one of them has no more -/
theorem zipT_end {z p o i1 i2 c1 c2 : Addr} {k : Nat} {us vs : Array Value} {a b : Value} {Q : Fin → Shared → Prop} (hh : A.handled = none) (D : ZipApart z p o i1 i2 c1 c2) (hz : IsZip s.heap z p o .none) (hp : IsPair s.heap p (.ref i1) (.ref i2)) (ho : IsPair s.heap o a b)
    (j1 : s.heap.IsTupleIter i1 c1 k) (j2 : s.heap.IsTupleIter i2 c2 k) (t1 : s.heap.IsTuple c1 us) (t2 : s.heap.IsTuple c2 vs) (hn : us[k]? = none ∨ vs[k]? = none)
    (q : ∀ g e, (∀ c x, c ≠ z → c ≠ o → c ≠ i1 → c ≠ i2 → s.heap.get? c = some x → g.get? c = some x) → (∃ x, g.get? e = some x ∧ x.cls = .type "StopIteration") → E (.ref e) { s with heap := g }) :
    wpAny (model prog w) A (Builtin.«zip.__next__» ⟨[.ref z], []⟩) Q E s := by
  show wpAny (model prog w) _ (field (.ref z) 2 >>= _) _ _ _
  refine wpAny_bind (wpAny_field hz rfl (x := .bool false) rfl ?_)
  show wpAny (model prog w) _ (field (.ref z) 3 >>= _) _ _ _
  refine wpAny_bind (wpAny_field hz rfl (x := .ref p) rfl (wpAny_bind (wpAny_seqItems hp rfl ?_)))
  show wpAny (model prog w) _ (Builtin.SmallTypes.ownedTupleIsFree (.ref z) >>= _) _ _ _
  refine wpAny_bind ?_
  unfold Builtin.SmallTypes.ownedTupleIsFree
  refine wpAny_bind (wpAny_field hz rfl (x := .none) rfl (wpAny_pure ?_))
  simp only [if_true]
  refine wpAny_bind (wpAny_rule (wpAny_bind (wpAny_field hz rfl (x := .ref o) rfl (wpAny_bind (wpAny_setField_rec hz (by simp) fun g1 z1 s1 => ?_)))))
  replace z1 : IsZip g1 z p o .ellipsis := z1
  refine wpAny_bind ?_
  simp only [List.zipIdx_cons, List.zipIdx_nil, List.forIn_cons, List.forIn_nil]
  refine wpAny_bind (wpAny_bind (wpAny_onRaise ?_))
  show wpAny (model prog w) _ (Builtin.SmallTypes.nextOf (.ref i1) >>= _) _ _ _
  have apart : ∀ {g : Heap} {e : Addr} {x : Obj}, IsZip g z p o .ellipsis → g.get? e = some x → x.cls = .type "StopIteration" → e ≠ z := fun hz' he hc n => by
    subst n
    rw [hz'] at he
    cases he
    simp at hc
  cases hu : us[k]? with
  | none =>
    refine wpAny_bind (drawT_end hh (j1.extBut s1.extBut D.i1z) (t1.extBut s1.extBut D.l1z) hu fun g2 e s2 he => ?_)
    obtain ⟨x, ex, cx⟩ := he
    have z2 : IsZip g2 z p o .ellipsis := s2 _ _ D.i1z.symm z1
    exact wpAny_setField_rec z2 (by simp) fun g3 _ s3 => q g3 e (fun c y n1 _ n3 _ h => s3.extBut _ _ n1 (s2 _ _ n3 (s1.extBut _ _ n1 h))) ⟨x, s3.extBut _ _ (apart z2 ex cx) ex, cx⟩
  | some u =>
    have hv : vs[k]? = none := hn.resolve_left fun h => by rw [hu] at h; cases h
    refine wpAny_bind (drawT (j1.extBut s1.extBut D.i1z) (t1.extBut s1.extBut D.l1z) hu fun g2 j12 s2 => wpAny_pure ?_)
    have o2 : IsPair g2 o a b := s2.extBut _ _ D.TOi1 (s1.extBut _ _ D.TOz ho)
    refine wpAny_bind (wpAny_seqItems o2 rfl (wpAny_bind (wpAny_updateSeq_pair o2 fun g3 o3 s3 => ?_)))
    refine wpAny_bind (wpAny_letGo (wpAny_pure (wpAny_bind (wpAny_bind (wpAny_onRaise ?_)))))
    show wpAny (model prog w) _ (Builtin.SmallTypes.nextOf (.ref i2) >>= _) _ _ _
    refine wpAny_bind (drawT_end hh (((j2.extBut s1.extBut D.i2z).extBut s2.extBut D.i12.symm).extBut s3.extBut D.TOi2.symm) (((t2.extBut s1.extBut D.l2z).extBut s2.extBut D.l2i1).extBut s3.extBut D.l2TO) hv fun g4 e s4 he => ?_)
    obtain ⟨x, ex, cx⟩ := he
    have z4 : IsZip g4 z p o .ellipsis := s4 _ _ D.i2z.symm (s3.extBut _ _ D.TOz.symm (s2.extBut _ _ D.i1z.symm z1))
    exact wpAny_setField_rec z4 (by simp) fun g5 _ s5 => q g5 e (fun c y n1 n2 n3 n4 h => s5.extBut _ _ n1 (s4 _ _ n4 (s3.extBut _ _ n2 (s2.extBut _ _ n3 (s1.extBut _ _ n1 h))))) ⟨x, s5.extBut _ _ (apart z4 ex cx) ex, cx⟩
theorem nextT_item {z p o i1 i2 c1 c2 : Addr} {k : Nat} {us vs : Array Value} {u v a b : Value} {Q : Option Value → Shared → Prop} (D : ZipApart z p o i1 i2 c1 c2) (hz : IsZip s.heap z p o .none) (hp : IsPair s.heap p (.ref i1) (.ref i2)) (ho : IsPair s.heap o a b)
    (j1 : s.heap.IsTupleIter i1 c1 k) (j2 : s.heap.IsTupleIter i2 c2 k) (t1 : s.heap.IsTuple c1 us) (t2 : s.heap.IsTuple c2 vs) (hu : us[k]? = some u) (hv : vs[k]? = some v)
    (q : ∀ g, IsZip g z p o (rawInt s.heap.objs.size) → IsPair g o u v → g.IsTupleIter i1 c1 (k + 1) → g.IsTupleIter i2 c2 (k + 1) → IsPair g s.heap.objs.size u v →
      (∀ c x, c ≠ z → c ≠ o → c ≠ i1 → c ≠ i2 → s.heap.get? c = some x → g.get? c = some x) → Q (some (.ref s.heap.objs.size)) { s with heap := g }) : wpAny (model prog w) A (pyNext (.ref z)) Q E s := by
  have T : s.TypeIs (.ref z) "zip" := ⟨_, hz, rfl⟩
  unfold pyNext
  exact wpAny_bind (wpAny_attempt (wpAny_callSpecial?_slot (name := Str.ofString "__next__") T F.slot_zip_next (wpAny_call_entry F.slot_zip_next T F.entry_zip_next
      (zipT_item D hz hp ho j1 j2 t1 t2 hu hv fun g b1 b2 b3 b4 b5 b6 => wpAny_pure (q g b1 b2 b3 b4 b5 b6)) (F.args_zip_next_1 _))))
theorem nextT_end {z p o i1 i2 c1 c2 : Addr} {k : Nat} {us vs : Array Value} {a b : Value} {Q : Option Value → Shared → Prop} (hh : A.handled = none) (D : ZipApart z p o i1 i2 c1 c2) (hz : IsZip s.heap z p o .none) (hp : IsPair s.heap p (.ref i1) (.ref i2)) (ho : IsPair s.heap o a b)
    (j1 : s.heap.IsTupleIter i1 c1 k) (j2 : s.heap.IsTupleIter i2 c2 k) (t1 : s.heap.IsTuple c1 us) (t2 : s.heap.IsTuple c2 vs) (hn : us[k]? = none ∨ vs[k]? = none)
    (q : ∀ g, (∀ c x, c ≠ z → c ≠ o → c ≠ i1 → c ≠ i2 → s.heap.get? c = some x → g.get? c = some x) → Q none { s with heap := g }) : wpAny (model prog w) A (pyNext (.ref z)) Q E s := by
  have T : s.TypeIs (.ref z) "zip" := ⟨_, hz, rfl⟩
  unfold pyNext
  refine wpAny_bind (wpAny_attempt (wpAny_callSpecial?_slot (name := Str.ofString "__next__") T F.slot_zip_next (wpAny_call_entry F.slot_zip_next T F.entry_zip_next (zipT_end hh D hz hp ho j1 j2 t1 t2 hn fun g e kp he => ?_) (F.args_zip_next_1 _))))
  obtain ⟨x, ex, cx⟩ := he
  exact wpAny_bind (wpAny_isInstance (T := "StopIteration") (b := true) ⟨x, ex, cx⟩ isSubtype_stop (wpAny_pure (q _ kp)))
end
end L2

namespace L2
open PySem PySem.Spec PyProof.Rows
abbrev zt1 (h : Heap) (c : Addr) : Heap := h.push { cls := .type "tuple_iterator", data := .fields #[.ref c, .int 0 0] }
abbrev zt2 (h : Heap) (c d : Addr) : Heap := (zt1 h c).push { cls := .type "tuple_iterator", data := .fields #[.ref d, .int 0 0] }
abbrev zt3 (h : Heap) (c d : Addr) : Heap := (zt2 h c d).push { cls := .type "tuple", data := .seq #[.ref h.objs.size, .ref (zt1 h c).objs.size] }
abbrev zt4 (h : Heap) (c d : Addr) : Heap := (zt3 h c d).push { cls := .type "tuple", data := .seq #[.none, .none] }
abbrev zt5 (h : Heap) (c d : Addr) : Heap := (zt4 h c d).push { cls := .type "zip", data := .fields #[.none, .bool false, .bool false, .ref (zt2 h c d).objs.size, .ref (zt3 h c d).objs.size] }
theorem newT_zip (c d : Addr) (us vs : Array Value) : Meets (Builtin.«zip.__new__» ⟨[.type "zip", .ref c, .ref d], []⟩) (fun _ R s => s.heap.IsTuple c us ∧ s.heap.IsTuple d vs ∧ R (.ok (.ret (.ref (zt4 s.heap c d).objs.size))) { s with heap := zt5 s.heap c d }) :=
  .of_wp fun prog w A R s q => by
    obtain ⟨hp, g, dr, tk, os⟩ := s
    obtain ⟨e1, e2, q⟩ := q
    have hsub := sub_zip
    have t1 : Heap.IsTuple (Shared.heap ⟨hp, g, dr, tk, os⟩) c us := e1
    have t2 : Heap.IsTuple (Shared.heap ⟨hp.push { cls := .type "tuple_iterator", data := .fields #[.ref c, .int 0 0] }, g, dr, tk, os⟩) d vs := Heap.IsTuple.push e2 _
    wp_walk using wpAny_pyIter_tuple t1, wpAny_pyIter_tuple t2
    exact ⟨_, rfl, q⟩
section
variable {prog : Program} {w : World} {A : Around} {E : Value → Shared → Prop} {s : Shared}
theorem callT_zip {c d : Addr} {us vs : Array Value} {Q : Value → Shared → Prop} (e1 : s.heap.IsTuple c us) (e2 : s.heap.IsTuple d vs)
    (q : ∀ g, IsZip g (s.heap.objs.size + 4) (s.heap.objs.size + 2) (s.heap.objs.size + 3) .none → IsPair g (s.heap.objs.size + 2) (.ref s.heap.objs.size) (.ref (s.heap.objs.size + 1)) → IsPair g (s.heap.objs.size + 3) .none .none →
      g.IsTupleIter s.heap.objs.size c 0 → g.IsTupleIter (s.heap.objs.size + 1) d 0 → (∀ b o, s.heap.get? b = some o → g.get? b = some o) → Q (.ref (s.heap.objs.size + 4)) { s with heap := g }) : wpAny (model prog w) A (call (.type "zip") [.ref c, .ref d]) Q E s := by
  refine callType_new F.called_zip (by decide) (F.typeCall_zip_2 _ _) (F.newCall_zip_2 _ _) (fun ob => F.args_object_init_3 ob _ _) F.entry_zip_new (newT_zip c d us vs) ⟨e1, e2, ?_⟩
  have n1 : (zt1 s.heap c).objs.size = s.heap.objs.size + 1 := Heap.size_push ..
  have n2 : (zt2 s.heap c d).objs.size = s.heap.objs.size + 2 := by rw [Heap.size_push, n1]
  have n3 : (zt3 s.heap c d).objs.size = s.heap.objs.size + 3 := by rw [Heap.size_push, n2]
  have n4 : (zt4 s.heap c d).objs.size = s.heap.objs.size + 4 := by rw [Heap.size_push, n3]
  have a5 : (zt5 s.heap c d).get? (zt4 s.heap c d).objs.size = some _ := Heap.get?_push_size _ rfl
  have a4 : (zt5 s.heap c d).get? (zt3 s.heap c d).objs.size = some _ := Heap.get?_push_of_some _ (Heap.get?_push_size _ rfl)
  have a3 : (zt5 s.heap c d).get? (zt2 s.heap c d).objs.size = some _ := Heap.get?_push_of_some _ (Heap.get?_push_of_some _ (Heap.get?_push_size _ rfl))
  have a2 : (zt5 s.heap c d).get? (zt1 s.heap c).objs.size = some _ := Heap.get?_push_of_some _ (Heap.get?_push_of_some _ (Heap.get?_push_of_some _ (Heap.get?_push_size _ rfl)))
  have a1 : (zt5 s.heap c d).get? s.heap.objs.size = some _ := Heap.get?_push_of_some _ (Heap.get?_push_of_some _ (Heap.get?_push_of_some _ (Heap.get?_push_of_some _ (Heap.get?_push_size _ rfl))))
  show _ ∧ _
  rw [n2, n3, n4] at a5
  rw [n3] at a4
  rw [n1, n2] at a3
  rw [n1] at a2
  rw [n4]
  exact ⟨⟨_, a5, rfl⟩, q _ a5 a3 a4 ⟨_, a1, rfl, rfl⟩ ⟨_, a2, rfl, rfl⟩ fun b o e => Heap.get?_push_of_some _ (Heap.get?_push_of_some _ (Heap.get?_push_of_some _ (Heap.get?_push_of_some _ (Heap.get?_push_of_some _ e))))⟩
end
/-- the tuples at a and b side by side -/
def ItzT (K : PySem.W.Frag) (a b : Addr) : It :=
  ⟨fun i H => ∃ xs ys x y, SqT K H a xs ∧ SqT K H b ys ∧ xs[i]? = some x ∧ ys[i]? = some y,
   fun i H v H' => ∃ t x y, v = .ref t ∧ H t = none ∧ H' = upd H t (.tup [x, y]) ∧ (∀ xs, SqT K H a xs → xs[i]? = some x) ∧ ∀ ys, SqT K H b ys → ys[i]? = some y,
   fun i H => ∃ xs ys, SqT K H a xs ∧ SqT K H b ys ∧ (xs.length ≤ i ∨ ys.length ≤ i)⟩
structure ZipTAt (z TI TO i1 i2 a b : Addr) (i : Nat) (h : Heap) : Prop where
  zip : IsZip h z TI TO .none
  its : IsPair h TI (.ref i1) (.ref i2)
  own : ∃ u v, IsPair h TO u v
  it1 : h.IsTupleIter i1 a i
  it2 : h.IsTupleIter i2 b i
/-- here the tuples' own addresses are not told apart from zip's tuple by their class: TO ≠ a, b are asked for -/
theorem ZipTAt.apart {z TI TO i1 i2 a b : Addr} {i : Nat} {h : Heap} {p q : Array Value} (Z : ZipTAt z TI TO i1 i2 a b i h) (ha : h.IsTuple a p) (hb : h.IsTuple b q) (t : TI ≠ TO) (n : i1 ≠ i2) (na : a ≠ TO) (nb : b ≠ TO) : ZipApart z TI TO i1 i2 a b := by
  obtain ⟨hz, hI, ⟨u, v, hO⟩, ⟨o1, e1, c1, _⟩, ⟨o2, e2, c2, _⟩⟩ := Z
  obtain ⟨oa, ea, ca, _⟩ := ha
  obtain ⟨ob, eb, cb, _⟩ := hb
  have ne : ∀ {x y : Addr} {o o' : Obj}, h.get? x = some o → h.get? y = some o' → o.cls ≠ o'.cls → x ≠ y := fun e e' hc z => by
    subst z
    rw [e] at e'
    cases e'
    exact hc rfl
  refine ⟨ne hI hz ?_, ne hO hz ?_, ne e1 hz ?_, ne e2 hz ?_, t, ne hI e1 ?_, ne hI e2 ?_, ne hO e1 ?_, ne hO e2 ?_, n, ne ea hz ?_, na, ne ea e1 ?_, ne ea e2 ?_, ne eb hz ?_, nb, ne eb e1 ?_, ne eb e2 ?_⟩ <;> simp [c1, c2, ca, cb]
theorem turn_zipT {P : Program} {w : World} {K : PySem.W.Frag} {elts : List Expr} {x1} {tp : Pos} {z TI TO i1 i2 a b : Addr} (t : TI ≠ TO) (n : i1 ≠ i2) (na : a ≠ TO) (nb : b ≠ TO) :
    Turn P w K (.Tuple elts x1 tp) (ItzT K a b) [z, TI, TO, i1, i2] z (ZipTAt z TI TO i1 i2 a b) where
  mem := by simp
  obj := fun i h Z c hc => by
    obtain ⟨hz, hI, ⟨u, v, hO⟩, ⟨o1, e1, _, d1⟩, ⟨o2, e2, _, d2⟩⟩ := Z
    simp only [List.mem_cons, List.not_mem_nil, or_false] at hc
    rcases hc with rfl | rfl | rfl | rfl | rfl
    · exact ⟨_, hz, fun v q => by cases q⟩
    · exact ⟨_, hI, fun v q => by cases q⟩
    · exact ⟨_, hO, fun v q => by cases q⟩
    · exact ⟨_, e1, fun v q => by rw [d1] at q; cases q⟩
    · exact ⟨_, e2, fun v q => by rw [d2] at q; cases q⟩
  keep := fun i h h' Z k => by
    obtain ⟨hz, hI, ⟨u, v, hO⟩, ⟨o1, f1, r1⟩, ⟨o2, f2, r2⟩⟩ := Z
    exact ⟨k z (by simp) _ hz, k TI (by simp) _ hI, ⟨u, v, k TO (by simp) _ hO⟩, ⟨o1, k i1 (by simp) _ f1, r1⟩, ⟨o2, k i2 (by simp) _ f2, r2⟩⟩
  item := by
    intro X hP hw hK s hc i pins σ H E I hf Z hg
    subst hP hw hK
    obtain ⟨xs, ys, x, y, qa, qb, gx, gy⟩ := hg
    obtain ⟨its, rv, p, _⟩ := I.tuple qa
    obtain ⟨jts, rw', p', _⟩ := I.tuple qb
    obtain ⟨u, hu, ru⟩ := rv.get gx
    obtain ⟨v, hv, rv'⟩ := rw'.get gy
    have D := Z.apart (show s.heap.IsTuple a its.toArray from p) (show s.heap.IsTuple b jts.toArray from p') t n na nb
    obtain ⟨hz, hI, ⟨e1, e2, hO⟩, j1, j2⟩ := Z
    refine nextT_item D hz hI hO j1 j2 (show s.heap.IsTuple a its.toArray from p) (show s.heap.IsTuple b jts.toArray from p') (u := u) (v := v) (by simpa using hu) (by simpa using hv) fun h1 a1 a2 a3 a4 a5 kp => ?_
    refine ⟨_, rfl, wpAny_letOwnedTupleGo_zip a1 fun h2 b1 sb => ?_⟩
    have lz := Heap.lt_size hz
    have T2 : IsPair h2 s.heap.objs.size u v := sb.extBut _ _ (Nat.ne_of_gt lz) a5
    have nT := I.hok.fresh (Nat.le_refl s.heap.objs.size)
    have I1 : Inv X pins σ (upd H s.heap.objs.size (.tup [x, y])) { s with heap := h2 } := I.turnsLaid (W := [z, TI, TO, i1, i2]) (t' := s.toks) (T := s.heap.objs.size) (o := .tup [x, y]) hf
      (fun c o hc e => by
        simp only [List.mem_cons, List.not_mem_nil, or_false, not_or] at hc
        exact sb.extBut _ _ hc.1 (kp c o hc.1 hc.2.2.1 hc.2.2.2.1 hc.2.2.2.2 e)) (Nat.le_refl _) ⟨by show 2 ≤ sizeLine; decide, [u, v], .cons ru (.cons rv' .nil), ⟨_, T2, rfl, _, rfl⟩⟩
    refine ⟨.ref s.heap.objs.size, _, I1, rfl, ⟨_, x, y, rfl, nT, rfl, fun zs hq => by rw [I.tuple_inj hq qa]; exact gx, fun zs hq => by rw [I.tuple_inj hq qb]; exact gy⟩, ?_, fun c hc => ?_⟩
    · exact ⟨b1, sb.extBut _ _ D.TIz (kp _ _ D.TIz D.TITO D.TIi1 D.TIi2 hI), ⟨_, _, sb.extBut _ _ D.TOz a2⟩, a3.extBut sb.extBut D.i1z, a4.extBut sb.extBut D.i2z⟩
    · have lt : c < s.heap.objs.size := by
        simp only [List.mem_cons, List.not_mem_nil, or_false] at hc
        obtain ⟨o1, f1, _⟩ := j1
        obtain ⟨o2, f2, _⟩ := j2
        rcases hc with rfl | rfl | rfl | rfl | rfl
        · exact lz
        · exact Heap.lt_size hI
        · exact Heap.lt_size hO
        · exact Heap.lt_size f1
        · exact Heap.lt_size f2
      rw [upd_ne (Nat.ne_of_lt lt)]
      exact (hf c hc).1
  done := by
    intro X hP hw hK s hc i pins σ H E I hf Z hg
    subst hP hw hK
    obtain ⟨xs, ys, qa, qb, hx⟩ := hg
    obtain ⟨its, rv, p, _⟩ := I.tuple qa
    obtain ⟨jts, rw', p', _⟩ := I.tuple qb
    have D := Z.apart (show s.heap.IsTuple a its.toArray from p) (show s.heap.IsTuple b jts.toArray from p') t n na nb
    obtain ⟨hz, hI, ⟨e1, e2, hO⟩, j1, j2⟩ := Z
    have l1 := rv.length
    have l2 := rw'.length
    refine nextT_end hc.none D hz hI hO j1 j2 (show s.heap.IsTuple a its.toArray from p) (show s.heap.IsTuple b jts.toArray from p') (hx.imp (fun q => by simp; omega) fun q => by simp; omega) fun h' kp => ⟨rfl, I.turns (t' := s.toks) (W := [z, TI, TO, i1, i2]) hf fun c o hc e => ?_⟩
    simp only [List.mem_cons, List.not_mem_nil, or_false, not_or] at hc
    exact kp c o hc.1 hc.2.2.1 hc.2.2.2.1 hc.2.2.2.2 e
  self := fun _ _ _ _ _ st h => wpAny_pyIter_zip st.zip h
def iZipT (K : PySem.W.Frag) (ta : TA) : TI := fun σ H R => ta σ H fun vs H1 => ∃ a b xs ys, vs = [.ref a, .ref b] ∧ SqT K H1 a xs ∧ SqT K H1 b ys ∧ R (ItzT K a b) H1
theorem pi_zipT {X : Cx} {elts : List Expr} {x1} {tp : Pos} {a b : Expr} {ta : TA} {p pos : Pos} (hg : Gl X "zip") (hm : X.mg "zip" = none) (ha : PA X [a, b] ta) (hs : starEach [a, b] X.env = [(false, eval a X.env), (false, eval b X.env)] := by rfl) (hs2 : starEach [b] X.env = [(false, eval b X.env)] := by rfl) :
    PI X (.Tuple elts x1 tp) (.Call (.Name "zip" p) [a, b] [] pos) (iZipT X.K ta) := by
  intro pins s σ H R I h
  refine Call_ (ld_blt I hg hm boot_zip (PyProof.Rows.callWith_type1 (thn (ha pos pins s σ H _ I h) fun us s1 ⟨vs, H1, I1, r1, q1⟩ => ?_) (by rw [hs, hs2]) (by rw [hs2]; rfl)))
  obtain ⟨a, b, xs, ys, e, qa, qb, q⟩ := q1
  subst e
  cases r1 with
  | cons r rr =>
    cases rr with
    | cons r' rr =>
      cases rr
      cases r
      cases r'
      obtain ⟨its, rv, p, _⟩ := I1.tuple qa
      obtain ⟨jts, rw', p', _⟩ := I1.tuple qb
      have la : a < s1.heap.objs.size := by obtain ⟨o, e, _⟩ := p; exact Heap.lt_size e
      have lb : b < s1.heap.objs.size := by obtain ⟨o, e, _⟩ := p'; exact Heap.lt_size e
      refine callT_zip (show s1.heap.IsTuple a its.toArray from p) (show s1.heap.IsTuple b jts.toArray from p') fun h' z1 z2 z3 z4 z5 kp => wpAny_pyIter_zip z1 ?_
      refine ⟨_, [_, s1.heap.objs.size + 2, s1.heap.objs.size + 3, s1.heap.objs.size, s1.heap.objs.size + 1], _, _, H1, rfl, I1.kept (t' := s1.toks) kp, turn_zipT (by simp) (by simp) (Nat.ne_of_lt (Nat.lt_of_lt_of_le la (Nat.le_add_right _ _))) (Nat.ne_of_lt (Nat.lt_of_lt_of_le lb (Nat.le_add_right _ _))), ⟨z1, z2, ⟨_, _, z3⟩, z4, z5⟩, fun c hc => ?_, q⟩
      have le : s1.heap.objs.size ≤ c := by
        simp only [List.mem_cons, List.not_mem_nil, or_false] at hc
        rcases hc with rfl | rfl | rfl | rfl | rfl <;> omega
      exact I1.fpOk le (I1.hok.fresh le)
end L2
namespace L2
open PySem PySem.Spec PyProof.Rows
/-! ### what is a list or a tuple -/
def sqO (tu : Bool) (xs : List V) : HO := match tu with
  | false => .lst xs
  | true => .tup xs
def Sq (K : PySem.W.Frag) (tu : Bool) (H : Hp) (a : Addr) (xs : List V) : Prop := match tu with
  | false => SqL K H a xs
  | true => SqT K H a xs
theorem Sq.of {K : PySem.W.Frag} {tu : Bool} {H : Hp} {a : Addr} {xs : List V} (h : H a = some (sqO tu xs)) : Sq K tu H a xs := by
  cases tu with
  | false => exact SqL.of h
  | true => exact SqT.of h
def ItS (K : PySem.W.Frag) (tu : Bool) (a : Addr) : It := match tu with
  | false => Itl K a
  | true => Itt K a
def iSeq (K : PySem.W.Frag) (tl : TE) : TI := fun σ H R => tl σ H fun x H1 => ∃ (a : Addr) (tu : Bool), x = .ref a ∧ (∃ xs, Sq K tu H1 a xs) ∧ R (ItS K tu a) H1
theorem pi_seq {X : Cx} {tg l : Expr} {tl : TE} (hl : PE X l tl) : PI X tg l (iSeq X.K tl) := by
  intro pins s σ H R I h
  refine thn (hl pins s σ H _ I h) fun v s1 ⟨x, H1, I1, r1, q1⟩ => ?_
  obtain ⟨a, tu, e, ⟨xs, hq⟩, q⟩ := q1
  subst e
  cases r1
  have fr : ∀ b ∈ [s1.heap.objs.size], FpOk X pins H1 b := fun b hb => by
    obtain rfl : b = s1.heap.objs.size := by simpa using hb
    exact I1.fpOk (Nat.le_refl _) (I1.hok.fresh (Nat.le_refl _))
  cases tu with
  | false =>
    obtain ⟨its, rv, p, hz⟩ := I1.list hq
    exact wpAny_pyIter_list p.isList ⟨s1.heap.objs.size, [s1.heap.objs.size], _, _, H1, rfl, I1.kept (t' := s1.toks) fun b o e => Heap.get?_push_of_some _ e, turn_list a _, ⟨_, Heap.get?_push_size _ rfl, rfl, rfl⟩, fr, q⟩
  | true =>
    obtain ⟨its, rv, p, hz⟩ := I1.tuple hq
    exact wpAny_pyIter_tuple (show s1.heap.IsTuple a its.toArray from p) ⟨s1.heap.objs.size, [s1.heap.objs.size], _, _, H1, rfl, I1.kept (t' := s1.toks) fun b o e => Heap.get?_push_of_some _ e, turn_tuple a _, ⟨_, Heap.get?_push_size _ rfl, rfl, rfl⟩, fr, q⟩
theorem for_seq {K : PySem.W.Frag} {a : Addr} {tu : Bool} {xs : List V} {g : TG} {tb : TS} {D : Ends} {σ : St} {H : Hp} (Pv : Nat → St → Hp → Prop) (h0 : Pv 0 σ H) (hl : ∀ i σ H, i ≤ xs.length → Pv i σ H → Sq K tu H a xs)
    (hs : ∀ i x σ H, xs[i]? = some x → Pv i σ H → g x σ H fun σ2 H2 => tb { D with nx := Pv (i + 1), ct := Pv (i + 1), bk := D.nx } σ2 H2) (hd : ∀ σ H, Pv xs.length σ H → D.nx σ H) :
    ∃ W : Nat → Nat → St → Hp → Prop, (∃ m, W 0 m σ H) ∧ ∀ i m σ H, W i m σ H →
      ((ItS K tu a).stop i H ∧ D.nx σ H) ∨ ((ItS K tu a).go i H ∧ ∃ N : St → Hp → Prop, (∀ σ' H', N σ' H' → ∃ m', m' < m ∧ W (i + 1) m' σ' H') ∧ ∀ x H', (ItS K tu a).yld i H x H' → g x σ H' fun σ2 H2 => tb { D with nx := N, ct := N, bk := D.nx } σ2 H2) := by
  cases tu with
  | false => exact for_list Pv h0 hl hs hd
  | true => exact for_tup Pv h0 hl hs hd
/-- a comprehension over a list or a tuple -/
theorem comp_seq {K : PySem.W.Frag} {tu : Bool} {a p : Addr} {tt : TT} {te : TE} {cs : St} {Q : VK} {H1 : Hp} {xs : List V} (Pv : Nat → List V → Hp → Prop) (h0 : Pv 0 [] (upd H1 p (.lst [])))
    (hl : ∀ i ys H, i ≤ xs.length → Pv i ys H → Sq K tu H a xs)
    (hs : ∀ i x ys H, xs[i]? = some x → Pv i ys H → tt (some x :: cs) H fun b H4 => if b = true then te (some x :: cs) H4 fun y H5 => H5 p = some (.lst ys) ∧ ys.length < sizeLine ∧ Pv (i + 1) (ys ++ [y]) (upd H5 p (.lst (ys ++ [y]))) else Pv (i + 1) ys H4)
    (hd : ∀ ys H, Pv xs.length ys H → Q (.ref p) H) : CompW (ItS K tu a) p tt te cs Q H1 := by
  refine comp_by xs.length Pv h0 ?_ ?_
  · intro i ys H hi pv
    have q := hl i ys H (Nat.le_of_lt hi) pv
    cases tu with
    | false =>
      refine ⟨⟨xs, xs[i], q, by simp [hi]⟩, fun v H3 y => ?_⟩
      obtain ⟨e, y⟩ := y
      subst e
      exact hs i v ys _ (y xs q) pv
    | true =>
      refine ⟨⟨xs, xs[i], q, by simp [hi]⟩, fun v H3 y => ?_⟩
      obtain ⟨e, y⟩ := y
      subst e
      exact hs i v ys _ (y xs q) pv
  · intro ys H pv
    have q := hl _ ys H (Nat.le_refl _) pv
    cases tu with
    | false => exact ⟨⟨xs, q, Nat.le_refl _⟩, hd ys H pv⟩
    | true => exact ⟨⟨xs, q, Nat.le_refl _⟩, hd ys H pv⟩
/-! ### l != [] -/
section
variable {X : Cx}
def rNeE (K : PySem.W.Frag) : R2 := fun x y H Q => ∃ a b xs, x = .ref a ∧ y = .ref b ∧ SqL K H a xs ∧ SqL K H b [] ∧ Q (.bl (decide (xs ≠ []))) H
theorem op_neE (hu : X.A.units < cLine) : OpR X (compareOp .NotEq) (rNeE X.K) := by
  intro pins s σ H x y v u Q I rx ry h
  obtain ⟨a, b, xs, rfl, rfl, ha, hb, q⟩ := h
  cases hx : xs with
  | nil =>
    subst hx
    exact op_neL hu pins s σ H _ _ v u Q I rx ry ⟨a, b, _, _, rfl, rfl, ha, hb, rfl, rfl, q⟩
  | cons z zs =>
    cases rx
    cases ry
    obtain ⟨its, r1, p1, _⟩ := I.list ha
    obtain ⟨its2, r2, p2, _⟩ := I.list hb
    have l1 := r1.length
    have l2 := r2.length
    have lx : xs.length = zs.length + 1 := by rw [hx]; rfl
    have l0 : ([] : List V).length = 0 := rfl
    refine SeqAt.RcNeAt.lists_lengths p1.isList p2.isList (by simp; omega) hu _ _ _ _ ⟨.bl true, H, I, rfl, ?_⟩
    have e : decide (xs ≠ []) = true := decide_eq_true (by rw [hx]; exact List.cons_ne_nil _ _)
    rw [e] at q
    exact q
end
/-! ### rules within a comprehension, K told -/
section
variable {X : Cx} {K : PySem.W.Frag}
end
/-! ### tuples of flat things in a list -/
def TupsAt (H : Hp) : List V → List (List V) → Prop
  | [], [] => True
  | v :: ys, t :: ts => (∃ q, v = .ref q ∧ H q = some (.tup t)) ∧ TupsAt H ys ts
  | _, _ => False
theorem TupsAt.len {H : Hp} : ∀ {ys : List V} {ts : List (List V)}, TupsAt H ys ts → ys.length = ts.length
  | [], [], _ => rfl
  | _ :: ys, _ :: ts, h => by rw [List.length_cons, List.length_cons, TupsAt.len h.2]
  | [], _ :: _, h => h.elim
  | _ :: _, [], h => h.elim
theorem TupsAt.keep {H H' : Hp} (k : ∀ q t, H q = some (.tup t) → H' q = some (.tup t)) : ∀ {ys : List V} {ts : List (List V)}, TupsAt H ys ts → TupsAt H' ys ts
  | [], [], _ => trivial
  | _ :: ys, _ :: ts, h => by
    obtain ⟨⟨q, e, hq⟩, r⟩ := h
    exact ⟨⟨q, e, k q _ hq⟩, TupsAt.keep k r⟩
  | [], _ :: _, h => h.elim
  | _ :: _, [], h => h.elim
theorem TupsAt.mono {H H' : Hp} {ys : List V} {ts : List (List V)} (h : TupsAt H ys ts) (s : Same H H') : TupsAt H' ys ts := h.keep fun q t e => s q _ e
theorem TupsAt.upd {H : Hp} {ys : List V} {ts : List (List V)} {p : Addr} {o : HO} (h : TupsAt H ys ts) (hp : ∀ t, H p ≠ some (.tup t)) : TupsAt (upd H p o) ys ts :=
  h.keep fun q t e => by
    rw [upd_ne (fun z => hp t (by rw [← z]; exact e))]
    exact e
theorem lst_ne {H : Hp} {p : Addr} {l : List V} (h : H p = some (.lst l)) : ∀ t, H p ≠ some (.tup t) := fun t z => by
  rw [h] at z
  cases z
theorem dk_ne {H : Hp} {p : Addr} {l : List (Key × V)} (h : H p = some (.dK l)) : ∀ t, H p ≠ some (.tup t) := fun t z => by
  rw [h] at z
  cases z
theorem TupsAt.snoc {H : Hp} {q : Addr} {t : List V} (e : H q = some (.tup t)) : ∀ {ys : List V} {ts : List (List V)}, TupsAt H ys ts → TupsAt H (ys ++ [.ref q]) (ts ++ [t])
  | [], [], _ => ⟨⟨q, rfl, e⟩, trivial⟩
  | _ :: ys, _ :: ts, h => ⟨h.1, TupsAt.snoc e h.2⟩
  | [], _ :: _, h => h.elim
  | _ :: _, [], h => h.elim
theorem TupsAt.last {H : Hp} {t : List V} : ∀ {ys : List V} {ts : List (List V)}, TupsAt H ys (ts ++ [t]) → ∃ ys0 q, ys = ys0 ++ [.ref q] ∧ TupsAt H ys0 ts ∧ H q = some (.tup t)
  | [], [], h => h.elim
  | [v], [], h => by
    obtain ⟨⟨q, e, hq⟩, _⟩ := h
    exact ⟨[], q, by rw [e]; rfl, trivial, hq⟩
  | _ :: _ :: _, [], h => h.2.elim
  | [], _ :: _, h => h.elim
  | v :: ys, u :: ts, h => by
    obtain ⟨ys0, q, e, h0, hq⟩ := TupsAt.last h.2
    exact ⟨v :: ys0, q, by rw [e]; rfl, ⟨h.1, h0⟩, hq⟩
theorem TupsAt.get {H : Hp} : ∀ {ys : List V} {ts : List (List V)} {i : Nat} {v : V}, TupsAt H ys ts → ys[i]? = some v → ∃ t q, ts[i]? = some t ∧ v = .ref q ∧ H q = some (.tup t)
  | [], [], _, _, _, e => by simp at e
  | y :: ys, t :: ts, 0, v, h, e => by
    obtain ⟨q, e1, hq⟩ := h.1
    rw [List.getElem?_cons_zero] at e
    cases e
    exact ⟨t, q, rfl, e1, hq⟩
  | y :: ys, t :: ts, i + 1, v, h, e => by
    rw [List.getElem?_cons_succ] at e
    rw [List.getElem?_cons_succ]
    exact TupsAt.get h.2 e
  | [], _ :: _, _, _, h, _ => h.elim
  | _ :: _, [], _, _, h, _ => h.elim
theorem atI_end {α : Type} {xs : List α} {v : α} : ixN (xs ++ [v]).length (-1) = some xs.length := by
  have hl : (xs ++ [v]).length = xs.length + 1 := by simp
  rw [hl]
  unfold ixN
  rw [if_neg (by decide), if_pos (by omega)]
  congr 1
  omega
theorem set_end {α : Type} (xs : List α) (v u : α) : (xs ++ [v]).set xs.length u = xs ++ [u] := by simp
end L2
namespace L2
open PySem PySem.Spec PyProof.Rows
/-! ### rows of stretches, as numbers -/
abbrev S4 := Int × Int × Int × Int
def tv (r : S4) : List V := [.int r.1, .int r.2.1, .int r.2.2.1, .int r.2.2.2]
/-- a row that lies from lo to hi -/
def Ord : Int → List S4 → Int → Prop
  | lo, [], hi => lo ≤ hi
  | lo, r :: t, hi => lo ≤ r.1 ∧ 0 < r.2.1 ∧ Ord (r.1 + r.2.1) t hi
theorem Ord.le : ∀ {rs : List S4} {lo hi : Int}, Ord lo rs hi → lo ≤ hi
  | [], _, _, h => h
  | r :: t, lo, hi, h => by
    have := Ord.le h.2.2
    have := h.1
    have := h.2.1
    omega
theorem Ord.up : ∀ {rs : List S4} {lo hi hi' : Int}, Ord lo rs hi → hi ≤ hi' → Ord lo rs hi'
  | [], _, _, _, h, l => Int.le_trans h l
  | r :: t, _, _, _, h, l => ⟨h.1, h.2.1, Ord.up h.2.2 l⟩
theorem Ord.snoc : ∀ {rs : List S4} {lo hi hi' : Int} {r : S4}, Ord lo rs hi → hi ≤ r.1 → 0 < r.2.1 → r.1 + r.2.1 ≤ hi' → Ord lo (rs ++ [r]) hi'
  | [], _, _, _, r, h, l, p, e => ⟨Int.le_trans h l, p, e⟩
  | q :: t, _, _, _, r, h, l, p, e => ⟨h.1, h.2.1, Ord.snoc h.2.2 l p e⟩
theorem Ord.mem : ∀ {rs : List S4} {lo hi : Int} {r : S4}, Ord lo rs hi → r ∈ rs → lo ≤ r.1 ∧ 0 < r.2.1 ∧ r.1 + r.2.1 ≤ hi
  | q :: t, lo, hi, r, h, m => by
    cases m with
    | head => exact ⟨h.1, h.2.1, h.2.2.le⟩
    | tail _ m =>
      have z := Ord.mem h.2.2 m
      have := h.1
      have := h.2.1
      exact ⟨by omega, z.2.1, z.2.2⟩
theorem take_next {α : Type} {rs : List α} {i : Nat} {r : α} (h : rs[i]? = some r) : rs.take (i + 1) = rs.take i ++ [r] := by
  rw [List.take_add_one, h]
  rfl
/-- a stretch as the laws make them -/
def GoodR (r : S4) : Prop := 2 ≤ r.2.2.1 ∧ r.2.2.1 ≤ 5 ∧ 0 ≤ r.2.2.2 ∧ r.2.2.2 + r.2.1 ≤ 8
/-! ### whole numbers from b on -/
/-! ### gaps -/
theorem rise_eq : ∀ {xs ys : List Int}, xs.Pairwise (· < ·) → ys.Pairwise (· < ·) → (∀ k, k ∈ xs ↔ k ∈ ys) → xs = ys
  | [], [], _, _, _ => rfl
  | [], y :: ys, _, _, h => by have := (h y).mpr (List.mem_cons_self ..); cases this
  | x :: xs, [], _, _, h => by have := (h x).mp (List.mem_cons_self ..); cases this
  | x :: xs, y :: ys, h1, h2, h => by
    have p1 := List.pairwise_cons.mp h1
    have p2 := List.pairwise_cons.mp h2
    have e : x = y := by
      have m1 := (h x).mp (List.mem_cons_self ..)
      have m2 := (h y).mpr (List.mem_cons_self ..)
      rcases List.mem_cons.mp m1 with e | m1
      · exact e
      · rcases List.mem_cons.mp m2 with e | m2
        · exact e.symm
        · have := p1.1 y m2
          have := p2.1 x m1
          omega
    subst e
    have ih := rise_eq p1.2 p2.2 fun k => by
      constructor
      · intro m
        rcases List.mem_cons.mp ((h k).mp (List.mem_cons_of_mem _ m)) with e | m'
        · have := p1.1 k m
          omega
        · exact m'
      · intro m
        rcases List.mem_cons.mp ((h k).mpr (List.mem_cons_of_mem _ m)) with e | m'
        · have := p2.1 k m
          omega
        · exact m'
    rw [ih]
/-! ### rows in the heap -/
def RowAt (tu : Bool) (H : Hp) (a : Addr) (rs : List S4) : Prop := ∃ ys, H a = some (sqO tu ys) ∧ TupsAt H ys (rs.map tv)
theorem RowAt.mono {tu : Bool} {H H' : Hp} {a : Addr} {rs : List S4} (h : RowAt tu H a rs) (s : Same H H') : RowAt tu H' a rs := by
  obtain ⟨ys, e, t⟩ := h
  exact ⟨ys, s _ _ e, t.mono s⟩
theorem row_get {H : Hp} {ys : List V} {rs : List S4} {i : Nat} {v : V} (h : TupsAt H ys (rs.map tv)) (e : ys[i]? = some v) : ∃ r q, rs[i]? = some r ∧ v = .ref q ∧ H q = some (.tup (tv r)) := by
  obtain ⟨t, q, h1, h2, h3⟩ := h.get e
  rw [List.getElem?_map] at h1
  obtain ⟨r, h4, rfl⟩ := Option.map_eq_some_iff.mp h1
  exact ⟨r, q, h4, h2, h3⟩
theorem row_len {H : Hp} {ys : List V} {rs : List S4} (h : TupsAt H ys (rs.map tv)) : ys.length = rs.length := by rw [h.len, List.length_map]
end L2
namespace L2
open PySem PySem.Spec PyProof.Rows
/-! ### rows by cells, and joined -/
def cells1 (r : S4) : List (Int × Int × Int) := (List.range r.2.1.toNat).map fun i => (r.1 + (i : Nat), r.2.2.1, r.2.2.2 + (i : Nat))
def cellsR (rs : List S4) : List (Int × Int × Int) := rs.flatMap cells1
def goOn (z r : S4) : Bool := decide (z.1 + z.2.1 = r.1) && decide (z.2.2.1 = r.2.2.1) && decide (z.2.2.2 + z.2.1 = r.2.2.2)
def rstep (g : List S4) (c : Int × Int × Int) : List S4 := match g.getLast? with
  | some z => if goOn z (c.1, 1, c.2.1, c.2.2) = true then g.dropLast ++ [(z.1, z.2.1 + 1, c.2.1, z.2.2.2)] else g ++ [(c.1, 1, c.2.1, c.2.2)]
  | none => g ++ [(c.1, 1, c.2.1, c.2.2)]
def tstep (g : List S4) (r : S4) : List S4 := match g.getLast? with
  | some z => if goOn z r = true then g.dropLast ++ [(z.1, z.2.1 + r.2.1, z.2.2.1, z.2.2.2)] else g ++ [r]
  | none => g ++ [r]
theorem goOn_iff {z r : S4} : goOn z r = true ↔ z.1 + z.2.1 = r.1 ∧ z.2.2.1 = r.2.2.1 ∧ z.2.2.2 + z.2.1 = r.2.2.2 := by
  unfold goOn
  simp only [Bool.and_eq_true, decide_eq_true_eq, and_assoc]
theorem tstep_nil (r : S4) : tstep [] r = [r] := rfl
theorem tstep_on {g : List S4} {z r : S4} (h : goOn z r = true) : tstep (g ++ [z]) r = g ++ [(z.1, z.2.1 + r.2.1, z.2.2.1, z.2.2.2)] := by
  unfold tstep
  rw [List.getLast?_concat]
  simp only [h, if_true]
  rw [List.dropLast_concat]
theorem tstep_off {g : List S4} {z r : S4} (h : goOn z r = false) : tstep (g ++ [z]) r = g ++ [z] ++ [r] := by
  unfold tstep
  rw [List.getLast?_concat]
  simp [h]
theorem rstep_nil (c : Int × Int × Int) : rstep [] c = [(c.1, 1, c.2.1, c.2.2)] := rfl
theorem rstep_on {g : List S4} {z : S4} {c : Int × Int × Int} (h : goOn z (c.1, 1, c.2.1, c.2.2) = true) : rstep (g ++ [z]) c = g ++ [(z.1, z.2.1 + 1, c.2.1, z.2.2.2)] := by
  unfold rstep
  rw [List.getLast?_concat]
  simp only [h, if_true]
  rw [List.dropLast_concat]
theorem rstep_off {g : List S4} {z : S4} {c : Int × Int × Int} (h : goOn z (c.1, 1, c.2.1, c.2.2) = false) : rstep (g ++ [z]) c = g ++ [z] ++ [(c.1, 1, c.2.1, c.2.2)] := by
  unfold rstep
  rw [List.getLast?_concat]
  simp [h]
theorem fold_cells (a p s : Int) : ∀ (n : Nat) (g : List S4), (cells1 (a, ((n + 1 : Nat) : Int), p, s)).foldl rstep g = tstep g (a, ((n + 1 : Nat) : Int), p, s)
  | 0, g => by
    have e : cells1 (a, ((0 + 1 : Nat) : Int), p, s) = [(a, p, s)] := by
      unfold cells1
      simp
    rw [e]
    show rstep g (a, p, s) = _
    rcases List.eq_nil_or_concat g with rfl | ⟨g0, z, rfl⟩
    · rfl
    · rw [List.concat_eq_append]
      cases h : goOn z (a, 1, p, s) with
      | true =>
        rw [rstep_on h, tstep_on (r := (a, ((0 + 1 : Nat) : Int), p, s)) h]
        have := (goOn_iff.mp h).2.1
        simp only at this
        rw [this]
        rfl
      | false =>
        rw [rstep_off h, tstep_off (r := (a, ((0 + 1 : Nat) : Int), p, s)) h]
        rfl
  | n + 1, g => by
    have e : cells1 (a, ((n + 1 + 1 : Nat) : Int), p, s) = cells1 (a, ((n + 1 : Nat) : Int), p, s) ++ [(a + ((n + 1 : Nat) : Int), p, s + ((n + 1 : Nat) : Int))] := by
      unfold cells1
      simp only [Int.toNat_natCast]
      rw [List.range_succ, List.map_append]
      rfl
    rw [e, List.foldl_append, fold_cells a p s n g]
    show rstep (tstep g _) _ = _
    rcases List.eq_nil_or_concat g with rfl | ⟨g0, z, rfl⟩
    · rw [tstep_nil, tstep_nil]
      have h : goOn (a, ((n + 1 : Nat) : Int), p, s) (a + ((n + 1 : Nat) : Int), 1, p, s + ((n + 1 : Nat) : Int)) = true := goOn_iff.mpr ⟨rfl, rfl, rfl⟩
      have := rstep_on (g := []) (c := (a + ((n + 1 : Nat) : Int), p, s + ((n + 1 : Nat) : Int))) h
      rw [List.nil_append] at this
      rw [this]
      rfl
    · rw [List.concat_eq_append]
      cases h : goOn z (a, ((n + 1 : Nat) : Int), p, s) with
      | true =>
        have h2 : goOn z (a, ((n + 1 + 1 : Nat) : Int), p, s) = true := h
        obtain ⟨e1, e2, e3⟩ := goOn_iff.mp h
        simp only at e1 e2 e3
        rw [tstep_on h, tstep_on h2]
        have h3 : goOn (z.1, z.2.1 + ((n + 1 : Nat) : Int), z.2.2.1, z.2.2.2) (a + ((n + 1 : Nat) : Int), 1, p, s + ((n + 1 : Nat) : Int)) = true := goOn_iff.mpr ⟨by simp only; omega, e2, by simp only; omega⟩
        rw [rstep_on (c := (a + ((n + 1 : Nat) : Int), p, s + ((n + 1 : Nat) : Int))) h3, e2]
        have : z.2.1 + ((n + 1 : Nat) : Int) + 1 = z.2.1 + ((n + 1 + 1 : Nat) : Int) := by omega
        simp only [this]
      | false =>
        have h2 : goOn z (a, ((n + 1 + 1 : Nat) : Int), p, s) = false := h
        rw [tstep_off h, tstep_off h2]
        have h3 : goOn (a, ((n + 1 : Nat) : Int), p, s) (a + ((n + 1 : Nat) : Int), 1, p, s + ((n + 1 : Nat) : Int)) = true := goOn_iff.mpr ⟨rfl, rfl, rfl⟩
        rw [rstep_on (c := (a + ((n + 1 : Nat) : Int), p, s + ((n + 1 : Nat) : Int))) h3]
        rfl
def tidyP (rs : List S4) : List S4 := rs.foldl tstep []
def runsP (cs : List (Int × Int × Int)) : List S4 := cs.foldl rstep []
theorem runs_tidy : ∀ (rs : List S4) (g : List S4), (∀ r ∈ rs, 0 < r.2.1) → (cellsR rs).foldl rstep g = rs.foldl tstep g
  | [], g, _ => rfl
  | (a, l, p, s) :: t, g, h => by
    have l0 : 0 < l := h (a, l, p, s) (List.mem_cons_self ..)
    obtain ⟨n, rfl⟩ : ∃ n : Nat, l = ((n + 1 : Nat) : Int) := ⟨l.toNat - 1, by omega⟩
    show ((cells1 (a, ((n + 1 : Nat) : Int), p, s)) ++ cellsR t).foldl rstep g = _
    rw [List.foldl_append, fold_cells, runs_tidy t _ fun r hr => h r (List.mem_cons_of_mem _ hr)]
    rfl
def noGo : List S4 → Bool
  | a :: b :: t => !goOn a b && noGo (b :: t)
  | _ => true
theorem tfold_len : ∀ (rs g : List S4), (rs.foldl tstep g).length ≤ g.length + rs.length
  | [], g => Nat.le_refl _
  | r :: t, g => by
    have ih := tfold_len t (tstep g r)
    have : (tstep g r).length ≤ g.length + 1 := by
      rcases List.eq_nil_or_concat g with rfl | ⟨g0, z, rfl⟩
      · rw [tstep_nil]; simp
      · rw [List.concat_eq_append]
        cases h : goOn z r with
        | true => rw [tstep_on h]; simp
        | false => rw [tstep_off h]; simp
    rw [List.foldl_cons, List.length_cons]
    omega
theorem tfold_iff : ∀ (rs g : List S4) (z : S4), rs.foldl tstep (g ++ [z]) = g ++ [z] ++ rs ↔ noGo (z :: rs) = true
  | [], g, z => by
    show g ++ [z] = g ++ [z] ++ [] ↔ true = true
    simp
  | r :: t, g, z => by
    rw [List.foldl_cons]
    show _ ↔ (!goOn z r && noGo (r :: t)) = true
    cases h : goOn z r with
    | true =>
      rw [tstep_on h]
      have l := tfold_len t (g ++ [(z.1, z.2.1 + r.2.1, z.2.2.1, z.2.2.2)])
      refine ⟨fun e => ?_, fun e => by simp at e⟩
      have := congrArg List.length e
      simp at this l
      omega
    | false =>
      rw [tstep_off h]
      have ih := tfold_iff t (g ++ [z]) r
      rw [Bool.not_false, Bool.true_and, ← ih, List.append_assoc (g ++ [z]) [r] t]
      exact Iff.rfl
theorem tidy_iff : ∀ rs : List S4, tidyP rs = rs ↔ noGo rs = true
  | [] => ⟨fun _ => rfl, fun _ => rfl⟩
  | z :: t => tfold_iff t [] z
/-- what is a tidy row of a size, by the document's words and by the law's -/
def okS (size : Int) (r : S4) : Bool := decide (0 ≤ r.1) && decide (r.1 ≤ 40) && (decide (1 ≤ r.2.1) && decide (r.2.1 ≤ 8)) && (decide (2 ≤ r.2.2.1) && decide (r.2.2.1 ≤ 599)) && (decide (0 ≤ r.2.2.2) && decide (r.2.2.2 ≤ 7)) && decide (r.2.1 + r.2.2.2 ≤ 8) && decide (r.1 + r.2.1 ≤ size)
def okP (r : S4) : Bool := decide (0 ≤ r.1) && decide (1 ≤ r.2.1) && decide (0 ≤ r.2.2.2) && decide (r.1 + r.2.1 ≤ 40) && decide (r.2.2.2 + r.2.1 ≤ 8) && (decide (2 ≤ r.2.2.1) && decide (r.2.2.1 ≤ 599))
def apart : List S4 → Bool
  | a :: b :: t => !decide (b.1 < a.1 + a.2.1) && !goOn a b && apart (b :: t)
  | _ => true
def isRowP (rs : List S4) (size : Int) : Bool := rs.all okP && apart rs && rs.all fun r => decide (r.1 + r.2.1 ≤ size)
def inOrd (size : Int) : Int → List S4 → Bool
  | _, [] => true
  | last, r :: t => okS size r && decide (last < r.1) && inOrd size (r.1 + r.2.1 - 1) t
theorem okS_eq {size : Int} (h : size ≤ 40) (r : S4) : okS size r = (okP r && decide (r.1 + r.2.1 ≤ size)) := by
  unfold okS okP
  rw [Bool.eq_iff_iff]
  simp only [Bool.and_eq_true, decide_eq_true_eq]
  omega
theorem row_go {size : Int} (h : size ≤ 40) : ∀ (rs : List S4) (r : S4), (apart (r :: rs) && rs.all okP && rs.all fun r => decide (r.1 + r.2.1 ≤ size)) = (inOrd size (r.1 + r.2.1 - 1) rs && noGo (r :: rs))
  | [], r => rfl
  | b :: t, r => by
    have ih := row_go h t b
    show (!decide (b.1 < r.1 + r.2.1) && !goOn r b && apart (b :: t) && (okP b && t.all okP) && (decide (b.1 + b.2.1 ≤ size) && t.all fun r => decide (r.1 + r.2.1 ≤ size))) = (okS size b && decide (r.1 + r.2.1 - 1 < b.1) && inOrd size (b.1 + b.2.1 - 1) t && (!goOn r b && noGo (b :: t)))
    have e : decide (r.1 + r.2.1 - 1 < b.1) = !decide (b.1 < r.1 + r.2.1) := by
      rw [← decide_not]
      exact decide_eq_decide.mpr (by omega)
    rw [okS_eq h, e]
    generalize inOrd size (b.1 + b.2.1 - 1) t = x1 at ih
    generalize noGo (b :: t) = x2 at ih
    generalize apart (b :: t) = x3 at ih
    generalize t.all okP = x4 at ih
    generalize (t.all fun r => decide (r.1 + r.2.1 ≤ size)) = x5 at ih
    generalize okP b = x6
    generalize decide (b.1 + b.2.1 ≤ size) = x7
    generalize decide (b.1 < r.1 + r.2.1) = x8
    generalize goOn r b = x9
    revert ih
    cases x1 <;> cases x2 <;> cases x3 <;> cases x4 <;> cases x5 <;> cases x6 <;> cases x7 <;> cases x8 <;> cases x9 <;> simp
theorem isRow_due {size : Int} (h : size ≤ 40) : ∀ rs : List S4, isRowP rs size = (inOrd size (-1) rs && noGo rs)
  | [] => rfl
  | r :: t => by
    have ih := row_go h t r
    show ((okP r && t.all okP) && apart (r :: t) && (decide (r.1 + r.2.1 ≤ size) && t.all fun r => decide (r.1 + r.2.1 ≤ size))) = (okS size r && decide (-1 < r.1) && inOrd size (r.1 + r.2.1 - 1) t && noGo (r :: t))
    have e : (okS size r && decide (-1 < r.1)) = okS size r := by
      rw [Bool.eq_iff_iff]
      unfold okS
      simp only [Bool.and_eq_true, decide_eq_true_eq]
      omega
    rw [e, okS_eq h]
    generalize inOrd size (r.1 + r.2.1 - 1) t = x1 at ih
    generalize noGo (r :: t) = x2 at ih
    generalize apart (r :: t) = x3 at ih
    generalize t.all okP = x4 at ih
    generalize (t.all fun r => decide (r.1 + r.2.1 ≤ size)) = x5 at ih
    generalize okP r = x6
    generalize decide (r.1 + r.2.1 ≤ size) = x7
    revert ih
    cases x1 <;> cases x2 <;> cases x3 <;> cases x4 <;> cases x5 <;> cases x6 <;> cases x7 <;> simp
/-! ### lists of rows compared -/
theorem eqVs_tv (r r' : S4) : eqVs (tv r) (tv r') = decide (r = r') := by
  obtain ⟨a, b, c, d⟩ := r
  obtain ⟨a', b', c', d'⟩ := r'
  rw [Bool.eq_iff_iff]
  simp [eqVs, tv, eqV]
theorem tv_inj {r r' : S4} (h : tv r = tv r') : r = r' := by
  obtain ⟨a, b, c, d⟩ := r
  obtain ⟨a', b', c', d'⟩ := r'
  simp [tv] at h
  obtain ⟨rfl, rfl, rfl, rfl⟩ := h
  rfl
section
variable {X : Cx} {pins : List (Addr × Obj)} {σ : St} {H : Hp} {s : Shared}
theorem eqAt_rows {A : Around} (I : Inv X pins σ H s) {ys zs : List V} {rs rs' : List S4} {us vs : List Value} (r1 : Vals ys us) (r2 : Vals zs vs) (t1 : TupsAt H ys (rs.map tv)) (t2 : TupsAt H zs (rs'.map tv)) (hu : A.units < cLine) (j : Nat) (h1 : j < us.toArray.size) (h2 : j < vs.toArray.size) :
    SeqAt.EqAt A s us.toArray[j] vs.toArray[j] (decide (rs[j]? = rs'[j]?)) := by
  have l1 := r1.length
  have l2 := r2.length
  have h1' : j < ys.length := by rw [l1]; simpa using h1
  have h2' : j < zs.length := by rw [l2]; simpa using h2
  obtain ⟨u, eu, ru⟩ := r1.get (i := j) (x := ys[j]) (by simp [h1'])
  obtain ⟨v, ev, rv⟩ := r2.get (i := j) (x := zs[j]) (by simp [h2'])
  have e1 : us.toArray[j] = u := by
    obtain ⟨_, e⟩ := List.getElem?_eq_some_iff.mp eu
    simpa using e
  have e2 : vs.toArray[j] = v := by
    obtain ⟨_, e⟩ := List.getElem?_eq_some_iff.mp ev
    simpa using e
  rw [e1, e2]
  obtain ⟨r, q, hr, eq1, hq⟩ := row_get t1 (i := j) (v := ys[j]) (by simp [h1'])
  obtain ⟨r', q', hr', eq2, hq'⟩ := row_get t2 (i := j) (v := zs[j]) (by simp [h2'])
  rw [eq1] at ru
  rw [eq2] at rv
  cases ru
  cases rv
  rw [hr, hr']
  by_cases hne : q = q'
  · subst hne
    rw [hq] at hq'
    injection hq' with hq'
    injection hq' with hq'
    rw [decide_eq_true (congrArg some (tv_inj hq'))]
    exact SeqAt.EqAt.same _
  · obtain ⟨its, w1, p1, _⟩ := I.tuple (SqT.of (K := X.K) hq)
    obtain ⟨its2, w2, p2, _⟩ := I.tuple (SqT.of (K := X.K) hq')
    have m1 := w1.length
    have m2 := w2.length
    have A1 := SeqAt.RcAt.tuples (A := A) (e := eqAtN (tv r) (tv r')) (show s.heap.IsTuple q its.toArray from p1) (show s.heap.IsTuple q' its2.toArray from p2) hu (fun j h1 h2 => items_eqAt w1 w2 rfl rfl j h1 h2)
    have n1 : min its.toArray.size its2.toArray.size = (tv r).length := by
      have : (tv r).length = 4 := rfl
      have : (tv r').length = 4 := rfl
      simp
      omega
    have n2 : (its.toArray.size == its2.toArray.size) = true := by
      have : (tv r).length = 4 := rfl
      have : (tv r').length = 4 := rfl
      simp
      omega
    rw [n1, n2, Bool.and_true, all_eqAtN (xs := tv r) (ys := tv r') rfl, eqVs_tv] at A1
    have : decide (some r = some r') = decide (r = r') := decide_eq_decide.mpr ⟨fun h => by injection h, fun h => by rw [h]⟩
    rw [this]
    exact SeqAt.EqAt.of_refs hne A1
theorem all_get : ∀ {rs rs' : List S4}, rs.length = rs'.length → (List.range rs.length).all (fun j => decide (rs[j]? = rs'[j]?)) = decide (rs = rs') := by
  intro rs rs' hl
  rw [Bool.eq_iff_iff, List.all_eq_true, decide_eq_true_eq]
  constructor
  · intro h
    refine List.ext_getElem? fun j => ?_
    by_cases c : j < rs.length
    · exact of_decide_eq_true (h j (List.mem_range.mpr c))
    · rw [List.getElem?_eq_none (by omega), List.getElem?_eq_none (by omega)]
  · intro h j _
    rw [h]
    exact decide_eq_true rfl
def rEqS (K : PySem.W.Frag) (neg : Bool) : R2 := fun x y H Q => ∃ a b ys zs, ∃ (rs rs' : List S4), x = .ref a ∧ y = .ref b ∧ SqL K H a ys ∧ SqL K H b zs ∧ TupsAt H ys (rs.map tv) ∧ TupsAt H zs (rs'.map tv) ∧ Q (.bl (if neg then !decide (rs = rs') else decide (rs = rs'))) H
theorem op_eqS (hu : X.A.units + 40 < cLine) : OpR X (compareOp .Eq) (rEqS X.K false) := by
  intro pins s σ H x y v u Q I rx ry h
  obtain ⟨a, b, ys, zs, rs, rs', rfl, rfl, ha, hb, t1, t2, q⟩ := h
  cases rx
  cases ry
  obtain ⟨its, r1, p1, _⟩ := I.list ha
  obtain ⟨its2, r2, p2, _⟩ := I.list hb
  have l1 := r1.length
  have l2 := r2.length
  have l3 := row_len t1
  have l4 := row_len t2
  by_cases hl : ys.length = zs.length
  · refine SeqAt.RcAt.lists (e := fun j => decide (rs[j]? = rs'[j]?)) p1.isList p2.isList (by simp; omega) (by omega) (fun j h1 h2 => eqAt_rows I r1 r2 t1 t2 (by show X.A.units + 1 < _; omega) j h1 h2) _ _ _ _ ⟨.bl _, H, I, rfl, ?_⟩
    rw [List.size_toArray, ← l1, l3, all_get (by omega)]
    exact q
  · refine SeqAt.RcAt.lists_lengths p1.isList p2.isList (by simp; omega) (by omega) _ _ _ _ ⟨.bl false, H, I, rfl, ?_⟩
    have e : decide (rs = rs') = false := decide_eq_false fun e => hl (by rw [l3, l4, e])
    simp only [e] at q
    exact q
end
/-! ### a slice of a tuple, perhaps the whole -/
end L2
namespace L2
open PySem PySem.Spec PyProof.Rows
/-! ### things that are no tuples -/
def NotT (H : Hp) (x : V) : Prop := (∃ n, x = .int n) ∨ (∃ z, x = .str z) ∨ (∃ b, x = .bl b) ∨ x = .non ∨ (∃ a xs, x = .ref a ∧ H a = some (.lst xs)) ∨ (∃ a kvs, x = .ref a ∧ H a = some (.dK kvs))
theorem NotT.mono {H H' : Hp} {x : V} (h : NotT H x) (s : Same H H') : NotT H' x := by
  rcases h with h | h | h | h | ⟨a, z, e, q⟩ | ⟨a, z, e, q⟩
  · exact .inl h
  · exact .inr (.inl h)
  · exact .inr (.inr (.inl h))
  · exact .inr (.inr (.inr (.inl h)))
  · exact .inr (.inr (.inr (.inr (.inl ⟨a, z, e, s _ _ q⟩))))
  · exact .inr (.inr (.inr (.inr (.inr ⟨a, z, e, s _ _ q⟩))))
section
variable (K : PySem.W.Frag)
theorem k0_it : PySem.W.kitOne K (.type "int") (.type "tuple") = some false := by kernel_rfl
theorem k0_st : PySem.W.kitOne K (.type "str") (.type "tuple") = some false := by kernel_rfl
theorem k0_bt : PySem.W.kitOne K (.type "bool") (.type "tuple") = some false := by kernel_rfl
theorem k0_nt : PySem.W.kitOne K (.type "NoneType") (.type "tuple") = some false := by kernel_rfl
theorem k0_lt : PySem.W.kitOne K (.type "list") (.type "tuple") = some false := by kernel_rfl
theorem k0_dt : PySem.W.kitOne K (.type "dict") (.type "tuple") = some false := by kernel_rfl
end
theorem NotT.kit {K : PySem.W.Frag} {H : Hp} {x : V} (h : NotT H x) : ∃ t, TyOf K H x t ∧ PySem.W.kitOne K t (.type "tuple") = some false := by
  rcases h with ⟨n, rfl⟩ | ⟨z, rfl⟩ | ⟨b, rfl⟩ | rfl | ⟨a, z, rfl, q⟩ | ⟨a, z, rfl, q⟩
  · exact ⟨_, .int n, k0_it K⟩
  · exact ⟨_, .str z, k0_st K⟩
  · exact ⟨_, .bl b, k0_bt K⟩
  · exact ⟨_, .non, k0_nt K⟩
  · exact ⟨_, .lst q, k0_lt K⟩
  · exact ⟨_, .dK q, k0_dt K⟩
/-! ### a stretch, or what is none -/
def st4 : List V → Option S4
  | [.int a, .int l, .int p, .int s] => some (a, l, p, s)
  | _ => none
theorem st4_tv (r : S4) : st4 (tv r) = some r := rfl
theorem st4_some {xs : List V} {r : S4} (h : st4 xs = some r) : xs = tv r := by
  unfold st4 at h
  split at h
  · cases h
    rfl
  · cases h
theorem st4_len {xs : List V} (h : xs.length ≠ 4) : st4 xs = none := by
  cases e : st4 xs with
  | none => rfl
  | some r =>
    rw [st4_some e] at h
    exact absurd rfl h
theorem who0_int {x : V} (h : who0 x = true) : ∃ n, x = .int n := by
  cases x with
  | int n => exact ⟨n, rfl⟩
  | bl b => cases h
  | _ => cases h
theorem st4_who {xs : List V} (h : xs.length = 4) : (xs.all who0 = false → st4 xs = none) ∧ (xs.all who0 = true → ∃ r, xs = tv r) := by
  constructor
  · intro h2
    cases e : st4 xs with
    | none => rfl
    | some r =>
      rw [st4_some e] at h2
      cases h2
  · intro h2
    match xs, h with
    | [x0, x1, x2, x3], _ =>
      simp only [List.all_cons, List.all_nil, Bool.and_true, Bool.and_eq_true] at h2
      obtain ⟨n0, rfl⟩ := who0_int h2.1
      obtain ⟨n1, rfl⟩ := who0_int h2.2.1
      obtain ⟨n2, rfl⟩ := who0_int h2.2.2.1
      obtain ⟨n3, rfl⟩ := who0_int h2.2.2.2
      exact ⟨(n0, n1, n2, n3), rfl⟩
def PartO (H : Hp) (x : V) (o : Option S4) : Prop := (∃ q xs, x = .ref q ∧ H q = some (.tup xs) ∧ (∀ y ∈ xs, Ty0 H y) ∧ xs.length ≤ 100 ∧ o = st4 xs) ∨ (NotT H x ∧ o = none)
theorem PartO.mono {H H' : Hp} {x : V} {o : Option S4} (h : PartO H x o) (s : Same H H') : PartO H' x o := by
  rcases h with ⟨q, xs, e, hq, hy, hl, ho⟩ | ⟨h, ho⟩
  · exact .inl ⟨q, xs, e, s _ _ hq, fun y m => (hy y m).mono s, hl, ho⟩
  · exact .inr ⟨h.mono s, ho⟩
theorem PartO.of {H : Hp} {q : Addr} {r : S4} (h : H q = some (.tup (tv r))) : PartO H (.ref q) (some r) := .inl ⟨q, _, rfl, h, fun y m => by
  unfold tv at m
  simp only [List.mem_cons, List.not_mem_nil, or_false] at m
  rcases m with rfl | rfl | rfl | rfl <;> exact Ty0.int _, by show 4 ≤ 100; decide, rfl⟩
def PartsO (H : Hp) : List V → List (Option S4) → Prop
  | [], [] => True
  | v :: ys, o :: os => PartO H v o ∧ PartsO H ys os
  | _, _ => False
theorem PartsO.len {H : Hp} : ∀ {ys : List V} {os : List (Option S4)}, PartsO H ys os → ys.length = os.length
  | [], [], _ => rfl
  | _ :: ys, _ :: os, h => by rw [List.length_cons, List.length_cons, PartsO.len h.2]
  | [], _ :: _, h => h.elim
  | _ :: _, [], h => h.elim
theorem PartsO.mono {H H' : Hp} (s : Same H H') : ∀ {ys : List V} {os : List (Option S4)}, PartsO H ys os → PartsO H' ys os
  | [], [], _ => trivial
  | _ :: ys, _ :: os, h => ⟨h.1.mono s, PartsO.mono s h.2⟩
  | [], _ :: _, h => h.elim
  | _ :: _, [], h => h.elim
theorem PartsO.app {H : Hp} {zs : List V} {us : List (Option S4)} (r : PartsO H zs us) : ∀ {ys : List V} {os : List (Option S4)}, PartsO H ys os → PartsO H (ys ++ zs) (os ++ us)
  | [], [], _ => r
  | _ :: ys, _ :: os, h => ⟨h.1, PartsO.app r h.2⟩
  | [], _ :: _, h => h.elim
  | _ :: _, [], h => h.elim
theorem PartsO.get {H : Hp} : ∀ {ys : List V} {os : List (Option S4)} {i : Nat} {v : V}, PartsO H ys os → ys[i]? = some v → ∃ o, os[i]? = some o ∧ PartO H v o
  | [], [], _, _, _, e => by simp at e
  | y :: ys, o :: os, 0, v, h, e => by
    rw [List.getElem?_cons_zero] at e
    cases e
    exact ⟨o, rfl, h.1⟩
  | y :: ys, o :: os, i + 1, v, h, e => by
    rw [List.getElem?_cons_succ] at e
    rw [List.getElem?_cons_succ]
    exact PartsO.get h.2 e
  | [], _ :: _, _, _, h, _ => h.elim
  | _ :: _, [], _, _, h, _ => h.elim
theorem TupsAt.parts {H : Hp} : ∀ {ys : List V} {rs : List S4}, TupsAt H ys (rs.map tv) → PartsO H ys (rs.map some)
  | [], [], _ => trivial
  | y :: ys, r :: rs, h => by
    obtain ⟨⟨q, rfl, hq⟩, t⟩ := h
    exact ⟨PartO.of hq, TupsAt.parts t⟩
  | [], _ :: _, h => h.elim
  | _ :: _, [], h => h.elim
def allS : List (Option S4) → Option (List S4)
  | [] => some []
  | some r :: t => (allS t).map (r :: ·)
  | none :: _ => none
theorem allS_map : ∀ rs : List S4, allS (rs.map some) = some rs
  | [] => rfl
  | r :: t => by
    show (allS (t.map some)).map (r :: ·) = _
    rw [allS_map t]
    rfl
theorem allS_eq : ∀ {os : List (Option S4)} {rs : List S4}, allS os = some rs → os = rs.map some
  | [], rs, h => by cases h; rfl
  | some r :: t, rs, h => by
    have h' : (allS t).map (r :: ·) = some rs := h
    obtain ⟨t', h1, rfl⟩ := Option.map_eq_some_iff.mp h'
    rw [allS_eq h1]
    rfl
  | none :: t, rs, h => by cases h
theorem allS_all : ∀ {os : List (Option S4)}, (os.all fun o => o.any okP) = true → ∃ rs, allS os = some rs ∧ rs.all okP = true
  | [], _ => ⟨[], rfl, rfl⟩
  | some r :: t, h => by
    rw [List.all_cons, Bool.and_eq_true] at h
    obtain ⟨rs, h1, h2⟩ := allS_all h.2
    refine ⟨r :: rs, ?_, ?_⟩
    · show (allS t).map (r :: ·) = _
      rw [h1]
      rfl
    · rw [List.all_cons, h2, Bool.and_true]
      exact h.1
  | none :: t, h => by cases h
def rowO (os : List (Option S4)) (size : Int) : Bool := match allS os with
  | some rs => isRowP rs size
  | none => false
theorem rowO_no {os : List (Option S4)} {size : Int} (h : (os.all fun o => o.any okP) = false) : rowO os size = false := by
  unfold rowO
  split
  · next rs e =>
    rw [allS_eq e, List.all_map] at h
    have h' : rs.all okP = false := h
    unfold isRowP
    rw [h']
    rfl
  · rfl
theorem PartsO.tups {H : Hp} : ∀ {ys : List V} {rs : List S4}, PartsO H ys (rs.map some) → TupsAt H ys (rs.map tv)
  | [], [], _ => trivial
  | y :: ys, r :: rs, h => by
    obtain ⟨h1, h2⟩ := h
    refine ⟨?_, PartsO.tups h2⟩
    rcases h1 with ⟨q, xs, e, hq, _, _, ho⟩ | ⟨_, ho⟩
    · rw [st4_some ho.symm] at hq
      exact ⟨q, e, hq⟩
    · cases ho
  | [], _ :: _, h => h.elim
  | _ :: _, [], h => h.elim
theorem apart_iff : ∀ {rs : List S4}, apart rs = true ↔ ∀ (j : Nat) a b, rs[j]? = some a → rs[j + 1]? = some b → ¬ b.1 < a.1 + a.2.1 ∧ goOn a b = false
  | [] => ⟨fun _ j a b h => by simp at h, fun _ => rfl⟩
  | [r] => ⟨fun _ j a b _ h => by simp at h, fun _ => rfl⟩
  | a :: b :: t => by
    have ih := apart_iff (rs := b :: t)
    show (!decide (b.1 < a.1 + a.2.1) && !goOn a b && apart (b :: t)) = true ↔ _
    rw [Bool.and_eq_true, Bool.and_eq_true, ih]
    constructor
    · rintro ⟨⟨h1, h2⟩, h3⟩ j x y hx hy
      cases j with
      | zero =>
        simp only [List.getElem?_cons_zero, List.getElem?_cons_succ, Nat.zero_add] at hx hy
        cases hx
        cases hy
        refine ⟨fun c => ?_, ?_⟩
        · rw [decide_eq_true c] at h1
          cases h1
        · cases e : goOn a b with
          | false => rfl
          | true => rw [e] at h2; cases h2
      | succ j =>
        rw [List.getElem?_cons_succ] at hx hy
        exact h3 j x y hx hy
    · intro h
      refine ⟨⟨?_, ?_⟩, fun j x y hx hy => h (j + 1) x y (by rw [List.getElem?_cons_succ]; exact hx) (by rw [List.getElem?_cons_succ]; exact hy)⟩
      · rw [decide_eq_false (h 0 a b rfl rfl).1]
        rfl
      · rw [(h 0 a b rfl rfl).2]
        rfl
/-! ### loops over two tuples at once, comprehensions over a tuple -/
theorem for_zipT {K : PySem.W.Frag} {a b : Addr} {xs ys : List V} {g : TG} {tb : TS} {D : Ends} {σ : St} {H : Hp} (Pv : Nat → St → Hp → Prop) (h0 : Pv 0 σ H) (hl : ∀ i σ H, Pv i σ H → SqT K H a xs ∧ SqT K H b ys)
    (hs : ∀ i x y t σ H, xs[i]? = some x → ys[i]? = some y → Pv i σ H → H t = none → g (.ref t) σ (upd H t (.tup [x, y])) fun σ2 H2 => tb { D with nx := Pv (i + 1), ct := Pv (i + 1), bk := D.nx } σ2 H2) (hd : ∀ i σ H, min xs.length ys.length ≤ i → Pv i σ H → D.nx σ H) :
    ∃ W : Nat → Nat → St → Hp → Prop, (∃ m, W 0 m σ H) ∧ ∀ i m σ H, W i m σ H →
      ((ItzT K a b).stop i H ∧ D.nx σ H) ∨ ((ItzT K a b).go i H ∧ ∃ N : St → Hp → Prop, (∀ σ' H', N σ' H' → ∃ m', m' < m ∧ W (i + 1) m' σ' H') ∧ ∀ x H', (ItzT K a b).yld i H x H' → g x σ H' fun σ2 H2 => tb { D with nx := N, ct := N, bk := D.nx } σ2 H2) := by
  refine ⟨fun i m σ H => m = xs.length - i ∧ Pv i σ H, ⟨xs.length, by simp, h0⟩, ?_⟩
  rintro i m σ H ⟨rfl, p⟩
  obtain ⟨q1, q2⟩ := hl i σ H p
  by_cases hlt : i < xs.length ∧ i < ys.length
  · refine .inr ⟨⟨xs, ys, xs[i]'hlt.1, ys[i]'hlt.2, q1, q2, by simp [hlt.1], by simp [hlt.2]⟩, Pv (i + 1), fun σ' H' p' => ⟨xs.length - (i + 1), by omega, rfl, p'⟩, fun x H' y => ?_⟩
    obtain ⟨t, u, v, rfl, ht, rfl, hx, hy⟩ := y
    exact hs i u v t σ H (hx xs q1) (hy ys q2) p ht
  · refine .inl ⟨⟨xs, ys, q1, q2, by omega⟩, hd i σ H (by omega) p⟩
theorem comp_tup {K : PySem.W.Frag} {a p : Addr} {tt : TT} {te : TE} {cs : St} {Q : VK} {H1 : Hp} {xs : List V} (Pv : Nat → List V → Hp → Prop) (h0 : Pv 0 [] (upd H1 p (.lst [])))
    (hl : ∀ i ys H, i ≤ xs.length → Pv i ys H → SqT K H a xs)
    (hs : ∀ i x ys H, xs[i]? = some x → Pv i ys H → tt (some x :: cs) H fun b H4 => if b = true then te (some x :: cs) H4 fun y H5 => H5 p = some (.lst ys) ∧ ys.length < sizeLine ∧ Pv (i + 1) (ys ++ [y]) (upd H5 p (.lst (ys ++ [y]))) else Pv (i + 1) ys H4)
    (hd : ∀ ys H, Pv xs.length ys H → Q (.ref p) H) : CompW (Itt K a) p tt te cs Q H1 := comp_seq (tu := true) Pv h0 hl hs hd
theorem cutV_one (xs : List V) : cutV xs (some 1) none = xs.drop 1 := by
  unfold cutV
  have e : HT.sIx xs.length 0 (some 1) = min 1 xs.length := HT.sIx_nat _ _ 1
  rw [e, HT.sIx_none]
  cases xs with
  | nil => rfl
  | cons x t =>
    have : min 1 (x :: t).length = 1 := by simp
    rw [this]
    exact List.take_of_length_le (by simp)
end L2
namespace HT
open PySem PySem.Spec PyProof.Rows
section
variable {prog : Program} {w : World} {A : Around} {E : Value → Shared → Prop} {s : Shared}
/-- the whole of a tuple, as a slice: itself -/
theorem getItem_tuple_all {t sl : Addr} {items : Array Value} {vl vu : Value} {lo hi : Option Int} {Q : Value → Shared → Prop} (ht : IsTup s.heap t items) (hs : s.heap.IsSliceOf sl vl vu .none) (pl : IsPart vl lo) (pu : IsPart vu hi)
    (hw : sIx items.size 0 lo = 0 ∧ sIx items.size items.size hi = items.size) (h : Q (.ref t) s) : wpAny (model prog w) A (getItem (.ref t) (.ref sl)) Q E s := by
  obtain ⟨os, hos, hcs, hds⟩ := id hs
  have hTs : s.TypeIs (.ref sl) "slice" := ⟨os, hos, hcs⟩
  unfold getItem
  try with_reducible refine wpAny_holding ?_
  first | refine wpAny_bind (wpAny_pure ?_) | skip
  refine wpAny_bind (wpAny_sequenceKey ht.typeIs (by decide) ?_)
  refine wpAny_bind (wpAny_callSpecial?_slot (name := Str.ofString "__getitem__") ht.typeIs PyProof.Rows.slot_tuple_getitem
    (wpAny_call_entry PyProof.Rows.slot_tuple_getitem ht.typeIs entry_tuple_getitem ?_ (args_tuple_getitem _ _)))
  show wpAny _ _ (Builtin.Tuple.tupleItemsOf (.ref t) >>= _) _ _ s
  refine wpAny_bind (tupleItemsOf_ ht ?_)
  refine wpAny_bind (wpAny_typeOf hTs ?_)
  rw [if_pos (by decide)]
  refine wpAny_bind (sliceApplied_gen hs pl pu ?_)
  have hyes : (((sIx items.size 0 lo : Nat) : Int) == 0 && (1 : Int) == 1 && (sIx items.size items.size hi - sIx items.size 0 lo) == items.size) = true := by
    rw [hw.1, hw.2]
    simp
  show wpAny _ _ (if (((sIx items.size 0 lo : Nat) : Int) == 0 && (1 : Int) == 1 && (sIx items.size items.size hi - sIx items.size 0 lo) == items.size) = true then _ else _) _ _ s
  rw [if_pos hyes]
  refine wpAny_bind (m := Builtin.Tuple.tupleIsExact _) (wpAny_bind (wpAny_typeOf ht.typeIs (wpAny_pure ?_)))
  rw [if_pos (by decide)]
  refine wpAny_bind (wpAny_rule ?_)
  exact wpAny_bind (wpAny_pure (wpAny_pure ⟨_, rfl, wpAny_pure h⟩))
end
end HT
namespace L2
open PySem PySem.Spec PyProof.Rows
section
variable {X : Cx}
theorem cutV_all {xs : List V} {lo hi : Option Int} (hw : HT.sIx xs.length 0 lo = 0 ∧ HT.sIx xs.length xs.length hi = xs.length) : cutV xs lo hi = xs := by
  unfold cutV
  rw [hw.1, hw.2]
  simp
/-- a slice of a tuple, perhaps the whole -/
def rSlW : V → Option Int → Option Int → Hp → VK → Prop := fun x lo hi H Q => ∃ a xs, x = .ref a ∧ H a = some (.tup xs) ∧ ∀ b H', Same H H' → H' b = some (.tup (cutV xs lo hi)) → Q (.ref b) H'
theorem sl_tupW : SlR X rSlW := by
  intro pins s σ H x v vl vu lo hi sl Q I rx hs pl pu h
  obtain ⟨a, xs, rfl, hx, q⟩ := h
  by_cases hw : HT.sIx xs.length 0 lo = 0 ∧ HT.sIx xs.length xs.length hi = xs.length
  · cases rx
    obtain ⟨its, r, ht, hz⟩ := I.tuple (SqT.of (K := X.K) hx)
    have hlen : its.toArray.size = xs.length := by rw [List.size_toArray]; exact r.length.symm
    exact ⟨"tuple", _, PyProof.Rows.slot_tuple_getitem.lookup, ht.typeIs, HT.getItem_tuple_all ht hs pl pu (by rw [hlen]; exact hw) ⟨.ref a, H, I, rfl, q a H (Same.refl H) (by rw [cutV_all hw]; exact hx)⟩⟩
  · exact sl_tup pins s σ H (.ref a) v vl vu lo hi sl Q I rx hs pl pu ⟨a, xs, rfl, SqT.of hx, hw, fun p hp => q p _ (fun b u e => by rw [upd_ne (ne_of_none e hp)]; exact e) upd_same⟩
def rEqE (K : PySem.W.Frag) : R2 := fun x y H Q => ∃ a b xs, x = .ref a ∧ y = .ref b ∧ SqL K H a xs ∧ SqL K H b [] ∧ Q (.bl (decide (xs = []))) H
theorem op_eqE (hu : X.A.units < cLine) : OpR X (compareOp .Eq) (rEqE X.K) := by
  intro pins s σ H x y v u Q I rx ry h
  obtain ⟨a, b, xs, rfl, rfl, ha, hb, q⟩ := h
  cases hx : xs with
  | nil =>
    subst hx
    exact op_eqL hu pins s σ H _ _ v u Q I rx ry ⟨a, b, _, _, rfl, rfl, ha, hb, rfl, rfl, q⟩
  | cons z zs =>
    cases rx
    cases ry
    obtain ⟨its, r1, p1, _⟩ := I.list ha
    obtain ⟨its2, r2, p2, _⟩ := I.list hb
    have l1 := r1.length
    have l2 := r2.length
    have lx : xs.length = zs.length + 1 := by rw [hx]; rfl
    have l0 : ([] : List V).length = 0 := rfl
    refine SeqAt.eq_list_lengthsAt p1.isList p2.isList (by simp; omega) hu ⟨.bl false, H, I, rfl, ?_⟩
    have e : decide (xs = []) = false := decide_eq_false (by rw [hx]; exact List.cons_ne_nil _ _)
    rw [e] at q
    exact q
end
end L2
namespace L2
open PySem PySem.Spec PyProof.Rows
/-! ### a dict of cells -/
abbrev C3 := Int × Int × Int
def KvAt (H : Hp) : List (Key × V) → List C3 → Prop
  | [], [] => True
  | kv :: t, c :: m => kv.1 = .inl c.1 ∧ (∃ q, kv.2 = .ref q ∧ H q = some (.tup [.int c.2.1, .int c.2.2])) ∧ KvAt H t m
  | _, _ => False
theorem KvAt.len {H : Hp} : ∀ {kvs : List (Key × V)} {m : List C3}, KvAt H kvs m → kvs.length = m.length
  | [], [], _ => rfl
  | _ :: t, _ :: m, h => by rw [List.length_cons, List.length_cons, KvAt.len h.2.2]
  | [], _ :: _, h => h.elim
  | _ :: _, [], h => h.elim
theorem KvAt.keep {H H' : Hp} (k : ∀ q t, H q = some (.tup t) → H' q = some (.tup t)) : ∀ {kvs : List (Key × V)} {m : List C3}, KvAt H kvs m → KvAt H' kvs m
  | [], [], _ => trivial
  | _ :: t, _ :: m, h => by
    obtain ⟨e, ⟨q, e2, hq⟩, r⟩ := h
    exact ⟨e, ⟨q, e2, k q _ hq⟩, KvAt.keep k r⟩
  | [], _ :: _, h => h.elim
  | _ :: _, [], h => h.elim
theorem KvAt.mono {H H' : Hp} {kvs : List (Key × V)} {m : List C3} (h : KvAt H kvs m) (s : Same H H') : KvAt H' kvs m := h.keep fun q t e => s q _ e
theorem KvAt.upd {H : Hp} {kvs : List (Key × V)} {m : List C3} {p : Addr} {o : HO} (h : KvAt H kvs m) (hp : ∀ t, H p ≠ some (.tup t)) : KvAt (upd H p o) kvs m :=
  h.keep fun q t e => by
    rw [upd_ne (fun z => hp t (by rw [← z]; exact e))]
    exact e
theorem KvAt.app {H : Hp} {kvs2 : List (Key × V)} {m2 : List C3} (r : KvAt H kvs2 m2) : ∀ {kvs : List (Key × V)} {m : List C3}, KvAt H kvs m → KvAt H (kvs ++ kvs2) (m ++ m2)
  | [], [], _ => r
  | _ :: t, _ :: m, h => ⟨h.1, h.2.1, KvAt.app r h.2.2⟩
  | [], _ :: _, h => h.elim
  | _ :: _, [], h => h.elim
theorem KvAt.keys {H : Hp} : ∀ {kvs : List (Key × V)} {m : List C3}, KvAt H kvs m → kvs.map (·.1) = (m.map (·.1)).map Sum.inl
  | [], [], _ => rfl
  | _ :: t, _ :: m, h => by
    rw [List.map_cons, List.map_cons, List.map_cons, KvAt.keys h.2.2, h.1]
  | [], _ :: _, h => h.elim
  | _ :: _, [], h => h.elim
theorem KvAt.none {H : Hp} {k : Int} : ∀ {kvs : List (Key × V)} {m : List C3}, KvAt H kvs m → (∀ c ∈ m, c.1 ≠ k) → valV kvs (.inl k) = none
  | [], [], _, _ => rfl
  | kv :: t, c :: m, h, hk => by
    rw [valV_neg (by rw [h.1]; intro e; injection e with e; exact hk c (List.mem_cons_self ..) e)]
    exact KvAt.none h.2.2 fun c' hc => hk c' (List.mem_cons_of_mem _ hc)
  | [], _ :: _, h, _ => h.elim
  | _ :: _, [], h, _ => h.elim
def RiseC (m : List C3) : Prop := m.Pairwise fun a b => a.1 < b.1
theorem KvAt.get {H : Hp} : ∀ {kvs : List (Key × V)} {m : List C3} {i : Nat} {c : C3}, KvAt H kvs m → RiseC m → m[i]? = some c → ∃ q, valV kvs (.inl c.1) = some (.ref q) ∧ H q = some (.tup [.int c.2.1, .int c.2.2])
  | [], [], _, _, _, _, e => by simp at e
  | kv :: t, c0 :: m, 0, c, h, _, e => by
    rw [List.getElem?_cons_zero] at e
    cases e
    obtain ⟨q, e2, hq⟩ := h.2.1
    exact ⟨q, by rw [valV_pos h.1, e2], hq⟩
  | kv :: t, c0 :: m, i + 1, c, h, hr, e => by
    rw [List.getElem?_cons_succ] at e
    have p := List.pairwise_cons.mp hr
    obtain ⟨q, e2, hq⟩ := KvAt.get h.2.2 p.2 e
    refine ⟨q, ?_, hq⟩
    rw [valV_neg, e2]
    rw [h.1]
    intro z
    injection z with z
    have := p.1 c (List.mem_of_getElem? e)
    omega
  | [], _ :: _, _, _, h, _, _ => h.elim
  | _ :: _, [], _, _, h, _, _ => h.elim
def MapAt (H : Hp) (d : Addr) (m : List C3) : Prop := ∃ kvs, H d = some (.dK kvs) ∧ KvAt H kvs m
theorem merge_new {H : Hp} : ∀ {more : List (Key × V)} {m2 : List C3} {kvs : List (Key × V)} {m : List C3}, KvAt H more m2 → KvAt H kvs m → RiseC (m ++ m2) → mergeK kvs more = kvs ++ more
  | [], [], kvs, _, _, _, _ => by
    show kvs = kvs ++ []
    simp
  | kv :: t, c :: m2, kvs, m, h2, h1, hr => by
    show mergeK (putK kvs kv.1 kv.2) t = _
    have nk : valV kvs (.inl c.1) = none := h1.none fun c' hc => by
      have := (List.pairwise_append.mp hr).2.2 c' hc c (List.mem_cons_self ..)
      omega
    rw [h2.1, putK_new _ nk]
    have k1 : KvAt H (kvs ++ [((.inl c.1 : Key), kv.2)]) (m ++ [c]) := KvAt.app (kvs2 := [((.inl c.1 : Key), kv.2)]) (m2 := [c]) ⟨rfl, h2.2.1, trivial⟩ h1
    have hr' : RiseC (m ++ [c] ++ m2) := by
      rw [List.append_assoc]
      exact hr
    rw [merge_new h2.2.2 k1 hr', List.append_assoc]
    have : kv = ((.inl c.1 : Key), kv.2) := by rw [← h2.1]
    rw [this]
    rfl
  | [], _ :: _, _, _, h, _, _ => h.elim
  | _ :: _, [], _, _, h, _, _ => h.elim
theorem perm_rise {ms ns : List Int} (hp : ms.Perm ns) (h1 : ms.Pairwise (· ≤ ·)) (h2 : ns.Pairwise (· < ·)) : ms = ns := by
  have nd : ns.Nodup := h2.imp fun h => by omega
  have nd2 : ms.Nodup := hp.nodup_iff.mpr nd
  have h3 : ms.Pairwise (· < ·) := by
    have := List.pairwise_and_iff.mpr ⟨h1, nd2⟩
    exact this.imp fun h => by
      have := h.1
      have := h.2
      omega
  exact rise_eq h3 h2 fun k => hp.mem_iff
/-! ### a row's cells rise -/
theorem cells1_mem {r : S4} {c : C3} (h : c ∈ cells1 r) : r.1 ≤ c.1 ∧ c.1 < r.1 + r.2.1 := by
  unfold cells1 at h
  obtain ⟨i, hi, rfl⟩ := List.mem_map.mp h
  have := List.mem_range.mp hi
  simp only
  omega
theorem cells1_rise (r : S4) : RiseC (cells1 r) := by
  unfold RiseC cells1
  rw [List.pairwise_map]
  exact List.pairwise_lt_range.imp fun h => by simp only; omega
theorem cellsR_mem : ∀ {rs : List S4} {lo hi : Int} {c : C3}, Ord lo rs hi → c ∈ cellsR rs → lo ≤ c.1 ∧ c.1 < hi
  | [], _, _, _, _, h => by cases h
  | r :: t, lo, hi, c, o, h => by
    have o1 := o.1
    have o2 := o.2.1
    have o3 := o.2.2.le
    rcases List.mem_append.mp (show c ∈ cells1 r ++ cellsR t from h) with h | h
    · have := cells1_mem h
      omega
    · have := cellsR_mem o.2.2 h
      omega
theorem cellsR_rise : ∀ {rs : List S4} {lo hi : Int}, Ord lo rs hi → RiseC (cellsR rs)
  | [], _, _, _ => List.Pairwise.nil
  | r :: t, lo, hi, o => by
    show RiseC (cells1 r ++ cellsR t)
    refine List.pairwise_append.mpr ⟨cells1_rise r, cellsR_rise o.2.2, fun a ha b hb => ?_⟩
    have := cells1_mem ha
    have := cellsR_mem o.2.2 hb
    omega
theorem cellsR_len : ∀ {rs : List S4} {lo hi : Int}, Ord lo rs hi → ((cellsR rs).length : Int) ≤ hi - lo
  | [], _, _, o => by
    have := Ord.le o
    show ((0 : Nat) : Int) ≤ _
    omega
  | r :: t, lo, hi, o => by
    have o1 := o.1
    have o2 := o.2.1
    have ih := cellsR_len o.2.2
    have e : (cellsR (r :: t)).length = r.2.1.toNat + (cellsR t).length := by
      show (cells1 r ++ cellsR t).length = _
      rw [List.length_append]
      unfold cells1
      simp
    rw [e]
    omega
theorem cellsR_snoc (rs : List S4) (r : S4) : cellsR (rs ++ [r]) = cellsR rs ++ cells1 r := by
  unfold cellsR
  rw [List.flatMap_append]
  simp
/-! ### the law's loop over a thing -/
def lastOf (last : Int) (rs : List S4) : Int := match rs.getLast? with
  | some r => r.1 + r.2.1 - 1
  | none => last
theorem lastOf_snoc (last : Int) (rs : List S4) (r : S4) : lastOf last (rs ++ [r]) = r.1 + r.2.1 - 1 := by
  unfold lastOf
  rw [List.getLast?_concat]
theorem inOrd_app (size : Int) : ∀ (rs : List S4) (last : Int) (r : S4) (t : List S4), inOrd size last (rs ++ r :: t) = (inOrd size last rs && (okS size r && decide (lastOf last rs < r.1) && inOrd size (r.1 + r.2.1 - 1) t))
  | [], last, r, t => by
    show (okS size r && decide (last < r.1) && inOrd size (r.1 + r.2.1 - 1) t) = (true && _)
    rw [Bool.true_and]
    rfl
  | q :: rs, last, r, t => by
    show (okS size q && decide (last < q.1) && inOrd size (q.1 + q.2.1 - 1) (rs ++ r :: t)) = ((okS size q && decide (last < q.1) && inOrd size (q.1 + q.2.1 - 1) rs) && _)
    rw [inOrd_app size rs (q.1 + q.2.1 - 1) r t, Bool.and_assoc, Bool.and_assoc]
    have e : lastOf (q.1 + q.2.1 - 1) rs = lastOf last (q :: rs) := by
      unfold lastOf
      cases rs with
      | nil => rfl
      | cons x xs => rw [List.getLast?_cons_cons]; rfl
    rw [e]
    simp only [Bool.and_assoc]
end L2
namespace L2
open PySem PySem.Spec PyProof.Rows
/-! ### a tidied row is a tidy row -/
theorem ord_last : ∀ {g : List S4} {z : S4} {lo hi : Int}, Ord lo (g ++ [z]) hi → Ord lo g z.1 ∧ 0 < z.2.1 ∧ z.1 + z.2.1 ≤ hi
  | [], z, lo, hi, h => ⟨h.1, h.2.1, h.2.2⟩
  | q :: g, z, lo, hi, h => by
    have ih := ord_last h.2.2
    exact ⟨⟨h.1, h.2.1, ih.1⟩, ih.2⟩
theorem tidy_ord : ∀ {rs g : List S4} {lo mid hi : Int}, Ord lo g mid → Ord mid rs hi → Ord lo (rs.foldl tstep g) hi
  | [], g, lo, mid, hi, h, h2 => h.up h2
  | r :: t, g, lo, mid, hi, h, h2 => by
    obtain ⟨a1, a2, a3⟩ := h2
    rw [List.foldl_cons]
    refine tidy_ord (mid := r.1 + r.2.1) ?_ a3
    rcases List.eq_nil_or_concat g with rfl | ⟨g0, z, rfl⟩
    · rw [tstep_nil]
      have : lo ≤ mid := h
      exact ⟨by omega, a2, Int.le_refl _⟩
    · rw [List.concat_eq_append] at h ⊢
      obtain ⟨b1, b2, b3⟩ := ord_last h
      cases e : goOn z r with
      | true =>
        rw [tstep_on e]
        have e1 := (goOn_iff.mp e).1
        exact b1.snoc (Int.le_refl _) (by show 0 < z.2.1 + r.2.1; omega) (by show z.1 + (z.2.1 + r.2.1) ≤ r.1 + r.2.1; omega)
      | false =>
        rw [tstep_off e]
        exact h.snoc a1 a2 (Int.le_refl _)
theorem tidy_good : ∀ {rs g : List S4}, (∀ r ∈ g, GoodR r) → (∀ r ∈ rs, GoodR r) → ∀ r ∈ rs.foldl tstep g, GoodR r
  | [], g, h, _ => h
  | r :: t, g, h, h2 => by
    rw [List.foldl_cons]
    refine tidy_good (fun x hx => ?_) fun x hx => h2 x (List.mem_cons_of_mem _ hx)
    have hr := h2 r (List.mem_cons_self ..)
    rcases List.eq_nil_or_concat g with rfl | ⟨g0, z, rfl⟩
    · rw [tstep_nil] at hx
      obtain rfl : x = r := by simpa using hx
      exact hr
    · rw [List.concat_eq_append] at h hx
      cases e : goOn z r with
      | true =>
        rw [tstep_on e] at hx
        rcases List.mem_append.mp hx with hx | hx
        · exact h x (List.mem_append_left _ hx)
        · obtain rfl : x = (z.1, z.2.1 + r.2.1, z.2.2.1, z.2.2.2) := by simpa using hx
          have hz := h z (List.mem_append_right _ (List.mem_cons_self ..))
          have e3 := (goOn_iff.mp e).2.2
          refine ⟨hz.1, hz.2.1, hz.2.2.1, ?_⟩
          have := hr.2.2.2
          show z.2.2.2 + (z.2.1 + r.2.1) ≤ 8
          omega
      | false =>
        rw [tstep_off e] at hx
        rcases List.mem_append.mp hx with hx | hx
        · exact h x hx
        · obtain rfl : x = r := by simpa using hx
          exact hr
theorem noGo_snoc : ∀ {g : List S4} {z r : S4}, noGo (g ++ [z] ++ [r]) = (noGo (g ++ [z]) && !goOn z r)
  | [], z, r => by
    show (!goOn z r && true) = (true && !goOn z r)
    simp
  | [a], z, r => by
    show (!goOn a z && (!goOn z r && true)) = ((!goOn a z && true) && !goOn z r)
    simp
  | a :: b :: g, z, r => by
    have ih := noGo_snoc (g := b :: g) (z := z) (r := r)
    show (!goOn a b && noGo ((b :: g) ++ [z] ++ [r])) = ((!goOn a b && noGo ((b :: g) ++ [z])) && !goOn z r)
    rw [ih, Bool.and_assoc]
theorem noGo_swap {g : List S4} {z z' : S4} (h : ∀ a, goOn a z = goOn a z') : noGo (g ++ [z]) = noGo (g ++ [z']) := by
  rcases List.eq_nil_or_concat g with rfl | ⟨g0, y, rfl⟩
  · rfl
  · rw [List.concat_eq_append, noGo_snoc, noGo_snoc, h y]
theorem tidy_noGo : ∀ {rs g : List S4}, noGo g = true → noGo (rs.foldl tstep g) = true
  | [], g, h => h
  | r :: t, g, h => by
    rw [List.foldl_cons]
    refine tidy_noGo ?_
    rcases List.eq_nil_or_concat g with rfl | ⟨g0, z, rfl⟩
    · rfl
    · rw [List.concat_eq_append] at h ⊢
      cases e : goOn z r with
      | true =>
        rw [tstep_on e, ← h]
        exact noGo_swap fun a => rfl
      | false =>
        rw [tstep_off e, noGo_snoc, h, e]
        rfl
def chP (wd p : Int) : Int := if wd = 0 then p else if wd = 1 then 601 - p else p * 100 + 99
def chR (wd : Int) (r : S4) : S4 := (r.1, r.2.1, chP wd r.2.2.1, r.2.2.2)
theorem chg_ord (wd : Int) : ∀ {rs : List S4} {lo hi : Int}, Ord lo rs hi → Ord lo (rs.map (chR wd)) hi
  | [], _, _, h => h
  | r :: t, _, _, h => ⟨h.1, h.2.1, chg_ord wd h.2.2⟩
theorem chg_go {wd : Int} {a b : S4} (ha : GoodR a) (hb : GoodR b) : goOn (chR wd a) (chR wd b) = goOn a b := by
  rw [Bool.eq_iff_iff, goOn_iff, goOn_iff]
  unfold chR
  simp only
  have : chP wd a.2.2.1 = chP wd b.2.2.1 ↔ a.2.2.1 = b.2.2.1 := by
    unfold chP
    split
    · exact Iff.rfl
    · split <;> omega
  rw [this]
theorem chg_noGo (wd : Int) : ∀ {rs : List S4}, (∀ r ∈ rs, GoodR r) → noGo (rs.map (chR wd)) = noGo rs
  | [], _ => rfl
  | [a], _ => rfl
  | a :: b :: t, h => by
    have ih := chg_noGo wd (rs := b :: t) fun r hr => h r (List.mem_cons_of_mem _ hr)
    show (!goOn (chR wd a) (chR wd b) && noGo ((b :: t).map (chR wd))) = (!goOn a b && noGo (b :: t))
    rw [ih, chg_go (h a (List.mem_cons_self ..)) (h b (List.mem_cons_of_mem _ (List.mem_cons_self ..)))]
theorem ord_apart : ∀ {rs : List S4} {lo hi : Int}, Ord lo rs hi → noGo rs = true → apart rs = true
  | [], _, _, _, _ => rfl
  | [a], _, _, _, _ => rfl
  | a :: b :: t, lo, hi, h, n => by
    have n' : (!goOn a b && noGo (b :: t)) = true := n
    rw [Bool.and_eq_true] at n'
    have ih := ord_apart h.2.2 n'.2
    show (!decide (b.1 < a.1 + a.2.1) && !goOn a b && apart (b :: t)) = true
    have b1 : a.1 + a.2.1 ≤ b.1 := h.2.2.1
    rw [ih, n'.1, decide_eq_false (by omega)]
    rfl
theorem row_true {rs : List S4} {size : Int} (wd : Int) (h0 : 0 ≤ wd) (hs : size ≤ 40) (o : Ord 0 rs size) (g : ∀ r ∈ rs, GoodR r) : isRowP ((tidyP rs).map (chR wd)) size = true := by
  have o1 : Ord 0 (tidyP rs) size := tidy_ord (g := []) (mid := 0) (Int.le_refl _) o
  have g1 : ∀ r ∈ tidyP rs, GoodR r := tidy_good (g := []) (fun r h => by cases h) g
  have n1 : noGo (tidyP rs) = true := tidy_noGo (g := []) rfl
  generalize tidyP rs = ts at o1 g1 n1
  have o2 := chg_ord wd o1
  have n2 := chg_noGo wd g1
  rw [n1] at n2
  unfold isRowP
  rw [ord_apart o2 n2, Bool.and_true, Bool.and_eq_true]
  constructor
  · rw [List.all_map, List.all_eq_true]
    intro r hr
    have b := o1.mem hr
    have gr := g1 r hr
    unfold GoodR at gr
    show okP (chR wd r) = true
    unfold okP chR
    simp only [Bool.and_eq_true, decide_eq_true_eq]
    have p1 : 2 ≤ chP wd r.2.2.1 ∧ chP wd r.2.2.1 ≤ 599 := by
      unfold chP
      split
      · omega
      · split <;> omega
    omega
  · rw [List.all_map, List.all_eq_true]
    intro r hr
    have b := o1.mem hr
    exact decide_eq_true b.2.2
end L2
namespace K13
open PySem L2 PyProof.Rows
def top (i : Nat) : Stmt := PySem.Challenge.pw_clonewood_k13_what_is_a_row.main.body.getD i (.Pass ⟨0, 0, 0, 0⟩)
abbrev sWho : Stmt := top 1
abbrev sWth : Stmt := top 2
abbrev sTof : Stmt := top 3
abbrev sEnd : Stmt := top 13
abbrev sEip : Stmt := top 14
abbrev sGoe : Stmt := top 15
abbrev sItp : Stmt := top 16
abbrev sIst : Stmt := top 17
abbrev sIsr : Stmt := top 18
abbrev sCel : Stmt := top 20
abbrev sStm : Stmt := top 21
abbrev sRow : Stmt := top 22
abbrev sMap : Stmt := top 23
abbrev sRun : Stmt := top 24
abbrev sInr : Stmt := top 26
abbrev sLst : Stmt := top 27
abbrev sDue : Stmt := top 28
abbrev sPar : Stmt := top 29
abbrev sSts : Stmt := top 30
abbrev sThi : Stmt := top 31
abbrev sTru : Stmt := top 32
abbrev sLaw : Stmt := top 33
/-- what the top has of names -/
structure Txt (mg : Str → Option Value) : Prop where
  isi : mg "isinstance" = none
  int : mg "int" = none
  bol : mg "bool" = none
  len : mg "len" = none
  rng : mg "range" = none
  lst : mg "list" = none
  tup : mg "tuple" = none
  min : mg "min" = none
  max : mg "max" = none
  srt : mg "sorted" = none
  all : mg "all" = none
  zip : mg "zip" = none
  mc : ∃ t, mg "MOST_CELLS" = some (.int 40 t)
  pc8 : ∃ t, mg "PIECE_CELLS" = some (.int 8 t)
  fp : ∃ t, mg "FIRST_PLACE" = some (.int 2 t)
  lp : ∃ t, mg "LAST_PLACE" = some (.int 599 t)
  at0 : ∃ t, mg "AT" = some (.int 0 t)
  lg : ∃ t, mg "LONG" = some (.int 1 t)
  pl2 : ∃ t, mg "PLACE" = some (.int 2 t)
  sk3 : ∃ t, mg "SKIP" = some (.int 3 t)
section
variable (K : PySem.W.Frag)
theorem kit_tt : PySem.W.kitOne K (.type "tuple") (.type "tuple") = some true := by kernel_rfl
theorem kit_bb : PySem.W.kitOne K (.type "bool") (.type "bool") = some true := by kernel_rfl
end
end K13
set_option maxHeartbeats 4000000
namespace K13
open PySem L2
section
variable {P : Program} {w : World} {K : PySem.W.Frag} {mg : Str → Option Value} {base : Heap} {f fWho fWth fTof fEnd fEip fGoe fItp fIst : Addr} {fd dWho dWth dTof dEnd dEip dGoe dItp dIst : FuncData}
theorem scWho : FnScope ["thing"] ["thing"] (defScope sWho) := ⟨rfl, rfl, rfl, by decide +kernel, rfl, by decide +kernel, by decide +kernel⟩
theorem ok_Who (F : Fun K "is_whole" "is_whole" sWho f fd) (T : Txt mg) : FnOk P w K mg base CX0 1 f fd ["thing"] spWho0 := by
  refine F.ok scWho (fun vs H Q E h => ?_) (fun cdv A outer s H vs Q E hr h => ?_)
  · obtain ⟨x, rfl, _⟩ := h
    rfl
  obtain ⟨x, rfl, hT, q⟩ := h
  obtain ⟨t, ty, k1, k2⟩ := hT.ty (K := K)
  refine ⟨_, (pss_one (ps_ret (pe_and (pe_callB call_isinst rfl T.isi PyProof.Rows.boot_isinstance (pa_cons (pv 0) (pa_cons (pe_bltn (v := .ty "int") rfl T.int PyProof.Rows.boot_int rfl) pa_nil))) (pe_one (pe_not (pe_callB call_isinst rfl T.isi PyProof.Rows.boot_isinstance (pa_cons (pv 0) (pa_cons (pe_bltn (v := .ty "bool") rfl T.bol PyProof.Rows.boot_bool rfl) pa_nil)))))))), ?_⟩
  refine ⟨_, rfl, x, "int", t, isI0 x, rfl, ty, k1, _, rfl, ?_⟩
  unfold who0 at q
  refine ite2 (fun c => ?_) (fun c => ?_)
  · refine ⟨_, rfl, x, "bool", t, isB0 x, rfl, ty, k2, _, rfl, ?_⟩
    rw [c] at q
    exact q
  · rw [Bool.not_eq_true] at c
    rw [c] at q
    exact q
theorem scWth : FnScope ["thing", "low", "high"] ["thing", "low", "high"] (defScope sWth) := ⟨rfl, rfl, rfl, by decide +kernel, rfl, by decide +kernel, by decide +kernel⟩
theorem ok_Wth (F : Fun K "is_within" "is_within" sWth f fd) {fW : Addr} {dW : FuncData} (hWho : Has K mg "is_whole" sWho ["thing"] fW dW) (GWho : FnOk P w K mg base CX0 1 fW dW ["thing"] spWho0) : FnOk P w K mg base CX0 2 f fd ["thing", "low", "high"] spWth0 := by
  refine F.ok scWth (fun vs H Q E h => ?_) (fun cdv A outer s H vs Q E hr h => ?_)
  · obtain ⟨x, l, h, rfl, _⟩ := h
    rfl
  obtain ⟨x, l, h, rfl, hT, q⟩ := h
  refine ⟨_, (pss_one (ps_ret (pe_and (pe_call GWho (hr.mono (by decide)) rfl hWho.nm hWho.fn.kp hWho.bd .nil pass0 (pa_cons (pv 0) pa_nil)) (pe_one (pe_chain op_le op_le (pv 1) (pv 0) (pv 2)))))), ?_⟩
  refine ⟨_, rfl, x, rfl, hT, _, rfl, ?_⟩
  rcases hT with ⟨n, rfl⟩ | ⟨z, rfl⟩ | ⟨b, rfl⟩ | rfl | ⟨a, z, rfl, _⟩ | ⟨a, z, rfl, _⟩ | ⟨a, z, rfl, _⟩
  · refine iteT ?_
    refine ⟨_, rfl, _, rfl, _, _, rfl, rfl, _, rfl, ?_⟩
    have q' : Q (.bl (decide (l ≤ n) && decide (n ≤ h))) H := q
    refine ite2 (fun c => ?_) (fun c => ?_)
    · rw [c] at q'
      exact ⟨_, rfl, _, _, rfl, rfl, q'⟩
    · rw [Bool.not_eq_true] at c
      rw [c] at q'
      exact q'
  all_goals exact iteF q
/-! ### is_tuple_of -/
theorem dec_len (a b : Nat) : decide (V.int ((a : Nat) : Int) = V.int ((b : Nat) : Int)) = decide (a = b) := decide_eq_decide.mpr ⟨fun h => by injection h with h; omega, fun h => by rw [h]⟩
theorem dec_int (a b : Int) : decide (V.int a = V.int b) = decide (a = b) := decide_eq_decide.mpr ⟨fun h => by injection h, fun h => by rw [h]⟩
def spTof : Sp := fun vs H Q _ => ∃ (x : V) (n : Nat), vs = [x, .int (n : Int)] ∧ ((∃ q xs, x = .ref q ∧ H q = some (.tup xs) ∧ Q (.bl (decide (xs.length = n))) H) ∨ (NotT H x ∧ Q (.bl false) H))
theorem scTof : FnScope ["thing", "many"] ["thing", "many"] (defScope sTof) := ⟨rfl, rfl, rfl, by decide +kernel, rfl, by decide +kernel, by decide +kernel⟩
theorem ok_Tof (F : Fun K "is_tuple_of" "is_tuple_of" sTof f fd) (T : Txt mg) : FnOk P w K mg base CX0 1 f fd ["thing", "many"] spTof := by
  refine F.ok scTof (fun vs H Q E h => ?_) (fun cdv A outer s H vs Q E hr h => ?_)
  · obtain ⟨x, n, rfl, _⟩ := h
    rfl
  obtain ⟨x, n, rfl, h⟩ := h
  refine ⟨_, (pss_one (ps_ret (pe_and (pe_callB call_isinst rfl T.isi PyProof.Rows.boot_isinstance (pa_cons (pv 0) (pa_cons (pe_bltn (v := .ty "tuple") rfl T.tup PyProof.Rows.boot_tuple rfl) pa_nil))) (pe_one (pe_cmpR op_eq (pe_callB call_len_seq rfl T.len PySem.boot_len (pa_cons (pv 0) pa_nil)) (pv 1) (nomark _)))))), ?_⟩
  rcases h with ⟨q, xs, rfl, hq, qq⟩ | ⟨hN, qq⟩
  · refine ⟨_, rfl, _, _, _, true, rfl, .tup hq, kit_tt K, _, rfl, iteT ?_⟩
    refine ⟨_, rfl, q, _, rfl, .inr (SqT.of hq), _, rfl, rfl, ?_⟩
    rw [dec_len]
    exact qq
  · obtain ⟨t, ty, k⟩ := hN.kit (K := K)
    exact ⟨_, rfl, x, _, t, false, rfl, ty, k, _, rfl, iteF qq⟩
/-! ### end_of, end_in_piece, goes_on -/
def spEnd : Sp := fun vs H Q _ => ∃ (q : Addr) (r : S4), vs = [.ref q] ∧ H q = some (.tup (tv r)) ∧ Q (.int (r.1 + r.2.1)) H
theorem scEnd : FnScope ["stretch"] ["stretch"] (defScope sEnd) := ⟨rfl, rfl, rfl, by decide +kernel, rfl, by decide +kernel, by decide +kernel⟩
theorem ok_End (F : Fun K "end_of" "end_of" sEnd f fd) (T : Txt mg) : FnOk P w K mg base CX0 1 f fd ["stretch"] spEnd := by
  refine F.ok scEnd (fun vs H Q E h => ?_) (fun cdv A outer s H vs Q E hr h => ?_)
  · obtain ⟨q, r, rfl, _⟩ := h
    rfl
  obtain ⟨q, r, rfl, hq, qq⟩ := h
  obtain ⟨t1, at0⟩ := T.at0
  obtain ⟨t2, lg⟩ := T.lg
  refine ⟨_, (pss_one (ps_ret (pe_op op_add (pe_ix ix_tup (pv 0) (pe_glob (v := .int 0) rfl at0 ⟨_, rfl⟩) (fun _ _ => rfl)) (pe_ix ix_tup (pv 0) (pe_glob (v := .int 1) rfl lg ⟨_, rfl⟩) (fun _ _ => rfl))))), ?_⟩
  exact ⟨_, rfl, q, _, _, .int r.1, rfl, rfl, SqT.of hq, rfl, _, rfl, q, _, _, .int r.2.1, rfl, rfl, SqT.of hq, rfl, _, _, rfl, rfl, qq⟩
def spEip : Sp := fun vs H Q _ => ∃ (q : Addr) (r : S4), vs = [.ref q] ∧ H q = some (.tup (tv r)) ∧ Q (.int (r.2.2.2 + r.2.1)) H
theorem scEip : FnScope ["stretch"] ["stretch"] (defScope sEip) := ⟨rfl, rfl, rfl, by decide +kernel, rfl, by decide +kernel, by decide +kernel⟩
theorem ok_Eip (F : Fun K "end_in_piece" "end_in_piece" sEip f fd) (T : Txt mg) : FnOk P w K mg base CX0 1 f fd ["stretch"] spEip := by
  refine F.ok scEip (fun vs H Q E h => ?_) (fun cdv A outer s H vs Q E hr h => ?_)
  · obtain ⟨q, r, rfl, _⟩ := h
    rfl
  obtain ⟨q, r, rfl, hq, qq⟩ := h
  obtain ⟨t1, sk3⟩ := T.sk3
  obtain ⟨t2, lg⟩ := T.lg
  refine ⟨_, (pss_one (ps_ret (pe_op op_add (pe_ix ix_tup (pv 0) (pe_glob (v := .int 3) rfl sk3 ⟨_, rfl⟩) (fun _ _ => rfl)) (pe_ix ix_tup (pv 0) (pe_glob (v := .int 1) rfl lg ⟨_, rfl⟩) (fun _ _ => rfl))))), ?_⟩
  exact ⟨_, rfl, q, _, _, .int r.2.2.2, rfl, rfl, SqT.of hq, rfl, _, rfl, q, _, _, .int r.2.1, rfl, rfl, SqT.of hq, rfl, _, _, rfl, rfl, qq⟩
def spGoe : Sp := fun vs H Q _ => ∃ (q q' : Addr) (r r' : S4), vs = [.ref q, .ref q'] ∧ H q = some (.tup (tv r)) ∧ H q' = some (.tup (tv r')) ∧ Q (.bl (goOn r r')) H
theorem scGoe : FnScope ["ahead", "stretch"] ["ahead", "stretch"] (defScope sGoe) := ⟨rfl, rfl, rfl, by decide +kernel, rfl, by decide +kernel, by decide +kernel⟩
theorem ok_Goe (F : Fun K "goes_on" "goes_on" sGoe f fd) (hEnd : Has K mg "end_of" sEnd ["stretch"] fEnd dEnd) (GEnd : FnOk P w K mg base CX0 1 fEnd dEnd ["stretch"] spEnd)
    (hEip : Has K mg "end_in_piece" sEip ["stretch"] fEip dEip) (GEip : FnOk P w K mg base CX0 1 fEip dEip ["stretch"] spEip) (T : Txt mg) : FnOk P w K mg base CX0 2 f fd ["ahead", "stretch"] spGoe := by
  refine F.ok scGoe (fun vs H Q E h => ?_) (fun cdv A outer s H vs Q E hr h => ?_)
  · obtain ⟨q, q', r, r', rfl, _⟩ := h
    rfl
  obtain ⟨q, q', r, r', rfl, hq, hq', qq⟩ := h
  obtain ⟨t1, at0⟩ := T.at0
  obtain ⟨t2, pl2⟩ := T.pl2
  obtain ⟨t3, sk3⟩ := T.sk3
  refine ⟨_, (pss_cons (ps_if (PW.pt (pw_or (pt_cmpR op_ne (pe_call GEnd (hr.mono (by decide)) rfl hEnd.nm hEnd.fn.kp hEnd.bd .nil pass0 (pa_cons (pv 0) pa_nil)) (pe_ix ix_tup (pv 1) (pe_glob (v := .int 0) rfl at0 ⟨_, rfl⟩) (fun _ _ => rfl)) (nomark _)) (pw_or1 (pt_cmpR op_ne (pe_ix ix_tup (pv 0) (pe_glob (v := .int 2) rfl pl2 ⟨_, rfl⟩) (fun _ _ => rfl)) (pe_ix ix_tup (pv 1) (pe_glob (v := .int 2) rfl pl2 ⟨_, rfl⟩) (fun _ _ => rfl)) (nomark _)))))
    (pss_one (ps_ret pe_bl))
    pss_nil)
    (pss_one (ps_ret (pe_cmpR op_eq (pe_call GEip (hr.mono (by decide)) rfl hEip.nm hEip.fn.kp hEip.bd .nil pass0 (pa_cons (pv 0) pa_nil)) (pe_ix ix_tup (pv 1) (pe_glob (v := .int 3) rfl sk3 ⟨_, rfl⟩) (fun _ _ => rfl)) (nomark _))))), ?_⟩
  refine ⟨_, rfl, q, r, rfl, hq, _, rfl, q', _, _, .int r'.1, rfl, rfl, SqT.of hq', rfl, rfl, _, rfl, ?_⟩
  unfold goOn at qq
  rw [dec_int]
  by_cases c1 : r.1 + r.2.1 = r'.1
  · rw [decide_eq_true c1] at qq ⊢
    refine iteF ?_
    refine ⟨_, rfl, q, _, _, .int r.2.2.1, rfl, rfl, SqT.of hq, rfl, _, rfl, q', _, _, .int r'.2.2.1, rfl, rfl, SqT.of hq', rfl, rfl, _, rfl, ?_⟩
    rw [dec_int]
    by_cases c2 : r.2.2.1 = r'.2.2.1
    · rw [decide_eq_true c2] at qq ⊢
      refine iteF ?_
      refine ⟨_, rfl, q, r, rfl, hq, _, rfl, q', _, _, .int r'.2.2.2, rfl, rfl, SqT.of hq', rfl, rfl, ?_⟩
      rw [dec_int]
      exact qq
    · rw [decide_eq_false c2] at qq ⊢
      exact iteT qq
  · rw [decide_eq_false c1] at qq ⊢
    exact iteT (iteT qq)
/-! ### is_tree_place, is_stretch -/
def spItp : Sp := fun vs H Q _ => ∃ x, vs = [x] ∧ Ty0 H x ∧ Q (.bl (wth0 x 2 599)) H
theorem scItp : FnScope ["thing"] ["thing"] (defScope sItp) := ⟨rfl, rfl, rfl, by decide +kernel, rfl, by decide +kernel, by decide +kernel⟩
theorem ok_Itp (F : Fun K "is_tree_place" "is_tree_place" sItp f fd) (hWth : Has K mg "is_within" sWth ["thing", "low", "high"] fWth dWth) (GWth : FnOk P w K mg base CX0 2 fWth dWth ["thing", "low", "high"] spWth0) (T : Txt mg) : FnOk P w K mg base CX0 3 f fd ["thing"] spItp := by
  refine F.ok scItp (fun vs H Q E h => ?_) (fun cdv A outer s H vs Q E hr h => ?_)
  · obtain ⟨x, rfl, _⟩ := h
    rfl
  obtain ⟨x, rfl, hT, qq⟩ := h
  obtain ⟨t1, fp⟩ := T.fp
  obtain ⟨t2, lp⟩ := T.lp
  refine ⟨_, (pss_one (ps_ret (pe_call GWth (hr.mono (by decide)) rfl hWth.nm hWth.fn.kp hWth.bd .nil pass0 (pa_cons (pv 0) (pa_cons (pe_glob (v := .int 2) rfl fp ⟨_, rfl⟩) (pa_cons (pe_glob (v := .int 599) rfl lp ⟨_, rfl⟩) pa_nil)))))), ?_⟩
  exact ⟨_, rfl, x, 2, 599, rfl, hT, qq⟩
def spIst : Sp := fun vs H Q _ => ∃ (x : V) (o : Option S4), vs = [x] ∧ PartO H x o ∧ ∀ H', Same H H' → Q (.bl (o.any okP)) H'
theorem scIst : FnScope ["thing"] ["thing"] (defScope sIst) := ⟨rfl, rfl, rfl, by decide +kernel, rfl, by decide +kernel, by decide +kernel⟩
theorem ok_Ist (F : Fun K "is_stretch" "is_stretch" sIst f fd) (hTof : Has K mg "is_tuple_of" sTof ["thing", "many"] fTof dTof) (GTof : FnOk P w K mg base CX0 1 fTof dTof ["thing", "many"] spTof)
    (hWho : Has K mg "is_whole" sWho ["thing"] fWho dWho) (GWho : FnOk P w K mg base CX0 1 fWho dWho ["thing"] spWho0)
    (hEnd : Has K mg "end_of" sEnd ["stretch"] fEnd dEnd) (GEnd : FnOk P w K mg base CX0 1 fEnd dEnd ["stretch"] spEnd)
    (hEip : Has K mg "end_in_piece" sEip ["stretch"] fEip dEip) (GEip : FnOk P w K mg base CX0 1 fEip dEip ["stretch"] spEip)
    (hItp : Has K mg "is_tree_place" sItp ["thing"] fItp dItp) (GItp : FnOk P w K mg base CX0 3 fItp dItp ["thing"] spItp) (T : Txt mg) : FnOk P w K mg base CX0 4 f fd ["thing"] spIst := by
  refine F.ok scIst (fun vs H Q E h => ?_) (fun cdv A outer s H vs Q E hr h => ?_)
  · obtain ⟨x, o, rfl, _⟩ := h
    rfl
  obtain ⟨x, o, rfl, hP, qq⟩ := h
  obtain ⟨t1, at0⟩ := T.at0
  obtain ⟨t2, lg⟩ := T.lg
  obtain ⟨t3, sk3⟩ := T.sk3
  obtain ⟨t4, mc⟩ := T.mc
  obtain ⟨t5, pc8⟩ := T.pc8
  obtain ⟨t6, pl2⟩ := T.pl2
  refine ⟨_, (pss_cons (ps_if (PW.pt (pw_or (pt_not (pt_val (pe_call GTof (hr.mono (by decide)) rfl hTof.nm hTof.fn.kp hTof.bd .nil pass0 (pa_cons (pv 0) (pa_cons pe_int pa_nil))))) (pw_or1 (pt_not (pt_val (pe_callB (call_all hr.hd) rfl T.all PyProof.Rows.boot_all (pa_cons (pe_comp [] [] (pi_tup (pv 0)) (fun _ _ _ _ _ _ => pts_nil)
          (fun _ _ _ _ _ _ => (pe_call GWho (hr.mono (by decide)) rfl hWho.nm hWho.fn.kp hWho.bd .nil pass0 (pa_cons (pv 0) pa_nil)))
          rfl (by decide +kernel) (by decide +kernel) rfl (by decide +kernel) (fun _ _ z => nomatch z) rfl (by decide +kernel) rfl) pa_nil)))))))
    (pss_one (ps_ret pe_bl))
    pss_nil)
    (pss_cons (ps_if (PW.pt (pw_or (pt_cmpR op_lt (pe_ix ix_tup (pv 0) (pe_glob (v := .int 0) rfl at0 ⟨_, rfl⟩) (fun _ _ => rfl)) pe_int (nomark _)) (pw_or (pt_cmpR op_lt (pe_ix ix_tup (pv 0) (pe_glob (v := .int 1) rfl lg ⟨_, rfl⟩) (fun _ _ => rfl)) pe_int (nomark _)) (pw_or1 (pt_cmpR op_lt (pe_ix ix_tup (pv 0) (pe_glob (v := .int 3) rfl sk3 ⟨_, rfl⟩) (fun _ _ => rfl)) pe_int (nomark _))))))
    (pss_one (ps_ret pe_bl))
    pss_nil)
    (pss_cons (ps_if (PW.pt (pw_or (pt_cmpR op_gt (pe_call GEnd (hr.mono (by decide)) rfl hEnd.nm hEnd.fn.kp hEnd.bd .nil pass0 (pa_cons (pv 0) pa_nil)) (pe_glob (v := .int 40) rfl mc ⟨_, rfl⟩) (nomark _)) (pw_or1 (pt_cmpR op_gt (pe_call GEip (hr.mono (by decide)) rfl hEip.nm hEip.fn.kp hEip.bd .nil pass0 (pa_cons (pv 0) pa_nil)) (pe_glob (v := .int 8) rfl pc8 ⟨_, rfl⟩) (nomark _)))))
    (pss_one (ps_ret pe_bl))
    pss_nil)
    (pss_one (ps_ret (pe_call GItp (hr.mono (by decide)) rfl hItp.nm hItp.fn.kp hItp.bd .nil pass0 (pa_cons (pe_ix ix_tup (pv 0) (pe_glob (v := .int 2) rfl pl2 ⟨_, rfl⟩) (fun _ _ => rfl)) pa_nil))))))), ?_⟩
  rcases hP with ⟨q, xs, rfl, hq, hy, hl, ho⟩ | ⟨hN, rfl⟩
  rotate_left
  · exact ⟨_, rfl, x, 4, rfl, .inr ⟨hN, _, rfl, iteT (iteT (qq H (Same.refl H)))⟩⟩
  refine ⟨_, rfl, .ref q, 4, rfl, .inl ⟨q, xs, rfl, hq, _, rfl, ?_⟩⟩
  by_cases c4 : xs.length = 4
  rotate_left
  · rw [decide_eq_false c4]
    rw [ho, st4_len c4] at qq
    exact iteT (iteT (qq H (Same.refl H)))
  rw [decide_eq_true c4]
  refine iteF ?_
  refine ⟨_, rfl, q, rfl, ⟨_, SqT.of hq⟩, fun p hp => ?_⟩
  refine comp_tup (K := K) (a := q) (xs := xs) (fun i ys H2 => ys = (xs.take i).map (fun y => V.bl (who0 y)) ∧ Same H H2 ∧ H2 p = some (.lst ys)) ⟨rfl, same_new hp _, upd_same⟩ (fun i ys H2 _ h2 => SqT.of (h2.2.1 _ _ hq)) ?_ ?_
  · rintro i y ys H2 hi ⟨rfl, s2, e2⟩
    refine ttT ⟨_, rfl, y, rfl, (hy y (List.mem_of_getElem? hi)).mono s2, e2, ?_, (take_snoc (fun y => V.bl (who0 y)) hi).symm, same_over s2 hp _, upd_same⟩
    rw [List.length_map]
    have := List.length_take_le' i xs
    exact small (by omega)
  rintro ys H2 ⟨rfl, s2, e2⟩
  rw [List.take_length] at e2
  refine ⟨p, xs.map who0, rfl, SqL.of (by rw [e2, List.map_map]; rfl), _, rfl, ?_⟩
  have ea : (xs.map who0).all id = xs.all who0 := by
    rw [List.all_map]
    rfl
  rw [ea]
  have q2 := s2 _ _ hq
  cases hw : xs.all who0 with
  | false =>
    rw [ho, (st4_who c4).1 hw] at qq
    exact iteT (qq H2 s2)
  | true =>
    obtain ⟨r, rfl⟩ := (st4_who c4).2 hw
    rw [ho, st4_tv] at qq
    have qq' : ∀ b, okP r = b → Q (.bl b) H2 := fun b e => by rw [← e]; exact qq H2 s2
    have t2 := SqT.of (K := K) q2
    refine iteF ?_
    have no : okP r ≠ true → okP r = false := fun h => Bool.eq_false_iff.mpr h
    refine ⟨_, rfl, q, _, _, .int r.1, rfl, rfl, t2, rfl, _, _, rfl, rfl, _, rfl, ite2 (fun c => ?_) (fun c => ?_)⟩
    · have c' : r.1 < 0 := of_decide_eq_true c
      refine iteT (qq' false (no fun h => ?_))
      unfold okP at h
      simp only [Bool.and_eq_true, decide_eq_true_eq] at h
      omega
    have b1 : ¬ r.1 < 0 := fun e => c (decide_eq_true e)
    refine ⟨_, rfl, q, _, _, .int r.2.1, rfl, rfl, t2, rfl, _, _, rfl, rfl, _, rfl, ite2 (fun c => ?_) (fun c => ?_)⟩
    · have c' : r.2.1 < 1 := of_decide_eq_true c
      refine iteT (qq' false (no fun h => ?_))
      unfold okP at h
      simp only [Bool.and_eq_true, decide_eq_true_eq] at h
      omega
    have b2 : ¬ r.2.1 < 1 := fun e => c (decide_eq_true e)
    refine ⟨_, rfl, q, _, _, .int r.2.2.2, rfl, rfl, t2, rfl, _, _, rfl, rfl, _, rfl, ite2 (fun c => ?_) (fun c => ?_)⟩
    · have c' : r.2.2.2 < 0 := of_decide_eq_true c
      refine qq' false (no fun h => ?_)
      unfold okP at h
      simp only [Bool.and_eq_true, decide_eq_true_eq] at h
      omega
    have b3 : ¬ r.2.2.2 < 0 := fun e => c (decide_eq_true e)
    refine ⟨_, rfl, q, r, rfl, q2, _, _, rfl, rfl, _, rfl, ite2 (fun c => ?_) (fun c => ?_)⟩
    · have c' : 40 < r.1 + r.2.1 := of_decide_eq_true c
      refine iteT (qq' false (no fun h => ?_))
      unfold okP at h
      simp only [Bool.and_eq_true, decide_eq_true_eq] at h
      omega
    have b4 : ¬ 40 < r.1 + r.2.1 := fun e => c (decide_eq_true e)
    refine ⟨_, rfl, q, r, rfl, q2, _, _, rfl, rfl, _, rfl, ite2 (fun c => ?_) (fun c => ?_)⟩
    · have c' : 8 < r.2.2.2 + r.2.1 := of_decide_eq_true c
      refine qq' false (no fun h => ?_)
      unfold okP at h
      simp only [Bool.and_eq_true, decide_eq_true_eq] at h
      omega
    have b5 : ¬ 8 < r.2.2.2 + r.2.1 := fun e => c (decide_eq_true e)
    refine ⟨_, rfl, q, _, _, .int r.2.2.1, rfl, rfl, t2, rfl, .int r.2.2.1, rfl, Ty0.int _, qq' _ ?_⟩
    show okP r = (decide (2 ≤ r.2.2.1) && decide (r.2.2.1 ≤ 599))
    unfold okP
    rw [decide_eq_true (show 0 ≤ r.1 by omega), decide_eq_true (show 1 ≤ r.2.1 by omega), decide_eq_true (show 0 ≤ r.2.2.2 by omega), decide_eq_true (show r.1 + r.2.1 ≤ 40 by omega), decide_eq_true (show r.2.2.2 + r.2.1 ≤ 8 by omega)]
    rfl
/-! ### is_row -/
def spIsr : Sp := fun vs H Q _ => ∃ (x : V) (size : Int), vs = [x, .int size] ∧ ((∃ q ys os, x = .ref q ∧ H q = some (.tup ys) ∧ PartsO H ys os ∧ ys.length ≤ 100 ∧ ∀ H', Same H H' → Q (.bl (rowO os size)) H') ∨ (NotT H x ∧ Q (.bl false) H))
theorem scIsr : FnScope ["thing", "size", "ahead", "stretch"] ["thing", "size"] (defScope sIsr) := ⟨rfl, rfl, rfl, by decide +kernel, rfl, by decide +kernel, by decide +kernel⟩
theorem ok_Isr (F : Fun K "is_row" "is_row" sIsr f fd) (hIst : Has K mg "is_stretch" sIst ["thing"] fIst dIst) (GIst : FnOk P w K mg base CX0 4 fIst dIst ["thing"] spIst)
    (hEnd : Has K mg "end_of" sEnd ["stretch"] fEnd dEnd) (GEnd : FnOk P w K mg base CX0 1 fEnd dEnd ["stretch"] spEnd)
    (hGoe : Has K mg "goes_on" sGoe ["ahead", "stretch"] fGoe dGoe) (GGoe : FnOk P w K mg base CX0 2 fGoe dGoe ["ahead", "stretch"] spGoe) (T : Txt mg) : FnOk P w K mg base CX0 5 f fd ["thing", "size"] spIsr := by
  refine F.ok scIsr (fun vs H Q E h => ?_) (fun cdv A outer s H vs Q E hr h => ?_)
  · obtain ⟨x, size, rfl, _⟩ := h
    rfl
  obtain ⟨x, size, rfl, h⟩ := h
  obtain ⟨t1, at0⟩ := T.at0
  refine ⟨_, (pss_cons (ps_if (PW.pt (pw_or (pt_not (pt_val (pe_callB call_isinst rfl T.isi PyProof.Rows.boot_isinstance (pa_cons (pv 0) (pa_cons (pe_bltn (v := .ty "tuple") rfl T.tup PyProof.Rows.boot_tuple rfl) pa_nil))))) (pw_or1 (pt_not (pt_val (pe_callB (call_all hr.hd) rfl T.all PyProof.Rows.boot_all (pa_cons (pe_comp [] [] (pi_tup (pv 0)) (fun _ _ _ _ _ _ => pts_nil)
          (fun _ _ _ _ _ _ => (pe_call GIst (hr.mono (by decide)) rfl hIst.nm hIst.fn.kp hIst.bd .nil pass0 (pa_cons (pv 0) pa_nil)))
          rfl (by decide +kernel) (by decide +kernel) rfl (by decide +kernel) (fun _ _ z => nomatch z) rfl (by decide +kernel) rfl) pa_nil)))))))
    (pss_one (ps_ret pe_bl))
    pss_nil)
    (pss_cons (ps_for PassesOwn.never rfl (pi_zipT rfl T.zip (pa_cons (pv 0) (pa_cons (pe_slice sl_tupW (pv 0) (po_some pe_int) po_none) pa_nil))) (pg_tup rfl (pgs_cons (pg_name (i := 2) scIsr.nd rfl (Or.inl rfl)) (pgs_cons (pg_name (i := 3) scIsr.nd rfl (Or.inl rfl)) pgs_nil)))
    (pss_one (ps_if (PW.pt (pw_or (pt_cmpR op_gt (pe_call GEnd (hr.mono (by decide)) rfl hEnd.nm hEnd.fn.kp hEnd.bd .nil pass0 (pa_cons (pv 2) pa_nil)) (pe_ix ix_tup (pv 3) (pe_glob (v := .int 0) rfl at0 ⟨_, rfl⟩) (fun _ _ => rfl)) (nomark _)) (pw_or1 (pt_val (pe_call GGoe (hr.mono (by decide)) rfl hGoe.nm hGoe.fn.kp hGoe.bd .nil pass0 (pa_cons (pv 2) (pa_cons (pv 3) pa_nil)))))))
    (pss_one (ps_ret pe_bl))
    pss_nil)))
    (pss_one (ps_ret (pe_callB (call_all hr.hd) rfl T.all PyProof.Rows.boot_all (pa_cons (pe_comp [1] ["size"] (pi_tup (pv 0)) (fun _ _ _ _ _ _ => pts_nil)
          (fun _ _ _ _ _ _ => (pe_cmpR op_le (pe_call GEnd (hr.mono (by decide)) rfl hEnd.nm hEnd.fn.kp hEnd.bd .nil pass0 (pa_cons (pv 0) pa_nil)) (pv 1) (nomark _)))
          rfl (by decide +kernel) (by decide +kernel) rfl (by decide +kernel) (fun j y hj => by
            match j, hj with
            | 0, hj => cases hj; exact ⟨1, rfl, rfl, rfl, .inl rfl⟩) rfl (by decide +kernel) rfl) pa_nil)))))), ?_⟩
  rcases h with ⟨q, ys, os, rfl, hq, hP, hl, qq⟩ | ⟨hN, qq⟩
  rotate_left
  · obtain ⟨t, ty, k⟩ := hN.kit (K := K)
    exact ⟨_, rfl, x, _, t, false, rfl, ty, k, _, rfl, iteT (iteT qq)⟩
  have lo := hP.len
  refine ⟨_, rfl, _, _, _, true, rfl, .tup hq, kit_tt K, _, rfl, iteF ?_⟩
  refine ⟨_, rfl, q, rfl, ⟨_, SqT.of hq⟩, fun p hp => ?_⟩
  refine comp_tup (K := K) (a := q) (xs := ys) (fun i zs H2 => zs = ((os.take i).map (fun o => o.any okP)).map V.bl ∧ Same H H2 ∧ H2 p = some (.lst zs)) ⟨rfl, same_new hp _, upd_same⟩ (fun i zs H2 _ h2 => SqT.of (h2.2.1 _ _ hq)) ?_ ?_
  · rintro i y zs H2 hi ⟨rfl, s2, e2⟩
    obtain ⟨o, ho, hPo⟩ := hP.get hi
    refine ttT ⟨_, rfl, y, o, rfl, hPo.mono s2, fun H3 s3 => ⟨s3 _ _ e2, ?_, ?_, same_over (s2.trans s3) hp _, upd_same⟩⟩
    · rw [List.length_map, List.length_map]
      have := List.length_take_le' i os
      exact small (by omega)
    · rw [take_next ho, List.map_append, List.map_append]
      rfl
  rintro zs H2 ⟨rfl, s2, e2⟩
  rw [lo, List.take_length] at e2
  refine ⟨p, os.map (fun o => o.any okP), rfl, SqL.of e2, _, rfl, ?_⟩
  have ea : (os.map (fun o => o.any okP)).all id = os.all fun o => o.any okP := by
    rw [List.all_map]
    rfl
  rw [ea]
  cases hw : os.all fun o => o.any okP with
  | false =>
    rw [rowO_no hw] at qq
    exact iteT (qq H2 s2)
  | true =>
    refine iteF ?_
    obtain ⟨rs, h1, h2⟩ := allS_all hw
    have hT : TupsAt H ys (rs.map tv) := by
      rw [allS_eq h1] at hP
      exact hP.tups
    have er : rowO os size = (apart rs && rs.all fun r => decide (r.1 + r.2.1 ≤ size)) := by
      unfold rowO
      rw [h1]
      show isRowP rs size = _
      unfold isRowP
      rw [h2, Bool.true_and]
    rw [er] at qq
    have lr := row_len hT
    -- the loop
    refine ⟨_, rfl, _, rfl, _, rfl, q, ys, rfl, s2 _ _ hq, fun b H3 s3 hb => ?_⟩
    rw [cutV_one] at hb
    have s23 := s2.trans s3
    refine ⟨q, b, ys, ys.drop 1, rfl, SqT.of (s23 _ _ hq), SqT.of hb, for_zipT (K := K) (a := q) (b := b) (xs := ys) (ys := ys.drop 1) (fun i σ H4 => ∃ o2 o3, σ = [some (.ref q), some (.int size), o2, o3] ∧ Same H3 H4 ∧ ∀ (j : Nat) a b, j < i → rs[j]? = some a → rs[j + 1]? = some b → ¬ b.1 < a.1 + a.2.1 ∧ goOn a b = false) ⟨none, none, rfl, Same.refl _, fun j _ _ h => by omega⟩ (fun i σ H4 h => ?_) ?_ ?_⟩
    · obtain ⟨_, _, _, s4, _⟩ := h
      exact ⟨SqT.of (s4 _ _ (s23 _ _ hq)), SqT.of (s4 _ _ hb)⟩
    · rintro i x y t σ H4 hx hy ⟨o2, o3, rfl, s4, ok⟩ ht
      have sA := s23.trans s4
      rw [List.getElem?_drop, Nat.add_comm] at hy
      obtain ⟨r, q1, hr1, rfl, hq1⟩ := row_get (hT.mono sA) hx
      obtain ⟨r', q2, hr2, rfl, hq2⟩ := row_get (hT.mono sA) hy
      have s5 := same_new ht (HO.tup [V.ref q1, V.ref q2])
      have no : (¬ (¬ r'.1 < r.1 + r.2.1 ∧ goOn r r' = false)) → Q (.bl false) (upd H4 t (HO.tup [V.ref q1, V.ref q2])) := fun h => by
        have ap : apart rs = false := by
          rw [← Bool.not_eq_true, apart_iff]
          exact fun k => h (k i r r' hr1 hr2)
        have := qq _ (sA.trans s5)
        rw [ap] at this
        exact this
      refine ⟨t, _, rfl, SqT.of upd_same, rfl, _, _, rfl, _, _, rfl, rfl, ?_⟩
      refine ⟨_, rfl, q1, r, rfl, s5 _ _ hq1, _, rfl, q2, _, _, .int r'.1, rfl, rfl, SqT.of (s5 _ _ hq2), rfl, _, _, rfl, rfl, _, rfl, ite2 (fun c => ?_) (fun c => ?_)⟩
      · have c' : r'.1 < r.1 + r.2.1 := of_decide_eq_true c
        exact iteT (no fun h => h.1 c')
      have c' : ¬ r'.1 < r.1 + r.2.1 := fun e => c (decide_eq_true e)
      refine ⟨_, rfl, _, rfl, q1, q2, r, r', rfl, s5 _ _ hq1, s5 _ _ hq2, _, rfl, ?_⟩
      cases hg : goOn r r' with
      | true => exact iteT (no fun h => by rw [hg] at h; cases h.2)
      | false =>
        refine iteF ⟨_, _, rfl, s4.trans s5, fun j a b hj ha hb' => ?_⟩
        by_cases e : j = i
        · subst e
          rw [hr1] at ha
          rw [hr2] at hb'
          cases ha
          cases hb'
          exact ⟨c', hg⟩
        · exact ok j a b (by omega) ha hb'
    · rintro i σ H4 hi ⟨o2, o3, rfl, s4, ok⟩
      have sA := s23.trans s4
      have ap : apart rs = true := apart_iff.mpr fun j a b ha hb' => ok j a b (by
        have := (List.getElem?_eq_some_iff.mp hb').1
        rw [List.length_drop] at hi
        omega) ha hb'
      rw [ap, Bool.true_and] at qq
      have hqA := sA _ _ hq
      refine ⟨_, rfl, q, rfl, ⟨_, SqT.of hqA⟩, fun p3 hp3 => ?_⟩
      refine comp_tup (K := K) (a := q) (xs := ys) (fun i zs H5 => zs = ((rs.take i).map (fun r => decide (r.1 + r.2.1 ≤ size))).map V.bl ∧ Same H4 H5 ∧ H5 p3 = some (.lst zs)) ⟨rfl, same_new hp3 _, upd_same⟩ (fun i zs H5 _ h5 => SqT.of (h5.2.1 _ _ hqA)) ?_ ?_
      · rintro i y zs H5 hi' ⟨rfl, s5, e5⟩
        obtain ⟨r, q1, hr1, rfl, hq1⟩ := row_get (hT.mono (sA.trans s5)) hi'
        refine ttT ⟨_, rfl, q1, r, rfl, hq1, _, rfl, _, _, rfl, rfl, e5, ?_, ?_, same_over s5 hp3 _, upd_same⟩
        · rw [List.length_map, List.length_map]
          have := List.length_take_le' i rs
          exact small (by omega)
        · rw [take_next hr1, List.map_append, List.map_append]
          rfl
      · rintro zs H5 ⟨rfl, s5, e5⟩
        rw [lr, List.take_length] at e5
        refine ⟨p3, rs.map (fun r => decide (r.1 + r.2.1 ≤ size)), rfl, SqL.of e5, ?_⟩
        have ea2 : (rs.map (fun r => decide (r.1 + r.2.1 ≤ size))).all id = rs.all fun r => decide (r.1 + r.2.1 ≤ size) := by
          rw [List.all_map]
          rfl
        rw [ea2]
        exact qq H5 (sA.trans s5)
end
end K13
set_option maxHeartbeats 4000000
namespace K13
open PySem L2
section
variable {P : Program} {w : World} {K : PySem.W.Frag} {mg : Str → Option Value} {base : Heap} {f fStm fMap fRun fInr fLst : Addr} {fd dStm dMap dRun dInr dLst : FuncData}
theorem none_back {H H' : Hp} {l : Addr} (s : Same H H') (h : H' l = none) : H l = none := by
  cases e : H l with
  | none => rfl
  | some o => rw [s _ _ e] at h; cases h
/-! ### _law_cell_at -/
def spCel (K : PySem.W.Frag) : Sp := fun vs H Q _ => ∃ (a : Addr) (ns : List Int) (k : Int), vs = [.ref a, .int k] ∧ 0 ≤ k ∧ SqL K H a (ns.map V.int) ∧ ∀ z : Int, Q (.int z) H
theorem scCel : FnScope ["_law_script", "_law_k"] ["_law_script", "_law_k"] (defScope sCel) := ⟨rfl, rfl, rfl, by decide +kernel, rfl, by decide +kernel, by decide +kernel⟩
theorem ok_Cel (F : Fun K "_law_cell_at" "_law_cell_at" sCel f fd) (T : Txt mg) : FnOk P w K mg base CX0 1 f fd ["_law_script", "_law_k"] (spCel K) := by
  refine F.ok scCel (fun vs H Q E h => ?_) (fun cdv A outer s H vs Q E hr h => ?_)
  · obtain ⟨a, ns, k, rfl, _⟩ := h
    rfl
  obtain ⟨a, ns, k, rfl, h0, hS, q⟩ := h
  refine ⟨_, (pss_cons (ps_if (pt_cmpR op_lt (pv 1) (pe_callB call_len_seq rfl T.len PySem.boot_len (pa_cons (pv 0) pa_nil)) (nomark _))
    (pss_one (ps_ret (pe_ix ix_list (pv 0) (pv 1) (fun _ _ => rfl))))
    pss_nil)
    (pss_one (ps_ret pe_int))), ?_⟩
  refine ⟨_, rfl, _, rfl, a, _, rfl, .inl hS, _, _, rfl, rfl, _, rfl, ?_⟩
  refine ite2 (fun c => ?_) (fun c => ?_)
  · have c' : k < (((ns.map V.int).length : Nat) : Int) := of_decide_eq_true c
    rw [List.length_map] at c'
    obtain ⟨j, rfl⟩ := Int.eq_ofNat_of_zero_le h0
    have hk : j < ns.length := by omega
    exact ⟨_, rfl, _, rfl, a, _, _, .int ns[j], rfl, rfl, hS, atI_nat (by simp [hk]), q _⟩
  · exact q 0
/-! ### _law_stream -/
def spStm : Sp := fun vs H Q _ => ∃ (c n : Int), vs = [.int c, .int n] ∧ 0 ≤ n ∧ n ≤ 1000 ∧ ∀ p H' (ns : List Int), Same H H' → H p = none → H' p = some (.lst (ns.map V.int)) → ns.length = n.toNat → Q (.ref p) H'
theorem scStm : FnScope ["_law_cell", "_law_many", "_law_found", "_law_left", "_law_number", "_law_k"] ["_law_cell", "_law_many"] (defScope sStm) := ⟨rfl, rfl, rfl, by decide +kernel, rfl, by decide +kernel, by decide +kernel⟩
theorem ok_Stm (F : Fun K "_law_stream" "_law_stream" sStm f fd) (T : Txt mg) : FnOk P w K mg base CX0 1 f fd ["_law_cell", "_law_many"] spStm := by
  refine F.ok scStm (fun vs H Q E h => ?_) (fun cdv A outer s H vs Q E hr h => ?_)
  · obtain ⟨c, n, rfl, _⟩ := h
    rfl
  obtain ⟨c, n, rfl, n0, n1, qq⟩ := h
  refine ⟨_, (pss_cons (ps_set (i := 2) scStm.nd rfl (Or.inl rfl) (pe_lst pa_nil))
    (pss_cons (ps_set (i := 3) scStm.nd rfl (Or.inl rfl) (pe_op op_fdiv (pv 0) pe_int))
    (pss_cons (ps_set (i := 4) scStm.nd rfl (Or.inl rfl) (pe_op op_mod (pv 3) pe_int))
    (pss_cons (ps_for PassesOwn.never rfl (pi_range1 rfl T.rng (pa_cons (pv 1) pa_nil)) (pg_name (i := 5) scStm.nd rfl (Or.inl rfl))
    (pss_cons (ps_set (i := 4) scStm.nd rfl (Or.inl rfl) (pe_op op_mod (pe_op op_add (pe_op op_add (pe_op op_add (pe_op op_mul (pv 4) (pv 4)) (pe_op op_mul pe_int (pv 4))) (pe_op op_mul pe_int (pv 5))) pe_int) pe_int))
    (pss_cons (ps_expr (pe_bm PySem.F.plainAttrs_list PySem.F.slot_list_append PySem.F.type_list_append mt_append (pv 2) (pa_cons (pe_ix ix_list (pe_lst (pa_cons (pv 4) (pa_cons (pe_op op_mod (pv 3) pe_int) pa_nil))) (pe_op op_mod (pv 0) pe_int) (fun _ _ => rfl)) pa_nil)))
    (pss_one (ps_set (i := 3) scStm.nd rfl (Or.inl rfl) (pe_op op_fdiv (pv 3) pe_int))))))
    (pss_one (ps_ret (pv 2))))))), ?_⟩
  refine ⟨by decide, fun p hp => ?_⟩
  refine ⟨_, rfl, _, _, rfl, rfl, ⟨by decide, by decide⟩, ?_⟩
  refine ⟨_, rfl, _, _, rfl, rfl, (by show (0 : Int) < 2147483647; decide), ?_⟩
  have m0 : (0 : Int) ≤ c / 2 % 2147483647 := by omega
  have m1 : c / 2 % 2147483647 < 2147483647 := by omega
  dsimp only
  generalize c / 2 % 2147483647 = m at m0 m1
  generalize c / 2 = lf
  refine ⟨_, rfl, n, rfl, by omega, by omega, ?_⟩
  refine for_range (lo := 0) (n := n.toNat) (fun i σ H2 => ∃ (lf m : Int) (o : Option V) (ns : List Int), σ = [some (.int c), some (.int n), some (.ref p), some (.int lf), some (.int m), o] ∧ 0 ≤ m ∧ m < 2147483647 ∧ Same H H2 ∧ H2 p = some (.lst (ns.map V.int)) ∧ ns.length = i) ⟨lf, m, none, [], rfl, m0, m1, same_new hp _, upd_same, rfl⟩ ?_ ?_
  · rintro i σ H2 hi ⟨lf, m, o, ns, rfl, m0, m1, s2, e2, l2⟩
    have hi' : i < n.toNat := hi
    refine ⟨_, rfl, _, rfl, _, _, rfl, rfl, .inl ⟨by omega, by omega⟩, _, rfl, _, _, rfl, rfl, .inr ⟨by omega, by omega⟩, _, _, rfl, rfl, _, rfl, _, _, rfl, rfl, .inl ⟨by decide, by decide⟩, _, _, rfl, rfl, _, _, rfl, rfl, _, _, rfl, rfl, (by show (0 : Int) < 2147483647; decide), ?_⟩
    dsimp only
    generalize hm : (m * m + 48271 * m + 7919 * (0 + (i : Int)) + 11) % 2147483647 = m'
    have m0' : (0 : Int) ≤ m' := by omega
    have m1' : m' < 2147483647 := by omega
    refine ⟨_, rfl, .inl ⟨rfl, _, SqL.of e2⟩, _, rfl, _, rfl, _, _, rfl, rfl, (by show (0 : Int) < 1000003; decide), (by show 2 ≤ sizeLine; decide), fun pl hpl => ?_⟩
    have s3 := same_new hpl (HO.lst [V.int m', V.int (lf % 1000003)])
    refine ⟨_, rfl, _, _, rfl, rfl, (by show (0 : Int) < 2; decide), ?_⟩
    have e3 := s3 _ _ e2
    have fin : ∀ z : Int, ∃ (lf' m'' : Int) (o : Option V) (ns' : List Int), [some (V.int c), some (.int n), some (.ref p), some (.int (lf / 1000003)), some (.int m'), some (.int (0 + (i : Int)))] = [some (V.int c), some (.int n), some (.ref p), some (.int lf'), some (.int m''), o] ∧ 0 ≤ m'' ∧ m'' < 2147483647 ∧ Same H (upd (upd H2 pl (HO.lst [V.int m', V.int (lf % 1000003)])) p (.lst (ns.map V.int ++ [.int z]))) ∧ upd (upd H2 pl (HO.lst [V.int m', V.int (lf % 1000003)])) p (.lst (ns.map V.int ++ [.int z])) p = some (.lst (ns'.map V.int)) ∧ ns'.length = i + 1 := fun z =>
      ⟨_, _, _, ns ++ [z], rfl, m0', m1', same_over (s2.trans s3) hp _, by rw [upd_same, List.map_append]; rfl, by simp [l2]⟩
    have sm : (ns.map V.int).length < sizeLine := small (by rw [List.length_map]; omega)
    obtain e | e : c % 2 = 0 ∨ c % 2 = 1 := by omega
    · exact ⟨pl, _, _, .int m', rfl, rfl, SqL.of upd_same, (by rw [e]; rfl), p, _, _, rfl, rfl, e3, sm, _, rfl, _, _, rfl, rfl, ⟨by decide, by decide⟩, fin _⟩
    · exact ⟨pl, _, _, .int (lf % 1000003), rfl, rfl, SqL.of upd_same, (by rw [e]; rfl), p, _, _, rfl, rfl, e3, sm, _, rfl, _, _, rfl, rfl, ⟨by decide, by decide⟩, fin _⟩
  · rintro σ H2 ⟨lf, m, o, ns, rfl, m0, m1, s2, e2, l2⟩
    exact ⟨_, rfl, qq p H2 ns s2 hp e2 l2⟩
/-! ### _law_row -/
def spRow : Sp := fun vs H Q _ => ∃ (c size : Int), vs = [.int c, .int size] ∧ 0 ≤ size ∧ size ≤ 40 ∧ ∀ p H' (rs : List S4), Same H H' → H p = none → RowAt false H' p rs → rs.length ≤ 24 → Ord 0 rs size → (∀ r ∈ rs, GoodR r) → Q (.ref p) H'
theorem pick4 (n y : Int) (h : 0 ≤ y) : ∃ δ : Int, 0 ≤ δ ∧ atI [V.int 0, V.int 0, V.int 0, V.int y] (n % 4) = some (.int δ) := by
  obtain e | e | e | e : n % 4 = 0 ∨ n % 4 = 1 ∨ n % 4 = 2 ∨ n % 4 = 3 := by omega
  · rw [e]; exact ⟨0, Int.le_refl _, rfl⟩
  · rw [e]; exact ⟨0, Int.le_refl _, rfl⟩
  · rw [e]; exact ⟨0, Int.le_refl _, rfl⟩
  · rw [e]; exact ⟨y, h, rfl⟩
theorem scRow : FnScope ["_law_cell", "_law_size", "_law_row_here", "_law_at", "_law_number", "_law_place", "_law_skip", "_law_long"] ["_law_cell", "_law_size"] (defScope sRow) := ⟨rfl, rfl, rfl, by decide +kernel, rfl, by decide +kernel, by decide +kernel⟩
theorem ok_Row (F : Fun K "_law_row" "_law_row" sRow f fd) (hStm : Has K mg "_law_stream" sStm ["_law_cell", "_law_many"] fStm dStm) (GStm : FnOk P w K mg base CX0 1 fStm dStm ["_law_cell", "_law_many"] spStm) (T : Txt mg) : FnOk P w K mg base CX0 2 f fd ["_law_cell", "_law_size"] spRow := by
  refine F.ok scRow (fun vs H Q E h => ?_) (fun cdv A outer s H vs Q E hr h => ?_)
  · obtain ⟨c, size, rfl, _⟩ := h
    rfl
  obtain ⟨c, size, rfl, z0, z1, qq⟩ := h
  refine ⟨_, (pss_cons (ps_set (i := 2) scRow.nd rfl (Or.inl rfl) (pe_lst pa_nil))
    (pss_cons (ps_set (i := 3) scRow.nd rfl (Or.inl rfl) pe_int)
    (pss_cons (ps_for PassesOwn.never rfl (pi_list (pe_call GStm (hr.mono (by decide)) rfl hStm.nm hStm.fn.kp hStm.bd .nil pass0 (pa_cons (pv 0) (pa_cons pe_int pa_nil)))) (pg_name (i := 4) scRow.nd rfl (Or.inl rfl))
    (pss_cons (ps_set (i := 3) scRow.nd rfl (Or.inl rfl) (pe_op op_add (pv 3) (pe_ix ix_list (pe_lst (pa_cons pe_int (pa_cons pe_int (pa_cons pe_int (pa_cons (pe_op op_mod (pe_op op_fdiv (pv 4) pe_int) pe_int) pa_nil))))) (pe_op op_mod (pv 4) pe_int) (fun _ _ => rfl))))
    (pss_cons (ps_set (i := 5) scRow.nd rfl (Or.inl rfl) (pe_op op_add pe_int (pe_op op_mod (pe_op op_fdiv (pv 4) pe_int) pe_int)))
    (pss_cons (ps_set (i := 6) scRow.nd rfl (Or.inl rfl) (pe_op op_mod (pe_op op_fdiv (pv 4) pe_int) pe_int))
    (pss_cons (ps_if (PW.pt (pw_and (pt_cmpR (op_neE (hu_of hr |> Nat.lt_of_succ_lt)) (pv 2) (pe_lst pa_nil) (nomark _)) (pw_and (pt_cmpR op_eq (pe_op op_mod (pe_op op_fdiv (pv 4) pe_int) pe_int) pe_int (nomark _)) (pw_and1 (pt_cmpR op_lt (pe_op op_add (pe_ix ix_tup (pe_ix ix_list (pv 2) (pe_un un_neg pe_int) (fun _ _ => rfl)) pe_int (fun _ _ => rfl)) (pe_ix ix_tup (pe_ix ix_list (pv 2) (pe_un un_neg pe_int) (fun _ _ => rfl)) pe_int (fun _ _ => rfl))) pe_int (nomark _))))))
    (pss_cons (ps_set (i := 5) scRow.nd rfl (Or.inl rfl) (pe_ix ix_tup (pe_ix ix_list (pv 2) (pe_un un_neg pe_int) (fun _ _ => rfl)) pe_int (fun _ _ => rfl)))
    (pss_one (ps_set (i := 6) scRow.nd rfl (Or.inl rfl) (pe_op op_add (pe_ix ix_tup (pe_ix ix_list (pv 2) (pe_un un_neg pe_int) (fun _ _ => rfl)) pe_int (fun _ _ => rfl)) (pe_ix ix_tup (pe_ix ix_list (pv 2) (pe_un un_neg pe_int) (fun _ _ => rfl)) pe_int (fun _ _ => rfl))))))
    pss_nil)
    (pss_cons (ps_set (i := 7) scRow.nd rfl (Or.inl rfl) (pe_callB (call_min3 rfl) rfl T.min PyProof.Rows.boot_min (pa_cons (pe_op op_add pe_int (pe_op op_mod (pe_op op_fdiv (pv 4) pe_int) pe_int)) (pa_cons (pe_op op_sub pe_int (pv 6)) (pa_cons (pe_op op_sub (pv 1) (pv 3)) pa_nil)))))
    (pss_one (ps_if (pt_cmpR op_gt (pv 7) pe_int (nomark _))
    (pss_cons (ps_expr (pe_bm PySem.F.plainAttrs_list PySem.F.slot_list_append PySem.F.type_list_append mt_append (pv 2) (pa_cons (pe_tup (pa_cons (pv 3) (pa_cons (pv 7) (pa_cons (pv 5) (pa_cons (pv 6) pa_nil))))) pa_nil)))
    (pss_one (ps_set (i := 3) scRow.nd rfl (Or.inl rfl) (pe_op op_add (pv 3) (pv 7)))))
    pss_nil))))))))
    (pss_one (ps_ret (pv 2)))))), ?_⟩
  refine ⟨by decide, fun p hp => ?_⟩
  have s1 := same_new hp (HO.lst [])
  refine ⟨_, rfl, c, 24, rfl, by decide, by decide, fun ps H2 ns s2 hps e2 l2 => ?_⟩
  have nps : ps ≠ p := fun e => by rw [e, upd_same] at hps; cases hps
  refine ⟨ps, rfl, ⟨_, SqL.of e2⟩, for_list (K := K) (a := ps) (xs := ns.map V.int) (fun i σ H3 => ∃ (at' : Int) (o4 o5 o6 o7 : Option V) (rs : List S4) (zs : List V), σ = [some (.int c), some (.int size), some (.ref p), some (.int at'), o4, o5, o6, o7] ∧ Same H H3 ∧ H3 ps = some (.lst (ns.map V.int)) ∧ H3 p = some (.lst zs) ∧ TupsAt H3 zs (rs.map tv) ∧ rs.length ≤ i ∧ 0 ≤ at' ∧ Ord 0 rs at' ∧ Ord 0 rs size ∧ ∀ r ∈ rs, GoodR r)
    ⟨0, none, none, none, none, [], [], rfl, s1.trans s2, e2, s2 _ _ upd_same, trivial, Nat.le_refl _, Int.le_refl _, Int.le_refl _, z0, (fun r h => by cases h)⟩ (fun i σ H3 _ h3 => ?_) ?_ ?_⟩
  · obtain ⟨_, _, _, _, _, _, _, _, _, e3, _⟩ := h3
    exact SqL.of e3
  · rintro i x σ H3 hx ⟨at', o4, o5, o6, o7, rs, zs, rfl, s3, e3, e4, t4, lr, a0, od1, od2, gr⟩
    have hi : i < ns.length := by
      have := (List.getElem?_eq_some_iff.mp hx).1
      rwa [List.length_map] at this
    have l24 : ns.length = 24 := l2
    rw [List.getElem?_map] at hx
    obtain ⟨n, _, rfl⟩ := Option.map_eq_some_iff.mp hx
    obtain ⟨δ, d0, dd⟩ := pick4 n (n / 5 % 6) (by omega)
    refine ⟨_, rfl, _, rfl, _, _, rfl, rfl, ⟨by decide, by decide⟩, _, _, rfl, rfl, (by show (0 : Int) < 6; decide), (by show 4 ≤ sizeLine; decide), fun pl hpl => ?_⟩
    have s4 := same_new hpl (HO.lst [V.int 0, V.int 0, V.int 0, V.int (n / 5 % 6)])
    refine ⟨_, rfl, _, _, rfl, rfl, (by show (0 : Int) < 4; decide), pl, _, _, .int δ, rfl, rfl, SqL.of upd_same, dd, _, _, rfl, rfl, ?_⟩
    refine ⟨_, rfl, _, _, rfl, rfl, ⟨by decide, by decide⟩, _, _, rfl, rfl, (by show (0 : Int) < 4; decide), _, _, rfl, rfl, ?_⟩
    refine ⟨_, rfl, _, _, rfl, rfl, ⟨by decide, by decide⟩, _, _, rfl, rfl, (by show (0 : Int) < 8; decide), ?_⟩
    have a0' : 0 ≤ at' + δ := by omega
    have od1' := od1.up (show at' ≤ at' + δ by omega)
    dsimp only
    generalize at' + δ = at2 at a0' od1'
    have gp : 2 ≤ 2 + n / 64 % 4 ∧ 2 + n / 64 % 4 ≤ 5 := by omega
    have gk : 0 ≤ n / 256 % 8 ∧ n / 256 % 8 < 8 := by omega
    generalize 2 + n / 64 % 4 = pc at gp
    generalize n / 256 % 8 = sk at gk
    refine at_next ?_
    refine seq_in (if_rest (fun σ' H' => ∃ (pc sk : Int), σ' = [some (.int c), some (.int size), some (.ref p), some (.int at2), some (.int n), some (.int pc), some (.int sk), o7] ∧ Same H3 H' ∧ (2 ≤ pc ∧ pc ≤ 5) ∧ 0 ≤ sk ∧ sk < 8) (fun σ' H' hR => ?_) (fun go => ?_))
    · obtain ⟨pc, sk, rfl, s5, gp, gk⟩ := hR
      refine ⟨_, rfl, _, _, rfl, rfl, ⟨by decide, by decide⟩, _, _, rfl, rfl, (by show (0 : Int) < 8; decide), _, _, rfl, rfl, _, rfl, _, _, rfl, rfl, _, rfl, _, rfl, _, _, rfl, rfl, _, _, _, rfl, ?_⟩
      have hL : min (min (1 + n / 8192 % 8) (8 - sk)) (size - at2) ≤ size - at2 := Int.min_le_right _ _
      have hL8 : min (min (1 + n / 8192 % 8) (8 - sk)) (size - at2) ≤ 8 - sk := Int.le_trans (Int.min_le_left _ _) (Int.min_le_right _ _)
      dsimp only
      generalize min (min (1 + n / 8192 % 8) (8 - sk)) (size - at2) = L at hL hL8
      refine ⟨_, rfl, _, _, rfl, rfl, _, rfl, ?_⟩
      have lz := row_len t4
      refine ite2 (fun cc => ?_) (fun cc => ?_)
      · have cc' : (0 : Int) < L := of_decide_eq_true cc
        refine ⟨_, rfl, .inl ⟨rfl, _, SqL.of (s5 _ _ e4)⟩, _, rfl, _, rfl, _, rfl, _, rfl, (by show 4 ≤ sizeLine; decide), fun q2 hq2 => ?_⟩
        have s6 := s5.trans (same_new hq2 (HO.tup (tv (at2, L, pc, sk))))
        have e6 := s6 _ _ e4
        refine ⟨p, zs, _, rfl, rfl, e6, small (by omega), ?_⟩
        refine ⟨_, rfl, _, rfl, _, _, rfl, rfl, ?_⟩
        refine ⟨_, _, _, _, _, rs ++ [(at2, L, pc, sk)], _, rfl, same_over (s3.trans s6) hp _, by rw [upd_ne nps]; exact s6 _ _ e3, upd_same, ?_, by simp; omega, by omega, od1'.snoc (Int.le_refl _) cc' (Int.le_refl _), od1'.snoc (Int.le_refl _) cc' (by show at2 + L ≤ size; omega), fun r hr2 => ?_⟩
        · rw [List.map_append]
          exact ((t4.mono s6).snoc upd_same).upd (lst_ne e6)
        · rcases List.mem_append.mp hr2 with m | m
          · exact gr r m
          · obtain rfl : r = (at2, L, pc, sk) := by simpa using m
            exact ⟨gp.1, gp.2, gk.1, by show sk + L ≤ 8; omega⟩
      · exact ⟨_, _, _, _, _, rs, zs, rfl, s3.trans s5, s5 _ _ e3, s5 _ _ e4, t4.mono s5, by omega, a0', od1', od2, gr⟩
    · have e4' := s4 _ _ e4
      refine ⟨_, rfl, by decide, fun pe hpe => ?_⟩
      have s5 := s4.trans (same_new hpe (HO.lst []))
      refine ⟨p, pe, _, rfl, rfl, SqL.of (s5 _ _ e4), SqL.of upd_same, _, rfl, ?_⟩
      have out : ∀ (pc sk : Int), (2 ≤ pc ∧ pc ≤ 5) → (0 ≤ sk ∧ sk < 8) → ∃ (pc' sk' : Int), [some (V.int c), some (.int size), some (.ref p), some (.int at2), some (.int n), some (.int pc), some (.int sk), o7] = [some (V.int c), some (.int size), some (.ref p), some (.int at2), some (.int n), some (.int pc'), some (.int sk'), o7] ∧ Same H3 (upd (upd H3 pl (HO.lst [V.int 0, V.int 0, V.int 0, V.int (n / 5 % 6)])) pe (HO.lst [])) ∧ (2 ≤ pc' ∧ pc' ≤ 5) ∧ 0 ≤ sk' ∧ sk' < 8 := fun pc sk h1 h2 => ⟨pc, sk, rfl, s5, h1, h2⟩
      rcases List.eq_nil_or_concat rs with eg | ⟨r0, z, eg⟩
      · rw [eg] at t4
        have : zs = [] := by
          cases zs with
          | nil => rfl
          | cons => exact t4.elim
        subst this
        exact iteF (iteF (go _ _ (out _ _ gp gk)))
      · have mz : z ∈ rs := by rw [eg, List.concat_eq_append]; simp
        have gz := gr z mz
        rw [eg, List.concat_eq_append, List.map_append] at t4
        obtain ⟨zs0, qz, rfl, t5, e5⟩ := TupsAt.last (ts := r0.map tv) (t := tv z) t4
        have ne : decide (zs0 ++ [V.ref qz] ≠ []) = true := decide_eq_true (by simp)
        rw [ne]
        refine iteT ?_
        refine ⟨_, rfl, _, _, rfl, rfl, ⟨by decide, by decide⟩, _, _, rfl, rfl, (by show (0 : Int) < 3; decide), rfl, _, rfl, ite2 (fun c1 => ?_) (fun c1 => ?_)⟩
        · have lp := SqL.of (K := K) (s5 _ _ e4)
          have lq := SqT.of (K := K) (s5 _ _ e5)
          refine ⟨_, rfl, _, rfl, p, _, _, .ref qz, rfl, rfl, lp, atI_last _ _, qz, _, _, .int z.2.2.2, rfl, rfl, lq, rfl, _, rfl, _, rfl, p, _, _, .ref qz, rfl, rfl, lp, atI_last _ _, qz, _, _, .int z.2.1, rfl, rfl, lq, rfl, _, _, rfl, rfl, _, _, rfl, rfl, _, rfl, ite2 (fun c2 => ?_) (fun c2 => ?_)⟩
          · refine ⟨_, rfl, _, rfl, p, _, _, .ref qz, rfl, rfl, lp, atI_last _ _, qz, _, _, .int z.2.2.1, rfl, rfl, lq, rfl, ?_⟩
            refine ⟨_, rfl, _, rfl, p, _, _, .ref qz, rfl, rfl, lp, atI_last _ _, qz, _, _, .int z.2.2.2, rfl, rfl, lq, rfl, _, rfl, _, rfl, p, _, _, .ref qz, rfl, rfl, lp, atI_last _ _, qz, _, _, .int z.2.1, rfl, rfl, lq, rfl, _, _, rfl, rfl, go _ _ (out _ _ ⟨gz.1, gz.2.1⟩ ⟨?_, of_decide_eq_true c2⟩)⟩
            have l0 := (od1.mem mz).2.1
            have s0 := gz.2.2.1
            omega
          · exact go _ _ (out _ _ gp gk)
        · exact iteF (go _ _ (out _ _ gp gk))
  · rintro σ H3 ⟨at', o4, o5, o6, o7, rs, zs, rfl, s3, e3, e4, t4, lr, a0, od1, od2, gr⟩
    rw [List.length_map, l2] at lr
    exact ⟨_, rfl, qq p H3 rs s3 hp ⟨zs, e4, t4⟩ lr od2 gr⟩
/-! ### _law_map -/
theorem ord_at : ∀ {rs : List S4} {lo hi : Int} {i : Nat} {r : S4}, Ord lo rs hi → rs[i]? = some r → Ord lo (rs.take i) r.1
  | [], _, _, _, _, _, e => by simp at e
  | q :: t, lo, hi, 0, r, h, e => by
    rw [List.getElem?_cons_zero] at e
    cases e
    exact h.1
  | q :: t, lo, hi, i + 1, r, h, e => by
    rw [List.getElem?_cons_succ] at e
    exact ⟨h.1, h.2.1, ord_at h.2.2 e⟩
def cellsN (r : S4) (j : Nat) : List C3 := (List.range j).map fun i => (r.1 + (i : Nat), r.2.2.1, r.2.2.2 + (i : Nat))
theorem cellsN_succ (r : S4) (j : Nat) : cellsN r (j + 1) = cellsN r j ++ [(r.1 + (j : Nat), r.2.2.1, r.2.2.2 + (j : Nat))] := by
  unfold cellsN
  rw [List.range_succ, List.map_append]
  rfl
theorem cellsN_mem {r : S4} {j : Nat} {c : C3} (h : c ∈ cellsN r j) : c.1 < r.1 + (j : Nat) := by
  unfold cellsN at h
  obtain ⟨i, hi, rfl⟩ := List.mem_map.mp h
  have := List.mem_range.mp hi
  simp only
  omega
def spMap : Sp := fun vs H Q _ => ∃ (a : Addr) (tu : Bool) (rs : List S4), vs = [.ref a] ∧ RowAt tu H a rs ∧ rs.length ≤ 1000 ∧ Ord 0 rs 40 ∧ ∀ d H', Same H H' → H d = none → MapAt H' d (cellsR rs) → Q (.ref d) H'
theorem scMap : FnScope ["_law_row_here", "_law_known", "_law_at", "_law_long", "_law_place", "_law_skip", "_law_k"] ["_law_row_here"] (defScope sMap) := ⟨rfl, rfl, rfl, by decide +kernel, rfl, by decide +kernel, by decide +kernel⟩
theorem ok_Map (F : Fun K "_law_map" "_law_map" sMap f fd) (T : Txt mg) : FnOk P w K mg base CX0 1 f fd ["_law_row_here"] spMap := by
  refine F.ok scMap (fun vs H Q E h => ?_) (fun cdv A outer s H vs Q E hr h => ?_)
  · obtain ⟨a, tu, rs, rfl, _⟩ := h
    rfl
  obtain ⟨a, tu, rs, rfl, ⟨ys, ha, hT⟩, hn, ho, qq⟩ := h
  have hu := hu_of hr
  refine ⟨_, (pss_cons (ps_set (i := 1) scMap.nd rfl (Or.inl rfl) pe_dnewK)
    (pss_cons (ps_for PassesOwn.never rfl (pi_seq (pv 0)) (pg_tup rfl (pgs_cons (pg_name (i := 2) scMap.nd rfl (Or.inl rfl)) (pgs_cons (pg_name (i := 3) scMap.nd rfl (Or.inl rfl)) (pgs_cons (pg_name (i := 4) scMap.nd rfl (Or.inl rfl)) (pgs_cons (pg_name (i := 5) scMap.nd rfl (Or.inl rfl)) pgs_nil)))))
    (pss_one (ps_for PassesOwn.never rfl (pi_range1 rfl T.rng (pa_cons (pv 3) pa_nil)) (pg_name (i := 6) scMap.nd rfl (Or.inl rfl))
    (pss_one (ps_dput hu (pv 1) (pe_op op_add (pv 2) (pv 6)) (pe_tup (pa_cons (pv 4) (pa_cons (pe_op op_add (pv 5) (pv 6)) pa_nil))) rfl)))))
    (pss_one (ps_ret (pv 1))))), ?_⟩
  intro d hd
  have s1 := same_new hd (HO.dK [])
  have ly := row_len hT
  refine ⟨_, rfl, a, tu, rfl, ⟨_, Sq.of (s1 _ _ ha)⟩, for_seq (K := K) (tu := tu) (a := a) (xs := ys) (fun i σ H2 => ∃ (o2 o3 o4 o5 o6 : Option V) (kvs : List (Key × V)), σ = [some (.ref a), some (.ref d), o2, o3, o4, o5, o6] ∧ Same H H2 ∧ H2 d = some (.dK kvs) ∧ KvAt H2 kvs (cellsR (rs.take i))) ⟨none, none, none, none, none, [], rfl, s1, upd_same, trivial⟩ (fun i σ H2 _ h2 => ?_) ?_ ?_⟩
  · obtain ⟨_, _, _, _, _, _, _, s2, _⟩ := h2
    exact Sq.of (s2 _ _ ha)
  · rintro i x σ H2 hx ⟨o2, o3, o4, o5, o6, kvs, rfl, s2, e2, k2⟩
    obtain ⟨r, q, hr', rfl, hq⟩ := row_get (hT.mono s2) hx
    obtain ⟨b1, b2, b3⟩ := ho.mem (List.mem_of_getElem? hr')
    have oi := ord_at ho hr'
    have lc := cellsR_len oi
    refine ⟨q, _, rfl, SqT.of hq, rfl, _, _, rfl, _, _, rfl, _, _, rfl, _, _, rfl, rfl, ?_⟩
    refine ⟨_, rfl, r.2.1, rfl, by omega, by omega, ?_⟩
    refine for_range (lo := 0) (n := r.2.1.toNat) (fun j σ H3 => ∃ (o6 : Option V) (kvs : List (Key × V)), σ = [some (.ref a), some (.ref d), some (.int r.1), some (.int r.2.1), some (.int r.2.2.1), some (.int r.2.2.2), o6] ∧ Same H H3 ∧ H3 d = some (.dK kvs) ∧ KvAt H3 kvs (cellsR (rs.take i) ++ cellsN r j)) ⟨_, kvs, rfl, s2, e2, ?_⟩ ?_ ?_
    · have : cellsR (rs.take i) ++ cellsN r 0 = cellsR (rs.take i) := by
        show cellsR (rs.take i) ++ [] = _
        simp
      rw [this]
      exact k2
    · rintro j σ H3 hj ⟨o6, kvs, rfl, s3, e3, k3⟩
      have hj' : j < r.2.1.toNat := hj
      have z0 : (0 : Int) + (j : Int) = (j : Int) := by omega
      have l3 := k3.len
      rw [List.length_append] at l3
      have ln : (cellsN r j).length = j := by unfold cellsN; simp
      have nk : valV kvs (.inl (r.1 + (0 + (j : Int)))) = none := k3.none fun c hc => by
        rcases List.mem_append.mp hc with h | h
        · have := cellsR_mem oi h
          omega
        · have := cellsN_mem h
          omega
      refine ⟨_, rfl, _, rfl, _, rfl, _, _, rfl, rfl, (by show 2 ≤ sizeLine; decide), fun t ht => ?_⟩
      have s4 := same_new ht (HO.tup [V.int r.2.2.1, V.int (r.2.2.2 + (0 + (j : Int)))])
      have e4 := s4 _ _ e3
      refine ⟨_, rfl, _, rfl, _, rfl, _, _, rfl, rfl, d, _, rfl, DPut.k (k := .inl (r.1 + (0 + (j : Int)))) e4 (small (by omega)), _, _, rfl, same_over (s3.trans s4) hd _, upd_same, ?_⟩
      rw [putK_new _ nk, cellsN_succ, ← List.append_assoc]
      refine (KvAt.app (kvs2 := [((.inl (r.1 + (0 + (j : Int))) : Key), V.ref t)]) (m2 := [(r.1 + (j : Int), r.2.2.1, r.2.2.2 + (j : Int))]) ⟨?_, ⟨t, rfl, ?_⟩, trivial⟩ (k3.mono s4)).upd (dk_ne e4)
      · show (Sum.inl (r.1 + (0 + (j : Int))) : Key) = Sum.inl (r.1 + (j : Int))
        rw [z0]
      · rw [upd_same, z0]
    · rintro σ H3 ⟨o6, kvs, rfl, s3, e3, k3⟩
      refine ⟨_, _, _, _, _, kvs, rfl, s3, e3, ?_⟩
      rw [take_next hr', cellsR_snoc]
      exact k3
  · rintro σ H2 ⟨o2, o3, o4, o5, o6, kvs, rfl, s2, e2, k2⟩
    rw [ly, List.take_length] at k2
    exact ⟨_, rfl, qq d H2 s2 hd ⟨kvs, e2, k2⟩⟩
/-! ### _law_runs -/
theorem rd_last {σ : St} {H : Hp} {Q : VK} {i : Nat} {p qz : Addr} {zs0 : List V} {t : List V} {j : Int} {v : V} (h1 : σ[i]? = some (some (.ref p))) (h2 : SqL K H p (zs0 ++ [.ref qz])) (h3 : SqT K H qz t) (h4 : atI t j = some v) (q : Q v H) :
    tOp (rIxT K) (tOp (rIxL K) (tVar i) (tUn (rU fun i => .int (-i)) (tC (.int 1)))) (tC (.int j)) σ H Q := ⟨_, h1, _, rfl, p, _, _, .ref qz, rfl, rfl, h2, atI_last _ _, qz, _, _, v, rfl, rfl, h3, h4, q⟩
def spRun : Sp := fun vs H Q _ => ∃ (d : Addr) (m : List C3), vs = [.ref d] ∧ MapAt H d m ∧ RiseC m ∧ m.length < 64 ∧ ∀ p H', Same H H' → H p = none → RowAt false H' p (runsP m) → Q (.ref p) H'
theorem runs_snoc (m : List C3) (c : C3) : runsP (m ++ [c]) = rstep (runsP m) c := by
  unfold runsP
  rw [List.foldl_append]
  rfl
theorem rstep_len (g : List S4) (c : C3) : (rstep g c).length ≤ g.length + 1 := by
  rcases List.eq_nil_or_concat g with rfl | ⟨g0, z, rfl⟩
  · rw [rstep_nil]; simp
  · rw [List.concat_eq_append]
    cases h : goOn z (c.1, 1, c.2.1, c.2.2) with
    | true => rw [rstep_on h]; simp
    | false => rw [rstep_off h]; simp
theorem runs_len : ∀ (m : List C3) (g : List S4), (m.foldl rstep g).length ≤ g.length + m.length
  | [], g => Nat.le_refl _
  | c :: m, g => by
    have := runs_len m (rstep g c)
    have := rstep_len g c
    rw [List.foldl_cons, List.length_cons]
    omega
theorem scRun : FnScope ["_law_known", "_law_row_here", "_law_at", "_law_place", "_law_skip"] ["_law_known"] (defScope sRun) := ⟨rfl, rfl, rfl, by decide +kernel, rfl, by decide +kernel, by decide +kernel⟩
theorem ok_Run (F : Fun K "_law_runs" "_law_runs" sRun f fd) (T : Txt mg) : FnOk P w K mg base CX0 1 f fd ["_law_known"] spRun := by
  refine F.ok scRun (fun vs H Q E h => ?_) (fun cdv A outer s H vs Q E hr h => ?_)
  · obtain ⟨d, m, rfl, _⟩ := h
    rfl
  obtain ⟨d, m, rfl, ⟨kvs, hd, hk⟩, hm, h64, qq⟩ := h
  have hu := hu_of hr
  refine ⟨_, (pss_cons (ps_set (i := 1) scRun.nd rfl (Or.inl rfl) (pe_lst pa_nil))
    (pss_cons (ps_for PassesOwn.never rfl (pi_list (pe_callB (call_sortedK rfl) rfl T.srt PyProof.Rows.boot_sorted (pa_cons (pv 0) pa_nil))) (pg_name (i := 2) scRun.nd rfl (Or.inl rfl))
    (pss_cons (ps_asg (pe_dget hu (pv 0) (pv 2) (fun _ _ => rfl)) (pg_tup rfl (pgs_cons (pg_name (i := 3) scRun.nd rfl (Or.inl rfl)) (pgs_cons (pg_name (i := 4) scRun.nd rfl (Or.inl rfl)) pgs_nil))))
    (pss_one (ps_if (PW.pt (pw_and (pt_cmpR (op_neE (hu_of hr |> Nat.lt_of_succ_lt)) (pv 1) (pe_lst pa_nil) (nomark _)) (pw_and (pt_cmpR op_eq (pe_op op_add (pe_ix ix_tup (pe_ix ix_list (pv 1) (pe_un un_neg pe_int) (fun _ _ => rfl)) pe_int (fun _ _ => rfl)) (pe_ix ix_tup (pe_ix ix_list (pv 1) (pe_un un_neg pe_int) (fun _ _ => rfl)) pe_int (fun _ _ => rfl))) (pv 2) (nomark _)) (pw_and (pt_cmpR op_eq (pe_ix ix_tup (pe_ix ix_list (pv 1) (pe_un un_neg pe_int) (fun _ _ => rfl)) pe_int (fun _ _ => rfl)) (pv 3) (nomark _)) (pw_and1 (pt_cmpR op_eq (pe_op op_add (pe_ix ix_tup (pe_ix ix_list (pv 1) (pe_un un_neg pe_int) (fun _ _ => rfl)) pe_int (fun _ _ => rfl)) (pe_ix ix_tup (pe_ix ix_list (pv 1) (pe_un un_neg pe_int) (fun _ _ => rfl)) pe_int (fun _ _ => rfl))) (pv 4) (nomark _)))))))
    (pss_one (ps_asg (pe_tup (pa_cons (pe_ix ix_tup (pe_ix ix_list (pv 1) (pe_un un_neg pe_int) (fun _ _ => rfl)) pe_int (fun _ _ => rfl)) (pa_cons (pe_op op_add (pe_ix ix_tup (pe_ix ix_list (pv 1) (pe_un un_neg pe_int) (fun _ _ => rfl)) pe_int (fun _ _ => rfl)) pe_int) (pa_cons (pv 3) (pa_cons (pe_ix ix_tup (pe_ix ix_list (pv 1) (pe_un un_neg pe_int) (fun _ _ => rfl)) pe_int (fun _ _ => rfl)) pa_nil))))) (pg_sub (pv 1) (pe_un un_neg pe_int) set_list)))
    (pss_one (ps_expr (pe_bm PySem.F.plainAttrs_list PySem.F.slot_list_append PySem.F.type_list_append mt_append (pv 1) (pa_cons (pe_tup (pa_cons (pv 2) (pa_cons pe_int (pa_cons (pv 3) (pa_cons (pv 4) pa_nil))))) pa_nil))))))))
    (pss_one (ps_ret (pv 1))))), ?_⟩
  refine ⟨by decide, fun p hp => ?_⟩
  have s1 := same_new hp (HO.lst [])
  refine ⟨_, rfl, d, kvs, m.map (·.1), rfl, s1 _ _ hd, hk.keys, by rw [List.length_map]; exact h64, fun l ms hpm hle hl => ?_⟩
  have em : ms = m.map (·.1) := perm_rise hpm hle (by rw [List.pairwise_map]; exact hm)
  have s2 := same_new hl (HO.lst (ms.map V.int))
  have npl : l ≠ p := fun e => by rw [e, upd_same] at hl; cases hl
  have sA := s1.trans s2
  refine ⟨l, rfl, ⟨_, SqL.of upd_same⟩, for_list (K := K) (a := l) (xs := ms.map V.int) (fun i σ H3 => ∃ (o2 o3 o4 : Option V) (zs : List V), σ = [some (.ref d), some (.ref p), o2, o3, o4] ∧ Same H H3 ∧ H3 l = some (.lst (ms.map V.int)) ∧ H3 p = some (.lst zs) ∧ TupsAt H3 zs ((runsP (m.take i)).map tv))
    ⟨none, none, none, [], rfl, sA, upd_same, s2 _ _ upd_same, trivial⟩ (fun i σ H3 _ h3 => ?_) ?_ ?_⟩
  · obtain ⟨_, _, _, _, _, _, e3, _⟩ := h3
    exact SqL.of e3
  · rintro i x σ H3 hx ⟨o2, o3, o4, zs, rfl, s3, e3, e4, t4⟩
    obtain ⟨c, hc, rfl⟩ : ∃ c : C3, m[i]? = some c ∧ x = V.int c.1 := by
      rw [em, List.getElem?_map, List.getElem?_map] at hx
      cases hm' : m[i]? with
      | none => rw [hm'] at hx; cases hx
      | some c => rw [hm'] at hx; cases hx; exact ⟨c, rfl, rfl⟩
    obtain ⟨q, hv, hq⟩ := (hk.mono s3).get hm hc
    have tn : runsP (m.take (i + 1)) = rstep (runsP (m.take i)) c := by rw [take_next hc, runs_snoc]
    have lz := row_len t4
    have lz2 := runs_len (m.take i) []
    have lz3 := List.length_take_le' i m
    have lz4 : (runsP (m.take i)).length ≤ m.length := by
      unfold runsP
      simp at lz2 ⊢
      omega
    rw [tn]
    refine at_next ?_
    have g1 : DGet H3 d (V.int c.1) (some (.ref q)) := by
      have := DGet.k (k := .inl c.1) (s3 _ _ hd)
      rw [hv] at this
      exact this
    refine ⟨_, rfl, _, rfl, d, _, rfl, g1, q, _, rfl, SqT.of hq, rfl, _, _, rfl, _, _, rfl, rfl, ?_⟩
    refine ⟨_, rfl, by decide, fun pe hpe => ?_⟩
    have s5 := same_new hpe (HO.lst [])
    have e5 := s5 _ _ e4
    refine ⟨p, pe, _, rfl, rfl, SqL.of e5, SqL.of upd_same, _, rfl, ?_⟩
    -- an appended run
    have app : rstep (runsP (m.take i)) c = runsP (m.take i) ++ [(c.1, 1, c.2.1, c.2.2)] → ∀ q2, upd H3 pe (HO.lst []) q2 = none → ∃ (o2 o3 o4 : Option V) (zs' : List V), [some (V.ref d), some (.ref p), some (.int c.1), some (.int c.2.1), some (.int c.2.2)] = [some (V.ref d), some (.ref p), o2, o3, o4] ∧ Same H (upd (upd (upd H3 pe (HO.lst [])) q2 (HO.tup [.int c.1, .int 1, .int c.2.1, .int c.2.2])) p (.lst (zs ++ [.ref q2]))) ∧ upd (upd (upd H3 pe (HO.lst [])) q2 (HO.tup [.int c.1, .int 1, .int c.2.1, .int c.2.2])) p (.lst (zs ++ [.ref q2])) l = some (.lst (ms.map V.int)) ∧ upd (upd (upd H3 pe (HO.lst [])) q2 (HO.tup [.int c.1, .int 1, .int c.2.1, .int c.2.2])) p (.lst (zs ++ [.ref q2])) p = some (.lst zs') ∧ TupsAt (upd (upd (upd H3 pe (HO.lst [])) q2 (HO.tup [.int c.1, .int 1, .int c.2.1, .int c.2.2])) p (.lst (zs ++ [.ref q2]))) zs' ((rstep (runsP (m.take i)) c).map tv) := by
      intro eg q2 hq2
      have s6 := s5.trans (same_new hq2 (HO.tup [.int c.1, .int 1, .int c.2.1, .int c.2.2]))
      refine ⟨_, _, _, _, rfl, same_over (s3.trans s6) hp _, by rw [upd_ne npl]; exact s6 _ _ e3, upd_same, ?_⟩
      rw [eg, List.map_append]
      exact ((t4.mono s6).snoc upd_same).upd (lst_ne (s6 _ _ e4))
    have els : rstep (runsP (m.take i)) c = runsP (m.take i) ++ [(c.1, 1, c.2.1, c.2.2)] → _ := fun eg => (⟨_, rfl, .inl ⟨rfl, _, SqL.of e5⟩, _, rfl, _, rfl, _, rfl, (by show 4 ≤ sizeLine; decide), fun q2 hq2 => ⟨p, zs, _, rfl, rfl, (same_new hq2 _) _ _ e5, small (by omega), app eg q2 hq2⟩⟩ : tDrop (tBM K "list" rAppend (tVar 1) (tCons (tTup (tCons (tVar 2) (tCons (tC (.int 1)) (tCons (tVar 3) (tCons (tVar 4) tNil))))) tNil)) { nx := fun σ H3 => ∃ (o2 o3 o4 : Option V) (zs : List V), σ = [some (.ref d), some (.ref p), o2, o3, o4] ∧ Same H H3 ∧ H3 l = some (.lst (ms.map V.int)) ∧ H3 p = some (.lst zs) ∧ TupsAt H3 zs ((rstep (runsP (m.take i)) c).map tv), rt := Q } [some (.ref d), some (.ref p), some (.int c.1), some (.int c.2.1), some (.int c.2.2)] (upd H3 pe (HO.lst [])))
    rcases List.eq_nil_or_concat (runsP (m.take i)) with eg | ⟨g0, z, eg⟩
    · rw [eg] at t4
      have : zs = [] := by
        cases zs with
        | nil => rfl
        | cons => exact t4.elim
      subst this
      exact iteF (iteF (els (by rw [eg]; rfl)))
    · rw [List.concat_eq_append] at eg
      rw [eg, List.map_append] at t4
      obtain ⟨zs0, qz, rfl, t6, e6⟩ := TupsAt.last (ts := g0.map tv) (t := tv z) t4
      have ne : decide (zs0 ++ [V.ref qz] ≠ []) = true := decide_eq_true (by simp)
      rw [ne]
      refine iteT ?_
      have lp := SqL.of (K := K) e5
      have lq := SqT.of (K := K) (s5 _ _ e6)
      have off : goOn z (c.1, 1, c.2.1, c.2.2) = false → rstep (runsP (m.take i)) c = runsP (m.take i) ++ [(c.1, 1, c.2.1, c.2.2)] := fun h => by rw [eg, rstep_off h]
      refine rd_last (zs0 := zs0) rfl lp lq (v := .int z.1) rfl (rd_last (zs0 := zs0) rfl lp lq (v := .int z.2.1) rfl ⟨_, _, rfl, rfl, _, rfl, rfl, _, rfl, ?_⟩)
      dsimp only
      rw [dec_int]
      refine ite2 (fun c1 => ?_) (fun c1 => ?_)
      rotate_left
      · refine iteF (els (off ?_))
        unfold goOn
        rw [decide_eq_false (fun e => c1 (decide_eq_true e))]
        rfl
      have c1' := of_decide_eq_true c1
      refine rd_last (zs0 := zs0) rfl lp lq (v := .int z.2.2.1) rfl ⟨_, rfl, rfl, _, rfl, ?_⟩
      dsimp only
      rw [dec_int]
      refine ite2 (fun c2 => ?_) (fun c2 => ?_)
      rotate_left
      · refine iteF (els (off ?_))
        unfold goOn
        rw [show decide (z.2.2.1 = c.2.1) = false from decide_eq_false (fun e => c2 (decide_eq_true e)), Bool.and_false]
        rfl
      have c2' := of_decide_eq_true c2
      refine rd_last (zs0 := zs0) rfl lp lq (v := .int z.2.2.2) rfl (rd_last (zs0 := zs0) rfl lp lq (v := .int z.2.1) rfl ⟨_, _, rfl, rfl, _, rfl, rfl, _, rfl, ?_⟩)
      dsimp only
      rw [dec_int]
      refine ite2 (fun c3 => ?_) (fun c3 => ?_)
      rotate_left
      · refine els (off ?_)
        unfold goOn
        rw [show decide (z.2.2.2 + z.2.1 = c.2.2) = false from decide_eq_false (fun e => c3 (decide_eq_true e)), Bool.and_false]
      have c3' := of_decide_eq_true c3
      have on : goOn z (c.1, 1, c.2.1, c.2.2) = true := goOn_iff.mpr ⟨c1', c2', c3'⟩
      refine rd_last (zs0 := zs0) rfl lp lq (v := .int z.1) rfl (rd_last (zs0 := zs0) rfl lp lq (v := .int z.2.1) rfl ⟨_, _, rfl, rfl, _, rfl, rd_last (zs0 := zs0) rfl lp lq (v := .int z.2.2.2) rfl ⟨(by show 4 ≤ sizeLine; decide), fun q2 hq2 => ?_⟩⟩)
      have s6 := s5.trans (same_new hq2 (HO.tup (tv (z.1, z.2.1 + 1, c.2.1, z.2.2.2))))
      refine ⟨_, rfl, _, rfl, p, _, _, _, rfl, rfl, s6 _ _ e4, atI_end, ?_⟩
      rw [set_end]
      refine ⟨_, _, _, _, rfl, same_over (s3.trans s6) hp _, by rw [upd_ne npl]; exact s6 _ _ e3, upd_same, ?_⟩
      rw [eg, rstep_on on, List.map_append]
      exact ((t6.mono s6).snoc upd_same).upd (lst_ne (s6 _ _ e4))
  · rintro σ H3 ⟨o2, o3, o4, zs, rfl, s3, e3, e4, t4⟩
    have lm : (ms.map V.int).length = m.length := by rw [em, List.length_map, List.length_map]
    rw [lm, List.take_length] at t4
    exact ⟨_, rfl, qq p H3 s3 hp ⟨zs, e4, t4⟩⟩
end
end K13
set_option maxHeartbeats 4000000
namespace K13
open PySem L2
section
variable {P : Program} {w : World} {K : PySem.W.Frag} {mg : Str → Option Value} {base : Heap} {f fMap fRun fInr fLst : Addr} {fd dMap dRun dInr dLst : FuncData}
/-! ### _law_in_range -/
theorem scInr : FnScope ["_law_thing_here", "_law_low", "_law_high"] ["_law_thing_here", "_law_low", "_law_high"] (defScope sInr) := ⟨rfl, rfl, rfl, by decide +kernel, rfl, by decide +kernel, by decide +kernel⟩
theorem ok_Inr (F : Fun K "_law_in_range" "_law_in_range" sInr f fd) (T : Txt mg) : FnOk P w K mg base CX0 1 f fd ["_law_thing_here", "_law_low", "_law_high"] spWth0 := by
  refine F.ok scInr (fun vs H Q E h => ?_) (fun cdv A outer s H vs Q E hr h => ?_)
  · obtain ⟨x, l, h, rfl, _⟩ := h
    rfl
  obtain ⟨x, l, h, rfl, hT, q⟩ := h
  obtain ⟨t, ty, k1, k2⟩ := hT.ty (K := K)
  refine ⟨_, (pss_one (ps_ret (pe_and (pe_callB call_isinst rfl T.isi PyProof.Rows.boot_isinstance (pa_cons (pv 0) (pa_cons (pe_bltn (v := .ty "int") rfl T.int PyProof.Rows.boot_int rfl) pa_nil))) (pe_and (pe_not (pe_callB call_isinst rfl T.isi PyProof.Rows.boot_isinstance (pa_cons (pv 0) (pa_cons (pe_bltn (v := .ty "bool") rfl T.bol PyProof.Rows.boot_bool rfl) pa_nil)))) (pe_one (pe_chain op_le op_le (pv 1) (pv 0) (pv 2))))))), ?_⟩
  refine ⟨_, rfl, x, "int", t, isI0 x, rfl, ty, k1, _, rfl, ?_⟩
  rcases hT with ⟨n, rfl⟩ | ⟨z, rfl⟩ | ⟨b, rfl⟩ | rfl | ⟨a, z, rfl, _⟩ | ⟨a, z, rfl, _⟩ | ⟨a, z, rfl, _⟩
  · refine iteT ⟨_, rfl, _, "bool", t, isB0 (.int n), rfl, ty, k2, _, rfl, _, rfl, iteT ?_⟩
    refine ⟨_, rfl, _, rfl, _, _, rfl, rfl, _, rfl, ?_⟩
    have q' : Q (.bl (decide (l ≤ n) && decide (n ≤ h))) H := q
    refine ite2 (fun c => ?_) (fun c => ?_)
    · rw [c] at q'
      exact ⟨_, rfl, _, _, rfl, rfl, q'⟩
    · rw [Bool.not_eq_true] at c
      rw [c] at q'
      exact q'
  · exact iteF q
  · exact iteT ⟨_, rfl, _, "bool", t, isB0 (.bl b), rfl, ty, k2, _, rfl, _, rfl, iteF q⟩
  all_goals exact iteF q
/-! ### _law_stretch -/
theorem dec_len4 (a : Nat) : decide (V.int ((a : Nat) : Int) = V.int 4) = decide (a = 4) := dec_len a 4
theorem okS_w (size a l p s : Int) : okS size (a, l, p, s) = (wth0 (.int a) 0 40 && wth0 (.int l) 1 8 && wth0 (.int p) 2 599 && wth0 (.int s) 0 7 && decide (l + s ≤ 8) && decide (a + l ≤ size)) := rfl
theorem any_w {size : Int} {x0 x1 x2 x3 : V} (h : (wth0 x0 0 40 && wth0 x1 1 8 && wth0 x2 2 599 && wth0 x3 0 7) = false) : (st4 [x0, x1, x2, x3]).any (okS size) = false := by
  cases e : st4 [x0, x1, x2, x3] with
  | none => rfl
  | some r =>
    obtain ⟨a, l, p, s⟩ := r
    have := st4_some e
    unfold tv at this
    injection this with e0 this
    injection this with e1 this
    injection this with e2 this
    injection this with e3 _
    subst e0 e1 e2 e3
    show okS size (a, l, p, s) = false
    rw [okS_w]
    simp only at h
    rw [h]
    rfl
def spLst : Sp := fun vs H Q _ => ∃ (x : V) (o : Option S4) (size : Int), vs = [x, .int size] ∧ PartO H x o ∧ Q (.bl (o.any (okS size))) H
theorem scLst : FnScope ["_law_thing_here", "_law_size"] ["_law_thing_here", "_law_size"] (defScope sLst) := ⟨rfl, rfl, rfl, by decide +kernel, rfl, by decide +kernel, by decide +kernel⟩
theorem ok_Lst (F : Fun K "_law_stretch" "_law_stretch" sLst f fd) (hInr : Has K mg "_law_in_range" sInr ["_law_thing_here", "_law_low", "_law_high"] fInr dInr) (GInr : FnOk P w K mg base CX0 1 fInr dInr ["_law_thing_here", "_law_low", "_law_high"] spWth0) (T : Txt mg) : FnOk P w K mg base CX0 2 f fd ["_law_thing_here", "_law_size"] spLst := by
  refine F.ok scLst (fun vs H Q E h => ?_) (fun cdv A outer s H vs Q E hr h => ?_)
  · obtain ⟨x, o, size, rfl, _⟩ := h
    rfl
  obtain ⟨x, o, size, rfl, hP, qq⟩ := h
  refine ⟨_, (pss_cons (ps_if (PW.pt (pw_or (pt_not (pt_val (pe_callB call_isinst rfl T.isi PyProof.Rows.boot_isinstance (pa_cons (pv 0) (pa_cons (pe_bltn (v := .ty "tuple") rfl T.tup PyProof.Rows.boot_tuple rfl) pa_nil))))) (pw_or (pt_cmpR op_ne (pe_callB call_len_seq rfl T.len PySem.boot_len (pa_cons (pv 0) pa_nil)) pe_int (nomark _)) (pw_or1 (pt_not (pt_val (pe_call GInr (hr.mono (by decide)) rfl hInr.nm hInr.fn.kp hInr.bd .nil pass0 (pa_cons (pe_ix ix_tup (pv 0) pe_int (fun _ _ => rfl)) (pa_cons pe_int (pa_cons pe_int pa_nil))))))))))
    (pss_one (ps_ret pe_bl))
    pss_nil)
    (pss_cons (ps_if (PW.pt (pw_or (pt_not (pt_val (pe_call GInr (hr.mono (by decide)) rfl hInr.nm hInr.fn.kp hInr.bd .nil pass0 (pa_cons (pe_ix ix_tup (pv 0) pe_int (fun _ _ => rfl)) (pa_cons pe_int (pa_cons pe_int pa_nil)))))) (pw_or (pt_not (pt_val (pe_call GInr (hr.mono (by decide)) rfl hInr.nm hInr.fn.kp hInr.bd .nil pass0 (pa_cons (pe_ix ix_tup (pv 0) pe_int (fun _ _ => rfl)) (pa_cons pe_int (pa_cons pe_int pa_nil)))))) (pw_or1 (pt_not (pt_val (pe_call GInr (hr.mono (by decide)) rfl hInr.nm hInr.fn.kp hInr.bd .nil pass0 (pa_cons (pe_ix ix_tup (pv 0) pe_int (fun _ _ => rfl)) (pa_cons pe_int (pa_cons pe_int pa_nil))))))))))
    (pss_one (ps_ret pe_bl))
    pss_nil)
    (pss_one (ps_ret (pe_and (pe_cmpR op_le (pe_op op_add (pe_ix ix_tup (pv 0) pe_int (fun _ _ => rfl)) (pe_ix ix_tup (pv 0) pe_int (fun _ _ => rfl))) pe_int (nomark _)) (pe_one (pe_cmpR op_le (pe_op op_add (pe_ix ix_tup (pv 0) pe_int (fun _ _ => rfl)) (pe_ix ix_tup (pv 0) pe_int (fun _ _ => rfl))) (pv 1) (nomark _)))))))), ?_⟩
  rcases hP with ⟨q, xs, rfl, hq, hy, hl, rfl⟩ | ⟨hN, rfl⟩
  rotate_left
  · obtain ⟨t, ty, k⟩ := hN.kit (K := K)
    exact ⟨_, rfl, x, _, t, false, rfl, ty, k, _, rfl, iteT (iteT qq)⟩
  refine ⟨_, rfl, _, _, _, true, rfl, .tup hq, kit_tt K, _, rfl, iteF ?_⟩
  refine ⟨_, rfl, q, _, rfl, .inr (SqT.of hq), rfl, _, rfl, ?_⟩
  rw [dec_len4]
  by_cases c4 : xs.length = 4
  rotate_left
  · rw [decide_eq_false c4]
    rw [st4_len c4] at qq
    exact iteT (iteT qq)
  rw [decide_eq_true c4]
  refine iteF ?_
  obtain ⟨x0, x1, x2, x3, rfl⟩ : ∃ x0 x1 x2 x3, xs = [x0, x1, x2, x3] := by
    match xs, c4 with
    | [x0, x1, x2, x3], _ => exact ⟨x0, x1, x2, x3, rfl⟩
  have tq := SqT.of (K := K) hq
  have y0 := hy x0 (by simp)
  have y1 := hy x1 (by simp)
  have y2 := hy x2 (by simp)
  have y3 := hy x3 (by simp)
  refine ⟨_, rfl, q, _, _, x0, rfl, rfl, tq, rfl, x0, 0, 40, rfl, y0, _, rfl, ?_⟩
  cases w0 : wth0 x0 0 40 with
  | false =>
    rw [any_w (by rw [w0]; rfl)] at qq
    exact iteT qq
  | true =>
  refine iteF ?_
  refine ⟨_, rfl, q, _, _, x1, rfl, rfl, tq, rfl, x1, 1, 8, rfl, y1, _, rfl, ?_⟩
  cases w1 : wth0 x1 1 8 with
  | false =>
    rw [any_w (by rw [w0, w1]; rfl)] at qq
    exact iteT (iteT qq)
  | true =>
  refine iteF ?_
  refine ⟨_, rfl, q, _, _, x2, rfl, rfl, tq, rfl, x2, 2, 599, rfl, y2, _, rfl, ?_⟩
  cases w2 : wth0 x2 2 599 with
  | false =>
    rw [any_w (by rw [w0, w1, w2]; rfl)] at qq
    exact iteT (iteT qq)
  | true =>
  refine iteF ?_
  refine ⟨_, rfl, q, _, _, x3, rfl, rfl, tq, rfl, x3, 0, 7, rfl, y3, _, rfl, ?_⟩
  cases w3 : wth0 x3 0 7 with
  | false =>
    rw [any_w (by rw [w0, w1, w2, w3]; rfl)] at qq
    exact iteT qq
  | true =>
  refine iteF ?_
  obtain ⟨n0, rfl, _, _⟩ := wth0_int w0
  obtain ⟨n1, rfl, _, _⟩ := wth0_int w1
  obtain ⟨n2, rfl, _, _⟩ := wth0_int w2
  obtain ⟨n3, rfl, _, _⟩ := wth0_int w3
  have q2 : Q (.bl (decide (n1 + n3 ≤ 8) && decide (n0 + n1 ≤ size))) H := by
    have e : (st4 [V.int n0, V.int n1, V.int n2, V.int n3]).any (okS size) = (decide (n1 + n3 ≤ 8) && decide (n0 + n1 ≤ size)) := by
      show okS size (n0, n1, n2, n3) = _
      rw [okS_w, w0, w1, w2, w3]
      rfl
    rw [← e]
    exact qq
  refine ⟨_, rfl, q, _, _, .int n1, rfl, rfl, tq, rfl, _, rfl, q, _, _, .int n3, rfl, rfl, tq, rfl, _, _, rfl, rfl, _, _, rfl, rfl, _, rfl, ite2 (fun c => ?_) (fun c => ?_)⟩
  · rw [c] at q2
    exact ⟨_, rfl, q, _, _, .int n0, rfl, rfl, tq, rfl, _, rfl, q, _, _, .int n1, rfl, rfl, tq, rfl, _, _, rfl, rfl, _, rfl, _, _, rfl, rfl, q2⟩
  · rw [Bool.not_eq_true] at c
    rw [c] at q2
    exact q2
/-! ### _law_due -/
theorem inOrd_ord {size : Int} : ∀ {rs : List S4} {last : Int}, inOrd size last rs = true → Ord (last + 1) rs (lastOf last rs + 1)
  | [], last, _ => Int.le_refl _
  | q :: t, last, h => by
    have h' : (okS size q && decide (last < q.1) && inOrd size (q.1 + q.2.1 - 1) t) = true := h
    rw [Bool.and_eq_true, Bool.and_eq_true] at h'
    have h1 : last < q.1 := of_decide_eq_true h'.1.2
    have h2 : 1 ≤ q.2.1 := by
      have := h'.1.1
      unfold okS at this
      simp only [Bool.and_eq_true, decide_eq_true_eq] at this
      omega
    have ih := inOrd_ord h'.2
    have e : lastOf (q.1 + q.2.1 - 1) t = lastOf last (q :: t) := by
      unfold lastOf
      cases t with
      | nil => rfl
      | cons x xs => rw [List.getLast?_cons_cons]; rfl
    rw [e] at ih
    have e2 : q.1 + q.2.1 - 1 + 1 = q.1 + q.2.1 := by omega
    rw [e2] at ih
    exact ⟨by omega, by omega, ih⟩
theorem last_le {size : Int} (hs : size ≤ 40) : ∀ {rs : List S4} {last : Int}, inOrd size last rs = true → last ≤ 39 → lastOf last rs ≤ 39
  | [], last, _, h => h
  | q :: t, last, h, _ => by
    have h' : (okS size q && decide (last < q.1) && inOrd size (q.1 + q.2.1 - 1) t) = true := h
    rw [Bool.and_eq_true, Bool.and_eq_true] at h'
    have h2 : q.1 + q.2.1 ≤ size := by
      have := h'.1.1
      unfold okS at this
      simp only [Bool.and_eq_true, decide_eq_true_eq] at this
      omega
    have ih := last_le hs h'.2 (by omega)
    have e : lastOf (q.1 + q.2.1 - 1) t = lastOf last (q :: t) := by
      unfold lastOf
      cases t with
      | nil => rfl
      | cons x xs => rw [List.getLast?_cons_cons]; rfl
    rw [e] at ih
    exact ih
theorem due_no {size : Int} (hs : size ≤ 40) {os : List (Option S4)} {i : Nat} {rs : List S4} {o : Option S4} (h1 : os.take i = rs.map some) (h2 : os[i]? = some o) (h3 : ∀ r, o = some r → (okS size r && decide (lastOf (-1) rs < r.1)) = false) : rowO os size = false := by
  unfold rowO
  split
  · next all e =>
    have eo := allS_eq e
    have h2' : (all.map some)[i]? = some o := by rw [← eo]; exact h2
    rw [List.getElem?_map] at h2'
    obtain ⟨r, hr, rfl⟩ := Option.map_eq_some_iff.mp h2'
    have er : rs = all.take i := by
      have : (all.take i).map some = rs.map some := by rw [List.map_take, ← eo, h1]
      exact ((List.map_inj_right (fun _ _ h => by injection h)).mp this).symm
    have es : all = rs ++ r :: all.drop (i + 1) := by
      rw [er]
      have : all.drop i = r :: all.drop (i + 1) := by
        obtain ⟨hi, he⟩ := List.getElem?_eq_some_iff.mp hr
        rw [← he]
        exact List.drop_eq_getElem_cons hi
      rw [← this, List.take_append_drop]
    rw [isRow_due hs, es, inOrd_app, h3 r rfl]
    simp
  · rfl
def spDue : Sp := fun vs H Q _ => ∃ (x : V) (size : Int), vs = [x, .int size] ∧ size ≤ 40 ∧ ((∃ q ys os, x = .ref q ∧ H q = some (.tup ys) ∧ PartsO H ys os ∧ ys.length ≤ 100 ∧ ∀ H', Same H H' → Q (.bl (rowO os size)) H') ∨ (NotT H x ∧ Q (.bl false) H))
theorem scDue : FnScope ["_law_thing_here", "_law_size", "_law_known", "_law_last", "_law_stretch_here"] ["_law_thing_here", "_law_size"] (defScope sDue) := ⟨rfl, rfl, rfl, by decide +kernel, rfl, by decide +kernel, by decide +kernel⟩
theorem ok_Due (F : Fun K "_law_due" "_law_due" sDue f fd) (hLst : Has K mg "_law_stretch" sLst ["_law_thing_here", "_law_size"] fLst dLst) (GLst : FnOk P w K mg base CX0 2 fLst dLst ["_law_thing_here", "_law_size"] spLst)
    (hMap : Has K mg "_law_map" sMap ["_law_row_here"] fMap dMap) (GMap : FnOk P w K mg base CX0 1 fMap dMap ["_law_row_here"] spMap)
    (hRun : Has K mg "_law_runs" sRun ["_law_known"] fRun dRun) (GRun : FnOk P w K mg base CX0 1 fRun dRun ["_law_known"] spRun) (T : Txt mg) : FnOk P w K mg base CX0 3 f fd ["_law_thing_here", "_law_size"] spDue := by
  refine F.ok scDue (fun vs H Q E h => ?_) (fun cdv A outer s H vs Q E hr h => ?_)
  · obtain ⟨x, size, rfl, _⟩ := h
    rfl
  obtain ⟨x, size, rfl, hs, h⟩ := h
  refine ⟨_, (pss_cons (ps_if (pt_not (pt_val (pe_callB call_isinst rfl T.isi PyProof.Rows.boot_isinstance (pa_cons (pv 0) (pa_cons (pe_bltn (v := .ty "tuple") rfl T.tup PyProof.Rows.boot_tuple rfl) pa_nil)))))
    (pss_one (ps_ret pe_bl))
    pss_nil)
    (pss_cons (ps_set (i := 2) scDue.nd rfl (Or.inl rfl) pe_dnewK)
    (pss_cons (ps_set (i := 3) scDue.nd rfl (Or.inl rfl) (pe_un un_neg pe_int))
    (pss_cons (ps_for PassesOwn.never rfl (pi_tup (pv 0)) (pg_name (i := 4) scDue.nd rfl (Or.inl rfl))
    (pss_cons (ps_if (PW.pt (pw_or (pt_not (pt_val (pe_call GLst (hr.mono (by decide)) rfl hLst.nm hLst.fn.kp hLst.bd .nil pass0 (pa_cons (pv 4) (pa_cons (pv 1) pa_nil))))) (pw_or1 (pt_cmpR op_le (pe_ix ix_tup (pv 4) pe_int (fun _ _ => rfl)) (pv 3) (nomark _)))))
    (pss_one (ps_ret pe_bl))
    pss_nil)
    (pss_cons (ps_set (i := 3) scDue.nd rfl (Or.inl rfl) (pe_op op_sub (pe_op op_add (pe_ix ix_tup (pv 4) pe_int (fun _ _ => rfl)) (pe_ix ix_tup (pv 4) pe_int (fun _ _ => rfl))) pe_int))
    (pss_one (ps_expr (pe_dupd (pv 2) (pe_call GMap (hr.mono (by decide)) rfl hMap.nm hMap.fn.kp hMap.bd .nil pass0 (pa_cons (pe_lst (pa_cons (pv 4) pa_nil)) pa_nil)) ⟨rfl, rfl, rfl, rfl⟩))))))
    (pss_one (ps_ret (pe_cmpR (op_eqS (hu40 hr)) (pe_call GRun (hr.mono (by decide)) rfl hRun.nm hRun.fn.kp hRun.bd .nil pass0 (pa_cons (pv 2) pa_nil)) (pe_callTy call_list_of rfl T.lst PyProof.Rows.boot_list (pa_cons (pv 0) pa_nil)) (nomark _)))))))), ?_⟩
  rcases h with ⟨q, ys, os, rfl, hq, hP, hl, qq⟩ | ⟨hN, qq⟩
  rotate_left
  · obtain ⟨t, ty, k⟩ := hN.kit (K := K)
    exact ⟨_, rfl, x, _, t, false, rfl, ty, k, _, rfl, iteT qq⟩
  have lo := hP.len
  refine ⟨_, rfl, _, _, _, true, rfl, .tup hq, kit_tt K, _, rfl, iteF ?_⟩
  intro d hd
  have s1 := same_new hd (HO.dK [])
  refine ⟨_, rfl, ?_⟩
  refine ⟨_, rfl, q, rfl, ⟨_, SqT.of (s1 _ _ hq)⟩, for_tup (K := K) (a := q) (xs := ys) (fun i σ H2 => ∃ (o4 : Option V) (rs : List S4) (kvs : List (Key × V)), σ = [some (.ref q), some (.int size), some (.ref d), some (.int (lastOf (-1) rs)), o4] ∧ Same H H2 ∧ H2 d = some (.dK kvs) ∧ KvAt H2 kvs (cellsR rs) ∧ os.take i = rs.map some ∧ inOrd size (-1) rs = true) ⟨none, [], [], rfl, s1, upd_same, trivial, rfl, rfl⟩ (fun i σ H2 _ h2 => ?_) ?_ ?_⟩
  · obtain ⟨_, _, _, _, s2, _⟩ := h2
    exact SqT.of (s2 _ _ hq)
  · rintro i x σ H2 hx ⟨o4, rs, kvs, rfl, s2, e2, k2, h1, h3⟩
    obtain ⟨o, ho, hPo⟩ := hP.get hx
    have hPo2 := hPo.mono s2
    refine ⟨_, rfl, _, rfl, x, o, size, rfl, hPo2, _, rfl, ?_⟩
    have bad : (∀ r, o = some r → (okS size r && decide (lastOf (-1) rs < r.1)) = false) → Q (.bl false) H2 := fun h => by
      have := qq H2 s2
      rw [due_no hs h1 ho h] at this
      exact this
    cases ok : o.any (okS size) with
    | false =>
      refine iteT (iteT (bad fun r e => ?_))
      rw [e] at ok
      have ok' : okS size r = false := ok
      rw [ok']
      rfl
    | true =>
      refine iteF ?_
      obtain ⟨r, rfl⟩ : ∃ r, o = some r := by
        cases o with
        | none => cases ok
        | some r => exact ⟨r, rfl⟩
      have okr : okS size r = true := ok
      obtain ⟨q1, rfl, hq1⟩ : ∃ q1, x = .ref q1 ∧ H2 q1 = some (.tup (tv r)) := by
        rcases hPo2 with ⟨q1, xs, e, hq1, _, _, hst⟩ | ⟨_, e⟩
        · rw [st4_some hst.symm] at hq1
          exact ⟨q1, e, hq1⟩
        · cases e
      have b : 0 ≤ r.1 ∧ 1 ≤ r.2.1 ∧ r.1 + r.2.1 ≤ size := by
        unfold okS at okr
        simp only [Bool.and_eq_true, decide_eq_true_eq] at okr
        omega
      refine ⟨_, rfl, q1, _, _, .int r.1, rfl, rfl, SqT.of hq1, rfl, _, rfl, _, _, rfl, rfl, _, rfl, ite2 (fun c => ?_) (fun c => ?_)⟩
      · have c' : r.1 ≤ lastOf (-1) rs := of_decide_eq_true c
        refine bad fun r' e => ?_
        cases e
        rw [decide_eq_false (by omega), Bool.and_false]
      have c' : lastOf (-1) rs < r.1 := by
        have : ¬ r.1 ≤ lastOf (-1) rs := fun e => c (decide_eq_true e)
        omega
      have h3' : inOrd size (-1) (rs ++ [r]) = true := by
        rw [inOrd_app, h3, okr, decide_eq_true c']
        rfl
      have o2 := inOrd_ord h3'
      have l39 := last_le hs h3' (by decide)
      have o3 : Ord 0 (rs ++ [r]) 40 := by
        have e : (-1 : Int) + 1 = 0 := by decide
        rw [e] at o2
        exact o2.up (by omega)
      have rise := cellsR_rise o3
      rw [cellsR_snoc] at rise
      have lc := cellsR_len o3
      rw [cellsR_snoc, List.length_append] at lc
      refine ⟨_, rfl, q1, _, _, .int r.1, rfl, rfl, SqT.of hq1, rfl, _, rfl, q1, _, _, .int r.2.1, rfl, rfl, SqT.of hq1, rfl, _, _, rfl, rfl, _, _, rfl, rfl, ?_⟩
      refine ⟨_, rfl, d, rfl, .inl ⟨_, .inl e2⟩, _, rfl, (by show 1 ≤ sizeLine; decide), fun pl hpl => ?_⟩
      have s4 := same_new hpl (HO.lst [V.ref q1])
      have o1 : Ord 0 [r] 40 := ⟨b.1, by omega, by show r.1 + r.2.1 ≤ 40; omega⟩
      refine ⟨pl, false, [r], rfl, ⟨[V.ref q1], upd_same, ⟨⟨q1, rfl, s4 _ _ hq1⟩, trivial⟩⟩, by simp, o1, fun d2 H4 s5 hd2 ⟨kvs2, e4, k4⟩ => ?_⟩
      have sA := s4.trans s5
      have ed := sA _ _ e2
      have nd : d ≠ d2 := fun e => by
        have := s4 _ _ e2
        rw [e, hd2] at this
        cases this
      have k4' : KvAt H4 kvs2 (cells1 r) := by
        have : cellsR [r] = cells1 r := by
          show cells1 r ++ [] = _
          simp
        rw [this] at k4
        exact k4
      have kA := k2.mono sA
      refine ⟨d2, kvs, kvs2, rfl, ed, e4, nd, Nat.le_of_lt (small (by rw [kA.len, k4'.len]; omega)), ?_⟩
      refine ⟨_, rs ++ [r], _, (by rw [lastOf_snoc]; rfl), same_over (s2.trans sA) hd _, upd_same, ?_, ?_, h3'⟩
      · rw [merge_new k4' kA rise, cellsR_snoc]
        exact (KvAt.app k4' kA).upd (dk_ne ed)
      · rw [take_next ho, h1, List.map_append]
        rfl
  · rintro σ H2 ⟨o4, rs, kvs, rfl, s2, e2, k2, h1, h3⟩
    rw [lo, List.take_length] at h1
    have o2 := inOrd_ord h3
    have l39 := last_le hs h3 (by decide)
    have o3 : Ord 0 rs 40 := by
      have e : (-1 : Int) + 1 = 0 := by decide
      rw [e] at o2
      exact o2.up (by omega)
    have lc := cellsR_len o3
    have hT : TupsAt H2 ys (rs.map tv) := by
      rw [h1] at hP
      exact (hP.mono s2).tups
    refine ⟨_, rfl, d, cellsR rs, rfl, ⟨kvs, e2, k2⟩, cellsR_rise o3, by omega, fun p H3 s3 hp ⟨ys3, e3, t3⟩ => ?_⟩
    refine ⟨_, rfl, q, ys, rfl, .inr (SqT.of (s3 _ _ (s2 _ _ hq))), fun l hl' => ?_⟩
    have s4 := same_new hl' (HO.lst ys)
    refine ⟨p, l, ys3, ys, runsP (cellsR rs), rs, rfl, rfl, SqL.of (s4 _ _ e3), SqL.of upd_same, t3.mono s4, hT.mono (s3.trans s4), ?_⟩
    have er : rowO os size = decide (runsP (cellsR rs) = rs) := by
      unfold rowO
      rw [h1, allS_map]
      show isRowP rs size = _
      rw [isRow_due hs, h3, Bool.true_and]
      have e1 : runsP (cellsR rs) = tidyP rs := runs_tidy rs [] fun r hr' => (o3.mem hr').2.1
      rw [e1, Bool.eq_iff_iff, decide_eq_true_eq, tidy_iff]
    rw [er] at qq
    exact qq _ (s2.trans (s3.trans s4))
end
end K13
set_option maxHeartbeats 4000000
namespace K13
open PySem L2
theorem parts_take {H : Hp} : ∀ {ys : List V} {os : List (Option S4)} (n : Nat), PartsO H ys os → PartsO H (ys.take n) (os.take n)
  | [], [], n, _ => by simp [PartsO]
  | _ :: ys, _ :: os, 0, _ => trivial
  | _ :: ys, _ :: os, n + 1, h => ⟨h.1, parts_take n h.2⟩
  | [], _ :: _, _, h => h.elim
  | _ :: _, [], _, h => h.elim
theorem parts_drop {H : Hp} : ∀ {ys : List V} {os : List (Option S4)} (n : Nat), PartsO H ys os → PartsO H (ys.drop n) (os.drop n)
  | [], [], n, _ => by simp [PartsO]
  | _ :: ys, _ :: os, 0, h => h
  | _ :: ys, _ :: os, n + 1, h => parts_drop n h.2
  | [], _ :: _, _, h => h.elim
  | _ :: _, [], _, h => h.elim
theorem parts_cut {H : Hp} {ys : List V} {os : List (Option S4)} (lo hi : Option Int) (h : PartsO H ys os) : ∃ os', PartsO H (cutV ys lo hi) os' := by
  unfold cutV
  exact ⟨_, parts_take _ (parts_drop _ h)⟩
theorem cut_in {xs : List V} {lo hi : Option Int} {x : V} (h : x ∈ cutV xs lo hi) : x ∈ xs := by
  unfold cutV at h
  exact List.mem_of_mem_drop (List.mem_of_mem_take h)
theorem atI_mem {xs : List V} {i : Int} (h0 : 0 ≤ i) (h1 : i < (xs.length : Int)) : ∃ v, atI xs i = some v ∧ v ∈ xs := by
  obtain ⟨j, rfl⟩ := Int.eq_ofNat_of_zero_le h0
  have hj : j < xs.length := by omega
  exact ⟨xs[j], atI_nat (by simp [hj]), List.getElem_mem hj⟩
theorem tv_mem {r : S4} {x : V} (h : x ∈ tv r) : ∃ n, x = .int n := by
  unfold tv at h
  simp only [List.mem_cons, List.not_mem_nil, or_false] at h
  rcases h with rfl | rfl | rfl | rfl <;> exact ⟨_, rfl⟩
section
variable {P : Program} {w : World} {K : PySem.W.Frag} {mg : Str → Option Value} {base : Heap} {f fPar fSts : Addr} {fd dPar dSts : FuncData}
/-! ### _law_part -/
def spPar : Sp := fun vs H Q _ => ∃ (n k : Int), vs = [.int n, .int k] ∧ ∀ x H', Same H H' → Ty0 H' x → Q x H'
theorem scPar : FnScope ["_law_part_here", "_law_number", "_law_some"] ["_law_part_here", "_law_number"] (defScope sPar) := ⟨rfl, rfl, rfl, by decide +kernel, rfl, by decide +kernel, by decide +kernel⟩
theorem ok_Par (F : Fun K "_law_part" "_law_part" sPar f fd) (T : Txt mg) : FnOk P w K mg base CX0 1 f fd ["_law_part_here", "_law_number"] spPar := by
  refine F.ok scPar (fun vs H Q E h => ?_) (fun cdv A outer s H vs Q E hr h => ?_)
  · obtain ⟨n, k, rfl, _⟩ := h
    rfl
  obtain ⟨n, k, rfl, qq⟩ := h
  refine ⟨_, (pss_cons (ps_set (i := 2) scPar.nd rfl (Or.inl rfl) (pe_lst (pa_cons (pe_op op_add (pv 0) pe_int) (pa_cons (pe_op op_sub (pv 0) pe_int) (pa_cons (pe_op op_add (pv 0) pe_int) (pa_cons pe_int (pa_cons (pe_un un_neg pe_int) (pa_cons pe_int (pa_cons pe_int (pa_cons pe_int (pa_cons pe_int (pa_cons pe_int (pa_cons pe_int (pa_cons pe_bl (pa_cons pe_non (pa_cons pe_str (pa_cons (pe_tup (pa_cons (pv 0) pa_nil)) (pa_cons (pe_op op_pow pe_int pe_int) pa_nil))))))))))))))))))
    (pss_one (ps_ret (pe_ix ix_list (pv 2) (pe_op op_mod (pv 1) pe_int) (fun _ _ => rfl))))), ?_⟩
  refine ⟨_, rfl, _, _, rfl, rfl, _, rfl, _, _, rfl, rfl, _, rfl, _, _, rfl, rfl, _, rfl, _, rfl, (by show 1 ≤ sizeLine; decide), fun t ht => ?_⟩
  have s1 := same_new ht (HO.tup [V.int n])
  refine ⟨_, _, rfl, rfl, ⟨by decide, by decide, by decide⟩, (by show 16 ≤ sizeLine; decide), fun l hl => ?_⟩
  generalize hxs : ([V.int (n + 1), V.int (n - 1), V.int (n + 8), V.int 0, V.int (-1), V.int 40, V.int 41, V.int 599, V.int 600, V.int 1, V.int 2, V.bl true, V.non, V.str "2", V.ref t, V.int (10 ^ (30 : Int).toNat)] : List V) = xs at hl
  have s2 := same_new hl (HO.lst xs)
  have lx : xs.length = 16 := by rw [← hxs]; rfl
  obtain ⟨v, hv, hm⟩ := atI_mem (xs := xs) (i := k % 16) (by omega) (by rw [lx]; omega)
  refine ⟨_, rfl, _, rfl, _, _, rfl, rfl, (by show (0 : Int) < 16; decide), l, _, _, v, rfl, rfl, SqL.of upd_same, hv, qq v _ (s1.trans s2) ?_⟩
  rw [← hxs] at hm
  simp only [List.mem_cons, List.not_mem_nil, or_false] at hm
  rcases hm with rfl | rfl | rfl | rfl | rfl | rfl | rfl | rfl | rfl | rfl | rfl | rfl | rfl | rfl | rfl | rfl
  all_goals first
    | exact Ty0.int _
    | exact .inr (.inr (.inl ⟨_, rfl⟩))
    | exact .inr (.inr (.inr (.inl rfl)))
    | exact .inr (.inl ⟨_, rfl⟩)
    | exact .inr (.inr (.inr (.inr (.inr (.inl ⟨t, _, rfl, s2 _ _ upd_same⟩)))))
/-! ### _law_stretches -/
def Lls (H : Hp) (xs : List V) : Prop := ∀ v ∈ xs, ∃ p zs os, v = .ref p ∧ H p = some (.lst zs) ∧ PartsO H zs os ∧ zs.length ≤ 2
theorem Lls.mono {H H' : Hp} {xs : List V} (h : Lls H xs) (s : Same H H') : Lls H' xs := fun v hv => by
  obtain ⟨p, zs, os, e, h1, h2, h3⟩ := h v hv
  exact ⟨p, zs, os, e, s _ _ h1, h2.mono s, h3⟩
theorem Lls.cons {H : Hp} {xs : List V} {p : Addr} {zs : List V} {os : List (Option S4)} (h1 : H p = some (.lst zs)) (h2 : PartsO H zs os) (h3 : zs.length ≤ 2) (h : Lls H xs) : Lls H (.ref p :: xs) := fun v hv => by
  rcases List.mem_cons.mp hv with rfl | hv
  · exact ⟨p, zs, os, rfl, h1, h2, h3⟩
  · exact h v hv
theorem Lls.nil {H : Hp} : Lls H [] := fun v hv => by cases hv
theorem Lls.app {H : Hp} {xs ys : List V} (h : Lls H xs) (h' : Lls H ys) : Lls H (xs ++ ys) := fun v hv => (List.mem_append.mp hv).elim (h v) (h' v)
def spSts : Sp := fun vs H Q _ => ∃ (a : Addr) (rs : List S4) (n : Int), vs = [.ref a, .int n] ∧ RowAt false H a rs ∧ rs ≠ [] ∧ rs.length ≤ 40 ∧ ∀ p H' ys os, Same H H' → H' p = some (.lst ys) → PartsO H' ys os → ys.length ≤ 90 → Q (.ref p) H'
theorem scSts : FnScope ["_law_row_here", "_law_number", "_law_at", "_law_stretch_here", "_law_which", "_law_changed", "_law_halved", "_law_some"] ["_law_row_here", "_law_number"] (defScope sSts) := ⟨rfl, rfl, rfl, by decide +kernel, rfl, by decide +kernel, by decide +kernel⟩
theorem ok_Sts (F : Fun K "_law_stretches" "_law_stretches" sSts f fd) (hPar : Has K mg "_law_part" sPar ["_law_part_here", "_law_number"] fPar dPar) (GPar : FnOk P w K mg base CX0 1 fPar dPar ["_law_part_here", "_law_number"] spPar) (T : Txt mg) : FnOk P w K mg base CX0 2 f fd ["_law_row_here", "_law_number"] spSts := by
  refine F.ok scSts (fun vs H Q E h => ?_) (fun cdv A outer s H vs Q E hr h => ?_)
  · obtain ⟨a, rs, n, rfl, _⟩ := h
    rfl
  obtain ⟨a, rs, n, rfl, ⟨ys, ha, hT⟩, hne, hn, qq⟩ := h
  have ha' : H a = some (.lst ys) := ha
  have ly := row_len hT
  have pos : 0 < rs.length := List.length_pos_iff.mpr hne
  refine ⟨_, (pss_cons (ps_set (i := 2) scSts.nd rfl (Or.inl rfl) (pe_op op_mod (pv 1) (pe_callB call_len_seq rfl T.len PySem.boot_len (pa_cons (pv 0) pa_nil))))
    (pss_cons (ps_set (i := 3) scSts.nd rfl (Or.inl rfl) (pe_ix ix_list (pv 0) (pv 2) (fun _ _ => rfl)))
    (pss_cons (ps_set (i := 4) scSts.nd rfl (Or.inl rfl) (pe_op op_mod (pe_op op_fdiv (pv 1) pe_int) pe_int))
    (pss_cons (ps_set (i := 5) scSts.nd rfl (Or.inl rfl) (pe_op op_catA (pe_op op_catA (pe_slice sl_tup (pv 3) po_none (po_some (pv 4))) (pe_tup (pa_cons (pe_call GPar (hr.mono (by decide)) rfl hPar.nm hPar.fn.kp hPar.bd .nil pass0 (pa_cons (pe_ix ix_tup (pv 3) (pv 4) (fun _ _ => rfl)) (pa_cons (pe_op op_fdiv (pv 1) pe_int) pa_nil))) pa_nil))) (pe_slice sl_tup (pv 3) (po_some (pe_op op_add (pv 4) pe_int)) po_none)))
    (pss_cons (ps_set (i := 6) scSts.nd rfl (Or.inl rfl) (pe_lst (pa_cons (pe_tup (pa_cons (pe_ix ix_tup (pv 3) pe_int (fun _ _ => rfl)) (pa_cons pe_int (pa_cons (pe_ix ix_tup (pv 3) pe_int (fun _ _ => rfl)) (pa_cons (pe_ix ix_tup (pv 3) pe_int (fun _ _ => rfl)) pa_nil))))) pa_nil)))
    (pss_cons (ps_if (pt_cmpR op_gt (pe_ix ix_tup (pv 3) pe_int (fun _ _ => rfl)) pe_int (nomark _))
    (pss_one (ps_expr (pe_bm PySem.F.plainAttrs_list PySem.F.slot_list_append PySem.F.type_list_append mt_append (pv 6) (pa_cons (pe_tup (pa_cons (pe_op op_add (pe_ix ix_tup (pv 3) pe_int (fun _ _ => rfl)) pe_int) (pa_cons (pe_op op_sub (pe_ix ix_tup (pv 3) pe_int (fun _ _ => rfl)) pe_int) (pa_cons (pe_ix ix_tup (pv 3) pe_int (fun _ _ => rfl)) (pa_cons (pe_op op_add (pe_ix ix_tup (pv 3) pe_int (fun _ _ => rfl)) pe_int) pa_nil))))) pa_nil))))
    pss_nil)
    (pss_cons (ps_set (i := 7) scSts.nd rfl (Or.inl rfl) (pe_lst (pa_cons (pe_lst (pa_cons (pv 5) pa_nil)) (pa_cons (pe_lst (pa_cons (pv 5) pa_nil)) (pa_cons (pe_lst (pa_cons (pe_slice sl_tup (pv 3) po_none (po_some pe_int)) pa_nil)) (pa_cons (pe_lst (pa_cons (pe_op op_catA (pv 3) (pe_tup (pa_cons pe_int pa_nil))) pa_nil)) (pa_cons (pe_lst (pa_cons (pe_callTy call_list_of rfl T.lst PyProof.Rows.boot_list (pa_cons (pv 3) pa_nil)) pa_nil)) (pa_cons (pe_lst (pa_cons (pv 3) (pa_cons (pv 3) pa_nil))) pa_nil))))))))
    (pss_cons (ps_set (i := 7) scSts.nd rfl (Or.inl rfl) (pe_op op_cat (pv 7) (pe_lst (pa_cons (pv 6) (pa_cons (pe_lst pa_nil) pa_nil)))))
    (pss_one (ps_ret (pe_op op_cat (pe_op op_cat (pe_slice sl_list (pv 0) po_none (po_some (pv 2))) (pe_ix ix_list (pv 7) (pe_op op_mod (pe_op op_fdiv (pv 1) pe_int) pe_int) (fun _ _ => rfl))) (pe_slice sl_list (pv 0) (po_some (pe_op op_add (pv 2) pe_int)) po_none)))))))))))), ?_⟩
  refine ⟨_, rfl, _, rfl, a, ys, rfl, .inl (SqL.of ha'), _, _, rfl, rfl, (by show (0 : Int) < ((ys.length : Nat) : Int); omega), ?_⟩
  have k0 : 0 ≤ n % ((ys.length : Nat) : Int) := Int.emod_nonneg _ (by omega)
  have k1 : n % ((ys.length : Nat) : Int) < ((ys.length : Nat) : Int) := Int.emod_lt_of_pos _ (by omega)
  dsimp only
  generalize n % ((ys.length : Nat) : Int) = at' at k0 k1
  obtain ⟨k, rfl⟩ := Int.eq_ofNat_of_zero_le k0
  have hk : k < ys.length := by omega
  obtain ⟨r, q, hr', eq1, hq⟩ := row_get hT (i := k) (v := ys[k]) (by simp [hk])
  refine ⟨_, rfl, _, rfl, a, _, _, .ref q, rfl, rfl, SqL.of ha', atI_nat (by rw [← eq1]; simp [hk]), ?_⟩
  refine ⟨_, rfl, _, _, rfl, rfl, ⟨by decide, by decide⟩, _, _, rfl, rfl, (by show (0 : Int) < 4; decide), ?_⟩
  have w0 : 0 ≤ n / 64 % 4 := by omega
  have w1 : n / 64 % 4 < 4 := by omega
  dsimp only
  generalize n / 64 % 4 = wh at w0 w1
  obtain ⟨wh, rfl⟩ := Int.eq_ofNat_of_zero_le w0
  have tq := SqT.of (K := K) hq
  have l4 : (tv r).length = 4 := rfl
  -- the changed one
  refine ⟨_, rfl, _, rfl, _, rfl, q, _, rfl, tq, (fun h => ?_), fun t1 ht1 => ?_⟩
  · have := h.2
    rw [HT.sIx_nat] at this
    omega
  have s1 := same_new ht1 (HO.tup (cutV (tv r) none (some (wh : Int))))
  obtain ⟨v, hv, hm⟩ := atI_mem (xs := tv r) (i := (wh : Int)) w0 (by rw [l4]; omega)
  obtain ⟨nv, rfl⟩ := tv_mem hm
  refine ⟨_, rfl, _, rfl, q, _, _, _, rfl, rfl, SqT.of (s1 _ _ hq), hv, _, rfl, _, _, rfl, rfl, ⟨by decide, by decide⟩, nv, _, rfl, fun x H2 s2 hx => ⟨(by show 1 ≤ sizeLine; decide), fun t2 ht2 => ?_⟩⟩
  have s3 := same_new ht2 (HO.tup [x])
  have lc1 := cutV_length (tv r) none (some (wh : Int))
  refine ⟨t1, t2, _, _, rfl, rfl, s3 _ _ (s2 _ _ upd_same), upd_same, Nat.le_of_lt (small (by simp; omega)), fun t3 H3 s4 e3 => ?_⟩
  have sA := s1.trans (s2.trans (s3.trans s4))
  refine ⟨_, rfl, _, rfl, _, _, rfl, rfl, _, rfl, q, _, rfl, SqT.of (sA _ _ hq), (fun h => ?_), fun t4 ht4 => ?_⟩
  · have := h.1
    have e : ((wh : Nat) : Int) + 1 = ((wh + 1 : Nat) : Int) := by omega
    rw [e, HT.sIx_nat] at this
    omega
  have s5 := same_new ht4 (HO.tup (cutV (tv r) (some ((wh : Int) + 1)) none))
  have lc2 := cutV_length (tv r) (some ((wh : Int) + 1)) none
  refine ⟨t3, t4, _, _, rfl, rfl, s5 _ _ e3, upd_same, Nat.le_of_lt (small (by simp; omega)), fun t5 H4 s6 e5 => ?_⟩
  have sB := sA.trans (s5.trans s6)
  have hx4 : Ty0 H4 x := hx.mono ((s3.trans s4).trans (s5.trans s6))
  have P5 : PartO H4 (.ref t5) (st4 (cutV (tv r) none (some (wh : Int)) ++ [x] ++ cutV (tv r) (some ((wh : Int) + 1)) none)) := by
    refine .inl ⟨t5, _, rfl, e5, fun y hy => ?_, by simp; omega, rfl⟩
    rcases List.mem_append.mp hy with hy | hy
    · rcases List.mem_append.mp hy with hy | hy
      · obtain ⟨m, rfl⟩ := tv_mem (cut_in hy)
        exact Ty0.int _
      · obtain rfl : y = x := by simpa using hy
        exact hx4
    · obtain ⟨m, rfl⟩ := tv_mem (cut_in hy)
      exact Ty0.int _
  generalize cutV (tv r) none (some (wh : Int)) ++ [x] ++ cutV (tv r) (some ((wh : Int) + 1)) none = xs5 at P5 e5
  have hq4 := sB _ _ hq
  have tq4 := SqT.of (K := K) hq4
  clear s1 s2 s3 s4 s5 s6 e3 ht1 ht2 ht4 hx hx4 sA hv lc1 lc2
  -- halved
  refine ⟨_, rfl, q, _, _, .int r.1, rfl, rfl, tq4, rfl, _, rfl, q, _, _, .int r.2.2.1, rfl, rfl, tq4, rfl, _, rfl, q, _, _, .int r.2.2.2, rfl, rfl, tq4, rfl, (by show 4 ≤ sizeLine; decide), fun th hth => ⟨(by show 1 ≤ sizeLine; decide), fun ph hph => ?_⟩⟩
  have s7 := same_new hth (HO.tup (tv (r.1, 1, r.2.2.1, r.2.2.2)))
  have s8 := same_new hph (HO.lst [V.ref th])
  have sC := s7.trans s8
  refine nx_in ?_
  dsimp only
  refine seq_in (if_rest (fun σ' H' => σ' = [some (.ref a), some (.int n), some (.int (k : Int)), some (.ref q), some (.int (wh : Int)), some (.ref t5), some (.ref ph), none] ∧ Same H4 H' ∧ ∃ hs os, H' ph = some (.lst hs) ∧ PartsO H' hs os ∧ hs.length ≤ 2) (fun σ' H' hR => ?_) (fun go => ?_))
  rotate_left
  · refine ⟨_, rfl, q, _, _, .int r.2.1, rfl, rfl, SqT.of (sC _ _ hq4), rfl, _, _, rfl, rfl, _, rfl, ite2 (fun c => ?_) (fun c => ?_)⟩
    · have tqc := SqT.of (K := K) (sC _ _ hq4)
      refine ⟨_, rfl, .inl ⟨rfl, _, SqL.of upd_same⟩, _, rfl, q, _, _, .int r.1, rfl, rfl, tqc, rfl, _, _, rfl, rfl, _, rfl, q, _, _, .int r.2.1, rfl, rfl, tqc, rfl, _, _, rfl, rfl, _, rfl, q, _, _, .int r.2.2.1, rfl, rfl, tqc, rfl, _, rfl, q, _, _, .int r.2.2.2, rfl, rfl, tqc, rfl, _, _, rfl, rfl, (by show 4 ≤ sizeLine; decide), fun t6 ht6 => ?_⟩
      have s9 := same_new ht6 (HO.tup (tv (r.1 + 1, r.2.1 - 1, r.2.2.1, r.2.2.2 + 1)))
      have eh := s9 _ _ (upd_same (H := upd H4 th (HO.tup (tv (r.1, 1, r.2.2.1, r.2.2.2)))) (a := ph) (o := HO.lst [V.ref th]))
      refine ⟨ph, _, _, rfl, rfl, eh, small (by simp), go _ _ ⟨rfl, ?_, [.ref th, .ref t6], [some (r.1, 1, r.2.2.1, r.2.2.2), some (r.1 + 1, r.2.1 - 1, r.2.2.1, r.2.2.2 + 1)], upd_same, ?_, by simp⟩⟩
      · exact same_over (s7.trans ((same_new hph _).trans s9)) (none_back s7 hph) _
      · have h6 : upd (upd (upd (upd H4 th (HO.tup (tv (r.1, 1, r.2.2.1, r.2.2.2)))) ph (HO.lst [V.ref th])) t6 (HO.tup (tv (r.1 + 1, r.2.1 - 1, r.2.2.1, r.2.2.2 + 1)))) ph (HO.lst ([V.ref th] ++ [V.ref t6])) t6 = some (.tup (tv (r.1 + 1, r.2.1 - 1, r.2.2.1, r.2.2.2 + 1))) := by
          have n6 : t6 ≠ ph := fun e => by rw [e, upd_same] at ht6; cases ht6
          rw [upd_ne n6, upd_same]
        have h7 : upd (upd (upd (upd H4 th (HO.tup (tv (r.1, 1, r.2.2.1, r.2.2.2)))) ph (HO.lst [V.ref th])) t6 (HO.tup (tv (r.1 + 1, r.2.1 - 1, r.2.2.1, r.2.2.2 + 1)))) ph (HO.lst ([V.ref th] ++ [V.ref t6])) th = some (.tup (tv (r.1, 1, r.2.2.1, r.2.2.2))) := by
          have n7 : th ≠ ph := fun e => by rw [e, upd_same] at hph; cases hph
          rw [upd_ne n7]
          exact s9 _ _ (s8 _ _ upd_same)
        exact ⟨PartO.of h7, PartO.of h6, trivial⟩
    · exact go _ _ ⟨rfl, sC, [.ref th], [some (r.1, 1, r.2.2.1, r.2.2.2)], upd_same, ⟨PartO.of (s8 _ _ upd_same), trivial⟩, by simp⟩
  obtain ⟨rfl, sD, hs, osh, eh, Ph, lh⟩ := hR
  -- the list of lists
  have q0 := sD _ _ hq4
  have P0 := P5.mono sD
  have R0 : PartO H' (.ref q) (some r) := PartO.of q0
  refine ⟨_, rfl, (by show 1 ≤ sizeLine; decide), fun p1 hp1 => ?_⟩
  have s1 := same_new hp1 (HO.lst [V.ref t5])
  refine ⟨_, rfl, (by show 1 ≤ sizeLine; decide), fun p2 hp2 => ?_⟩
  have s2 := same_new hp2 (HO.lst [V.ref t5])
  refine ⟨_, rfl, _, rfl, q, _, rfl, SqT.of (s2 _ _ (s1 _ _ q0)), (fun h => absurd h.2 (show ¬ HT.sIx 4 4 (some 3) = 4 by decide)), fun t6 ht6 => ⟨(by show 1 ≤ sizeLine; decide), fun p3 hp3 => ?_⟩⟩
  have s3 := same_new ht6 (HO.tup (cutV (tv r) none (some 3)))
  have s4 := same_new hp3 (HO.lst [V.ref t6])
  have e6 := s4 _ _ (upd_same (H := upd (upd H' p1 (HO.lst [V.ref t5])) p2 (HO.lst [V.ref t5])) (a := t6) (o := HO.tup (cutV (tv r) none (some 3))))
  have sE := s1.trans (s2.trans (s3.trans s4))
  refine ⟨_, rfl, (by show 1 ≤ sizeLine; decide), fun t7 ht7 => ?_⟩
  have s5 := same_new ht7 (HO.tup [V.int 0])
  refine ⟨q, t7, _, _, rfl, rfl, s5 _ _ (sE _ _ q0), upd_same, (by show 5 ≤ sizeLine; decide), fun t8 H5 s6 e8 => ⟨(by show 1 ≤ sizeLine; decide), fun p4 hp4 => ?_⟩⟩
  have s7' := same_new hp4 (HO.lst [V.ref t8])
  have sF := sE.trans (s5.trans (s6.trans s7'))
  refine ⟨_, rfl, q, _, rfl, .inr (SqT.of (sF _ _ q0)), fun l5 hl5 => ⟨(by show 1 ≤ sizeLine; decide), fun p5 hp5 => ?_⟩⟩
  have s8' := same_new hl5 (HO.lst (tv r))
  have s9' := same_new hp5 (HO.lst [V.ref l5])
  have sG := sF.trans (s8'.trans s9')
  refine ⟨_, rfl, _, rfl, (by show 2 ≤ sizeLine; decide), fun p6 hp6 => ?_⟩
  have s10 := same_new hp6 (HO.lst [V.ref q, V.ref q])
  have sH := sG.trans s10
  refine ⟨(by show 6 ≤ sizeLine; decide), fun ps hps => ?_⟩
  have s11 := same_new hps (HO.lst [V.ref p1, V.ref p2, V.ref p3, V.ref p4, V.ref p5, V.ref p6])
  have sI := sH.trans s11
  have L6 : Lls (upd (upd (upd (upd (upd H5 p4 (HO.lst [V.ref t8])) l5 (HO.lst (tv r))) p5 (HO.lst [V.ref l5])) p6 (HO.lst [V.ref q, V.ref q])) ps (HO.lst [V.ref p1, V.ref p2, V.ref p3, V.ref p4, V.ref p5, V.ref p6])) [V.ref p1, V.ref p2, V.ref p3, V.ref p4, V.ref p5, V.ref p6] := by
    have up : Same (upd H' p1 (HO.lst [V.ref t5])) _ := s2.trans ((s3.trans s4).trans ((s5.trans (s6.trans s7')).trans ((s8'.trans s9').trans (s10.trans s11))))
    have up2 : Same (upd (upd H' p1 (HO.lst [V.ref t5])) p2 (HO.lst [V.ref t5])) _ := (s3.trans s4).trans ((s5.trans (s6.trans s7')).trans ((s8'.trans s9').trans (s10.trans s11)))
    have up4 := (s5.trans (s6.trans s7')).trans ((s8'.trans s9').trans (s10.trans s11))
    have up5 := (s8'.trans s9').trans (s10.trans s11)
    refine Lls.cons (up _ _ upd_same) (os := [st4 xs5]) ⟨P0.mono sI, trivial⟩ (by simp) ?_
    refine Lls.cons (up2 _ _ upd_same) (os := [st4 xs5]) ⟨P0.mono sI, trivial⟩ (by simp) ?_
    refine Lls.cons (up4 _ _ upd_same) (os := [st4 (cutV (tv r) none (some 3))]) ⟨.inl ⟨t6, _, rfl, up4 _ _ e6, fun y hy => ?_, (by show 3 ≤ 100; decide), rfl⟩, trivial⟩ (by simp) ?_
    · obtain ⟨m, rfl⟩ := tv_mem (cut_in hy)
      exact Ty0.int _
    refine Lls.cons (up5 _ _ upd_same) (os := [st4 (tv r ++ [V.int 0])]) ⟨.inl ⟨t8, _, rfl, up5 _ _ (s7' _ _ e8), fun y hy => ?_, by show 5 ≤ 100; decide, rfl⟩, trivial⟩ (by simp) ?_
    · rcases List.mem_append.mp hy with hy | hy
      · obtain ⟨m, rfl⟩ := tv_mem hy
        exact Ty0.int _
      · obtain rfl : y = .int 0 := by simpa using hy
        exact Ty0.int _
    refine Lls.cons ((s10.trans s11) _ _ upd_same) (os := [none]) ⟨.inr ⟨.inr (.inr (.inr (.inr (.inl ⟨l5, _, rfl, (s9'.trans (s10.trans s11)) _ _ upd_same⟩)))), rfl⟩, trivial⟩ (by simp) ?_
    exact Lls.cons (s11 _ _ upd_same) (os := [some r, some r]) ⟨R0.mono sI, R0.mono sI, trivial⟩ (by simp) Lls.nil
  have eps : upd (upd (upd (upd (upd H5 p4 (HO.lst [V.ref t8])) l5 (HO.lst (tv r))) p5 (HO.lst [V.ref l5])) p6 (HO.lst [V.ref q, V.ref q])) ps (HO.lst [V.ref p1, V.ref p2, V.ref p3, V.ref p4, V.ref p5, V.ref p6]) ps = some (.lst [V.ref p1, V.ref p2, V.ref p3, V.ref p4, V.ref p5, V.ref p6]) := upd_same
  generalize upd (upd (upd (upd (upd H5 p4 (HO.lst [V.ref t8])) l5 (HO.lst (tv r))) p5 (HO.lst [V.ref l5])) p6 (HO.lst [V.ref q, V.ref q])) ps (HO.lst [V.ref p1, V.ref p2, V.ref p3, V.ref p4, V.ref p5, V.ref p6]) = H6 at sI L6 eps
  have sJ : Same H H6 := sB.trans (sD.trans sI)
  have eh6 := sI _ _ eh
  have Ph6 := Ph.mono sI
  clear s1 s2 s3 s4 s5 s6 s7' s8' s9' s10 s11 sE sF sG sH e6 e8 hp1 hp2 ht6 hp3 ht7 hp4 hl5 hp5 hp6 hps P0 R0 q0 eh Ph sI
  refine ⟨_, rfl, _, rfl, by decide, fun pe hpe => ⟨(by show 2 ≤ sizeLine; decide), fun pf hpf => ?_⟩⟩
  have s1 := same_new hpe (HO.lst [])
  have s2 := same_new hpf (HO.lst [V.ref ph, V.ref pe])
  have sK := s1.trans s2
  refine ⟨ps, pf, _, _, rfl, rfl, sK _ _ eps, upd_same, (by show 8 ≤ sizeLine; decide), fun pg hpg => ?_⟩
  have s3 := same_new hpg (HO.lst ([V.ref p1, V.ref p2, V.ref p3, V.ref p4, V.ref p5, V.ref p6] ++ [V.ref ph, V.ref pe]))
  have sL := sK.trans s3
  have L8 : Lls (upd (upd (upd H6 pe (HO.lst [])) pf (HO.lst [V.ref ph, V.ref pe])) pg (HO.lst ([V.ref p1, V.ref p2, V.ref p3, V.ref p4, V.ref p5, V.ref p6] ++ [V.ref ph, V.ref pe]))) ([V.ref p1, V.ref p2, V.ref p3, V.ref p4, V.ref p5, V.ref p6] ++ [V.ref ph, V.ref pe]) :=
    (L6.mono sL).app (Lls.cons (sL _ _ eh6) (Ph6.mono sL) lh (Lls.cons ((s2.trans s3) _ _ upd_same) (os := []) trivial (by simp) Lls.nil))
  have epg : upd (upd (upd H6 pe (HO.lst [])) pf (HO.lst [V.ref ph, V.ref pe])) pg (HO.lst ([V.ref p1, V.ref p2, V.ref p3, V.ref p4, V.ref p5, V.ref p6] ++ [V.ref ph, V.ref pe])) pg = some (.lst ([V.ref p1, V.ref p2, V.ref p3, V.ref p4, V.ref p5, V.ref p6] ++ [V.ref ph, V.ref pe])) := upd_same
  have sM := sJ.trans sL
  generalize upd (upd (upd H6 pe (HO.lst [])) pf (HO.lst [V.ref ph, V.ref pe])) pg (HO.lst ([V.ref p1, V.ref p2, V.ref p3, V.ref p4, V.ref p5, V.ref p6] ++ [V.ref ph, V.ref pe])) = H7 at L8 epg sM
  have l8 : ([V.ref p1, V.ref p2, V.ref p3, V.ref p4, V.ref p5, V.ref p6] ++ [V.ref ph, V.ref pe]).length = 8 := rfl
  obtain ⟨v, hv, hm⟩ := atI_mem (xs := [V.ref p1, V.ref p2, V.ref p3, V.ref p4, V.ref p5, V.ref p6] ++ [V.ref ph, V.ref pe]) (i := n / 4096 % 8) (by omega) (by rw [l8]; omega)
  obtain ⟨pj, zs, osj, rfl, ej, Pj, lj⟩ := L8 v hm
  have aM := sM _ _ ha'
  refine ⟨_, rfl, _, rfl, _, rfl, a, ys, rfl, SqL.of aM, fun pa hpa => ?_⟩
  have t1 := same_new hpa (HO.lst (cutV ys none (some (k : Int))))
  refine ⟨_, rfl, _, rfl, _, _, rfl, rfl, ⟨by decide, by decide⟩, _, _, rfl, rfl, (by show (0 : Int) < 8; decide), pg, _, _, _, rfl, rfl, SqL.of (t1 _ _ epg), hv, ?_⟩
  have c1 := cutV_length ys none (some (k : Int))
  have c2 := cutV_length ys (some ((k : Int) + 1)) none
  refine ⟨pa, pj, _, zs, rfl, rfl, upd_same, t1 _ _ ej, Nat.le_of_lt (small (by omega)), fun pb hpb => ?_⟩
  have t2 := same_new hpb (HO.lst (cutV ys none (some (k : Int)) ++ zs))
  refine ⟨_, rfl, _, rfl, _, _, rfl, rfl, _, rfl, a, ys, rfl, SqL.of (t2 _ _ (t1 _ _ aM)), fun pc hpc => ?_⟩
  have t3 := same_new hpc (HO.lst (cutV ys (some ((k : Int) + 1)) none))
  refine ⟨pb, pc, _, _, rfl, rfl, t3 _ _ upd_same, upd_same, Nat.le_of_lt (small (by rw [List.length_append]; omega)), fun pd hpd => ?_⟩
  have t4 := same_new hpd (HO.lst (cutV ys none (some (k : Int)) ++ zs ++ cutV ys (some ((k : Int) + 1)) none))
  have sN := sM.trans (t1.trans (t2.trans (t3.trans t4)))
  have PP := (hT.mono sN).parts
  obtain ⟨o1, P1⟩ := parts_cut none (some (k : Int)) PP
  obtain ⟨o2, P2⟩ := parts_cut (some ((k : Int) + 1)) none PP
  exact qq pd _ _ (o1 ++ osj ++ o2) sN upd_same (P2.app ((Pj.mono (t1.trans (t2.trans (t3.trans t4)))).app P1)) (by rw [List.length_append, List.length_append]; omega)
/-! ### _law_thing -/
def ThingO (H : Hp) (x : V) : Prop := (∃ q ys os, x = .ref q ∧ H q = some (.tup ys) ∧ PartsO H ys os ∧ ys.length ≤ 100) ∨ NotT H x
theorem ThingO.mono {H H' : Hp} {x : V} (h : ThingO H x) (s : Same H H') : ThingO H' x := by
  rcases h with ⟨q, ys, os, e, hq, hP, hl⟩ | h
  · exact .inl ⟨q, ys, os, e, s _ _ hq, hP.mono s, hl⟩
  · exact .inr (h.mono s)
def spThi : Sp := fun vs H Q _ => ∃ (a : Addr) (rs : List S4) (n : Int), vs = [.ref a, .int n] ∧ RowAt false H a rs ∧ rs.length ≤ 40 ∧ ∀ x H', Same H H' → ThingO H' x → Q x H'
theorem scThi : FnScope ["_law_row_here", "_law_number", "_law_way", "_law_at"] ["_law_row_here", "_law_number"] (defScope sThi) := ⟨rfl, rfl, rfl, by decide +kernel, rfl, by decide +kernel, by decide +kernel⟩
theorem ok_Thi (F : Fun K "_law_thing" "_law_thing" sThi f fd) (hSts : Has K mg "_law_stretches" sSts ["_law_row_here", "_law_number"] fSts dSts) (GSts : FnOk P w K mg base CX0 2 fSts dSts ["_law_row_here", "_law_number"] spSts) (T : Txt mg) : FnOk P w K mg base CX0 3 f fd ["_law_row_here", "_law_number"] spThi := by
  refine F.ok scThi (fun vs H Q E h => ?_) (fun cdv A outer s H vs Q E hr h => ?_)
  · obtain ⟨a, rs, n, rfl, _⟩ := h
    rfl
  obtain ⟨a, rs, n, rfl, hR, hn, qq⟩ := h
  obtain ⟨ys, ha, hT⟩ := id hR
  have ha' : H a = some (.lst ys) := ha
  have ly := row_len hT
  refine ⟨_, (pss_cons (ps_set (i := 2) scThi.nd rfl (Or.inl rfl) (pe_op op_mod (pv 1) pe_int))
    (pss_cons (ps_if (PW.pt (pw_or (pt_cmpR op_eq (pv 2) pe_int (nomark _)) (pw_or1 (PW.pt (pw_and (pt_cmpR (op_eqE (hu_of hr |> Nat.lt_of_succ_lt)) (pv 0) (pe_lst pa_nil) (nomark _)) (pw_and1 (pt_cmpR op_lt (pv 2) pe_int (nomark _))))))))
    (pss_one (ps_ret (pe_callTy call_tuple_of rfl T.tup PyProof.Rows.boot_tuple (pa_cons (pv 0) pa_nil))))
    pss_nil)
    (pss_cons (ps_if (pt_cmpR op_lt (pv 2) pe_int (nomark _))
    (pss_one (ps_ret (pe_callTy call_tuple_of rfl T.tup PyProof.Rows.boot_tuple (pa_cons (pe_call GSts (hr.mono (by decide)) rfl hSts.nm hSts.fn.kp hSts.bd .nil pass0 (pa_cons (pv 0) (pa_cons (pe_op op_fdiv (pv 1) pe_int) pa_nil))) pa_nil))))
    pss_nil)
    (pss_cons (ps_if (pt_cmpR op_eq (pv 2) pe_int (nomark _))
    (pss_cons (ps_set (i := 3) scThi.nd rfl (Or.inl rfl) (pe_op op_mod (pe_op op_fdiv (pv 1) pe_int) (pe_op op_add (pe_callB call_len_seq rfl T.len PySem.boot_len (pa_cons (pv 0) pa_nil)) pe_int)))
    (pss_one (ps_ret (pe_callTy call_tuple_of rfl T.tup PyProof.Rows.boot_tuple (pa_cons (pe_op op_cat (pe_slice sl_list (pv 0) (po_some (pv 3)) po_none) (pe_slice sl_list (pv 0) po_none (po_some (pv 3)))) pa_nil)))))
    pss_nil)
    (pss_cons (ps_if (pt_cmpR op_eq (pv 2) pe_int (nomark _))
    (pss_one (ps_ret (pe_ix ix_list (pe_lst (pa_cons (pe_callTy call_list_of rfl T.lst PyProof.Rows.boot_list (pa_cons (pv 0) pa_nil)) (pa_cons pe_non (pa_cons pe_int (pa_cons pe_str (pa_cons pe_bl (pa_cons pe_dnewK pa_nil))))))) (pe_op op_mod (pe_op op_fdiv (pv 1) pe_int) pe_int) (fun _ _ => rfl))))
    pss_nil)
    (pss_one (ps_ret (pe_op op_catA (pe_tup (pa_cons pe_non pa_nil)) (pe_callTy call_tuple_of rfl T.tup PyProof.Rows.boot_tuple (pa_cons (pv 0) pa_nil)))))))))), ?_⟩
  refine ⟨_, rfl, _, _, rfl, rfl, (by show (0 : Int) < 8; decide), ?_⟩
  have w0 : 0 ≤ n % 8 := by omega
  have w1 : n % 8 < 8 := by omega
  dsimp only
  generalize n % 8 = wy at w0 w1
  refine at_next ?_
  have tup : ∀ {H1 : Hp}, Same H H1 → ∀ l, H1 l = none → Q (.ref l) (upd H1 l (.tup ys)) := fun {H1} s1 l hl => by
    have s2 := same_new hl (HO.tup ys)
    exact qq _ _ (s1.trans s2) (.inl ⟨l, ys, rs.map some, rfl, upd_same, (hT.mono (s1.trans s2)).parts, by omega⟩)
  refine seq_in (if_rest (fun σ' H' => σ' = [some (.ref a), some (.int n), some (.int wy), none] ∧ Same H H' ∧ (ys = [] → ¬ wy < 5)) (fun σ' H' hR' => ?_) (fun go => ?_))
  rotate_left
  · refine ⟨_, rfl, rfl, _, rfl, ite2 (fun c => ?_) (fun c => ?_)⟩
    · exact iteT ⟨_, rfl, a, ys, rfl, .inl ⟨SqL.of ha', fun l hl => tup (Same.refl H) l hl⟩⟩
    · refine ⟨_, rfl, by decide, fun pe hpe => ?_⟩
      have s1 := same_new hpe (HO.lst [])
      refine ⟨a, pe, ys, rfl, rfl, SqL.of (s1 _ _ ha'), SqL.of upd_same, _, rfl, ite2 (fun d => ?_) (fun d => ?_)⟩
      · refine ⟨_, rfl, _, _, rfl, rfl, _, rfl, ite2 (fun e => ?_) (fun e => ?_)⟩
        · exact ⟨_, rfl, a, ys, rfl, .inl ⟨SqL.of (s1 _ _ ha'), fun l hl => tup s1 l hl⟩⟩
        · exact go _ _ ⟨rfl, s1, fun _ h => e (decide_eq_true h)⟩
      · exact iteF (go _ _ ⟨rfl, s1, fun h => absurd (decide_eq_true h) d⟩)
  obtain ⟨rfl, s1, hne⟩ := hR'
  have a1 := s1 _ _ ha'
  refine ⟨_, rfl, _, _, rfl, rfl, _, rfl, ite2 (fun c => ?_) (fun c => ?_)⟩
  · have c' : wy < 5 := of_decide_eq_true c
    have ne : rs ≠ [] := fun e => hne (List.length_eq_zero_iff.mp (by rw [ly, e]; rfl)) c'
    refine ⟨_, rfl, _, rfl, _, _, rfl, rfl, ⟨by decide, by decide⟩, a, rs, _, rfl, hR.mono s1, ne, hn, fun p H2 ys2 os s2 e2 P2 l2 => ?_⟩
    refine ⟨p, ys2, rfl, .inl ⟨SqL.of e2, fun l hl => ?_⟩⟩
    have s3 := same_new hl (HO.tup ys2)
    exact qq _ _ (s1.trans (s2.trans s3)) (.inl ⟨l, ys2, os, rfl, upd_same, P2.mono s3, by omega⟩)
  refine ⟨_, rfl, rfl, _, rfl, ite2 (fun c5 => ?_) (fun c5 => ?_)⟩
  · refine ⟨_, rfl, _, _, rfl, rfl, ⟨by decide, by decide⟩, _, rfl, a, ys, rfl, .inl (SqL.of a1), _, _, rfl, rfl, _, _, rfl, rfl, (by show (0 : Int) < ((ys.length : Nat) : Int) + 1; omega), ?_⟩
    dsimp only
    generalize n / 8 % (((ys.length : Nat) : Int) + 1) = k
    refine ⟨_, rfl, _, rfl, _, rfl, a, ys, rfl, SqL.of a1, fun p1 hp1 => ?_⟩
    have t1 := same_new hp1 (HO.lst (cutV ys (some k) none))
    refine ⟨_, rfl, _, rfl, _, rfl, a, ys, rfl, SqL.of (t1 _ _ a1), fun p2 hp2 => ?_⟩
    have t2 := same_new hp2 (HO.lst (cutV ys none (some k)))
    have c1 := cutV_length ys (some k) none
    have c2 := cutV_length ys none (some k)
    refine ⟨p1, p2, _, _, rfl, rfl, t2 _ _ upd_same, upd_same, Nat.le_of_lt (small (by omega)), fun p3 hp3 => ?_⟩
    have t3 := same_new hp3 (HO.lst (cutV ys (some k) none ++ cutV ys none (some k)))
    refine ⟨p3, _, rfl, .inl ⟨SqL.of upd_same, fun l hl => ?_⟩⟩
    have t4 := same_new hl (HO.tup (cutV ys (some k) none ++ cutV ys none (some k)))
    have sA := s1.trans (t1.trans (t2.trans (t3.trans t4)))
    have PP := (hT.mono sA).parts
    obtain ⟨o1, P1⟩ := parts_cut (some k) none PP
    obtain ⟨o2, P2⟩ := parts_cut none (some k) PP
    exact qq _ _ sA (.inl ⟨l, _, _, rfl, upd_same, P2.app P1, by rw [List.length_append]; omega⟩)
  refine ⟨_, rfl, rfl, _, rfl, ite2 (fun c6 => ?_) (fun c6 => ?_)⟩
  · refine ⟨_, rfl, a, ys, rfl, .inl (SqL.of a1), fun l1 hl1 => ?_⟩
    have t1 := same_new hl1 (HO.lst ys)
    intro d hd
    have t2 := same_new hd (HO.dK [])
    refine ⟨(by show 6 ≤ sizeLine; decide), fun pl hpl => ?_⟩
    have t3 := same_new hpl (HO.lst [V.ref l1, V.non, V.int 7, V.str "row", V.bl true, V.ref d])
    obtain ⟨v, hv, hm⟩ := atI_mem (xs := [V.ref l1, V.non, V.int 7, V.str "row", V.bl true, V.ref d]) (i := n / 8 % 6) (by omega) (by show n / 8 % 6 < ((6 : Nat) : Int); omega)
    refine ⟨_, rfl, _, _, rfl, rfl, ⟨by decide, by decide⟩, _, _, rfl, rfl, (by show (0 : Int) < 6; decide), pl, _, _, v, rfl, rfl, SqL.of upd_same, hv, qq v _ (s1.trans (t1.trans (t2.trans t3))) (.inr ?_)⟩
    simp only [List.mem_cons, List.not_mem_nil, or_false] at hm
    rcases hm with rfl | rfl | rfl | rfl | rfl | rfl
    · exact .inr (.inr (.inr (.inr (.inl ⟨l1, _, rfl, t3 _ _ (t2 _ _ upd_same)⟩))))
    · exact .inr (.inr (.inr (.inl rfl)))
    · exact .inl ⟨_, rfl⟩
    · exact .inr (.inl ⟨_, rfl⟩)
    · exact .inr (.inr (.inl ⟨_, rfl⟩))
    · exact .inr (.inr (.inr (.inr (.inr ⟨d, _, rfl, t3 _ _ upd_same⟩))))
  refine ⟨(by show 1 ≤ sizeLine; decide), fun t1 ht1 => ?_⟩
  have u1 := same_new ht1 (HO.tup [V.non])
  refine ⟨_, rfl, a, ys, rfl, .inl ⟨SqL.of (u1 _ _ a1), fun l hl => ?_⟩⟩
  have u2 := same_new hl (HO.tup ys)
  refine ⟨t1, l, _, _, rfl, rfl, u2 _ _ upd_same, upd_same, Nat.le_of_lt (small (by simp; omega)), fun t2 H2 u3 e2 => ?_⟩
  have sA := s1.trans (u1.trans (u2.trans u3))
  exact qq _ _ sA (.inl ⟨t2, _, none :: rs.map some, rfl, e2, ⟨.inr ⟨.inr (.inr (.inr (.inl rfl))), rfl⟩, (hT.mono sA).parts⟩, by simp; omega⟩)
/-! ### _law_truth -/
theorem dec_bl (a b : Bool) : decide (V.bl a = V.bl b) = decide (a = b) := decide_eq_decide.mpr ⟨fun h => by injection h, fun h => by rw [h]⟩
def spTru : Sp := fun vs H Q _ => ∃ (a b : Bool), vs = [.bl a, .bl b] ∧ Q (.bl (decide (a = b))) H
theorem scTru : FnScope ["_law_told", "_law_due_here"] ["_law_told", "_law_due_here"] (defScope sTru) := ⟨rfl, rfl, rfl, by decide +kernel, rfl, by decide +kernel, by decide +kernel⟩
theorem ok_Tru (F : Fun K "_law_truth" "_law_truth" sTru f fd) (T : Txt mg) : FnOk P w K mg base CX0 1 f fd ["_law_told", "_law_due_here"] spTru := by
  refine F.ok scTru (fun vs H Q E h => ?_) (fun cdv A outer s H vs Q E hr h => ?_)
  · obtain ⟨a, b, rfl, _⟩ := h
    rfl
  obtain ⟨a, b, rfl, qq⟩ := h
  refine ⟨_, (pss_one (ps_ret (pe_and (pe_callB call_isinst rfl T.isi PyProof.Rows.boot_isinstance (pa_cons (pv 0) (pa_cons (pe_bltn (v := .ty "bool") rfl T.bol PyProof.Rows.boot_bool rfl) pa_nil))) (pe_one (pe_cmpR op_eq (pv 0) (pv 1) (nomark _)))))), ?_⟩
  rw [← dec_bl] at qq
  exact ⟨_, rfl, _, _, _, true, rfl, .bl a, kit_bb K, _, rfl, iteT ⟨_, rfl, _, rfl, rfl, qq⟩⟩
end
end K13
set_option maxHeartbeats 4000000
namespace K13
open PySem L2
section
variable {P : Program} {w : World} {K : PySem.W.Frag} {mg : Str → Option Value} {base : Heap} {f fCel fStm fRow fMap fRun fIsr fTru fThi fDue : Addr} {fd dCel dStm dRow dMap dRun dIsr dTru dThi dDue : FuncData}
theorem pick3 (wd p : Int) (h0 : 0 ≤ wd) (h3 : wd < 3) : atI [V.int p, V.int (601 - p), V.int (p * 100 + 99)] wd = some (.int (chP wd p)) := by
  obtain rfl | rfl | rfl : wd = 0 ∨ wd = 1 ∨ wd = 2 := by omega
  · rfl
  · rfl
  · rfl
def spLaw (K : PySem.W.Frag) : Sp := fun vs H Q _ => ∃ (a : Addr) (ns : List Int), vs = [.ref a] ∧ SqL K H a (ns.map V.int) ∧ ns.length ≤ 63 ∧ ∀ H', Q (.bl true) H'
theorem scLaw : FnScope ["_law_script", "_law_size", "_law_wide", "_law_row_here", "_law_at", "_law_long", "_law_place", "_law_skip", "_law_k", "_law_number", "_law_thing_here", "_law_most"] ["_law_script"] (defScope sLaw) := ⟨rfl, rfl, rfl, by decide +kernel, rfl, by decide +kernel, by decide +kernel⟩
theorem ok_law (F : Fun K "law" "law" sLaw f fd) (hCel : Has K mg "_law_cell_at" sCel ["_law_script", "_law_k"] fCel dCel) (GCel : FnOk P w K mg base CX0 1 fCel dCel ["_law_script", "_law_k"] (spCel K))
    (hRow : Has K mg "_law_row" sRow ["_law_cell", "_law_size"] fRow dRow) (GRow : FnOk P w K mg base CX0 2 fRow dRow ["_law_cell", "_law_size"] spRow)
    (hStm : Has K mg "_law_stream" sStm ["_law_cell", "_law_many"] fStm dStm) (GStm : FnOk P w K mg base CX0 1 fStm dStm ["_law_cell", "_law_many"] spStm)
    (hMap : Has K mg "_law_map" sMap ["_law_row_here"] fMap dMap) (GMap : FnOk P w K mg base CX0 1 fMap dMap ["_law_row_here"] spMap)
    (hRun : Has K mg "_law_runs" sRun ["_law_known"] fRun dRun) (GRun : FnOk P w K mg base CX0 1 fRun dRun ["_law_known"] spRun)
    (hIsr : Has K mg "is_row" sIsr ["thing", "size"] fIsr dIsr) (GIsr : FnOk P w K mg base CX0 5 fIsr dIsr ["thing", "size"] spIsr)
    (hTru : Has K mg "_law_truth" sTru ["_law_told", "_law_due_here"] fTru dTru) (GTru : FnOk P w K mg base CX0 1 fTru dTru ["_law_told", "_law_due_here"] spTru)
    (hThi : Has K mg "_law_thing" sThi ["_law_row_here", "_law_number"] fThi dThi) (GThi : FnOk P w K mg base CX0 3 fThi dThi ["_law_row_here", "_law_number"] spThi)
    (hDue : Has K mg "_law_due" sDue ["_law_thing_here", "_law_size"] fDue dDue) (GDue : FnOk P w K mg base CX0 3 fDue dDue ["_law_thing_here", "_law_size"] spDue) (T : Txt mg) : FnOk P w K mg base CX0 6 f fd ["_law_script"] (spLaw K) := by
  refine F.ok scLaw (fun vs H Q E h => ?_) (fun cdv A outer s H vs Q E hr h => ?_)
  · obtain ⟨a, ns, rfl, _⟩ := h
    rfl
  obtain ⟨a, ns, rfl, hS, h63, q⟩ := h
  refine ⟨_, (pss_cons (ps_set (i := 1) scLaw.nd rfl (Or.inl rfl) (pe_op op_mod (pe_call GCel (hr.mono (by decide)) rfl hCel.nm hCel.fn.kp hCel.bd .nil pass0 (pa_cons (pv 0) (pa_cons pe_int pa_nil))) pe_int))
    (pss_cons (ps_set (i := 2) scLaw.nd rfl (Or.inl rfl) (pe_op op_mod (pe_op op_fdiv (pe_call GCel (hr.mono (by decide)) rfl hCel.nm hCel.fn.kp hCel.bd .nil pass0 (pa_cons (pv 0) (pa_cons pe_int pa_nil))) pe_int) pe_int))
    (pss_cons (ps_set (i := 3) scLaw.nd rfl (Or.inl rfl) (pe_lst pa_nil))
    (pss_cons (ps_for PassesOwn.never rfl (pi_list (pe_call GRun (hr.mono (by decide)) rfl hRun.nm hRun.fn.kp hRun.bd .nil pass0 (pa_cons (pe_call GMap (hr.mono (by decide)) rfl hMap.nm hMap.fn.kp hMap.bd .nil pass0 (pa_cons (pe_call GRow (hr.mono (by decide)) rfl hRow.nm hRow.fn.kp hRow.bd .nil pass0 (pa_cons (pe_call GCel (hr.mono (by decide)) rfl hCel.nm hCel.fn.kp hCel.bd .nil pass0 (pa_cons (pv 0) (pa_cons pe_int pa_nil))) (pa_cons (pv 1) pa_nil))) pa_nil)) pa_nil))) (pg_tup rfl (pgs_cons (pg_name (i := 4) scLaw.nd rfl (Or.inl rfl)) (pgs_cons (pg_name (i := 5) scLaw.nd rfl (Or.inl rfl)) (pgs_cons (pg_name (i := 6) scLaw.nd rfl (Or.inl rfl)) (pgs_cons (pg_name (i := 7) scLaw.nd rfl (Or.inl rfl)) pgs_nil)))))
    (pss_one (ps_expr (pe_bm PySem.F.plainAttrs_list PySem.F.slot_list_append PySem.F.type_list_append mt_append (pv 3) (pa_cons (pe_tup (pa_cons (pv 4) (pa_cons (pv 5) (pa_cons (pe_ix ix_list (pe_lst (pa_cons (pv 6) (pa_cons (pe_op op_sub pe_int (pv 6)) (pa_cons (pe_op op_add (pe_op op_mul (pv 6) pe_int) pe_int) pa_nil)))) (pv 2) (fun _ _ => rfl)) (pa_cons (pv 7) pa_nil))))) pa_nil)))))
    (pss_cons (ps_if (pt_not (pt_val (pe_call GTru (hr.mono (by decide)) rfl hTru.nm hTru.fn.kp hTru.bd .nil pass0 (pa_cons (pe_call GIsr (hr.mono (by decide)) rfl hIsr.nm hIsr.fn.kp hIsr.bd .nil pass0 (pa_cons (pe_callTy call_tuple_of rfl T.tup PyProof.Rows.boot_tuple (pa_cons (pv 3) pa_nil)) (pa_cons (pv 1) pa_nil))) (pa_cons pe_bl pa_nil)))))
    (pss_one (ps_ret pe_bl))
    pss_nil)
    (pss_cons (ps_for PassesOwn.never rfl (pi_range2 rfl T.rng (pa_cons pe_int (pa_cons (pe_callB (call_max2 rfl) rfl T.max PyProof.Rows.boot_max (pa_cons pe_int (pa_cons (pe_callB (call_min2 rfl) rfl T.min PyProof.Rows.boot_min (pa_cons (pe_callB call_len_seq rfl T.len PySem.boot_len (pa_cons (pv 0) pa_nil)) (pa_cons pe_int pa_nil))) pa_nil))) pa_nil))) (pg_name (i := 8) scLaw.nd rfl (Or.inl rfl))
    (pss_cons (ps_set (i := 9) scLaw.nd rfl (Or.inl rfl) (pe_ix ix_list (pe_call GStm (hr.mono (by decide)) rfl hStm.nm hStm.fn.kp hStm.bd .nil pass0 (pa_cons (pe_call GCel (hr.mono (by decide)) rfl hCel.nm hCel.fn.kp hCel.bd .nil pass0 (pa_cons (pv 0) (pa_cons (pv 8) pa_nil))) (pa_cons pe_int pa_nil))) pe_int (fun _ _ => rfl)))
    (pss_cons (ps_set (i := 10) scLaw.nd rfl (Or.inl rfl) (pe_call GThi (hr.mono (by decide)) rfl hThi.nm hThi.fn.kp hThi.bd .nil pass0 (pa_cons (pv 3) (pa_cons (pv 9) pa_nil))))
    (pss_cons (ps_set (i := 11) scLaw.nd rfl (Or.inl rfl) (pe_ix ix_list (pe_lst (pa_cons (pv 1) (pa_cons pe_int (pa_cons (pe_op op_mod (pe_op op_fdiv (pv 9) pe_int) pe_int) pa_nil)))) (pe_op op_mod (pe_op op_fdiv (pv 9) pe_int) pe_int) (fun _ _ => rfl)))
    (pss_one (ps_if (pt_not (pt_val (pe_call GTru (hr.mono (by decide)) rfl hTru.nm hTru.fn.kp hTru.bd .nil pass0 (pa_cons (pe_call GIsr (hr.mono (by decide)) rfl hIsr.nm hIsr.fn.kp hIsr.bd .nil pass0 (pa_cons (pv 10) (pa_cons (pv 11) pa_nil))) (pa_cons (pe_call GDue (hr.mono (by decide)) rfl hDue.nm hDue.fn.kp hDue.bd .nil pass0 (pa_cons (pv 10) (pa_cons (pv 11) pa_nil))) pa_nil)))))
    (pss_one (ps_ret pe_bl))
    pss_nil))))))
    (pss_one (ps_ret pe_bl)))))))), ?_⟩
  refine ⟨_, rfl, a, ns, 0, rfl, by decide, hS, fun z => ⟨_, _, rfl, rfl, (by show (0 : Int) < 41; decide), ?_⟩⟩
  have w0 : (0 : Int) ≤ z % 41 := by omega
  have w1 : z % 41 < 41 := by omega
  dsimp only
  generalize z % 41 = size at w0 w1
  refine ⟨_, rfl, a, ns, 0, rfl, by decide, hS, fun z' => ⟨_, _, rfl, rfl, ⟨by decide, by decide⟩, _, _, rfl, rfl, (by show (0 : Int) < 3; decide), ?_⟩⟩
  have v0 : (0 : Int) ≤ z' / 41 % 3 := by omega
  have v1 : z' / 41 % 3 < 3 := by omega
  dsimp only
  generalize z' / 41 % 3 = wd at v0 v1
  refine ⟨by decide, fun p hp => ?_⟩
  have s1 := same_new hp (HO.lst [])
  refine ⟨_, rfl, a, ns, 1, rfl, by decide, s1.seq hS, fun z1 => ⟨_, rfl, z1, size, rfl, by omega, by omega, fun pr H2 rs s2 hpr r2 lr od gr => ?_⟩⟩
  have od40 := od.up (show size ≤ 40 by omega)
  have lc := cellsR_len od40
  refine ⟨pr, false, rs, rfl, r2, by omega, od40, fun d H3 s3 hd m3 => ?_⟩
  refine ⟨d, cellsR rs, rfl, m3, cellsR_rise od40, by omega, fun pq H4 s4 hpq r4 => ?_⟩
  have et : runsP (cellsR rs) = tidyP rs := runs_tidy rs [] fun r hr' => (od.mem hr').2.1
  rw [et] at r4
  obtain ⟨ys, e4, t4⟩ := r4
  have e4' : H4 pq = some (.lst ys) := e4
  have ly := row_len t4
  have lt := tfold_len rs []
  have lt' : (tidyP rs).length ≤ 24 := by
    unfold tidyP
    simp at lt ⊢
    omega
  have tr := row_true wd v0 (show size ≤ 40 by omega) od gr
  generalize tidyP rs = ts at t4 ly lt' tr
  have sA : Same H H4 := s1.trans (s2.trans (s3.trans s4))
  have ep : H4 p = some (.lst []) := s4 _ _ (s3 _ _ (s2 _ _ upd_same))
  have npq : pq ≠ p := fun e => by
    have := s3 _ _ (s2 _ _ (upd_same (H := H) (a := p) (o := HO.lst [])))
    rw [← e, hpq] at this
    cases this
  refine ⟨pq, rfl, ⟨_, SqL.of e4'⟩, for_list (K := K) (a := pq) (xs := ys) (fun i σ H5 => ∃ (o4 o5 o6 o7 : Option V) (zs : List V), σ = [some (.ref a), some (.int size), some (.int wd), some (.ref p), o4, o5, o6, o7, none, none, none, none] ∧ Same H H5 ∧ H5 pq = some (.lst ys) ∧ TupsAt H5 ys (ts.map tv) ∧ H5 p = some (.lst zs) ∧ TupsAt H5 zs (((ts.take i).map (chR wd)).map tv))
    ⟨none, none, none, none, [], rfl, sA, e4', t4, ep, trivial⟩ (fun i σ H5 _ h5 => ?_) ?_ ?_⟩
  · obtain ⟨_, _, _, _, _, _, _, e5, _⟩ := h5
    exact SqL.of e5
  · rintro i x σ H5 hx ⟨o4, o5, o6, o7, zs, rfl, s5, e5, t5, e6, t6⟩
    obtain ⟨r, q1, hr', rfl, hq⟩ := row_get t5 hx
    have lz := row_len t6
    have lz2 := List.length_take_le' i ts
    rw [List.length_map] at lz
    refine ⟨q1, _, rfl, SqT.of hq, rfl, _, _, rfl, _, _, rfl, _, _, rfl, _, _, rfl, rfl, ?_⟩
    refine ⟨_, rfl, .inl ⟨rfl, _, SqL.of e6⟩, _, rfl, _, rfl, _, rfl, _, rfl, _, _, rfl, rfl, _, rfl, _, _, rfl, rfl, .inr ⟨by decide, by decide⟩, _, _, rfl, rfl, (by show 3 ≤ sizeLine; decide), fun pl hpl => ?_⟩
    have u1 := same_new hpl (HO.lst [V.int r.2.2.1, V.int (601 - r.2.2.1), V.int (r.2.2.1 * 100 + 99)])
    refine ⟨_, rfl, pl, _, _, .int (chP wd r.2.2.1), rfl, rfl, SqL.of upd_same, pick3 wd r.2.2.1 v0 v1, _, rfl, (by show 4 ≤ sizeLine; decide), fun t ht => ?_⟩
    have u2 := u1.trans (same_new ht (HO.tup (tv (chR wd r))))
    have e7 := u2 _ _ e6
    refine ⟨p, zs, _, rfl, rfl, e7, small (by omega), ?_⟩
    refine ⟨_, _, _, _, _, rfl, same_over (s5.trans u2) hp _, by rw [upd_ne npq]; exact u2 _ _ e5, (t5.mono u2).upd (lst_ne e7), upd_same, ?_⟩
    rw [take_next hr', List.map_append, List.map_append]
    exact ((t6.mono u2).snoc upd_same).upd (lst_ne e7)
  rintro σ H5 ⟨o4, o5, o6, o7, zs, rfl, s5, e5, t5, e6, t6⟩
  rw [ly, List.take_length] at t6
  have lz := row_len t6
  rw [List.length_map] at lz
  generalize ts.map (chR wd) = rs' at t6 tr
  have R5 : RowAt false H5 p rs' := ⟨zs, e6, t6⟩
  have lz' := row_len t6
  refine ⟨_, rfl, p, zs, rfl, .inl ⟨SqL.of e6, fun tt htt => ?_⟩⟩
  have u1 := same_new htt (HO.tup zs)
  refine ⟨_, rfl, .ref tt, size, rfl, .inl ⟨tt, zs, rs'.map some, rfl, upd_same, (t6.mono u1).parts, by omega, fun H7 s7 => ?_⟩⟩
  have er : rowO (rs'.map some) size = true := by
    unfold rowO
    rw [allS_map]
    exact tr
  rw [er]
  refine ⟨true, true, rfl, _, rfl, iteF ?_⟩
  have sB := s5.trans (u1.trans s7)
  have R7 := R5.mono (u1.trans s7)
  refine ⟨_, rfl, a, _, rfl, .inl (sB.seq hS), ?_⟩
  refine ⟨_, _, rfl, _, _, rfl, _, _, rfl, ⟨by decide, by decide, ?_, ?_⟩, ?_⟩
  · split <;> split <;> simp <;> omega
  · split <;> split <;> simp <;> omega
  refine for_range (lo := 2) (fun i σ H8 => ∃ o8 o9 o10 o11, σ = [some (.ref a), some (.int size), some (.int wd), some (.ref p), o4, o5, o6, o7, o8, o9, o10, o11] ∧ Same H7 H8) ⟨none, none, none, none, rfl, Same.refl _⟩ ?_ ?_
  · rintro i σ H8 hi ⟨o8, o9, o10, o11, rfl, s8⟩
    refine ⟨_, rfl, _, rfl, a, ns, 2 + (i : Int), rfl, by omega, (sB.trans s8).seq hS, fun z2 => ⟨z2, 2, rfl, by decide, by decide, fun ps H9 ms s9 hps e9 l9 => ?_⟩⟩
    obtain ⟨y0, y1, rfl⟩ : ∃ y0 y1, ms = [y0, y1] := by
      match ms, l9 with
      | [y0, y1], _ => exact ⟨y0, y1, rfl⟩
    refine ⟨ps, _, _, .int y1, rfl, rfl, SqL.of e9, rfl, ?_⟩
    have sC := s8.trans s9
    refine ⟨_, rfl, _, rfl, p, rs', y1, rfl, R7.mono sC, by omega, fun x H10 s10 hx => ?_⟩
    refine ⟨_, rfl, _, rfl, _, _, rfl, rfl, ⟨by decide, by decide⟩, _, _, rfl, rfl, (by show (0 : Int) < 41; decide), (by show 3 ≤ sizeLine; decide), fun pm hpm => ?_⟩
    have u2 := same_new hpm (HO.lst [V.int size, V.int 40, V.int (y1 / 3 % 41)])
    obtain ⟨mo, hmo, hm40⟩ : ∃ mo : Int, atI [V.int size, V.int 40, V.int (y1 / 3 % 41)] (y1 / 7 % 3) = some (.int mo) ∧ mo ≤ 40 := by
      obtain e | e | e : y1 / 7 % 3 = 0 ∨ y1 / 7 % 3 = 1 ∨ y1 / 7 % 3 = 2 := by omega
      · rw [e]; exact ⟨size, rfl, by omega⟩
      · rw [e]; exact ⟨40, rfl, by decide⟩
      · rw [e]; exact ⟨y1 / 3 % 41, rfl, by omega⟩
    refine ⟨_, rfl, _, _, rfl, rfl, ⟨by decide, by decide⟩, _, _, rfl, rfl, (by show (0 : Int) < 3; decide), pm, _, _, .int mo, rfl, rfl, SqL.of upd_same, hmo, ?_⟩
    have hx2 := hx.mono u2
    have sD := sC.trans (s10.trans u2)
    refine ⟨_, rfl, _, rfl, x, mo, rfl, ?_⟩
    rcases hx2 with ⟨q2, ys2, os2, rfl, hq2, P2, l2⟩ | hN
    · refine .inl ⟨q2, ys2, os2, rfl, hq2, P2, l2, fun H11 s11 => ?_⟩
      refine ⟨_, rfl, _, rfl, .ref q2, mo, rfl, hm40, .inl ⟨q2, ys2, os2, rfl, s11 _ _ hq2, P2.mono s11, l2, fun H12 s12 => ?_⟩⟩
      refine ⟨_, _, rfl, _, rfl, ?_⟩
      rw [decide_eq_true rfl]
      exact iteF ⟨_, _, _, _, rfl, sD.trans (s11.trans s12)⟩
    · refine .inr ⟨hN, ?_⟩
      refine ⟨_, rfl, _, rfl, x, mo, rfl, hm40, .inr ⟨hN, ?_⟩⟩
      exact ⟨false, false, rfl, _, rfl, iteF ⟨_, _, _, _, rfl, sD⟩⟩
  rintro σ H8 ⟨o8, o9, o10, o11, rfl, s8⟩
  exact q H8
end
end K13
set_option maxHeartbeats 8000000
namespace K13
open PySem L2

theorem all_mk {l : PySem.W.OpenLaw} {w : World} {K : PySem.W.Frag} {h : Heap} {mg : Str → Option Value} {fa fWho fWth fTof fEnd fEip fGoe fItp fIst fIsr fCel fStm fRow fMap fRun fInr fLst fDue fPar fSts fThi fTru fLaw : Addr} (X : K.In h) (G : h.Ns mainGlobals mg) (hfa : mg "law" = some (.ref fa))
    {odWho anWho odWth anWth odTof anTof odEnd anEnd odEip anEip odGoe anGoe odItp anItp odIst anIst odIsr anIsr odCel anCel odStm anStm odRow anRow odMap anMap odRun anRun odInr anInr odLst anLst odDue anDue odPar anPar odSts anSts odThi anThi odTru anTru odLaw anLaw  : Option Addr} {slWho slWth slTof slEnd slEip slGoe slItp slIst slIsr slCel slStm slRow slMap slRun slInr slLst slDue slPar slSts slThi slTru slLaw  : Array (Option Value)} {ocWho kVWho dcWho pmWho cdWho ctWho ocWth kVWth dcWth pmWth cdWth ctWth ocTof kVTof dcTof pmTof cdTof ctTof ocEnd kVEnd dcEnd pmEnd cdEnd ctEnd ocEip kVEip dcEip pmEip cdEip ctEip ocGoe kVGoe dcGoe pmGoe cdGoe ctGoe ocItp kVItp dcItp pmItp cdItp ctItp ocIst kVIst dcIst pmIst cdIst ctIst ocIsr kVIsr dcIsr pmIsr cdIsr ctIsr ocCel kVCel dcCel pmCel cdCel ctCel ocStm kVStm dcStm pmStm cdStm ctStm ocRow kVRow dcRow pmRow cdRow ctRow ocMap kVMap dcMap pmMap cdMap ctMap ocRun kVRun dcRun pmRun cdRun ctRun ocInr kVInr dcInr pmInr cdInr ctInr ocLst kVLst dcLst pmLst cdLst ctLst ocDue kVDue dcDue pmDue cdDue ctDue ocPar kVPar dcPar pmPar cdPar ctPar ocSts kVSts dcSts pmSts cdSts ctSts ocThi kVThi dcThi pmThi cdThi ctThi ocTru kVTru dcTru pmTru cdTru ctTru ocLaw kVLaw dcLaw pmLaw cdLaw ctLaw  : Value} {gt0 gt1 gt2 gt3 gt4 gt5 gt6 gt7 : Tok}
   
    (aWho : PySem.W.nsIn K mainGlobals "is_whole" = some (some (.ref fWho)))
    (lWho : K.lookup fWho = some ⟨ocWho, odWho, .func (PySem.W.fnOf "is_whole" "is_whole" (defArgs sWho) (defBody sWho) (defScope sWho) .none kVWho dcWho pmWho anWho cdWho ctWho), slWho⟩)
    (cWho : PySem.W.codeIn K cdWho "is_whole" = true)
    (kWho : PySem.W.keepIn K (.ref fWho) = true)
    (aWth : PySem.W.nsIn K mainGlobals "is_within" = some (some (.ref fWth)))
    (lWth : K.lookup fWth = some ⟨ocWth, odWth, .func (PySem.W.fnOf "is_within" "is_within" (defArgs sWth) (defBody sWth) (defScope sWth) .none kVWth dcWth pmWth anWth cdWth ctWth), slWth⟩)
    (cWth : PySem.W.codeIn K cdWth "is_within" = true)
    (kWth : PySem.W.keepIn K (.ref fWth) = true)
    (aTof : PySem.W.nsIn K mainGlobals "is_tuple_of" = some (some (.ref fTof)))
    (lTof : K.lookup fTof = some ⟨ocTof, odTof, .func (PySem.W.fnOf "is_tuple_of" "is_tuple_of" (defArgs sTof) (defBody sTof) (defScope sTof) .none kVTof dcTof pmTof anTof cdTof ctTof), slTof⟩)
    (cTof : PySem.W.codeIn K cdTof "is_tuple_of" = true)
    (kTof : PySem.W.keepIn K (.ref fTof) = true)
    (aEnd : PySem.W.nsIn K mainGlobals "end_of" = some (some (.ref fEnd)))
    (lEnd : K.lookup fEnd = some ⟨ocEnd, odEnd, .func (PySem.W.fnOf "end_of" "end_of" (defArgs sEnd) (defBody sEnd) (defScope sEnd) .none kVEnd dcEnd pmEnd anEnd cdEnd ctEnd), slEnd⟩)
    (cEnd : PySem.W.codeIn K cdEnd "end_of" = true)
    (kEnd : PySem.W.keepIn K (.ref fEnd) = true)
    (aEip : PySem.W.nsIn K mainGlobals "end_in_piece" = some (some (.ref fEip)))
    (lEip : K.lookup fEip = some ⟨ocEip, odEip, .func (PySem.W.fnOf "end_in_piece" "end_in_piece" (defArgs sEip) (defBody sEip) (defScope sEip) .none kVEip dcEip pmEip anEip cdEip ctEip), slEip⟩)
    (cEip : PySem.W.codeIn K cdEip "end_in_piece" = true)
    (kEip : PySem.W.keepIn K (.ref fEip) = true)
    (aGoe : PySem.W.nsIn K mainGlobals "goes_on" = some (some (.ref fGoe)))
    (lGoe : K.lookup fGoe = some ⟨ocGoe, odGoe, .func (PySem.W.fnOf "goes_on" "goes_on" (defArgs sGoe) (defBody sGoe) (defScope sGoe) .none kVGoe dcGoe pmGoe anGoe cdGoe ctGoe), slGoe⟩)
    (cGoe : PySem.W.codeIn K cdGoe "goes_on" = true)
    (kGoe : PySem.W.keepIn K (.ref fGoe) = true)
    (aItp : PySem.W.nsIn K mainGlobals "is_tree_place" = some (some (.ref fItp)))
    (lItp : K.lookup fItp = some ⟨ocItp, odItp, .func (PySem.W.fnOf "is_tree_place" "is_tree_place" (defArgs sItp) (defBody sItp) (defScope sItp) .none kVItp dcItp pmItp anItp cdItp ctItp), slItp⟩)
    (cItp : PySem.W.codeIn K cdItp "is_tree_place" = true)
    (kItp : PySem.W.keepIn K (.ref fItp) = true)
    (aIst : PySem.W.nsIn K mainGlobals "is_stretch" = some (some (.ref fIst)))
    (lIst : K.lookup fIst = some ⟨ocIst, odIst, .func (PySem.W.fnOf "is_stretch" "is_stretch" (defArgs sIst) (defBody sIst) (defScope sIst) .none kVIst dcIst pmIst anIst cdIst ctIst), slIst⟩)
    (cIst : PySem.W.codeIn K cdIst "is_stretch" = true)
    (kIst : PySem.W.keepIn K (.ref fIst) = true)
    (aIsr : PySem.W.nsIn K mainGlobals "is_row" = some (some (.ref fIsr)))
    (lIsr : K.lookup fIsr = some ⟨ocIsr, odIsr, .func (PySem.W.fnOf "is_row" "is_row" (defArgs sIsr) (defBody sIsr) (defScope sIsr) .none kVIsr dcIsr pmIsr anIsr cdIsr ctIsr), slIsr⟩)
    (cIsr : PySem.W.codeIn K cdIsr "is_row" = true)
    (kIsr : PySem.W.keepIn K (.ref fIsr) = true)
    (aCel : PySem.W.nsIn K mainGlobals "_law_cell_at" = some (some (.ref fCel)))
    (lCel : K.lookup fCel = some ⟨ocCel, odCel, .func (PySem.W.fnOf "_law_cell_at" "_law_cell_at" (defArgs sCel) (defBody sCel) (defScope sCel) .none kVCel dcCel pmCel anCel cdCel ctCel), slCel⟩)
    (cCel : PySem.W.codeIn K cdCel "_law_cell_at" = true)
    (kCel : PySem.W.keepIn K (.ref fCel) = true)
    (aStm : PySem.W.nsIn K mainGlobals "_law_stream" = some (some (.ref fStm)))
    (lStm : K.lookup fStm = some ⟨ocStm, odStm, .func (PySem.W.fnOf "_law_stream" "_law_stream" (defArgs sStm) (defBody sStm) (defScope sStm) .none kVStm dcStm pmStm anStm cdStm ctStm), slStm⟩)
    (cStm : PySem.W.codeIn K cdStm "_law_stream" = true)
    (kStm : PySem.W.keepIn K (.ref fStm) = true)
    (aRow : PySem.W.nsIn K mainGlobals "_law_row" = some (some (.ref fRow)))
    (lRow : K.lookup fRow = some ⟨ocRow, odRow, .func (PySem.W.fnOf "_law_row" "_law_row" (defArgs sRow) (defBody sRow) (defScope sRow) .none kVRow dcRow pmRow anRow cdRow ctRow), slRow⟩)
    (cRow : PySem.W.codeIn K cdRow "_law_row" = true)
    (kRow : PySem.W.keepIn K (.ref fRow) = true)
    (aMap : PySem.W.nsIn K mainGlobals "_law_map" = some (some (.ref fMap)))
    (lMap : K.lookup fMap = some ⟨ocMap, odMap, .func (PySem.W.fnOf "_law_map" "_law_map" (defArgs sMap) (defBody sMap) (defScope sMap) .none kVMap dcMap pmMap anMap cdMap ctMap), slMap⟩)
    (cMap : PySem.W.codeIn K cdMap "_law_map" = true)
    (kMap : PySem.W.keepIn K (.ref fMap) = true)
    (aRun : PySem.W.nsIn K mainGlobals "_law_runs" = some (some (.ref fRun)))
    (lRun : K.lookup fRun = some ⟨ocRun, odRun, .func (PySem.W.fnOf "_law_runs" "_law_runs" (defArgs sRun) (defBody sRun) (defScope sRun) .none kVRun dcRun pmRun anRun cdRun ctRun), slRun⟩)
    (cRun : PySem.W.codeIn K cdRun "_law_runs" = true)
    (kRun : PySem.W.keepIn K (.ref fRun) = true)
    (aInr : PySem.W.nsIn K mainGlobals "_law_in_range" = some (some (.ref fInr)))
    (lInr : K.lookup fInr = some ⟨ocInr, odInr, .func (PySem.W.fnOf "_law_in_range" "_law_in_range" (defArgs sInr) (defBody sInr) (defScope sInr) .none kVInr dcInr pmInr anInr cdInr ctInr), slInr⟩)
    (cInr : PySem.W.codeIn K cdInr "_law_in_range" = true)
    (kInr : PySem.W.keepIn K (.ref fInr) = true)
    (aLst : PySem.W.nsIn K mainGlobals "_law_stretch" = some (some (.ref fLst)))
    (lLst : K.lookup fLst = some ⟨ocLst, odLst, .func (PySem.W.fnOf "_law_stretch" "_law_stretch" (defArgs sLst) (defBody sLst) (defScope sLst) .none kVLst dcLst pmLst anLst cdLst ctLst), slLst⟩)
    (cLst : PySem.W.codeIn K cdLst "_law_stretch" = true)
    (kLst : PySem.W.keepIn K (.ref fLst) = true)
    (aDue : PySem.W.nsIn K mainGlobals "_law_due" = some (some (.ref fDue)))
    (lDue : K.lookup fDue = some ⟨ocDue, odDue, .func (PySem.W.fnOf "_law_due" "_law_due" (defArgs sDue) (defBody sDue) (defScope sDue) .none kVDue dcDue pmDue anDue cdDue ctDue), slDue⟩)
    (cDue : PySem.W.codeIn K cdDue "_law_due" = true)
    (kDue : PySem.W.keepIn K (.ref fDue) = true)
    (aPar : PySem.W.nsIn K mainGlobals "_law_part" = some (some (.ref fPar)))
    (lPar : K.lookup fPar = some ⟨ocPar, odPar, .func (PySem.W.fnOf "_law_part" "_law_part" (defArgs sPar) (defBody sPar) (defScope sPar) .none kVPar dcPar pmPar anPar cdPar ctPar), slPar⟩)
    (cPar : PySem.W.codeIn K cdPar "_law_part" = true)
    (kPar : PySem.W.keepIn K (.ref fPar) = true)
    (aSts : PySem.W.nsIn K mainGlobals "_law_stretches" = some (some (.ref fSts)))
    (lSts : K.lookup fSts = some ⟨ocSts, odSts, .func (PySem.W.fnOf "_law_stretches" "_law_stretches" (defArgs sSts) (defBody sSts) (defScope sSts) .none kVSts dcSts pmSts anSts cdSts ctSts), slSts⟩)
    (cSts : PySem.W.codeIn K cdSts "_law_stretches" = true)
    (kSts : PySem.W.keepIn K (.ref fSts) = true)
    (aThi : PySem.W.nsIn K mainGlobals "_law_thing" = some (some (.ref fThi)))
    (lThi : K.lookup fThi = some ⟨ocThi, odThi, .func (PySem.W.fnOf "_law_thing" "_law_thing" (defArgs sThi) (defBody sThi) (defScope sThi) .none kVThi dcThi pmThi anThi cdThi ctThi), slThi⟩)
    (cThi : PySem.W.codeIn K cdThi "_law_thing" = true)
    (kThi : PySem.W.keepIn K (.ref fThi) = true)
    (aTru : PySem.W.nsIn K mainGlobals "_law_truth" = some (some (.ref fTru)))
    (lTru : K.lookup fTru = some ⟨ocTru, odTru, .func (PySem.W.fnOf "_law_truth" "_law_truth" (defArgs sTru) (defBody sTru) (defScope sTru) .none kVTru dcTru pmTru anTru cdTru ctTru), slTru⟩)
    (cTru : PySem.W.codeIn K cdTru "_law_truth" = true)
    (kTru : PySem.W.keepIn K (.ref fTru) = true)
    (aLaw : PySem.W.nsIn K mainGlobals "law" = some (some (.ref fLaw)))
    (lLaw : K.lookup fLaw = some ⟨ocLaw, odLaw, .func (PySem.W.fnOf "law" "law" (defArgs sLaw) (defBody sLaw) (defScope sLaw) .none kVLaw dcLaw pmLaw anLaw cdLaw ctLaw), slLaw⟩)
    (cLaw : PySem.W.codeIn K cdLaw "law" = true)
    (kLaw : PySem.W.keepIn K (.ref fLaw) = true)
    (z0 : PySem.W.nsIn K mainGlobals "isinstance" = some none)
    (z1 : PySem.W.nsIn K mainGlobals "int" = some none)
    (z2 : PySem.W.nsIn K mainGlobals "bool" = some none)
    (z3 : PySem.W.nsIn K mainGlobals "len" = some none)
    (z4 : PySem.W.nsIn K mainGlobals "range" = some none)
    (z5 : PySem.W.nsIn K mainGlobals "list" = some none)
    (z6 : PySem.W.nsIn K mainGlobals "tuple" = some none)
    (z7 : PySem.W.nsIn K mainGlobals "min" = some none)
    (z8 : PySem.W.nsIn K mainGlobals "max" = some none)
    (z9 : PySem.W.nsIn K mainGlobals "sorted" = some none)
    (z10 : PySem.W.nsIn K mainGlobals "all" = some none)
    (z11 : PySem.W.nsIn K mainGlobals "zip" = some none)
    (gl0 : PySem.W.nsIn K mainGlobals "MOST_CELLS" = some (some (.int 40 gt0)))
    (gl1 : PySem.W.nsIn K mainGlobals "PIECE_CELLS" = some (some (.int 8 gt1)))
    (gl2 : PySem.W.nsIn K mainGlobals "FIRST_PLACE" = some (some (.int 2 gt2)))
    (gl3 : PySem.W.nsIn K mainGlobals "LAST_PLACE" = some (some (.int 599 gt3)))
    (gl4 : PySem.W.nsIn K mainGlobals "AT" = some (some (.int 0 gt4)))
    (gl5 : PySem.W.nsIn K mainGlobals "LONG" = some (some (.int 1 gt5)))
    (gl6 : PySem.W.nsIn K mainGlobals "PLACE" = some (some (.int 2 gt6)))
    (gl7 : PySem.W.nsIn K mainGlobals "SKIP" = some (some (.int 3 gt7))) :
    ∃ fd : FuncData, (∀ (s : Shared) (v : Value), BindsTo s fd ⟨[v], []⟩ [("_law_script", v)]) ∧ ∀ base : Heap, K.In base → base.Ns mainGlobals mg → FnOk l.prog w K mg base CX0 6 fa fd ["_law_script"] (spLaw K) := by
  have e := hfa.symm.trans (PySem.W.mg_of X G aLaw)
  cases e
  have T : Txt mg := ⟨PySem.W.mg_none_of X G z0, PySem.W.mg_none_of X G z1, PySem.W.mg_none_of X G z2, PySem.W.mg_none_of X G z3, PySem.W.mg_none_of X G z4, PySem.W.mg_none_of X G z5, PySem.W.mg_none_of X G z6, PySem.W.mg_none_of X G z7, PySem.W.mg_none_of X G z8, PySem.W.mg_none_of X G z9, PySem.W.mg_none_of X G z10, PySem.W.mg_none_of X G z11, ⟨_, PySem.W.mg_of X G gl0⟩, ⟨_, PySem.W.mg_of X G gl1⟩, ⟨_, PySem.W.mg_of X G gl2⟩, ⟨_, PySem.W.mg_of X G gl3⟩, ⟨_, PySem.W.mg_of X G gl4⟩, ⟨_, PySem.W.mg_of X G gl5⟩, ⟨_, PySem.W.mg_of X G gl6⟩, ⟨_, PySem.W.mg_of X G gl7⟩⟩
  have FWho := fun_mk (st := sWho) lWho cWho kWho
  have hWho : Has K mg "is_whole" sWho ["thing"] fWho _ := ⟨FWho, FWho.binds (ps := ["thing"]) fun _ _ _ _ _ _ us hl => match us, hl with | [_], _ => rfl, PySem.W.mg_of X G aWho⟩
  have FWth := fun_mk (st := sWth) lWth cWth kWth
  have hWth : Has K mg "is_within" sWth ["thing", "low", "high"] fWth _ := ⟨FWth, FWth.binds (ps := ["thing", "low", "high"]) fun _ _ _ _ _ _ us hl => match us, hl with | [_, _, _], _ => rfl, PySem.W.mg_of X G aWth⟩
  have FTof := fun_mk (st := sTof) lTof cTof kTof
  have hTof : Has K mg "is_tuple_of" sTof ["thing", "many"] fTof _ := ⟨FTof, FTof.binds (ps := ["thing", "many"]) fun _ _ _ _ _ _ us hl => match us, hl with | [_, _], _ => rfl, PySem.W.mg_of X G aTof⟩
  have FEnd := fun_mk (st := sEnd) lEnd cEnd kEnd
  have hEnd : Has K mg "end_of" sEnd ["stretch"] fEnd _ := ⟨FEnd, FEnd.binds (ps := ["stretch"]) fun _ _ _ _ _ _ us hl => match us, hl with | [_], _ => rfl, PySem.W.mg_of X G aEnd⟩
  have FEip := fun_mk (st := sEip) lEip cEip kEip
  have hEip : Has K mg "end_in_piece" sEip ["stretch"] fEip _ := ⟨FEip, FEip.binds (ps := ["stretch"]) fun _ _ _ _ _ _ us hl => match us, hl with | [_], _ => rfl, PySem.W.mg_of X G aEip⟩
  have FGoe := fun_mk (st := sGoe) lGoe cGoe kGoe
  have hGoe : Has K mg "goes_on" sGoe ["ahead", "stretch"] fGoe _ := ⟨FGoe, FGoe.binds (ps := ["ahead", "stretch"]) fun _ _ _ _ _ _ us hl => match us, hl with | [_, _], _ => rfl, PySem.W.mg_of X G aGoe⟩
  have FItp := fun_mk (st := sItp) lItp cItp kItp
  have hItp : Has K mg "is_tree_place" sItp ["thing"] fItp _ := ⟨FItp, FItp.binds (ps := ["thing"]) fun _ _ _ _ _ _ us hl => match us, hl with | [_], _ => rfl, PySem.W.mg_of X G aItp⟩
  have FIst := fun_mk (st := sIst) lIst cIst kIst
  have hIst : Has K mg "is_stretch" sIst ["thing"] fIst _ := ⟨FIst, FIst.binds (ps := ["thing"]) fun _ _ _ _ _ _ us hl => match us, hl with | [_], _ => rfl, PySem.W.mg_of X G aIst⟩
  have FIsr := fun_mk (st := sIsr) lIsr cIsr kIsr
  have hIsr : Has K mg "is_row" sIsr ["thing", "size"] fIsr _ := ⟨FIsr, FIsr.binds (ps := ["thing", "size"]) fun _ _ _ _ _ _ us hl => match us, hl with | [_, _], _ => rfl, PySem.W.mg_of X G aIsr⟩
  have FCel := fun_mk (st := sCel) lCel cCel kCel
  have hCel : Has K mg "_law_cell_at" sCel ["_law_script", "_law_k"] fCel _ := ⟨FCel, FCel.binds (ps := ["_law_script", "_law_k"]) fun _ _ _ _ _ _ us hl => match us, hl with | [_, _], _ => rfl, PySem.W.mg_of X G aCel⟩
  have FStm := fun_mk (st := sStm) lStm cStm kStm
  have hStm : Has K mg "_law_stream" sStm ["_law_cell", "_law_many"] fStm _ := ⟨FStm, FStm.binds (ps := ["_law_cell", "_law_many"]) fun _ _ _ _ _ _ us hl => match us, hl with | [_, _], _ => rfl, PySem.W.mg_of X G aStm⟩
  have FRow := fun_mk (st := sRow) lRow cRow kRow
  have hRow : Has K mg "_law_row" sRow ["_law_cell", "_law_size"] fRow _ := ⟨FRow, FRow.binds (ps := ["_law_cell", "_law_size"]) fun _ _ _ _ _ _ us hl => match us, hl with | [_, _], _ => rfl, PySem.W.mg_of X G aRow⟩
  have FMap := fun_mk (st := sMap) lMap cMap kMap
  have hMap : Has K mg "_law_map" sMap ["_law_row_here"] fMap _ := ⟨FMap, FMap.binds (ps := ["_law_row_here"]) fun _ _ _ _ _ _ us hl => match us, hl with | [_], _ => rfl, PySem.W.mg_of X G aMap⟩
  have FRun := fun_mk (st := sRun) lRun cRun kRun
  have hRun : Has K mg "_law_runs" sRun ["_law_known"] fRun _ := ⟨FRun, FRun.binds (ps := ["_law_known"]) fun _ _ _ _ _ _ us hl => match us, hl with | [_], _ => rfl, PySem.W.mg_of X G aRun⟩
  have FInr := fun_mk (st := sInr) lInr cInr kInr
  have hInr : Has K mg "_law_in_range" sInr ["_law_thing_here", "_law_low", "_law_high"] fInr _ := ⟨FInr, FInr.binds (ps := ["_law_thing_here", "_law_low", "_law_high"]) fun _ _ _ _ _ _ us hl => match us, hl with | [_, _, _], _ => rfl, PySem.W.mg_of X G aInr⟩
  have FLst := fun_mk (st := sLst) lLst cLst kLst
  have hLst : Has K mg "_law_stretch" sLst ["_law_thing_here", "_law_size"] fLst _ := ⟨FLst, FLst.binds (ps := ["_law_thing_here", "_law_size"]) fun _ _ _ _ _ _ us hl => match us, hl with | [_, _], _ => rfl, PySem.W.mg_of X G aLst⟩
  have FDue := fun_mk (st := sDue) lDue cDue kDue
  have hDue : Has K mg "_law_due" sDue ["_law_thing_here", "_law_size"] fDue _ := ⟨FDue, FDue.binds (ps := ["_law_thing_here", "_law_size"]) fun _ _ _ _ _ _ us hl => match us, hl with | [_, _], _ => rfl, PySem.W.mg_of X G aDue⟩
  have FPar := fun_mk (st := sPar) lPar cPar kPar
  have hPar : Has K mg "_law_part" sPar ["_law_part_here", "_law_number"] fPar _ := ⟨FPar, FPar.binds (ps := ["_law_part_here", "_law_number"]) fun _ _ _ _ _ _ us hl => match us, hl with | [_, _], _ => rfl, PySem.W.mg_of X G aPar⟩
  have FSts := fun_mk (st := sSts) lSts cSts kSts
  have hSts : Has K mg "_law_stretches" sSts ["_law_row_here", "_law_number"] fSts _ := ⟨FSts, FSts.binds (ps := ["_law_row_here", "_law_number"]) fun _ _ _ _ _ _ us hl => match us, hl with | [_, _], _ => rfl, PySem.W.mg_of X G aSts⟩
  have FThi := fun_mk (st := sThi) lThi cThi kThi
  have hThi : Has K mg "_law_thing" sThi ["_law_row_here", "_law_number"] fThi _ := ⟨FThi, FThi.binds (ps := ["_law_row_here", "_law_number"]) fun _ _ _ _ _ _ us hl => match us, hl with | [_, _], _ => rfl, PySem.W.mg_of X G aThi⟩
  have FTru := fun_mk (st := sTru) lTru cTru kTru
  have hTru : Has K mg "_law_truth" sTru ["_law_told", "_law_due_here"] fTru _ := ⟨FTru, FTru.binds (ps := ["_law_told", "_law_due_here"]) fun _ _ _ _ _ _ us hl => match us, hl with | [_, _], _ => rfl, PySem.W.mg_of X G aTru⟩
  have FLaw := fun_mk (st := sLaw) lLaw cLaw kLaw
  refine ⟨PySem.W.fnOf "law" "law" (defArgs sLaw) (defBody sLaw) (defScope sLaw) .none kVLaw dcLaw pmLaw anLaw cdLaw ctLaw, fun s v => .of_eq rfl, fun base _ _ => ?_⟩
  have GWho : FnOk l.prog w K mg base CX0 1 fWho _ ["thing"] spWho0 := ok_Who FWho T
  have GWth : FnOk l.prog w K mg base CX0 2 fWth _ ["thing", "low", "high"] spWth0 := ok_Wth FWth hWho GWho
  have GTof : FnOk l.prog w K mg base CX0 1 fTof _ ["thing", "many"] spTof := ok_Tof FTof T
  have GEnd : FnOk l.prog w K mg base CX0 1 fEnd _ ["stretch"] spEnd := ok_End FEnd T
  have GEip : FnOk l.prog w K mg base CX0 1 fEip _ ["stretch"] spEip := ok_Eip FEip T
  have GGoe : FnOk l.prog w K mg base CX0 2 fGoe _ ["ahead", "stretch"] spGoe := ok_Goe FGoe hEnd GEnd hEip GEip T
  have GItp : FnOk l.prog w K mg base CX0 3 fItp _ ["thing"] spItp := ok_Itp FItp hWth GWth T
  have GIst : FnOk l.prog w K mg base CX0 4 fIst _ ["thing"] spIst := ok_Ist FIst hTof GTof hWho GWho hEnd GEnd hEip GEip hItp GItp T
  have GIsr : FnOk l.prog w K mg base CX0 5 fIsr _ ["thing", "size"] spIsr := ok_Isr FIsr hIst GIst hEnd GEnd hGoe GGoe T
  have GCel : FnOk l.prog w K mg base CX0 1 fCel _ ["_law_script", "_law_k"] (spCel K) := ok_Cel FCel T
  have GStm : FnOk l.prog w K mg base CX0 1 fStm _ ["_law_cell", "_law_many"] spStm := ok_Stm FStm T
  have GRow : FnOk l.prog w K mg base CX0 2 fRow _ ["_law_cell", "_law_size"] spRow := ok_Row FRow hStm GStm T
  have GMap : FnOk l.prog w K mg base CX0 1 fMap _ ["_law_row_here"] spMap := ok_Map FMap T
  have GRun : FnOk l.prog w K mg base CX0 1 fRun _ ["_law_known"] spRun := ok_Run FRun T
  have GInr : FnOk l.prog w K mg base CX0 1 fInr _ ["_law_thing_here", "_law_low", "_law_high"] spWth0 := ok_Inr FInr T
  have GLst : FnOk l.prog w K mg base CX0 2 fLst _ ["_law_thing_here", "_law_size"] spLst := ok_Lst FLst hInr GInr T
  have GDue : FnOk l.prog w K mg base CX0 3 fDue _ ["_law_thing_here", "_law_size"] spDue := ok_Due FDue hLst GLst hMap GMap hRun GRun T
  have GPar : FnOk l.prog w K mg base CX0 1 fPar _ ["_law_part_here", "_law_number"] spPar := ok_Par FPar T
  have GSts : FnOk l.prog w K mg base CX0 2 fSts _ ["_law_row_here", "_law_number"] spSts := ok_Sts FSts hPar GPar T
  have GThi : FnOk l.prog w K mg base CX0 3 fThi _ ["_law_row_here", "_law_number"] spThi := ok_Thi FThi hSts GSts T
  have GTru : FnOk l.prog w K mg base CX0 1 fTru _ ["_law_told", "_law_due_here"] spTru := ok_Tru FTru T
  exact ok_law FLaw hCel GCel hRow GRow hStm GStm hMap GMap hRun GRun hIsr GIsr hTru GTru hThi GThi hDue GDue T
theorem walk {l : PySem.W.OpenLaw} {q : Program} {loose : List Str} {XP : (Str → Option Value) → Heap → Prop} {YP : World → Heap → Prop} {d : DefRec} {K : Params → PySem.W.Frag} (hn : l.most = some 63) (hdf : d.params.defaults = [])
    (hY : ∀ (w : World) (h : Heap), YP w h → (K w.params).In h)
    (F : ∀ (w : World) (mg : Str → Option Value) (fa : Addr) (h : Heap), (K w.params).In h → h.Ns mainGlobals mg → mg d.name = some (.ref fa) →
      ∃ fd : FuncData, (∀ (s : Shared) (u : Value), BindsTo s fd ⟨[u], []⟩ [("_law_script", u)]) ∧ ∀ base : Heap, (K w.params).In base → base.Ns mainGlobals mg → FnOk l.prog w (K w.params) mg base CX0 6 fa fd ["_law_script"] (spLaw (K w.params))) :
    PySem.W.WalkO q loose XP YP l.row.toRowW d [] (fun f vs => PySem.call f vs) :=
  L2.walk_of (n := 63) (k := 6) (x := "_law_script") (CX := fun _ => CX0) (sp := fun w => spLaw (K w.params)) hn (by decide) hdf ⟨fun _ => rfl, by decide, by decide⟩ hY F (fun _ _ a ns hl _ hS => ⟨a, ns, rfl, hS, hl, fun _ => rfl⟩) fun _ _ _ _ _ z => z
end K13
open PySem PySem.W PyProof.Rows
set_option maxRecDepth 100000 in
set_option maxHeartbeats 0 in
theorem PySem.Challenge.cw_clonewood_k13_what_is_a_row_holds : PySem.Challenge.rw_clonewood_k13_what_is_a_row.Holds := by
  w_on; o_law; k_head; (case hw => w_witness2)
  k_fill
  refine K13.walk (l := PySem.Challenge.rw_clonewood_k13_what_is_a_row) rfl rfl (fun w h Y => PySem.W.kIn_of Y) ?F
  case F =>
    intro w mg fa h KX G hmg
    refine' K13.all_mk KX G hmg ?aWho ?lWho ?cWho ?kWho ?aWth ?lWth ?cWth ?kWth ?aTof ?lTof ?cTof ?kTof ?aEnd ?lEnd ?cEnd ?kEnd ?aEip ?lEip ?cEip ?kEip ?aGoe ?lGoe ?cGoe ?kGoe ?aItp ?lItp ?cItp ?kItp ?aIst ?lIst ?cIst ?kIst ?aIsr ?lIsr ?cIsr ?kIsr ?aCel ?lCel ?cCel ?kCel ?aStm ?lStm ?cStm ?kStm ?aRow ?lRow ?cRow ?kRow ?aMap ?lMap ?cMap ?kMap ?aRun ?lRun ?cRun ?kRun ?aInr ?lInr ?cInr ?kInr ?aLst ?lLst ?cLst ?kLst ?aDue ?lDue ?cDue ?kDue ?aPar ?lPar ?cPar ?kPar ?aSts ?lSts ?cSts ?kSts ?aThi ?lThi ?cThi ?kThi ?aTru ?lTru ?cTru ?kTru ?aLaw ?lLaw ?cLaw ?kLaw ?z0 ?z1 ?z2 ?z3 ?z4 ?z5 ?z6 ?z7 ?z8 ?z9 ?z10 ?z11 ?gl0 ?gl1 ?gl2 ?gl3 ?gl4 ?gl5 ?gl6 ?gl7
    (case aWho => k_is)
    (case lWho => k_is)
    (case cWho => k_is)
    (case kWho => k_is)
    (case aWth => k_is)
    (case lWth => k_is)
    (case cWth => k_is)
    (case kWth => k_is)
    (case aTof => k_is)
    (case lTof => k_is)
    (case cTof => k_is)
    (case kTof => k_is)
    (case aEnd => k_is)
    (case lEnd => k_is)
    (case cEnd => k_is)
    (case kEnd => k_is)
    (case aEip => k_is)
    (case lEip => k_is)
    (case cEip => k_is)
    (case kEip => k_is)
    (case aGoe => k_is)
    (case lGoe => k_is)
    (case cGoe => k_is)
    (case kGoe => k_is)
    (case aItp => k_is)
    (case lItp => k_is)
    (case cItp => k_is)
    (case kItp => k_is)
    (case aIst => k_is)
    (case lIst => k_is)
    (case cIst => k_is)
    (case kIst => k_is)
    (case aIsr => k_is)
    (case lIsr => k_is)
    (case cIsr => k_is)
    (case kIsr => k_is)
    (case aCel => k_is)
    (case lCel => k_is)
    (case cCel => k_is)
    (case kCel => k_is)
    (case aStm => k_is)
    (case lStm => k_is)
    (case cStm => k_is)
    (case kStm => k_is)
    (case aRow => k_is)
    (case lRow => k_is)
    (case cRow => k_is)
    (case kRow => k_is)
    (case aMap => k_is)
    (case lMap => k_is)
    (case cMap => k_is)
    (case kMap => k_is)
    (case aRun => k_is)
    (case lRun => k_is)
    (case cRun => k_is)
    (case kRun => k_is)
    (case aInr => k_is)
    (case lInr => k_is)
    (case cInr => k_is)
    (case kInr => k_is)
    (case aLst => k_is)
    (case lLst => k_is)
    (case cLst => k_is)
    (case kLst => k_is)
    (case aDue => k_is)
    (case lDue => k_is)
    (case cDue => k_is)
    (case kDue => k_is)
    (case aPar => k_is)
    (case lPar => k_is)
    (case cPar => k_is)
    (case kPar => k_is)
    (case aSts => k_is)
    (case lSts => k_is)
    (case cSts => k_is)
    (case kSts => k_is)
    (case aThi => k_is)
    (case lThi => k_is)
    (case cThi => k_is)
    (case kThi => k_is)
    (case aTru => k_is)
    (case lTru => k_is)
    (case cTru => k_is)
    (case kTru => k_is)
    (case aLaw => k_is)
    (case lLaw => k_is)
    (case cLaw => k_is)
    (case kLaw => k_is)
    (case z0 => k_is)
    (case z1 => k_is)
    (case z2 => k_is)
    (case z3 => k_is)
    (case z4 => k_is)
    (case z5 => k_is)
    (case z6 => k_is)
    (case z7 => k_is)
    (case z8 => k_is)
    (case z9 => k_is)
    (case z10 => k_is)
    (case z11 => k_is)
    (case gl0 => k_is)
    (case gl1 => k_is)
    (case gl2 => k_is)
    (case gl3 => k_is)
    (case gl4 => k_is)
    (case gl5 => k_is)
    (case gl6 => k_is)
    (case gl7 => k_is)
#print axioms PySem.Challenge.cw_clonewood_k13_what_is_a_row_holds
