import PyProof.Rows.All
import Wide.All
import OpenK.AllK
import Wide.FinOn
import Lean
import PyProof.EqAt
import PyProof.EqKinds
import PyProof.NeKinds
import PyProof.TupleCall
import PySem.Challenge.RW_clonewood_k14_cells_of_a_file
import PyProof.Rows.Range3
set_option Elab.async false
set_option linter.all false
set_option maxRecDepth 100000
/-! THE HAND LAYER, for ints, bools, texts, own classes, LISTS and tuples (index, slices, in, append, pop ..), calls, loops. Paste it whole ahead of your own text; what your proof does not reach may be deleted. -/
namespace L2
open PySem PySem.Spec PyProof.Rows

/-- a key: an int or a str -/
abbrev Key := Sum Int Str
def keyIs : Key → Value → Bool
  | .inl k, v => Value.isInt k v
  | .inr x, v => Value.isStrOf x v
def keyH (w : World) : Key → Int
  | .inl k => hashInt k
  | .inr x => hashStr w x
theorem keyIs_shape : ∀ {k : Key} {v : Value}, keyIs k v = true → (∃ i t, k = Sum.inl i ∧ v = Value.int i t) ∨ (∃ x t, k = Sum.inr x ∧ v = Value.str x t)
  | .inl i, v, h => by
    obtain ⟨t, e⟩ := Value.isInt_shape (k := i) (v := v) h
    exact .inl ⟨i, t, rfl, e⟩
  | .inr x, v, h => by
    obtain ⟨t, e⟩ := Value.isStrOf_shape (x := x) (v := v) h
    exact .inr ⟨x, t, rfl, e⟩
theorem keyIs_int (i : Int) (t : Tok) : keyIs (.inl i) (.int i t) = true := by simp [keyIs, Value.isInt]
theorem keyIs_str (x : Str) (t : Tok) : keyIs (.inr x) (.str x t) = true := by simp [keyIs, Value.isStrOf]
theorem key_ll (a b : Int) : decide ((Sum.inl a : Key) = Sum.inl b) = (a == b) := by
  by_cases e : a = b
  · subst e; simp
  · have h : ¬ (Sum.inl a : Key) = Sum.inl b := fun q => e (Sum.inl.inj q)
    rw [decide_eq_false h]
    exact (beq_eq_false_iff_ne.mpr e).symm
theorem key_rr (a b : Str) : decide ((Sum.inr a : Key) = Sum.inr b) = decide (a = b) := by
  by_cases e : a = b
  · subst e; simp
  · have h : ¬ (Sum.inr a : Key) = Sum.inr b := fun q => e (Sum.inr.inj q)
    rw [decide_eq_false h, decide_eq_false e]
theorem key_lr (a : Int) (b : Str) : decide ((Sum.inl a : Key) = Sum.inr b) = false := decide_eq_false (fun q => nomatch q)
theorem key_rl (a : Str) (b : Int) : decide ((Sum.inr a : Key) = Sum.inl b) = false := decide_eq_false (fun q => nomatch q)

def mixKind (prog : Program) (w : World) : PySem.KeyKind prog w Key where
  is := keyIs
  hash := keyH w
  inj := fun v a b ha hb => by
    rcases keyIs_shape ha with ⟨i, t, rfl, rfl⟩ | ⟨x, t, rfl, rfl⟩
    · rcases keyIs_shape hb with ⟨j, u, rfl, e⟩ | ⟨y, u, rfl, e⟩
      · injection e with e1 _; rw [e1]
      · exact nomatch e
    · rcases keyIs_shape hb with ⟨j, u, rfl, e⟩ | ⟨y, u, rfl, e⟩
      · exact nomatch e
      · injection e with e1 _; rw [e1]
  byValue := fun k v h => by
    rcases keyIs_shape h with ⟨i, t, rfl, rfl⟩ | ⟨x, t, rfl, rfl⟩ <;> rfl
  pyHash := fun hv h => by
    rcases keyIs_shape hv with ⟨i, t, rfl, rfl⟩ | ⟨x, t, rfl, rfl⟩
    · exact wpAny_pyHash_int h
    · exact wpAny_pyHash_str h
  eqBool := fun hu hv h => by
    rcases keyIs_shape hu with ⟨i, t, rfl, rfl⟩ | ⟨x, t, rfl, rfl⟩
    · rcases keyIs_shape hv with ⟨j, u, rfl, rfl⟩ | ⟨y, u, rfl, rfl⟩
      · rw [key_ll] at h; exact wpAny_eqBool_int h
      · rw [key_lr] at h; exact SeqAt.EqAt.int_str i t y u _ _ _ _ h
    · rcases keyIs_shape hv with ⟨j, u, rfl, rfl⟩ | ⟨y, u, rfl, rfl⟩
      · rw [key_rl] at h; exact SeqAt.EqAt.str_int x t j u _ _ _ _ h
      · rw [key_rr] at h; exact wpAny_eqBool_str h
  «strs» := fun k x t v h => by
    rcases keyIs_shape h with ⟨i, u, rfl, e⟩ | ⟨y, u, rfl, e⟩
    · exact nomatch e
    · injection e with e1 _
      subst e1
      cases v <;> rfl

theorem mixKind_int (prog : Program) (w : World) (i : Int) (t : Tok) : (mixKind prog w).is (.inl i) (.int i t) = true := keyIs_int i t
theorem mixKind_str (prog : Program) (w : World) (x : Str) (t : Tok) : (mixKind prog w).is (.inr x) (.str x t) = true := keyIs_str x t
end L2

namespace L2
open PySem PySem.Spec PyProof.Rows

/-- a value, without the heap -/
inductive V where
  | non | bl (b : Bool) | int (i : Int) | str (x : Str) | byt (b : Array UInt8) | flt (b : UInt64) | ref (a : Addr) | ty (n : String)
  deriving DecidableEq

def RelV : V → Value → Prop
  | .non, u => u = Value.none
  | .bl b, u => u = Value.bool b
  | .int i, u => ∃ t, u = Value.int i t
  | .str x, u => ∃ t, u = Value.str x t
  | .byt b, u => ∃ t, u = Value.bytes b t
  | .flt b, u => ∃ t, u = Value.float b t
  | .ref a, u => u = Value.ref a
  | .ty n, u => u = Value.type n

abbrev Vals : List V → List Value → Prop := Paired RelV
theorem Vals.length {xs : List V} {us : List Value} (r : Vals xs us) : xs.length = us.length := Paired.length r
theorem Vals.get : ∀ {xs : List V} {us : List Value} {i : Nat} {x : V}, Vals xs us → xs[i]? = some x → ∃ u, us[i]? = some u ∧ RelV x u
  | _, _, _, _, .nil, e => by simp at e
  | _, _, 0, _, .cons r _, e => by simp at e; subst e; exact ⟨_, rfl, r⟩
  | _, _, i + 1, x, .cons _ t, e => by
    obtain ⟨u, h1, h2⟩ := Vals.get (i := i) (x := x) t (by simpa using e)
    exact ⟨u, by simpa using h1, h2⟩
theorem Vals.set {x : V} {u : Value} (r : RelV x u) : ∀ {xs : List V} {us : List Value} (i : Nat), Vals xs us → Vals (xs.set i x) (us.set i u)
  | _, _, _, .nil => .nil
  | _, _, 0, .cons _ t => .cons r t
  | _, _, i + 1, .cons q t => .cons q (Vals.set r i t)
theorem Vals.append : ∀ {xs ys : List V} {us ws : List Value}, Vals xs us → Vals ys ws → Vals (xs ++ ys) (us ++ ws)
  | _, _, _, _, .nil, s => s
  | _, _, _, _, .cons r t, s => .cons r (Vals.append t s)
theorem Vals.take : ∀ {xs : List V} {us : List Value} (n : Nat), Vals xs us → Vals (xs.take n) (us.take n)
  | _, _, 0, _ => .nil
  | _, _, _ + 1, .nil => .nil
  | _, _, n + 1, .cons r t => .cons r (Vals.take n t)
theorem Vals.drop : ∀ {xs : List V} {us : List Value} (n : Nat), Vals xs us → Vals (xs.drop n) (us.drop n)
  | _, _, 0, r => r
  | _, _, _ + 1, .nil => .nil
  | _, _, n + 1, .cons _ t => Vals.drop n t
def RelO : Option V → Option Value → Prop
  | some v, some u => RelV v u
  | none, none => True
  | _, _ => False
def KV {κ : Type} : List (κ × V) → List (κ × Value) → Prop := Paired fun (p : κ × V) (q : κ × Value) => p.1 = q.1 ∧ RelV p.2 q.2

/-- a key of a dict (00_mix): an int or a text -/
def kV : Key → V
  | .inl i => .int i
  | .inr x => .str x

/-- what stands at a tracked address -/
inductive HO where
  /-- a list -/
  | lst (xs : List V)
  /-- a tuple (never changes) -/
  | tup (xs : List V)
  /-- a dict whose keys are ints and texts; one whose keys are tuples of ints and texts (the empty one is both) -/
  | dK (kvs : List (Key × V)) | dT (kvs : List (List Key × V))
  /-- a set of ints: its members, its size -/
  | set (S : Int → Bool) (n : Nat)
  /-- an instance of the class at C, its dict at dx, its attributes -/
  | ins (C dx : Addr) (fs : List (Str × V))
  /-- the dict of the instance at x -/
  | own (x : Addr)
  /-- the dict of an exception -/
  | xd (fs : List (Str × V))
  /-- a bound method, f of x -/
  | met (f x : Addr)
  /-- a range object lo, lo + 1, .. below hi -/
  | rng (lo hi : Int)
  /-- a thing that is known to the object (the script; a dict while a loop walks it): read, never written while it is so -/
  | frz (o : Obj) (u : HO)
  /-- a code object's table -/
  | tbl (ps : Array Value)
  /-- any other thing, by what is true of its one object (a def of one's own: SetO a S n := HO.ext fun h => ..) -/
  | ext (φ : Heap → Prop)

abbrev Hp := Addr → Option HO
def upd (H : Hp) (a : Addr) (o : HO) : Hp := fun b => if b = a then some o else H b
theorem upd_same {H : Hp} {a : Addr} {o : HO} : upd H a o a = some o := by unfold upd; rw [if_pos rfl]
theorem upd_ne {H : Hp} {a b : Addr} {o : HO} (h : b ≠ a) : upd H a o b = H b := by unfold upd; rw [if_neg h]
/-- two objects of different content stand apart -/
theorem ne_of {H : Hp} {a b : Addr} {o u : HO} (h : H a = some o) (h' : H b = some u) (d : o ≠ u) : a ≠ b := by
  intro e; subst e; rw [h] at h'; exact d (Option.some.inj h')
theorem ne_of_none {H : Hp} {a b : Addr} {o : HO} (h : H a = some o) (h' : H b = none) : a ≠ b := by
  intro e; subst e; rw [h] at h'; cases h'

section
variable (P : Program) (w : World)
def ObjOk (H : Hp) (h : Heap) (a : Addr) : HO → Prop
  | .lst xs => xs.length ≤ sizeLine ∧ ∃ (its : List Value) (n : Nat), Vals xs its ∧ h.get? a = some { cls := .type "list", data := .seq its.toArray n }
  | .tup xs => xs.length ≤ sizeLine ∧ ∃ its : List Value, Vals xs its ∧ IsTup h a its.toArray
  | .dK kvs => kvs.length ≤ sizeLine ∧ (a == sysModules) = false ∧ ∃ vs, KV kvs vs ∧ h.DictOf (mixKind P w) a vs
  | .dT kvs => kvs.length ≤ sizeLine ∧ (a == sysModules) = false ∧ ∃ xs : List (List Key × Addr × Value),
      Paired (fun (p : List Key × V) (q : List Key × Addr × Value) => p.1 = q.1 ∧ H q.2.1 = some (.tup (p.1.map kV)) ∧ RelV p.2 q.2.2) kvs xs ∧
      ∃ o es ep, h.get? a = some o ∧ o.ExactDict ∧ o.data = .dict es ep ∧ es.toList = xs.map (entryOfKey (tupleKind (mixKind P w))) ∧ (xs.map (·.1)).Nodup
  | .set S n => h.SetOf (intKind P w) a S n
  | .ins C dx fs => H dx = some (.own a) ∧ fs.length ≤ 1000 ∧ dx ≠ a ∧ h.get? a = some (PySem.W.instObj C dx) ∧
      ∃ mA, h.Ns1 dx mA ∧ (∀ f, RelO (fs.lookup f) (mA f)) ∧ PySem.Within mA (fs.map (·.1))
  | .own _ => ∃ o, h.get? a = some o
  | .xd fs => ∃ mA, h.Ns1 a mA ∧ ∀ f, RelO (fs.lookup f) (mA f)
  | .rng lo hi => ∃ t u v, h.get? a = some { cls := .type "range", data := .fields #[.int lo t, .int hi u, .int 1 v] }
  | .frz o u => h.get? a = some o ∧ ObjOk H h a u
  | .tbl ps => h.get? a = some { cls := .none, data := .fields ps }
  | .met f x => h.get? a = some (PySem.W.methodObj (.ref f) (.ref x))
  | .ext φ => φ h ∧ (∃ o, h.get? a = some o) ∧ ∀ h1 h2 : Heap, φ h1 → (∀ o, h1.get? a = some o → h2.get? a = some o) → φ h2
/-- the abstract heap is held -/
def HOk (H : Hp) (h : Heap) : Prop := ∀ a o, H a = some o → ObjOk P w H h a o
end

section
variable {P : Program} {w : World} {H H' : Hp} {h h' : Heap} {a : Addr} {o : HO}
theorem ObjOk.lt (x : ObjOk P w H h a o) : a < h.objs.size := by
  cases o with
  | lst xs => obtain ⟨_, _, _, _, e⟩ := x; exact Heap.lt_size e
  | tup xs => obtain ⟨_, _, _, p⟩ := x; exact p.lt
  | dK kvs => obtain ⟨_, _, _, _, o, _, _, e, _⟩ := x; exact Heap.lt_size e
  | dT kvs => obtain ⟨_, _, _, _, o, _, _, e, _⟩ := x; exact Heap.lt_size e
  | set S n => obtain ⟨o, _, _, _, e, _⟩ := x; exact Heap.lt_size e
  | ins C dx fs => obtain ⟨_, _, _, e, _⟩ := x; exact Heap.lt_size e
  | own y => obtain ⟨_, e⟩ := x; exact Heap.lt_size e
  | xd fs => obtain ⟨_, ⟨_, _, _, e, _⟩, _⟩ := x; exact Heap.lt_size e
  | rng lo hi => obtain ⟨_, _, _, e⟩ := x; exact Heap.lt_size e
  | frz ob u => obtain ⟨e, _⟩ := x; exact Heap.lt_size e
  | tbl ps => exact Heap.lt_size (show h.get? a = some _ from x)
  | met f y => exact Heap.lt_size (show h.get? a = some _ from x)
  | ext φ => obtain ⟨_, ⟨_, e⟩, _⟩ := x; exact Heap.lt_size e
theorem Paired.mapP {α β : Type} {F G : α → β → Prop} : ∀ {l₁ : List α} {l₂ : List β}, Paired F l₁ l₂ → (∀ a b, F a b → G a b) → Paired G l₁ l₂
  | _, _, .nil, _ => .nil
  | _, _, .cons r t, f => .cons (f _ _ r) (Paired.mapP t f)
/-- what an object's description leans on: its own object, its own dict, the tuples -/
theorem ObjOk.stay (x : ObjOk P w H h a o) (k : ∀ b u, (b = a ∨ H b = some (.own a)) → h.get? b = some u → h'.get? b = some u)
    (ho : ∀ b, H b = some (.own a) → H' b = some (.own a)) (ht : ∀ b xs, H b = some (.tup xs) → H' b = some (.tup xs)) : ObjOk P w H' h' a o := by
  induction o with
  | lst xs => obtain ⟨z, its, n, r, e⟩ := x; exact ⟨z, its, n, r, k _ _ (.inl rfl) e⟩
  | tup xs => obtain ⟨z, its, r, ob, e, c⟩ := x; exact ⟨z, its, r, ob, k _ _ (.inl rfl) e, c⟩
  | dK kvs => obtain ⟨z, y, vs, r, ob, es, ep, e, c⟩ := x; exact ⟨z, y, vs, r, ob, es, ep, k _ _ (.inl rfl) e, c⟩
  | dT kvs =>
    obtain ⟨z, y, xs, r, ob, es, ep, e, c⟩ := x
    exact ⟨z, y, xs, Paired.mapP r fun p q z => ⟨z.1, ht _ _ z.2.1, z.2.2⟩, ob, es, ep, k _ _ (.inl rfl) e, c⟩
  | set S n => obtain ⟨ob, es, ep, t, e, c⟩ := x; exact ⟨ob, es, ep, t, k _ _ (.inl rfl) e, c⟩
  | ins C dx fs =>
    obtain ⟨d, z, ne, e, mA, ⟨od, es, ep, e2, c⟩, r⟩ := x
    exact ⟨ho _ d, z, ne, k _ _ (.inl rfl) e, mA, ⟨od, es, ep, k _ _ (.inr d) e2, c⟩, r⟩
  | own y => obtain ⟨ob, e⟩ := x; exact ⟨ob, k _ _ (.inl rfl) e⟩
  | xd fs => obtain ⟨mA, ⟨od, es, ep, e, c⟩, r⟩ := x; exact ⟨mA, ⟨od, es, ep, k _ _ (.inl rfl) e, c⟩, r⟩
  | rng lo hi => obtain ⟨t, u, v, e⟩ := x; exact ⟨t, u, v, k _ _ (.inl rfl) e⟩
  | frz ob u ih => obtain ⟨e, q⟩ := x; exact ⟨k _ _ (.inl rfl) e, ih q⟩
  | tbl ps =>
    have e : h.get? a = some { cls := .none, data := .fields ps } := x
    show h'.get? a = some { cls := .none, data := .fields ps }
    exact k a _ (.inl rfl) e
  | met f y =>
    have e : h.get? a = some (PySem.W.methodObj (.ref f) (.ref y)) := x
    show h'.get? a = some (PySem.W.methodObj (.ref f) (.ref y))
    exact k a _ (.inl rfl) e
  | ext φ => obtain ⟨p, ⟨o, e⟩, st⟩ := x; exact ⟨st _ _ p fun o q => k _ _ (.inl rfl) q, ⟨o, k _ _ (.inl rfl) e⟩, st⟩
theorem HOk.lt (x : HOk P w H h) (e : H a = some o) : a < h.objs.size := (x a o e).lt
theorem HOk.fresh (x : HOk P w H h) (e : h.objs.size ≤ a) : H a = none := by
  cases q : H a with
  | none => rfl
  | some u => exact absurd (Nat.lt_of_lt_of_le (x.lt q) e) (Nat.lt_irrefl _)
/-- every object of the heap is kept -/
theorem HOk.kept (x : HOk P w H h) (k : ∀ b u, h.get? b = some u → h'.get? b = some u) : HOk P w H h' := fun a o e =>
  (x a o e).stay (fun b u _ q => k b u q) (fun _ q => q) fun _ _ q => q
/-- a new object is laid and tracked -/
theorem HOk.laid (x : HOk P w H h) (k : ∀ b u, h.get? b = some u → h'.get? b = some u) (hp : h.objs.size ≤ a) (new : ObjOk P w (upd H a o) h' a o) : HOk P w (upd H a o) h' := fun b u e => by
  have hn := x.fresh hp
  by_cases hb : b = a
  · subst hb; rw [upd_same] at e; cases e; exact new
  · rw [upd_ne hb] at e
    exact (x b u e).stay (fun c v _ q => k c v q) (fun c q => by rw [upd_ne (ne_of_none q hn)]; exact q) fun c xs q => by rw [upd_ne (ne_of_none q hn)]; exact q
end

/-- what may be read as u: it is u, or a known u -/
def Rd (H : Hp) (a : Addr) (u : HO) : Prop := H a = some u ∨ ∃ o, H a = some (.frz o u)
theorem Rd.ok {P : Program} {w : World} {H : Hp} {h : Heap} {a : Addr} {u : HO} (r : Rd H a u) (x : HOk P w H h) : ObjOk P w H h a u := by
  rcases r with r | ⟨o, r⟩
  · exact x a u r
  · obtain ⟨_, q⟩ := x a _ r
    exact q
/-- what may be written -/
def Mut : Option HO → Prop
  | some (.lst _) => True
  | some (.dK _) => True
  | some (.dT _) => True
  | some (.set _ _) => True
  | some (.ins _ _ _) => True
  | some (.ext _) => True
  | _ => False
section
variable {P : Program} {w : World} {H : Hp} {h h' : Heap} {x e : Addr} {o' : HO}
/-- the object at e is changed: x itself, or the dict of the instance x -/
theorem HOk.write (ok : HOk P w H h) (mu : Mut (H x)) (he : e = x ∨ H e = some (.own x)) (k : ∀ b u, b ≠ e → h.get? b = some u → h'.get? b = some u) (heo : ∃ u, h'.get? e = some u)
    (new : ObjOk P w (upd H x o') h' x o') : HOk P w (upd H x o') h' := fun b u q => by
  have nown : ∀ c y, H c = some (.own y) → c ≠ x := fun c y r z => by subst z; rw [r] at mu; exact mu
  have ntup : ∀ c xs, H c = some (.tup xs) → c ≠ x := fun c xs r z => by subst z; rw [r] at mu; exact mu
  by_cases hb : b = x
  · subst hb; rw [upd_same] at q; cases q; exact new
  · rw [upd_ne hb] at q
    by_cases hbe : b = e
    · have q' : H b = some (.own x) := by
        rcases he with z | z
        · exact absurd (hbe.trans z) hb
        · rw [hbe]; exact z
      rw [q] at q'; cases q'
      obtain ⟨v, hv⟩ := heo
      exact ⟨v, by rw [hbe]; exact hv⟩
    · refine (ok b u q).stay (fun c v hc r => k c v ?_ r) (fun c r => by rw [upd_ne (nown c b r)]; exact r) fun c xs r => by rw [upd_ne (ntup c xs r)]; exact r
      rcases hc with rfl | hc
      · exact hbe
      · rintro rfl
        rcases he with z | z
        · exact nown c b hc z
        · rw [hc] at z; cases z; exact hb rfl
end

/-! ### kept unless tracked; of the frames at fs (the callers') the slots may change (an exception that passes writes there); of the records at ex (iterators) nothing is said -/
structure Un (fs ex : List Addr) (H H' : Hp) (h h' : Heap) : Prop where
  keep : ∀ b o, h.get? b = some o → H b = none → b ∉ fs → b ∉ ex → h'.get? b = some o
  slot : ∀ b o, h.get? b = some o → H b = none → b ∈ fs → b ∉ ex → ∃ sl, h'.get? b = some { o with slots := sl }
  free : ∀ b o, h.get? b = some o → H b = none → b ∉ ex → H' b = none
  there : ∀ b o, h.get? b = some o → b ∉ ex → ∃ o', h'.get? b = some o'
  tups : ∀ b xs, H b = some (.tup xs) → H' b = some (.tup xs)
  frzs : ∀ b o u, H b = some (.frz o u) → H' b = some (.frz o u)
  tbls : ∀ b ps, H b = some (.tbl ps) → ∃ more, H' b = some (.tbl (ps ++ more))
section
variable {fs fs' ex ex' : List Addr} {H H1 H2 : Hp} {h h1 h2 h' : Heap} {a x e : Addr} {o : HO}
theorem Un.any (u : Un fs ex H H1 h h1) {b : Addr} {ob : Obj} (q : h.get? b = some ob) (n : H b = none) (hx : b ∉ ex) : ∃ sl, h1.get? b = some { ob with slots := sl } := by
  by_cases hb : b ∈ fs
  · exact u.slot b ob q n hb hx
  · exact ⟨ob.slots, u.keep b ob q n hb hx⟩
theorem Un.kept (k : ∀ b u, h.get? b = some u → h'.get? b = some u) : Un fs ex H H h h' :=
  ⟨fun b ob q _ _ _ => k b ob q, fun b ob q _ _ _ => ⟨ob.slots, k b ob q⟩, fun _ _ _ n _ => n, fun b ob q _ => ⟨ob, k b ob q⟩, fun _ _ q => q, fun _ _ _ q => q, fun _ ps q => ⟨#[], by rw [q]; simp⟩⟩
theorem Un.refl : Un fs ex H H h h := Un.kept fun _ _ q => q
theorem Un.laid (k : ∀ b u, h.get? b = some u → h'.get? b = some u) (hp : h.objs.size ≤ a) (hn : H a = none) : Un fs ex H (upd H a o) h h' where
  keep := fun b u q _ _ _ => k b u q
  slot := fun b u q _ _ _ => ⟨u.slots, k b u q⟩
  free := fun b u q n _ => by rw [upd_ne (Nat.ne_of_lt (Nat.lt_of_lt_of_le (Heap.lt_size q) hp))]; exact n
  there := fun b u q _ => ⟨u, k b u q⟩
  tups := fun b xs q => by rw [upd_ne (ne_of_none q hn)]; exact q
  frzs := fun b u xs q => by rw [upd_ne (ne_of_none q hn)]; exact q
  tbls := fun b ps q => ⟨#[], by rw [upd_ne (ne_of_none q hn), q]; simp⟩
theorem Un.write (mu : Mut (H x)) (he : e = x ∨ H e = some (.own x)) (k : ∀ b u, b ≠ e → h.get? b = some u → h'.get? b = some u) (heo : ∃ u, h'.get? e = some u) : Un fs ex H (upd H x o) h h' := by
  have hx : ∀ b, H b = none → b ≠ x := fun b n z => by subst z; rw [n] at mu; exact mu
  have hb : ∀ b, H b = none → b ≠ e := fun b n z => by
    subst z
    rcases he with r | r
    · exact hx b n r
    · rw [n] at r; cases r
  have hm : ∀ b u, H b = some u → ¬ Mut (some u) → b ≠ x := fun b u q nm z => by subst z; rw [q] at mu; exact nm mu
  refine ⟨fun b u q n _ _ => k b u (hb b n) q, fun b u q n _ _ => ⟨u.slots, k b u (hb b n) q⟩, fun b u q n _ => by rw [upd_ne (hx b n)]; exact n, fun b u q _ => ?_,
    fun b xs q => by rw [upd_ne (hm b _ q fun z => z)]; exact q, fun b u xs q => by rw [upd_ne (hm b _ q fun z => z)]; exact q, fun b ps q => ⟨#[], by rw [upd_ne (hm b _ q fun z => z), q]; simp⟩⟩
  by_cases hbe : b = e
  · subst hbe; exact heo
  · exact ⟨u, k b u hbe q⟩
end

/-! ### the heap without what is tracked -/
def trk (h : Heap) (H : Hp) : List Addr := (List.range h.objs.size).filter fun a => (H a).isSome
def hidT (h : Heap) (H : Hp) : Heap := PySem.W.hideAll h (trk h H)
theorem hidT_size (h : Heap) (H : Hp) : (hidT h H).objs.size = h.objs.size := PySem.W.hideAll_size _ _
theorem hidT_get {h : Heap} {H : Hp} {b : Addr} {o : Obj} (e : h.get? b = some o) (n : H b = none) : (hidT h H).get? b = some o :=
  PySem.W.hideAll_get _ e fun hm => by
    have q : (H b).isSome = true := (List.mem_filter.mp hm).2
    rw [n] at q; simp at q
theorem of_hidT {h : Heap} {H : Hp} {b : Addr} {o : Obj} (e : (hidT h H).get? b = some o) : h.get? b = some o ∧ H b = none := by
  have e' : h.get? b = some o := PySem.W.of_hideAll (trk h H) e
  refine ⟨e', ?_⟩
  cases q : H b with
  | none => rfl
  | some x =>
    have hm : b ∈ trk h H := List.mem_filter.mpr ⟨List.mem_range.mpr (Heap.lt_size e'), by simp [q]⟩
    have z : (hidT h H).get? b = none := PySem.W.hideAll_none (trk h H) hm
    rw [z] at e; cases e

/-! ### OpenK's ledger, filled with every new object but one -/
end L2

namespace L2
open PySem PySem.Spec PyProof.Rows

/-- the module's facts, over the base: the heap at the law's entry without what is tracked there -/
structure Mod (K : PySem.W.Frag) (mg : Str → Option Value) (base : Heap) : Prop where
  kin : K.In base
  glob : base.Ns mainGlobals mg
  blt : ∃ mb, base.Ns builtinsNs mb ∧ ∀ x : Str, x ≠ "__name__" → mb x = bootBuiltins x
  nolimit : base.NoLimit

/-- the context: a def's body (or a comprehension's block) running. base: fixed through the whole law; s₀, H₀: the entry; outer: the frames whose slots others may change (a def's callers); stack: all frames that run;
   ex: iterators that were made ahead of the entry and are walked here (a comprehension's); fn: the names whose cells were made at the entry (a def: all; a comprehension's block: its own); calm: not within an except suite; pn: pins that every state bears; xe: what is wanted of an exception that leaves the code -/
structure Cx where
  prog : Program
  w : World
  K : PySem.W.Frag
  mg : Str → Option Value
  base : Heap
  A : Around
  N : List Str
  s₀ : Shared
  H₀ : Hp
  env : Env
  outer : List Env
  stack : List Env
  ex : List Addr
  fn : Str → Bool
  calm : Bool
  pn : List (Addr × Obj)
  xe : Value → Shared → Prop
/-- the callers' frames -/
def frs (l : List Env) : List Addr := l.filterMap (·.frame)
abbrev Cx.fs (X : Cx) : List Addr := frs X.outer

def Vis (sc : Scope) (x : Str) : Prop := sc.names.lookup x = some .local ∨ sc.names.lookup x = some .cell ∨ sc.names.lookup x = some .free
def Loc (sc : Scope) (x : Str) : Prop := sc.names.lookup x = some .local ∨ sc.names.lookup x = some .cell
def Look (env : Env) (h : Heap) (m : Str → Option Value) (x : Str) (u : Value) : Prop :=
  (env.kindOf x = some .local ∧ m x = some u) ∨ ((env.kindOf x = some .cell ∨ env.kindOf x = some .free) ∧ ∃ c, env.cells.lookup x = some c ∧ h.IsCell c (some u))

structure Cx.Ok (X : Cx) : Prop where
  mod : Mod X.K X.mg X.base
  kind : X.env.scope.kind = .function
  glob : X.env.globals = mainGlobals
  blt : X.env.builtins = builtinsNs
  above : X.s₀.heap.objs.size ≤ X.env.locals
  inj : ∀ x y c, X.env.cells.lookup x = some c → X.env.cells.lookup y = some c → x = y
  has : ∀ x, (X.env.kindOf x = some .cell ∨ X.env.kindOf x = some .free) → ∃ c, X.env.cells.lookup x = some c
  cab : ∀ x c, X.fn x = true → X.env.cells.lookup x = some c → X.s₀.heap.objs.size ≤ c
  hd : X.calm = true → X.A.handled = none
  frames : X.A.frames = some X.stack
  stk : X.stack = X.outer ∨ (X.stack = X.env :: X.outer ∧ X.env.frame = some X.env.locals)
  exf : ∀ b ∈ X.ex, b ≠ X.env.locals ∧ ∀ x c, X.env.cells.lookup x = some c → c ≠ b
  bs : ∀ b o, X.base.get? b = some o → X.s₀.heap.get? b = some o ∧ X.H₀ b = none
  bsz : X.base.objs.size ≤ X.s₀.heap.objs.size
  noex : ∀ b o, X.base.get? b = some o → b ∉ X.ex
  exfs : ∀ b ∈ X.ex, b ∉ X.fs
  funs : X.s₀.heap.FunFrames X.base X.outer
  frf : ∀ b ∈ X.fs, X.H₀ b = none

structure Inv (X : Cx) (pins : List (Addr × Obj)) (σ : List (Option V)) (H : Hp) (s : Shared) : Prop where
  ok : X.Ok
  os : s.os = X.s₀.os
  bare : AllBare s.gens
  base : Un X.fs X.ex X.H₀ H X.s₀.heap s.heap
  loc : ∃ m, s.heap.Ns X.env.locals m ∧ ∀ (i : Nat) (x : Str) (v : V), X.N[i]? = some x → σ[i]? = some (some v) → Vis X.env.scope x → ∃ u, RelV v u ∧ Look X.env s.heap m x u
  cell : ∀ x c, X.env.cells.lookup x = some c → ∃ v, s.heap.IsCell c v
  free : H X.env.locals = none
  freeC : ∀ x c, X.env.cells.lookup x = some c → H c = none
  pin : ∀ p ∈ X.pn ++ pins, s.heap.get? p.1 = some p.2 ∧ H p.1 = none ∧ p.1 ≠ X.env.locals ∧ p.1 ∉ X.fs ∧ ∀ v, p.2.data ≠ .cell v
  hok : HOk X.prog X.w H s.heap
  len : σ.length = X.N.length

section
variable {X : Cx} {pins : List (Addr × Obj)} {σ : List (Option V)} {H H' : Hp} {s : Shared} {h' : Heap}

theorem Cx.Ok.nofr (ok : X.Ok) {b : Addr} {o : Obj} (e : X.base.get? b = some o) : b ∉ X.fs := fun hb => by
  have := (ok.funs.mem hb).1
  rw [e] at this; cases this
theorem Inv.bs (I : Inv X pins σ H s) : ∀ b o, X.base.get? b = some o → s.heap.get? b = some o ∧ H b = none := fun b o e =>
  ⟨I.base.keep b o (I.ok.bs b o e).1 (I.ok.bs b o e).2 (I.ok.nofr e) (I.ok.noex b o e), I.base.free b o (I.ok.bs b o e).1 (I.ok.bs b o e).2 (I.ok.noex b o e)⟩
theorem Inv.bk (I : Inv X pins σ H s) : ∀ b o, X.base.get? b = some o → s.heap.get? b = some o := fun b o e => (I.bs b o e).1
theorem Inv.mod (I : Inv X pins σ H s) : Mod X.K X.mg X.base := I.ok.mod
theorem Inv.kIn (I : Inv X pins σ H s) : X.K.In s.heap := I.ok.mod.kin.keeps I.bk
theorem Inv.nolimit (I : Inv X pins σ H s) : s.heap.NoLimit := I.ok.mod.nolimit.keeps I.bk
theorem Inv.lt (I : Inv X pins σ H s) : X.env.locals < s.heap.objs.size := let ⟨_, hn, _⟩ := I.loc; hn.lt
theorem Inv.sz (I : Inv X pins σ H s) : X.s₀.heap.objs.size ≤ s.heap.objs.size := Nat.le_trans I.ok.above (Nat.le_of_lt I.lt)
theorem Inv.nofs (I : Inv X pins σ H s) {a : Addr} (h : s.heap.objs.size ≤ a) : a ∉ X.fs := fun hb => by
  obtain ⟨_, o, ho, _⟩ := I.ok.funs.mem hb
  exact absurd (Nat.lt_of_lt_of_le (Heap.lt_size ho) (Nat.le_trans I.sz h)) (Nat.lt_irrefl _)
theorem Inv.cne (I : Inv X pins σ H s) : ∀ x c, X.env.cells.lookup x = some c → c ≠ X.env.locals := fun x c e z => by
  obtain ⟨v, o, ho, hd⟩ := I.cell x c e
  obtain ⟨m, ⟨o', es, ep, ho', hd', _⟩, _⟩ := I.loc
  rw [z, ho'] at ho; cases ho; rw [hd'] at hd; cases hd
theorem Inv.funs (I : Inv X pins σ H s) : s.heap.FunFrames X.base X.outer := by
  have all : ∀ (l : List Env), (∀ b ∈ frs l, b ∈ X.fs) → X.s₀.heap.FunFrames X.base l → s.heap.FunFrames X.base l := by
    intro l
    induction l with
    | nil => intro _ _; trivial
    | cons env r ih =>
      intro hs hl
      obtain ⟨hk, ⟨L, o, hf, hn, ho, hd⟩, hr⟩ := hl
      have hL : L ∈ X.fs := hs L (by unfold frs; rw [List.filterMap_cons, hf]; exact List.mem_cons_self)
      obtain ⟨sl, e⟩ := I.base.slot L o ho (I.ok.frf L hL) hL fun z => I.ok.exfs L z hL
      exact ⟨hk, ⟨L, _, hf, hn, e, hd⟩, ih (fun b hb => hs b (by unfold frs; rw [List.filterMap_cons, hf]; exact List.mem_cons_of_mem _ hb)) hr⟩
  exact all X.outer (fun _ hb => hb) I.ok.funs

/-- the frames that run, for a call -/
theorem Inv.stack (I : Inv X pins σ H s) : s.heap.FunFrames X.base X.stack := by
  rcases I.ok.stk with e | ⟨e, hf⟩
  · rw [e]; exact I.funs
  · rw [e]
    obtain ⟨m, hn, _⟩ := I.loc
    refine .cons (by rw [I.ok.kind]; decide) hf hn ?_ I.funs
    exact Heap.get?_none_of_le (Nat.le_trans I.ok.bsz I.ok.above)
theorem Inv.stkSub (I : Inv X pins σ H s) : ∀ b ∈ frs X.stack, b ∈ X.env.locals :: X.fs := fun b hb => by
  rcases I.ok.stk with e | ⟨e, hf⟩
  · rw [e] at hb; exact List.mem_cons_of_mem _ hb
  · rw [e] at hb
    unfold frs at hb
    rw [List.filterMap_cons, hf] at hb
    exact hb
theorem Inv.stkFree (I : Inv X pins σ H s) : ∀ b ∈ frs X.stack, H b = none := fun b hb => by
  rcases List.mem_cons.mp (I.stkSub b hb) with e | hb
  · rw [e]; exact I.free
  · obtain ⟨_, o, ho, _⟩ := I.ok.funs.mem hb
    exact I.base.free b o ho (I.ok.frf b hb) fun z => I.ok.exfs b z hb

/-- THE STEP: the untracked objects but the frame and the records at ch are kept (the callers' frames up to slots), the frame's map is kept, the new abstract heap is held -/
theorem Inv.step {g' : Array GenState} {t' : Nat} {d' : Drawn} {ch : List Addr} (I : Inv X pins σ H s)
    (hch : ∀ b ∈ ch, (b ∈ X.ex ∨ X.s₀.heap.objs.size ≤ b) ∧ b ≠ X.env.locals ∧ (∀ x c, X.env.cells.lookup x = some c → c ≠ b) ∧ ∀ p ∈ X.pn ++ pins, p.1 ≠ b)
    (keep : ∀ b o, b ≠ X.env.locals → b ∉ X.fs → b ∉ ch → s.heap.get? b = some o → H b = none → h'.get? b = some o)
    (slot : ∀ b o, b ≠ X.env.locals → b ∈ X.fs → b ∉ ch → s.heap.get? b = some o → H b = none → ∃ sl, h'.get? b = some { o with slots := sl }) (free : ∀ b o, b ∉ ch → s.heap.get? b = some o → H b = none → H' b = none)
    (there : ∀ b o, b ∉ ch → s.heap.get? b = some o → ∃ o', h'.get? b = some o')
    (tups : ∀ b xs, H b = some (.tup xs) → H' b = some (.tup xs)) (frzs : ∀ b o u, H b = some (.frz o u) → H' b = some (.frz o u)) (tbls : ∀ b ps, H b = some (.tbl ps) → ∃ more, H' b = some (.tbl (ps ++ more)))
    (ns : ∀ m, s.heap.Ns X.env.locals m → h'.Ns X.env.locals m) (hok : HOk X.prog X.w H' h') (hg : AllBare g') :
    Inv X pins σ H' { s with heap := h', gens := g', drawn := d', toks := t' } := by
  have neL : ∀ b o, X.s₀.heap.get? b = some o → b ≠ X.env.locals := fun b o e => Nat.ne_of_lt (Nat.lt_of_lt_of_le (Heap.lt_size e) I.ok.above)
  have neC : ∀ b o, X.s₀.heap.get? b = some o → b ∉ X.ex → b ∉ ch := fun b o e hx hb => by
    rcases (hch b hb).1 with z | z
    · exact hx z
    · exact absurd (Nat.lt_of_lt_of_le (Heap.lt_size e) z) (Nat.lt_irrefl _)
  have cellK : ∀ x c, X.env.cells.lookup x = some c → ∀ v, s.heap.IsCell c v → h'.IsCell c v := fun x c e v ⟨o, ho, hd⟩ => by
    have nch : c ∉ ch := fun z => (hch c z).2.2.1 x c e rfl
    by_cases hc : c ∈ X.fs
    · obtain ⟨sl, q⟩ := slot c o (I.cne x c e) hc nch ho (I.freeC x c e)
      exact ⟨_, q, hd⟩
    · exact ⟨o, keep c o (I.cne x c e) hc nch ho (I.freeC x c e), hd⟩
  refine ⟨I.ok, I.os, hg, ⟨fun b o e n hb hx => ?_, fun b o e n hb hx => ?_, fun b o e n hx => ?_, fun b o e hx => ?_, fun b xs e => tups b xs (I.base.tups b xs e), fun b o xs e => frzs b o xs (I.base.frzs b o xs e), fun b ps e => ?_⟩, ?_, fun x c e => ?_, ?_, fun x c e => ?_, fun p hp => ?_, hok, I.len⟩
  · exact keep b o (neL b o e) hb (neC b o e hx) (I.base.keep b o e n hb hx) (I.base.free b o e n hx)
  · obtain ⟨sl, e1⟩ := I.base.slot b o e n hb hx
    obtain ⟨sl', e2⟩ := slot b _ (neL b o e) hb (neC b o e hx) e1 (I.base.free b o e n hx)
    exact ⟨sl', e2⟩
  · obtain ⟨o', e1⟩ := I.base.there b o e hx
    exact free b o' (neC b o e hx) e1 (I.base.free b o e n hx)
  · obtain ⟨o', e1⟩ := I.base.there b o e hx
    exact there b o' (neC b o e hx) e1
  · obtain ⟨m1, e1⟩ := I.base.tbls b ps e
    obtain ⟨m2, e2⟩ := tbls b _ e1
    exact ⟨m1 ++ m2, by rw [e2, Array.append_assoc]⟩
  · obtain ⟨m, hn, hl⟩ := I.loc
    refine ⟨m, ns m hn, fun i x v e1 e2 e3 => ?_⟩
    obtain ⟨u, r, l⟩ := hl i x v e1 e2 e3
    refine ⟨u, r, ?_⟩
    rcases l with l | ⟨k, c, e, z⟩
    · exact .inl l
    · exact .inr ⟨k, c, e, cellK x c e _ z⟩
  · obtain ⟨v, z⟩ := I.cell x c e
    exact ⟨v, cellK x c e v z⟩
  · obtain ⟨m, ⟨o, _, _, ho, _⟩, _⟩ := I.loc
    exact free _ o (fun z => (hch _ z).2.1 rfl) ho I.free
  · obtain ⟨v, o, ho, hd⟩ := I.cell x c e
    exact free c o (fun z => (hch c z).2.2.1 x c e rfl) ho (I.freeC x c e)
  · obtain ⟨e, n, ne, nf, d⟩ := I.pin p hp
    have nch : p.1 ∉ ch := fun z => (hch p.1 z).2.2.2 p hp rfl
    exact ⟨keep p.1 p.2 ne nf nch e n, free p.1 p.2 nch e n, ne, nf, d⟩
/-- .. where the frame's own object is kept too -/
theorem Inv.un {t' : Nat} (I : Inv X pins σ H s) (u : Un X.fs [] H H' s.heap h') (hok : HOk X.prog X.w H' h') : Inv X pins σ H' { s with heap := h', toks := t' } := by
  obtain ⟨m, ⟨o, es, ep, ho, r⟩, _⟩ := id I.loc
  obtain ⟨sl, hL⟩ := u.any ho I.free (by simp)
  exact I.step (g' := s.gens) (d' := s.drawn) (ch := []) (fun _ z => nomatch z) (fun b o _ hb _ e n => u.keep b o e n hb (by simp)) (fun b o _ hb _ e n => u.slot b o e n hb (by simp)) (fun b o _ e n => u.free b o e n (by simp)) (fun b o _ e => u.there b o e (by simp)) u.tups u.frzs u.tbls (fun m' hm => by
    obtain ⟨o', es', ep', ho', r'⟩ := hm
    rw [ho] at ho'; cases ho'
    exact ⟨_, es', ep', hL, r'⟩) hok I.bare
/-- behind a call (or a comprehension's block): the slots of this frame may have changed too, the records at ch may have turned -/
theorem Inv.call {g' : Array GenState} {t' : Nat} {d' : Drawn} {ch : List Addr} (I : Inv X pins σ H s) (u : Un (frs X.stack) ch H H' s.heap h') (hok : HOk X.prog X.w H' h') (hg : AllBare g')
    (hch : ∀ b ∈ ch, (b ∈ X.ex ∨ X.s₀.heap.objs.size ≤ b) ∧ b ≠ X.env.locals ∧ (∀ x c, X.env.cells.lookup x = some c → c ≠ b) ∧ ∀ p ∈ X.pn ++ pins, p.1 ≠ b) :
    Inv X pins σ H' { s with heap := h', gens := g', drawn := d', toks := t' } := by
  obtain ⟨m, ⟨o, es, ep, ho, r⟩, _⟩ := id I.loc
  obtain ⟨sl, hL⟩ := u.any ho I.free fun z => (hch _ z).2.1 rfl
  exact I.step (ch := ch) hch (fun b o hL hb hc e n => u.keep b o e n (fun z => (List.mem_cons.mp (I.stkSub b z)).elim hL hb) hc) (fun b o _ _ hc e n => u.any e n hc) (fun b o hc e n => u.free b o e n hc) (fun b o hc e => u.there b o e hc) u.tups u.frzs u.tbls (fun m' hm => by
    obtain ⟨o', es', ep', ho', r'⟩ := hm
    rw [ho] at ho'; cases ho'
    exact ⟨_, es', ep', hL, r'⟩) hok hg
/-- an untracked record of ours (an iterator) has turned -/
theorem Inv.turned {t' : Nat} {it : Addr} (I : Inv X pins σ H s) (k : ∀ b o, b ≠ it → s.heap.get? b = some o → h'.get? b = some o) (hn : H it = none) (hL : it ≠ X.env.locals)
    (h1 : it ∈ X.ex ∨ X.s₀.heap.objs.size ≤ it) (h2 : ∀ x c, X.env.cells.lookup x = some c → c ≠ it) (h3 : ∀ p ∈ X.pn ++ pins, p.1 ≠ it) : Inv X pins σ H { s with heap := h', toks := t' } := by
  have nit : ∀ b u, H b = some u → b ≠ it := fun b u e z => by rw [z, hn] at e; cases e
  refine I.step (g' := s.gens) (d' := s.drawn) (ch := [it]) (fun b hb => ?_) (fun b o _ _ hc e _ => k b o (fun z => hc (by simp [z])) e) (fun b o _ _ hc e _ => ⟨o.slots, k b o (fun z => hc (by simp [z])) e⟩) (fun _ _ _ _ n => n)
    (fun b o hc e => ⟨o, k b o (fun z => hc (by simp [z])) e⟩) (fun _ _ e => e) (fun _ _ _ e => e) (fun b ps e => ⟨#[], by rw [e]; simp⟩) (fun m hm => ?_) (fun b u e => ?_) I.bare
  · have e : b = it := by simpa using hb
    subst e
    exact ⟨h1, hL, h2, h3⟩
  · obtain ⟨o, es, ep, ho, r⟩ := hm
    exact ⟨o, es, ep, k _ o (Ne.symm hL) ho, r⟩
  · refine (I.hok b u e).stay (fun c v hc q => k c v ?_ q) (fun _ q => q) fun _ _ q => q
    rcases hc with z | z
    · rw [z]; exact nit b u e
    · exact nit c _ z
theorem Inv.tok (I : Inv X pins σ H s) (t : Nat) : Inv X pins σ H { s with toks := t } := I.un (h' := s.heap) (t' := t) Un.refl I.hok
/-- all objects kept -/
theorem Inv.kept {t' : Nat} (I : Inv X pins σ H s) (k : ∀ b u, s.heap.get? b = some u → h'.get? b = some u) : Inv X pins σ H { s with heap := h', toks := t' } := I.un (Un.kept k) (I.hok.kept k)
/-- a new object laid and tracked -/
theorem Inv.laid {a : Addr} {o : HO} {t' : Nat} (I : Inv X pins σ H s) (k : ∀ b u, s.heap.get? b = some u → h'.get? b = some u) (hp : s.heap.objs.size ≤ a) (new : ObjOk X.prog X.w (upd H a o) h' a o) :
    Inv X pins σ (upd H a o) { s with heap := h', toks := t' } := I.un (Un.laid k hp (I.hok.fresh hp)) (I.hok.laid k hp new)
/-- an object written -/
theorem Inv.write {x e : Addr} {o : HO} {t' : Nat} (I : Inv X pins σ H s) (mu : Mut (H x)) (he : e = x ∨ H e = some (.own x)) (k : ∀ b u, b ≠ e → s.heap.get? b = some u → h'.get? b = some u) (heo : ∃ u, h'.get? e = some u)
    (new : ObjOk X.prog X.w (upd H x o) h' x o) : Inv X pins σ (upd H x o) { s with heap := h', toks := t' } := I.un (Un.write mu he k heo) (I.hok.write mu he k heo new)
theorem Inv.pins_of {pins' : List (Addr × Obj)} (I : Inv X pins σ H s) (h : ∀ p ∈ pins', s.heap.get? p.1 = some p.2 ∧ H p.1 = none ∧ p.1 ≠ X.env.locals ∧ p.1 ∉ X.fs ∧ ∀ v, p.2.data ≠ .cell v) : Inv X pins' σ H s :=
  ⟨I.ok, I.os, I.bare, I.base, I.loc, I.cell, I.free, I.freeC, fun p hp => (List.mem_append.mp hp).elim (fun z => I.pin p (List.mem_append_left _ z)) (h p), I.hok, I.len⟩

theorem nodup_ix {N : List Str} (hN : N.Nodup) {i j : Nat} {x : Str} (a : N[i]? = some x) (b : N[j]? = some x) : i = j := by
  obtain ⟨h1, e1⟩ := List.getElem?_eq_some_iff.mp a
  obtain ⟨h2, e2⟩ := List.getElem?_eq_some_iff.mp b
  exact (List.getElem_inj hN).mp (e1.trans e2.symm)

/-- a name is stored; what changed -/
theorem store_ok2 {M : Model} {A : Around} {E : Value → Shared → Prop} {i : Nat} {x : Str} {v : V} {u : Value} {Q : Unit → Shared → Prop} (I : Inv X pins σ H s) (hN : X.N.Nodup) (hi : X.N[i]? = some x) (hx : Loc X.env.scope x) (r : RelV v u)
    (h : ∀ s', Inv X pins (σ.set i (some v)) H s' → (∃ a, Heap.SameBut a s.heap s'.heap ∧ (a = X.env.locals ∨ X.env.cells.lookup x = some a)) → Q () s') (hf : X.fn x = true ∨ X.env.scope.names.lookup x = some .local := by first | exact .inl rfl | exact .inr rfl | assumption) : wpAny M A (storeName X.env x u) Q E s := by
  obtain ⟨m, hn, hl⟩ := id I.loc
  have hcls : (X.env.scope.kind == .class || (X.env.scope.kind == .module && X.env.locals != X.env.globals)) = false := by rw [I.ok.kind]; rfl
  have hiσ : i < σ.length := by rw [I.len]; exact (List.getElem?_eq_some_iff.mp hi).1
  have cne := I.cne
  have tracked : ∀ {a : Addr} {h' : Heap}, (∃ o, s.heap.get? a = some o ∧ H a = none) → Heap.SameBut a s.heap h' → HOk X.prog X.w H h' := fun {a h'} ha hs b ob e => by
    obtain ⟨_, _, hfree⟩ := ha
    refine (I.hok b ob e).stay (fun c w' hc q => (hs.2 c ?_).trans q) (fun _ q => q) fun _ _ q => q
    rintro rfl
    rcases hc with rfl | hc
    · rw [hfree] at e; cases e
    · rw [hfree] at hc; cases hc
  rcases hx with hk | hk
  · refine wpAny_storeName_local hk hn (fun h' hn' hs => ?_) hcls
    obtain ⟨oL, _, _, hoL, _⟩ := id hn
    refine h _ ⟨I.ok, I.os, I.bare, ⟨fun b o e n hb hx => ?_, fun b o e n hb hx => ?_, I.base.free, fun b o e hx => ?_, I.base.tups, I.base.frzs, I.base.tbls⟩, ⟨_, hn', fun j y v' e1 e2 e3 => ?_⟩, fun y c e => ?_, I.free, I.freeC, fun p hp => ?_, tracked ⟨oL, hoL, I.free⟩ hs, by simpa using I.len⟩ ⟨_, hs, .inl rfl⟩
    · exact (hs.2 b (Nat.ne_of_lt (Nat.lt_of_lt_of_le (Heap.lt_size e) I.ok.above))).trans (I.base.keep b o e n hb hx)
    · obtain ⟨sl, e1⟩ := I.base.slot b o e n hb hx
      exact ⟨sl, (hs.2 b (Nat.ne_of_lt (Nat.lt_of_lt_of_le (Heap.lt_size e) I.ok.above))).trans e1⟩
    · obtain ⟨o', e1⟩ := I.base.there b o e hx
      exact ⟨o', (hs.2 b (Nat.ne_of_lt (Nat.lt_of_lt_of_le (Heap.lt_size e) I.ok.above))).trans e1⟩
    · by_cases hj : j = i
      · subst hj
        rw [hi] at e1; cases e1
        rw [List.getElem?_set_self hiσ] at e2
        cases e2
        exact ⟨u, r, .inl ⟨hk, by simp⟩⟩
      · rw [List.getElem?_set_ne (Ne.symm hj)] at e2
        obtain ⟨u', r', q⟩ := hl j y v' e1 e2 e3
        refine ⟨u', r', ?_⟩
        rcases q with ⟨k, e⟩ | ⟨k, c, e, z⟩
        · refine .inl ⟨k, ?_⟩
          have : y ≠ x := fun e => hj (nodup_ix hN e1 (e ▸ hi))
          simp [this, e]
        · exact .inr ⟨k, c, e, z.sameBut hs (cne y c e)⟩
    · obtain ⟨w', z⟩ := I.cell y c e
      exact ⟨w', z.sameBut hs (cne y c e)⟩
    · obtain ⟨e, n, ne, nf, d⟩ := I.pin p hp
      exact ⟨(hs.2 p.1 ne).trans e, n, ne, nf, d⟩
  · have hfn : X.fn x = true := by
      rcases hf with z | z
      · exact z
      · rw [z] at hk; cases hk
    obtain ⟨c, hc⟩ := I.ok.has x (.inl hk)
    obtain ⟨w', z⟩ := I.cell x c hc
    refine wpAny_storeName_cell I.ok.kind hk hc z (fun h' hc' hs => ?_)
    obtain ⟨oc, hoc, hocd⟩ := id z
    refine h { s with heap := h' } ⟨I.ok, I.os, I.bare, ⟨fun b o e n hb hx => ?_, fun b o e n hb hx => ?_, I.base.free, fun b o e hx => ?_, I.base.tups, I.base.frzs, I.base.tbls⟩, ⟨m, hn.sameBut hs (Ne.symm (cne x c hc)), fun j y v' e1 e2 e3 => ?_⟩, fun y c' e => ?_, I.free, I.freeC, fun p hp => ?_, tracked ⟨oc, hoc, I.freeC x c hc⟩ hs, by simpa using I.len⟩ ⟨c, hs, .inr hc⟩
    · exact (hs.2 b (Nat.ne_of_lt (Nat.lt_of_lt_of_le (Heap.lt_size e) (I.ok.cab x c hfn hc)))).trans (I.base.keep b o e n hb hx)
    · obtain ⟨sl, e1⟩ := I.base.slot b o e n hb hx
      exact ⟨sl, (hs.2 b (Nat.ne_of_lt (Nat.lt_of_lt_of_le (Heap.lt_size e) (I.ok.cab x c hfn hc)))).trans e1⟩
    · obtain ⟨o', e1⟩ := I.base.there b o e hx
      exact ⟨o', (hs.2 b (Nat.ne_of_lt (Nat.lt_of_lt_of_le (Heap.lt_size e) (I.ok.cab x c hfn hc)))).trans e1⟩
    · by_cases hj : j = i
      · subst hj
        rw [hi] at e1; cases e1
        rw [List.getElem?_set_self hiσ] at e2
        cases e2
        exact ⟨u, r, .inr ⟨.inl hk, c, hc, hc'⟩⟩
      · rw [List.getElem?_set_ne (Ne.symm hj)] at e2
        obtain ⟨u', r', q⟩ := hl j y v' e1 e2 e3
        refine ⟨u', r', ?_⟩
        rcases q with q | ⟨k, c', e, z'⟩
        · exact .inl q
        · refine .inr ⟨k, c', e, z'.sameBut hs ?_⟩
          rintro rfl
          exact hj (nodup_ix hN e1 (I.ok.inj _ _ _ e hc ▸ hi))
    · by_cases hcc : c' = c
      · subst hcc; exact ⟨_, hc'⟩
      · obtain ⟨w2, z2⟩ := I.cell y c' e
        exact ⟨w2, z2.sameBut hs hcc⟩
    · obtain ⟨e, n, ne, nf, d⟩ := I.pin p hp
      refine ⟨(hs.2 p.1 ?_).trans e, n, ne, nf, d⟩
      intro q
      rw [q, hoc] at e
      have q' : oc = p.2 := Option.some.inj e
      exact d w' (by rw [← q']; exact hocd)
theorem store_ok {M : Model} {A : Around} {E : Value → Shared → Prop} {i : Nat} {x : Str} {v : V} {u : Value} {Q : Unit → Shared → Prop} (I : Inv X pins σ H s) (hN : X.N.Nodup) (hi : X.N[i]? = some x) (hx : Loc X.env.scope x) (r : RelV v u)
    (h : ∀ s', Inv X pins (σ.set i (some v)) H s' → Q () s') (hf : X.fn x = true ∨ X.env.scope.names.lookup x = some .local := by first | exact .inl rfl | exact .inr rfl | assumption) : wpAny M A (storeName X.env x u) Q E s :=
  store_ok2 I hN hi hx r (fun s' I' _ => h s' I') hf
end

/-! ### the judgements -/
/-- an exception: its class, its own dict's address (where it has one), the abstract heap behind it -/
abbrev XK := Value → Option Addr → Hp → Prop
abbrev St := List (Option V)
abbrev VK := V → Hp → Prop
/-- an expression's reading; a test's; an argument list's -/
abbrev TE := St → Hp → VK → Prop
abbrev TT := St → Hp → (Bool → Hp → Prop) → Prop
abbrev TA := St → Hp → (List V → Hp → Prop) → Prop
/-- what is wanted behind a statement -/
structure Ends where
  nx : St → Hp → Prop
  rt : VK
  bk : St → Hp → Prop := fun _ _ => False
  ct : St → Hp → Prop := fun _ _ => False
abbrev TS := Ends → St → Hp → Prop

def EP (X : Cx) (pins : List (Addr × Obj)) (σ : St) (Q : VK) (u : Value) (s' : Shared) : Prop := ∃ v H', Inv X pins σ H' s' ∧ RelV v u ∧ Q v H'
def TP (X : Cx) (pins : List (Addr × Obj)) (σ : St) (Q : Bool → Hp → Prop) (b : Bool) (s' : Shared) : Prop := ∃ H', Inv X pins σ H' s' ∧ Q b H'
def AP (X : Cx) (pins : List (Addr × Obj)) (σ : St) (Q : List V → Hp → Prop) (us : List Value) (s' : Shared) : Prop := ∃ vs H', Inv X pins σ H' s' ∧ Vals vs us ∧ Q vs H'
def SP (X : Cx) (pins : List (Addr × Obj)) (D : Ends) (f : Flow) (s' : Shared) : Prop :=
  match f with
  | .next => ∃ σ' H', Inv X pins σ' H' s' ∧ D.nx σ' H'
  | .brk => ∃ σ' H', Inv X pins σ' H' s' ∧ D.bk σ' H'
  | .cont => ∃ σ' H', Inv X pins σ' H' s' ∧ D.ct σ' H'
  | .ret u => ∃ v σ' H', Inv X pins σ' H' s' ∧ RelV v u ∧ D.rt v H'

def PE (X : Cx) (e : Expr) (t : TE) : Prop :=
  ∀ (pins : List (Addr × Obj)) (s : Shared) (σ : St) (H : Hp) (Q : VK), Inv X pins σ H s → t σ H Q → wpAny (model X.prog X.w) X.A (eval e X.env) (EP X pins σ Q) X.xe s
def PT (X : Cx) (e : Expr) (t : TT) : Prop :=
  ∀ (pins : List (Addr × Obj)) (s : Shared) (σ : St) (H : Hp) (Q : Bool → Hp → Prop), Inv X pins σ H s → t σ H Q → wpAny (model X.prog X.w) X.A (isTrue e X.env (eval e X.env)) (TP X pins σ Q) X.xe s
/-- a test whatever its 'whole' is (and, or) -/
def PW (X : Cx) (e : Expr) (t : TT) : Prop :=
  ∀ (whole : Sem Value) (pins : List (Addr × Obj)) (s : Shared) (σ : St) (H : Hp) (Q : Bool → Hp → Prop), Inv X pins σ H s → t σ H Q → wpAny (model X.prog X.w) X.A (isTrue e X.env whole) (TP X pins σ Q) X.xe s
theorem PW.pt {X : Cx} {e : Expr} {t : TT} (h : PW X e t) : PT X e t := h _
/-- an argument list (no star), from the left -/
def PA (X : Cx) (es : List Expr) (t : TA) : Prop :=
  ∀ (pos : Pos) (pins : List (Addr × Obj)) (s : Shared) (σ : St) (H : Hp) (Q : List V → Hp → Prop), Inv X pins σ H s → t σ H Q → wpAny (model X.prog X.w) X.A (spliced (backTo pos (starEach es X.env))) (AP X pins σ Q) X.xe s
def PS (X : Cx) (st : Stmt) (t : TS) : Prop :=
  ∀ (pins : List (Addr × Obj)) (s : Shared) (σ : St) (H : Hp) (D : Ends), Inv X pins σ H s → t D σ H → wpAny (model X.prog X.w) X.A (exec st X.env) (SP X pins D) X.xe s
def PSs (X : Cx) (st : List Stmt) (t : TS) : Prop :=
  ∀ (pins : List (Addr × Obj)) (s : Shared) (σ : St) (H : Hp) (D : Ends), Inv X pins σ H s → t D σ H → wpAny (model X.prog X.w) X.A (execs st X.env) (SP X pins D) X.xe s
/-- weaken the end -/
theorem thn {α : Type} {t : Sem α} {Q Q' : α → Shared → Prop} {M : Model} {A : Around} {E : Value → Shared → Prop} {s : Shared} (h : wpAny M A t Q E s) (hQ : ∀ a s, Q a s → Q' a s) : wpAny M A t Q' E s := wpAny_mono h hQ fun _ _ x => x
end L2

namespace L2
open PySem PySem.Spec PyProof.Rows
section
variable {X : Cx}

/-- two expressions in a row -/
theorem bin {a b : Expr} {ta tb : TE} (ha : PE X a ta) (hb : PE X b tb) {pins : List (Addr × Obj)} {s : Shared} {σ : St} {H : Hp} {R : V → V → Hp → Prop} (I : Inv X pins σ H s) (h : ta σ H fun x H1 => tb σ H1 fun y H2 => R x y H2)
    {α : Type} {Q : α → Shared → Prop} {f : Value → Value → Sem α}
    (hf : ∀ v u s2 x y H2, Inv X pins σ H2 s2 → RelV x v → RelV y u → R x y H2 → wpAny (model X.prog X.w) X.A (f v u) Q X.xe s2) :
    wpAny (model X.prog X.w) X.A (eval a X.env) (fun v s₁ => wpAny (model X.prog X.w) X.A (eval b X.env) (fun u s₂ => wpAny (model X.prog X.w) X.A (f v u) Q X.xe s₂) X.xe s₁) X.xe s := by
  refine thn (ha pins s σ H _ I h) fun v s1 ⟨x, H1, I1, r1, q1⟩ => ?_
  refine thn (hb pins s1 σ H1 _ I1 q1) fun u s2 ⟨y, H2, I2, r2, q2⟩ => ?_
  exact hf v u s2 x y H2 I2 r1 r2 q2

/-! ### names and constants -/
def tVar (i : Nat) : TE := fun σ H Q => ∃ v, σ[i]? = some (some v) ∧ Q v H
def tC (v : V) : TE := fun _ H Q => Q v H
theorem pe_var {i : Nat} {x : Str} {pos : Pos} (hN : X.N[i]? = some x) (hv : Vis X.env.scope x) (hd : (x == ("__debug__" : Str)) = false := by decide) (hcd : (x == ("__classdict__" : Str)) = false := by decide) : PE X (.Name x pos) (tVar i) := by
  intro pins s σ H Q I h
  obtain ⟨v, e, h⟩ := h
  obtain ⟨m, hn, hl⟩ := I.loc
  obtain ⟨u, r, l⟩ := hl i x v hN e hv
  have fin : EP X pins σ Q u s := ⟨v, H, I, r, h⟩
  rcases l with ⟨hk, hm⟩ | ⟨hk, c, hc, hcell⟩
  · exact wpAny_Name (wpAny_loadName_local I.ok.kind hk hn hm fin) hd
  · rcases hk with hk | hk
    · exact wpAny_Name (wpAny_loadName_cell I.ok.kind hk hc hcell fin) hd
    · exact wpAny_Name (wpAny_loadName_free I.ok.kind hk hc hcell fin hcd) hd
theorem pe_int {i j pos} : PE X (.Constant (.int i) j pos) (tC (.int i)) := fun _ _ _ H _ I h => wpAny_Constant_int ⟨.int i, H, I.tok _, ⟨_, rfl⟩, h⟩
theorem pe_bl {b j pos} : PE X (.Constant (.bool b) j pos) (tC (.bl b)) := fun _ _ _ H _ I h => Constant_bool ⟨.bl b, H, I, rfl, h⟩
/-- a global name of the def -/
def Gl (X : Cx) (x : Str) : Prop := X.env.kindOf x = some .globalImplicit
theorem ld_glob {E : Value → Shared → Prop} {pins : List (Addr × Obj)} {s : Shared} {σ : St} {H : Hp} {x : Str} {u : Value} {pos : Pos} {Q : Value → Shared → Prop} (I : Inv X pins σ H s) (hg : Gl X x) (hm : X.mg x = some u) (h : Q u s)
    (hd : (x == ("__debug__" : Str)) = false := by decide) : wpAny (model X.prog X.w) X.A (eval (.Name x pos) X.env) Q E s :=
  Calls.Name_function_global I.ok.kind hg (Calls.loadGlobal_global (by rw [I.ok.glob]; exact I.mod.glob.keeps I.bk) hm h) hd
theorem ld_blt {E : Value → Shared → Prop} {pins : List (Addr × Obj)} {s : Shared} {σ : St} {H : Hp} {x : Str} {u : Value} {pos : Pos} {Q : Value → Shared → Prop} (I : Inv X pins σ H s) (hg : Gl X x) (hm : X.mg x = none) (hv : bootBuiltins x = some u) (h : Q u s)
    (hn : x ≠ "__name__" := by decide) (hd : (x == ("__debug__" : Str)) = false := by decide) : wpAny (model X.prog X.w) X.A (eval (.Name x pos) X.env) Q E s := by
  obtain ⟨mb, h1, h2⟩ := I.mod.blt
  exact Calls.Name_function_global I.ok.kind hg (Calls.loadGlobal_builtin (by rw [I.ok.glob]; exact I.mod.glob.keeps I.bk) hm (by rw [I.ok.blt]; exact h1.keeps I.bk) ((h2 x hn).trans hv) h) hd
/-- a module's constant, a class, a function, as a value -/
theorem pe_glob {x : Str} {v : V} {u : Value} {pos : Pos} (hg : Gl X x) (hm : X.mg x = some u) (r : RelV v u) (hd : (x == ("__debug__" : Str)) = false := by decide) : PE X (.Name x pos) (tC v) :=
  fun _ _ _ H _ I h => ld_glob I hg hm ⟨v, H, I, r, h⟩ hd
theorem pe_bltn {x : Str} {v : V} {u : Value} {pos : Pos} (hg : Gl X x) (hm : X.mg x = none) (hv : bootBuiltins x = some u) (r : RelV v u) (hn : x ≠ "__name__" := by decide) (hd : (x == ("__debug__" : Str)) = false := by decide) : PE X (.Name x pos) (tC v) :=
  fun _ _ _ H _ I h => ld_blt I hg hm hv ⟨v, H, I, r, h⟩ hn hd

/-! ### arithmetic -/
variable {a b : Expr} {ta tb : TE} {pos : Pos}
/-! ### comparisons -/
def PC (X : Cx) (op : CmpOp) (a b : Expr) (t : TE) : Prop :=
  ∀ (pins : List (Addr × Obj)) (s : Shared) (σ : St) (H : Hp) (Q : VK), Inv X pins σ H s → t σ H Q →
    wpAny (model X.prog X.w) X.A (eval a X.env) (fun v s₁ => wpAny (model X.prog X.w) X.A (eval b X.env) (fun u s₂ => wpAny (model X.prog X.w) X.A (compareOp op v u) (EP X pins σ Q) X.xe s₂) X.xe s₁) X.xe s
/-- a comparison as a value, as a test -/
def tB (t : TE) : TT := fun σ H Q => t σ H fun x H1 => ∃ c, x = .bl c ∧ Q c H1
theorem pt_cmp {op : CmpOp} {t : TE} (h : PC X op a b t) (h1 : behindInMarks op b = false := by first | exact nobehind _ (by decide) (by decide) | rfl) : PT X (.Compare a [op] [b] pos) (tB t) := by
  intro pins s σ H Q I hw
  refine wpAny_isTrue_Compare1 (thn (h pins s σ H _ I hw) fun v s1 h1 => thn h1 fun u s2 h2 => thn h2 fun c s3 ⟨x, H1, I1, r1, q1⟩ => ?_) h1
  obtain ⟨d, rfl, q⟩ := q1
  cases r1
  exact wpAny_truthy_bool ⟨H1, I1, q⟩
/-- an expression whose value is a bool, as a test -/
theorem pt_val {e : Expr} {t : TE} (h : PE X e t) (he : ∀ whole, isTrue e X.env whole = (do let v ← whole; standAt e.pos; holding [v] (truthy v)) := by intro _; rfl) : PT X e (tB t) := by
  intro pins s σ H Q I hw
  refine isTrue_plain (thn (h pins s σ H _ I hw) fun v s1 ⟨x, H1, I1, r1, q1⟩ => ?_) (he _)
  obtain ⟨d, rfl, q⟩ := q1
  cases r1
  exact wpAny_truthy_bool ⟨H1, I1, q⟩

/-! ### and, or, not -/
variable {tA tB' : TT} {rest : List Expr}
def tAnd (t u : TT) : TT := fun σ H Q => t σ H fun c H1 => if c = true then u σ H1 Q else Q false H1
def tOr (t u : TT) : TT := fun σ H Q => t σ H fun c H1 => if c = true then Q true H1 else u σ H1 Q
def tNot (t : TT) : TT := fun σ H Q => t σ H fun c H1 => Q (!c) H1
theorem pw_and1 (ha : PT X a tA) : PW X (.BoolOp .And [a] pos) tA := by
  intro wh pins s σ H Q I h
  refine isTrue_and (thn (ha pins s σ H Q I h) fun c s1 e => ?_)
  cases c with
  | true => exact isTrue_and_nil e
  | false => exact e
theorem pw_or1 (ha : PT X a tA) : PW X (.BoolOp .Or [a] pos) tA := by
  intro wh pins s σ H Q I h
  refine isTrue_or (thn (ha pins s σ H Q I h) fun c s1 e => ?_)
  cases c with
  | false => exact isTrue_or_nil e
  | true => exact e
theorem pw_and (ha : PT X a tA) (hb : PW X (.BoolOp .And (b :: rest) pos) tB') : PW X (.BoolOp .And (a :: b :: rest) pos) (tAnd tA tB') := by
  intro wh pins s σ H Q I h
  refine isTrue_and (thn (ha pins s σ H _ I h) fun c s1 ⟨H1, I1, q1⟩ => ?_)
  cases c with
  | true => exact hb wh pins s1 σ H1 Q I1 q1
  | false => exact ⟨H1, I1, q1⟩
theorem pw_or (ha : PT X a tA) (hb : PW X (.BoolOp .Or (b :: rest) pos) tB') : PW X (.BoolOp .Or (a :: b :: rest) pos) (tOr tA tB') := by
  intro wh pins s σ H Q I h
  refine isTrue_or (thn (ha pins s σ H _ I h) fun c s1 ⟨H1, I1, q1⟩ => ?_)
  cases c with
  | true => exact ⟨H1, I1, q1⟩
  | false => exact hb wh pins s1 σ H1 Q I1 q1
theorem pt_not (ha : PT X a tA) : PT X (.UnaryOp .Not a pos) (tNot tA) := by
  intro pins s σ H Q I h
  exact isTrue_not (ha pins s σ H (fun c H1 => Q (!c) H1) I h)
end
end L2

namespace L2
open PySem PySem.Spec PyProof.Rows

/-! ### a list, a tuple that is read: tracked, frozen, or an object of the module -/
def SqL (K : PySem.W.Frag) (H : Hp) (a : Addr) (xs : List V) : Prop :=
  Rd H a (.lst xs) ∨
    ∃ (o : Obj) (its : Array Value) (n : Nat), K.lookup a = some o ∧ o.cls = .type "list" ∧ o.dict = none ∧ o.data = .seq its n ∧ its.size ≤ sizeLine ∧ Vals xs its.toList
def SqT (K : PySem.W.Frag) (H : Hp) (a : Addr) (xs : List V) : Prop :=
  Rd H a (.tup xs) ∨
    ∃ (o : Obj) (its : Array Value) (n : Nat), K.lookup a = some o ∧ o.cls = .type "tuple" ∧ o.data = .seq its n ∧ its.size ≤ sizeLine ∧ Vals xs its.toList
def absV : Value → Option V
  | .none => some .non
  | .bool b => some (.bl b)
  | .int i _ => some (.int i)
  | .str x _ => some (.str x)
  | .bytes b _ => some (.byt b)
  | .float b _ => some (.flt b)
  | .ref a => some (.ref a)
  | .type n => some (.ty n)
  | _ => none
theorem RelV.abs {x : V} {u : Value} (r : RelV x u) : absV u = some x := by
  cases x with
  | non => cases r; rfl
  | bl _ => cases r; rfl
  | int _ => obtain ⟨t, rfl⟩ := r; rfl
  | str _ => obtain ⟨t, rfl⟩ := r; rfl
  | byt _ => obtain ⟨t, rfl⟩ := r; rfl
  | flt _ => obtain ⟨t, rfl⟩ := r; rfl
  | ref _ => cases r; rfl
  | ty _ => cases r; rfl
theorem RelV.inj {x y : V} {u : Value} (r : RelV x u) (q : RelV y u) : x = y := Option.some.inj (r.abs.symm.trans q.abs)
theorem Vals.inj : ∀ {xs ys : List V} {us : List Value}, Vals xs us → Vals ys us → xs = ys
  | _, _, _, .nil, .nil => rfl
  | _, _, _, .cons r t, .cons r' t' => by rw [r.inj r', Vals.inj t t']
section
variable {X : Cx} {pins : List (Addr × Obj)} {σ : St} {H : Hp} {s : Shared} {a : Addr} {xs ys : List V}
theorem SqL.of {K : PySem.W.Frag} (h : H a = some (.lst xs)) : SqL K H a xs := .inl (.inl h)
theorem SqT.of {K : PySem.W.Frag} (h : H a = some (.tup xs)) : SqT K H a xs := .inl (.inl h)
theorem Inv.list (I : Inv X pins σ H s) (h : SqL X.K H a xs) : ∃ its : List Value, Vals xs its ∧ PlainL s.heap a its.toArray ∧ xs.length ≤ sizeLine := by
  rcases h with h | ⟨o, its, n, hk, hc, hd, hs, hz, r⟩
  · obtain ⟨z, its, n, r, e⟩ := h.ok I.hok
    exact ⟨its, r, ⟨_, n, e, rfl, rfl, rfl⟩, z⟩
  · refine ⟨its.toList, r, ⟨o, n, I.kIn a o hk, hc, hd, by simpa using hs⟩, ?_⟩
    have e := r.length
    simp only [Array.length_toList] at e
    omega
theorem Inv.tuple (I : Inv X pins σ H s) (h : SqT X.K H a xs) : ∃ its : List Value, Vals xs its ∧ IsTup s.heap a its.toArray ∧ xs.length ≤ sizeLine := by
  rcases h with h | ⟨o, its, n, hk, hc, hs, hz, r⟩
  · obtain ⟨z, its, r, p⟩ := h.ok I.hok
    exact ⟨its, r, p, z⟩
  · refine ⟨its.toList, r, ⟨o, I.kIn a o hk, hc, n, by simpa using hs⟩, ?_⟩
    have e := r.length
    simp only [Array.length_toList] at e
    omega
theorem Inv.list_inj (I : Inv X pins σ H s) (h : SqL X.K H a xs) (h' : SqL X.K H a ys) : xs = ys := by
  obtain ⟨its, r, ⟨o, n, e, _, _, d⟩, _⟩ := I.list h
  obtain ⟨its', r', ⟨o', n', e', _, _, d'⟩, _⟩ := I.list h'
  rw [e] at e'; cases e'
  rw [d] at d'
  injection d' with d1 _
  have : its = its' := by simpa using congrArg Array.toList d1
  subst this
  exact r.inj r'
theorem Inv.tuple_inj (I : Inv X pins σ H s) (h : SqT X.K H a xs) (h' : SqT X.K H a ys) : xs = ys := by
  obtain ⟨its, r, ⟨o, e, _, n, d⟩, _⟩ := I.tuple h
  obtain ⟨its', r', ⟨o', e', _, n', d'⟩, _⟩ := I.tuple h'
  rw [e] at e'; cases e'
  rw [d] at d'
  injection d' with d1 _
  have : its = its' := by simpa using congrArg Array.toList d1
  subst this
  exact r.inj r'
end

/-! ### another wish about exceptions -/
abbrev Cx.wish (X : Cx) (E : Value → Shared → Prop) : Cx := { X with xe := E }
/-- no exception leaves -/
abbrev Cx.nox (X : Cx) : Cx := X.wish fun _ _ => False
theorem Cx.Ok.wish {X : Cx} (ok : X.Ok) (E : Value → Shared → Prop) : (X.wish E).Ok :=
  ⟨ok.mod, ok.kind, ok.glob, ok.blt, ok.above, ok.inj, ok.has, ok.cab, ok.hd, ok.frames, ok.stk, ok.exf, ok.bs, ok.bsz, ok.noex, ok.exfs, ok.funs, ok.frf⟩
theorem Cx.Ok.unwish {X : Cx} {E : Value → Shared → Prop} (ok : (X.wish E).Ok) : X.Ok :=
  ⟨ok.mod, ok.kind, ok.glob, ok.blt, ok.above, ok.inj, ok.has, ok.cab, ok.hd, ok.frames, ok.stk, ok.exf, ok.bs, ok.bsz, ok.noex, ok.exfs, ok.funs, ok.frf⟩
section
variable {X : Cx} {pins : List (Addr × Obj)} {σ : St} {H : Hp} {s : Shared} {E : Value → Shared → Prop}
theorem Inv.wish (I : Inv X pins σ H s) (E : Value → Shared → Prop) : Inv (X.wish E) pins σ H s := ⟨I.ok.wish E, I.os, I.bare, I.base, I.loc, I.cell, I.free, I.freeC, I.pin, I.hok, I.len⟩
theorem Inv.unwish (I : Inv (X.wish E) pins σ H s) : Inv X pins σ H s := ⟨I.ok.unwish, I.os, I.bare, I.base, I.loc, I.cell, I.free, I.freeC, I.pin, I.hok, I.len⟩
theorem SP.unwish {D : Ends} {f : Flow} {s' : Shared} (h : SP (X.wish E) pins D f s') : SP X pins D f s' := by
  cases f with
  | next => obtain ⟨σ', H', I, q⟩ := h; exact ⟨σ', H', I.unwish, q⟩
  | brk => obtain ⟨σ', H', I, q⟩ := h; exact ⟨σ', H', I.unwish, q⟩
  | cont => obtain ⟨σ', H', I, q⟩ := h; exact ⟨σ', H', I.unwish, q⟩
  | ret u => obtain ⟨v, σ', H', I, r, q⟩ := h; exact ⟨v, σ', H', I.unwish, r, q⟩
theorem PSs.nox {st : List Stmt} {t : TS} (h : PSs X.nox st t) : PSs X st t := fun pins s σ H D I hw =>
  wpAny_mono (h pins s σ H D (I.wish _) hw) (fun _ _ q => q.unwish) fun _ _ z => False.elim z
end

/-! ### blocks and small statements -/
section
variable {X : Cx} {st : Stmt} {rest : List Stmt} {t u : TS} {e : Expr} {te : TE} {pos : Pos}
def tNext : TS := fun D σ H => D.nx σ H
def tSeq (t u : TS) : TS := fun D σ H => t { D with nx := u D } σ H
theorem pss_nil : PSs X [] tNext := fun _ _ σ H _ I h => wpAny_execs_nil ⟨σ, H, I, h⟩
theorem pss_cons (h1 : PS X st t) (h2 : PSs X rest u) : PSs X (st :: rest) (tSeq t u) := by
  intro pins s σ H D I h
  refine wpAny_execs_cons (thn (h1 pins s σ H { D with nx := u D } I h) fun f s1 q => ?_)
  cases f with
  | next =>
    obtain ⟨σ', H', I', q⟩ := q
    exact h2 pins s1 σ' H' D I' q
  | ret v => exact q
  | brk => exact q
  | cont => exact q
theorem pss_one (h1 : PS X st t) : PSs X [st] t := by
  intro pins s σ H D I h
  refine wpAny_execs_cons (thn (h1 pins s σ H D I h) fun f s1 q => ?_)
  cases f with
  | next => exact wpAny_execs_nil q
  | ret v => exact q
  | brk => exact q
  | cont => exact q
/-- in a def's body nothing is shown -/
theorem Inv.quiet {pins : List (Addr × Obj)} {σ : St} {H : Hp} {s : Shared} (I : Inv X pins σ H s) : interactive X.env = false := by simp [interactive, I.ok.kind]
/-- an expression whose value is dropped -/
def tDrop (te : TE) : TS := fun D σ H => te σ H fun _ H1 => D.nx σ H1
theorem ps_expr (he : PE X e te) (hs : swapsWith e none pos.line X.env = pure false := by rfl) : PS X (.Expr e pos) (tDrop te) := by
  intro pins s σ H D I h
  exact wpAny_Expr_any (thn (he pins s σ H _ I h) fun v s1 ⟨x, H1, I1, r1, q1⟩ => ⟨σ, H1, I1, q1⟩) I.quiet hs
def tRet (te : TE) : TS := fun D σ H => te σ H D.rt
theorem ps_ret (he : PE X e te) : PS X (.Return (some e) pos) (tRet te) := by
  intro pins s σ H D I h
  exact wpAny_Return_some (thn (he pins s σ H _ I h) fun v s1 ⟨x, H1, I1, r1, q1⟩ => ⟨x, σ, H1, I1, r1, q1⟩)
def tIfS (c : TT) (t u : TS) : TS := fun D σ H => c σ H fun b H1 => if b = true then t D σ H1 else u D σ H1
theorem ps_if {c : Expr} {a b : List Stmt} {tc : TT} (hc : PT X c tc) (ha : PSs X a t) (hb : PSs X b u) : PS X (.If c a b pos) (tIfS tc t u) := by
  intro pins s σ H D I h
  refine wpAny_If (thn (hc pins s σ H _ I h) fun d s1 ⟨H1, I1, q1⟩ => ?_)
  cases d with
  | true => exact ha pins s1 σ H1 D I1 q1
  | false => exact hb pins s1 σ H1 D I1 q1
end

/-! ### targets -/
abbrev TG := V → St → Hp → (St → Hp → Prop) → Prop
abbrev TGs := List V → St → Hp → (St → Hp → Prop) → Prop
def PG (X : Cx) (target : Expr) (t : TG) : Prop :=
  ∀ (pins : List (Addr × Obj)) (s : Shared) (σ : St) (H : Hp) (v : V) (u : Value) (Q : St → Hp → Prop), Inv X pins σ H s → RelV v u → t v σ H Q →
    wpAny (model X.prog X.w) X.A (assign target X.env u) (fun _ s' => ∃ σ' H', Inv X pins σ' H' s' ∧ Q σ' H') X.xe s
/-- several targets, one after another -/
def PGs (X : Cx) (ts : List Expr) (t : TGs) : Prop :=
  ∀ (pins : List (Addr × Obj)) (s : Shared) (σ : St) (H : Hp) (vs : List V) (us : List Value) (Q : St → Hp → Prop), Inv X pins σ H s → Vals vs us → t vs σ H Q →
    wpAny (model X.prog X.w) X.A (assignInOrder ((assignEach ts X.env).map (·.2)) us) (fun _ s' => ∃ σ' H', Inv X pins σ' H' s' ∧ Q σ' H') X.xe s
/-- o[i] = v, by values -/
abbrev TSet := V → V → V → Hp → (Hp → Prop) → Prop
def PSet (X : Cx) (t : TSet) : Prop :=
  ∀ (pins : List (Addr × Obj)) (s : Shared) (σ : St) (H : Hp) (o i v : V) (ov iv u : Value) (Q : Hp → Prop), Inv X pins σ H s → RelV o ov → RelV i iv → RelV v u → t o i v H Q →
    wpAny (model X.prog X.w) X.A (setItem ov iv u) (fun _ s' => ∃ H', Inv X pins σ H' s' ∧ Q H') X.xe s
section
variable {X : Cx} {pos : Pos}
def gName (i : Nat) : TG := fun v σ H Q => Q (σ.set i (some v)) H
theorem pg_name {i : Nat} {x : Str} (hN : X.N.Nodup) (hi : X.N[i]? = some x) (hx : Loc X.env.scope x) (hf : X.fn x = true ∨ X.env.scope.names.lookup x = some .local := by first | exact .inl rfl | exact .inr rfl | assumption) : PG X (.Name x pos) (gName i) := by
  intro pins s σ H v u Q I r h
  exact wpAny_assign_Name (store_ok I hN hi hx r (fun s' I' => ⟨_, H, I', h⟩) hf)
def gNil : TGs := fun vs σ H Q => vs = [] ∧ Q σ H
def gCons (t : TG) (u : TGs) : TGs := fun vs σ H Q => ∃ v r, vs = v :: r ∧ t v σ H fun σ' H' => u r σ' H' Q
theorem pgs_nil : PGs X [] gNil := by
  intro pins s σ H vs us Q I r h
  obtain ⟨e, h⟩ := h
  subst e
  cases r
  exact assignInOrder_nil ⟨σ, H, I, h⟩
theorem pgs_cons {e : Expr} {es : List Expr} {t : TG} {u : TGs} (h1 : PG X e t) (h2 : PGs X es u)
    (hs : (assignEach (e :: es) X.env).map (·.2) = assign e X.env :: (assignEach es X.env).map (·.2) := by rfl) : PGs X (e :: es) (gCons t u) := by
  intro pins s σ H vs us Q I r h
  obtain ⟨v, vr, e1, h⟩ := h
  subst e1
  cases r with
  | cons r rr =>
    rw [hs]
    refine assignInOrder_cons (thn (h1 pins s σ H _ _ _ I r h) fun _ s1 ⟨σ1, H1, I1, q1⟩ => ?_)
    exact h2 pins s1 σ1 H1 _ _ Q I1 rr q1
/-- (a, b, ..) = a tuple of that length -/
def gTup (K : PySem.W.Frag) (n : Nat) (t : TGs) : TG := fun v σ H Q => ∃ a xs, v = .ref a ∧ SqT K H a xs ∧ xs.length = n ∧ t xs σ H Q
theorem pg_tup {es : List Expr} {k : Nat} {t : TGs} {n : Nat} (hc : X.calm = true) (h : PGs X es t)
    (hn : (assignEach es X.env).length = n := by rfl) (hst : (assignEach es X.env).findIdx? (·.1) = none := by rfl) : PG X (.Tuple es k pos) (gTup X.K n t) := by
  intro pins s σ H v u Q I r hw
  obtain ⟨a, xs, e1, hq, hl, hw⟩ := hw
  subst e1
  cases r
  obtain ⟨its, rv, ht, hz⟩ := I.tuple hq
  refine assign_Tuple_tuple (I.ok.hd hc) ht (by simp [hn, ← hl, rv.length]) hst fun h' hx => ?_
  have I1 : Inv X pins σ H { s with heap := h' } := I.kept (t' := s.toks) fun b o e => hx b o (Nat.ne_of_lt (Heap.lt_size e)) e
  exact h pins _ σ H xs _ Q I1 (by simpa using rv) hw
/-- o[i] = .. -/
def gSub (to ti : TE) (t : TSet) : TG := fun v σ H Q => to σ H fun o H1 => ti σ H1 fun i H2 => t o i v H2 fun H3 => Q σ H3
theorem pg_sub {o i : Expr} {to ti : TE} {t : TSet} (ho : PE X o to) (hi : PE X i ti) (hs : PSet X t)
    (ha : ∀ v, assign (.Subscript o i pos) X.env v = (do
      let ov ← holding [v] (eval o X.env)
      let iv ← holding [v, ov] (eval i X.env)
      standAt pos
      holding [v, ov, iv] (setItem ov iv v)
      release [v, ov, iv] []) := by intro _; rfl) : PG X (.Subscript o i pos) (gSub to ti t) := by
  intro pins s σ H v u Q I r h
  rw [ha]
  refine wpAny_bind (wpAny_holding (thn (ho pins s σ H _ I h) fun ov s1 ⟨x, H1, I1, r1, q1⟩ => ?_))
  refine wpAny_bind (wpAny_holding (thn (hi pins s1 σ H1 _ I1 q1) fun iv s2 ⟨y, H2, I2, r2, q2⟩ => ?_))
  refine wpAny_bind (wpAny_standAt (wpAny_bind (wpAny_holding (thn (hs pins s2 σ H2 x y v ov iv u _ I2 r1 r2 r q2) fun _ s3 ⟨H3, I3, q3⟩ => ?_))))
  exact wpAny_release ⟨σ, H3, I3, q3⟩
/-- target = value -/
def tAsg (te : TE) (g : TG) : TS := fun D σ H => te σ H fun x H1 => g x σ H1 D.nx
theorem ps_asg {tg e : Expr} {te : TE} {g : TG} (he : PE X e te) (hg : PG X tg g) (hs : swapsWithSole [tg] e pos.line X.env = pure false := by rfl) (hw : swappedStores [tg] e X.env = pure none := by rfl)
    (h1 : (assignEach [tg] X.env).map (·.2) = [assign tg X.env] := by rfl) : PS X (.Assign [tg] e pos) (tAsg te g) := by
  intro pins s σ H D I h
  refine wpAny_Assign_stores (thn (he pins s σ H _ I h) fun v s1 ⟨x, H1, I1, r1, q1⟩ => ?_) hs hw
  rw [h1]
  exact thn (hg pins s1 σ H1 x v _ I1 r1 q1) fun _ s2 q => q
/-- name = value -/
theorem ps_set {i : Nat} {x : Str} {e : Expr} {te : TE} {pos' : Pos} (hN : X.N.Nodup) (hi : X.N[i]? = some x) (hx : Loc X.env.scope x) (he : PE X e te) (hs : swapsWith e (some (.Name x pos')) pos.line X.env = pure false := by rfl) (hf : X.fn x = true ∨ X.env.scope.names.lookup x = some .local := by first | exact .inl rfl | exact .inr rfl | assumption) :
    PS X (.Assign [.Name x pos'] e pos) (tAsg te (gName i)) := by
  intro pins s σ H D I h
  refine wpAny_Assign_Name (thn (he pins s σ H _ I h) fun v s1 ⟨y, H1, I1, r1, q1⟩ => ?_) hs
  exact store_ok I1 hN hi hx r1 (fun s2 I2 => ⟨_, H1, I2, q1⟩) hf
end

/-! ### while -/
section
variable {X : Cx} {pos : Pos}
end

/-! ### what a loop or a comprehension walks -/
/-- at turn i: it yields x (the heap may grow), or it stops -/
structure It where
  go : Nat → Hp → Prop
  yld : Nat → Hp → V → Hp → Prop
  stop : Nat → Hp → Prop
/-- the iterator's own objects may turn: they are not the frame's, not pinned, younger than the entry (or a comprehension's own) -/
def FpOk (X : Cx) (pins : List (Addr × Obj)) (H : Hp) (b : Addr) : Prop :=
  H b = none ∧ b ≠ X.env.locals ∧ b ∉ X.fs ∧ (b ∈ X.ex ∨ X.s₀.heap.objs.size ≤ b) ∧ (∀ x c, X.env.cells.lookup x = some c → c ≠ b) ∧ ∀ p ∈ X.pn ++ pins, p.1 ≠ b
theorem Inv.fpOk {X : Cx} {pins : List (Addr × Obj)} {σ : St} {H H' : Hp} {s : Shared} {b : Addr} (I : Inv X pins σ H s) (hb : s.heap.objs.size ≤ b) (hn : H' b = none) : FpOk X pins H' b := by
  refine ⟨hn, Nat.ne_of_gt (Nat.lt_of_lt_of_le I.lt hb), I.nofs hb, .inr (Nat.le_trans I.sz hb), fun x c e z => ?_, fun p hp z => ?_⟩
  · obtain ⟨v, q⟩ := I.cell x c e
    exact absurd (Nat.lt_of_lt_of_le q.lt (by rw [z]; exact hb)) (Nat.lt_irrefl _)
  · exact absurd (Nat.lt_of_lt_of_le (Heap.lt_size (I.pin p hp).1) (by rw [z]; exact hb)) (Nat.lt_irrefl _)
/-- what is handled stands with no context -/
def HandQ (X : Cx) (s : Shared) : Prop := ∃ (ea : Addr) (o : Obj) (vs : Array Value), X.A.handled = some (.ref ea) ∧ s.heap.get? ea = some o ∧ o.data = .fields vs ∧ vs[2]? = some .none
/-- where an iterator may end: nothing is handled; hb: or what is handled has no context -/
def EndQ (hb : Bool) (X : Cx) (s : Shared) : Prop := X.A.handled = none ∨ (hb = true ∧ HandQ X s)
theorem EndQ.none {X : Cx} {s : Shared} (h : EndQ false X s) : X.A.handled = Option.none := by
  rcases h with h | ⟨z, _⟩
  · exact h
  · cases z
structure Turn (P : Program) (w : World) (K : PySem.W.Frag) (tg : Expr) (J : It) (fp : List Addr) (it : Addr) (tn : Nat → Heap → Prop) (hb : Bool := false) : Prop where
  mem : it ∈ fp
  obj : ∀ i h, tn i h → ∀ b ∈ fp, ∃ o, h.get? b = some o ∧ ∀ v, o.data ≠ .cell v
  keep : ∀ i h h', tn i h → (∀ b ∈ fp, ∀ o, h.get? b = some o → h'.get? b = some o) → tn i h'
  item : ∀ (X : Cx), X.prog = P → X.w = w → X.K = K → ∀ (s : Shared), EndQ hb X s → ∀ (i : Nat) (pins : List (Addr × Obj)) (σ : St) (H : Hp) (E : Value → Shared → Prop), Inv X pins σ H s → (∀ b ∈ fp, FpOk X pins H b) → tn i s.heap → J.go i H →
    wpAny (model P w) X.A (pyNext (.ref it)) (fun r s1 => ∃ u, r = some u ∧
      wpAny (model P w) X.A (letOwnedTupleGo tg (.ref it) u) (fun _ s2 => ∃ x H', Inv X pins σ H' s2 ∧ RelV x u ∧ J.yld i H x H' ∧ tn (i + 1) s2.heap ∧ ∀ b ∈ fp, H' b = none) E s1) E s
  done : ∀ (X : Cx), X.prog = P → X.w = w → X.K = K → ∀ (s : Shared), EndQ hb X s → ∀ (i : Nat) (pins : List (Addr × Obj)) (σ : St) (H : Hp) (E : Value → Shared → Prop), Inv X pins σ H s → (∀ b ∈ fp, FpOk X pins H b) → tn i s.heap → J.stop i H →
    wpAny (model P w) X.A (pyNext (.ref it)) (fun r s1 => r = none ∧ Inv X pins σ H s1) E s
  self : ∀ (A : Around) (i : Nat) (s : Shared) (Q : Value → Shared → Prop) (E : Value → Shared → Prop), tn i s.heap → Q (.ref it) s → wpAny (model P w) A (pyIter (.ref it)) Q E s
abbrev TI := St → Hp → (It → Hp → Prop) → Prop
/-- an iterator has come -/
def PIE (X : Cx) (pins : List (Addr × Obj)) (σ : St) (tg : Expr) (R : It → Hp → Prop) (hb : Bool) (itv : Value) (s2 : Shared) : Prop :=
  ∃ (it : Addr) (fp : List Addr) (tn : Nat → Heap → Prop) (J : It) (H' : Hp), itv = .ref it ∧ Inv X pins σ H' s2 ∧ Turn X.prog X.w X.K tg J fp it tn hb ∧ tn 0 s2.heap ∧ (∀ b ∈ fp, FpOk X pins H' b) ∧ R J H'
def PI (X : Cx) (tg iter : Expr) (wi : TI) (hb : Bool := false) : Prop :=
  ∀ (pins : List (Addr × Obj)) (s : Shared) (σ : St) (H : Hp) (R : It → Hp → Prop), Inv X pins σ H s → wi σ H R →
    wpAny (model X.prog X.w) X.A (eval iter X.env) (fun v s1 => wpAny (model X.prog X.w) X.A (pyIter v) (PIE X pins σ tg R hb) X.xe s1) X.xe s

/-- the step ahead of the store is nothing for an iterator that keeps no tuple -/
theorem go_of {M : Model} {A : Around} {E : Value → Shared → Prop} {s : Shared} {tg : Expr} {it : Addr} {u : Value} {o : Obj} {n : String} {vs : Array Value} {Q : Unit → Shared → Prop} (ho : s.heap.get? it = some o) (hc : o.cls = .type n) (hd : o.data = .fields vs)
    (hn : ["enumerate", "zip", "dict_itemiterator", "dict_reverseitemiterator", "odict_iterator", "itertools.zip_longest", "itertools.pairwise"].contains n = false) (hQ : Q () s) : wpAny M A (letOwnedTupleGo tg (.ref it) u) Q E s := by
  unfold letOwnedTupleGo
  cases tg <;> first
    | exact wpAny_pure hQ
    | (cases u <;> first
        | exact wpAny_pure hQ
        | (refine wpAny_bind (wpAny_load ho ?_)
           rw [hc, hd]
           show wpAny M A (if (["enumerate", "zip", "dict_itemiterator", "dict_reverseitemiterator", "odict_iterator", "itertools.zip_longest", "itertools.pairwise"].contains n && vs[0]? == some (rawInt _)) = true then _ else _) Q E s
           rw [if_neg (by intro h; rw [hn, Bool.false_and] at h; cases h)]
           exact wpAny_pure hQ))

/-- the list at a, as it stands at each turn (a loop may append to it) -/
def Itl (K : PySem.W.Frag) (a : Addr) : It :=
  ⟨fun i H => ∃ xs x, SqL K H a xs ∧ xs[i]? = some x, fun i H x H' => H' = H ∧ ∀ xs, SqL K H a xs → xs[i]? = some x, fun i H => ∃ xs, SqL K H a xs ∧ xs.length ≤ i⟩
def Itt (K : PySem.W.Frag) (a : Addr) : It :=
  ⟨fun i H => ∃ xs x, SqT K H a xs ∧ xs[i]? = some x, fun i H x H' => H' = H ∧ ∀ xs, SqT K H a xs → xs[i]? = some x, fun i H => ∃ xs, SqT K H a xs ∧ xs.length ≤ i⟩
/-- lo, lo + 1, .. (n of them) -/
def Itr (lo : Int) (n : Nat) : It := ⟨fun i _ => i < n, fun i H x H' => H' = H ∧ x = .int (lo + i), fun i _ => n ≤ i⟩
theorem turn_list {P : Program} {w : World} {K : PySem.W.Frag} {tg : Expr} (a it : Addr) : Turn P w K tg (Itl K a) [it] it (fun i h => h.IsListIter it a i) where
  mem := by simp
  obj := fun i h st b hb => by
    have e : b = it := by simpa using hb
    subst e
    obtain ⟨o, e, c, d⟩ := st
    exact ⟨o, e, fun v z => by rw [d] at z; cases z⟩
  keep := fun i h h' st k => st.at fun o e => k it (by simp) o e
  item := by
    intro X hP hw hK s hc i pins σ H E I hf st hg
    subst hP hw hK
    obtain ⟨xs, x, hq, hx⟩ := hg
    obtain ⟨its, rv, p, hz⟩ := I.list hq
    obtain ⟨u, hu, ru⟩ := rv.get hx
    obtain ⟨f0, f1, f2, f3, f4, f5⟩ := hf it (by simp)
    refine wpAny_pyNext_list_item st p.isList (x := u) (by simpa using hu) fun h' st' sb => ?_
    have I1 : Inv X pins σ H { s with heap := h' } := I.turned (t' := s.toks) (fun b o hb e => (sb.2 b hb).trans e) f0 f1 f3 f4 f5
    obtain ⟨o, e, c, d⟩ := id st'
    exact ⟨u, rfl, go_of (s := { s with heap := h' }) e c d (by decide) ⟨x, H, I1, ru, ⟨rfl, fun ys hy => by rw [I.list_inj hy hq]; exact hx⟩, st', fun b hb => (hf b hb).1⟩⟩
  done := by
    intro X hP hw hK s hc i pins σ H E I hf st hg
    subst hP hw hK
    obtain ⟨xs, hq, hx⟩ := hg
    obtain ⟨its, rv, p, hz⟩ := I.list hq
    obtain ⟨f0, f1, f2, f3, f4, f5⟩ := hf it (by simp)
    have hl := rv.length
    exact wpAny_pyNext_list_end hc.none st p.isList (by simp; omega) fun h' eb => ⟨rfl, I.turned (t' := s.toks) (fun b o hb e => eb b o hb e) f0 f1 f3 f4 f5⟩
  self := fun _ _ _ _ _ st h => wpAny_pyIter_listiter st h
theorem turn_tuple {P : Program} {w : World} {K : PySem.W.Frag} {tg : Expr} (a it : Addr) : Turn P w K tg (Itt K a) [it] it (fun i h => h.IsTupleIter it a i) where
  mem := by simp
  obj := fun i h st b hb => by
    have e : b = it := by simpa using hb
    subst e
    obtain ⟨o, e, c, d⟩ := st
    exact ⟨o, e, fun v z => by rw [d] at z; cases z⟩
  keep := fun i h h' st k => st.at fun o e => k it (by simp) o e
  item := by
    intro X hP hw hK s hc i pins σ H E I hf st hg
    subst hP hw hK
    obtain ⟨xs, x, hq, hx⟩ := hg
    obtain ⟨its, rv, p, hz⟩ := I.tuple hq
    obtain ⟨u, hu, ru⟩ := rv.get hx
    obtain ⟨f0, f1, f2, f3, f4, f5⟩ := hf it (by simp)
    refine wpAny_pyNext_tuple_item st (show s.heap.IsTuple a its.toArray from p) (x := u) (by simpa using hu) fun h' st' sb => ?_
    have I1 : Inv X pins σ H { s with heap := h' } := I.turned (t' := s.toks) (fun b o hb e => (sb.2 b hb).trans e) f0 f1 f3 f4 f5
    obtain ⟨o, e, c, d⟩ := id st'
    exact ⟨u, rfl, go_of (s := { s with heap := h' }) e c d (by decide) ⟨x, H, I1, ru, ⟨rfl, fun ys hy => by rw [I.tuple_inj hy hq]; exact hx⟩, st', fun b hb => (hf b hb).1⟩⟩
  done := by
    intro X hP hw hK s hc i pins σ H E I hf st hg
    subst hP hw hK
    obtain ⟨xs, hq, hx⟩ := hg
    obtain ⟨its, rv, p, hz⟩ := I.tuple hq
    obtain ⟨f0, f1, f2, f3, f4, f5⟩ := hf it (by simp)
    have hl := rv.length
    exact wpAny_pyNext_tuple_end hc.none st (show s.heap.IsTuple a its.toArray from p) (by simp; omega) fun h' eb => ⟨rfl, I.turned (t' := s.toks) (fun b o hb e => eb b o hb e) f0 f1 f3 f4 f5⟩
  self := fun _ _ _ _ _ st h => wpAny_pyIter_tupleiter st h
section
variable {prog : Program} {w : World} {A : Around} {E : Value → Shared → Prop} {s : Shared} {e ea it : Addr} {o oe : Obj} {us vs : Array Value}
theorem ent_unchain : entryFor table "proto.unchain" = some Builtin.«proto.unchain» := entryFor_of_tree (by kernel_rfl)
/-- a new exception is raised while another one is handled, which has no context -/
theorem raise_hand {α : Type} {Q : α → Shared → Prop} (hh : A.handled = some (.ref ea)) (hea : s.heap.get? ea = some oe) (hd : oe.data = .fields vs) (h2 : vs[2]? = some .none) (he : s.heap.get? e = some o) (hde : o.data = .fields us) (hsz : 2 < us.size) (hne : ea ≠ e)
    (hE : E (.ref e) { s with heap := s.heap.update e (Obj.mapFields (·.setIfInBounds 2 (.ref ea))) }) : wpAny (model prog w) A (raiseNew (.ref e) : Sem α) Q E s := by
  have n : (Value.ref ea != Value.ref e) = true := by simp [hne]
  unfold raiseNew
  refine wpAny_bind (wpAny_handled ?_)
  rw [hh]
  show wpAny _ _ (if (Value.ref ea != Value.ref e) = true then _ else _) _ _ _
  rw [if_pos n]
  refine wpAny_bind (wpAny_holding (wpAny_runValue (codeAny_builtin ent_unchain ?_)))
  show wpAny _ _ (field (.ref ea) 2 >>= _) _ _ _
  refine wpAny_bind (wpAny_field hea hd h2 ?_)
  show wpAny _ _ (if (Value.none == Value.none) = true then _ else _) _ _ _
  rw [if_pos (show (Value.none == Value.none) = true from rfl)]
  refine wpAny_pure ?_
  exact wpAny_bind (wpAny_setField he hde hsz (wpAny_throw hE))
/-- a range's end, while an exception is handled -/
theorem range_end_hand {x left step : Int} {Q : Option Value → Shared → Prop} (hh : A.handled = some (.ref ea)) (hea : s.heap.get? ea = some oe) (hd : oe.data = .fields vs) (h2 : vs[2]? = some .none) (hit : IsRangeIter s.heap it x left step) (hleft : left ≤ 0)
    (hQ : ∀ h', Heap.ExtBut it s.heap h' → Q none { s with heap := h' }) : wpAny (model prog w) A (pyNext (.ref it)) Q E s := by
  have hT : s.TypeIs (.ref it) "range_iterator" := ⟨_, hit, rfl⟩
  have lt := Heap.lt_size hea
  unfold pyNext; refine wpAny_bind (wpAny_attempt (wpAny_callSpecial?_slot (name := Str.ofString "__next__") hT F.slot_range_iterator_next (wpAny_call_entry F.slot_range_iterator_next hT F.entry_range_iterator_next ?_ (F.args_range_iterator_next_1 _))))
  show wpAny _ _ (field (.ref it) 0 >>= _) _ _ s; refine wpAny_bind (wpAny_field hit rfl (x := rawInt x) rfl ?_); show wpAny _ _ (field (.ref it) 1 >>= _) _ _ s; refine wpAny_bind (wpAny_field hit rfl (x := rawInt left) rfl ?_)
  show wpAny _ _ (field (.ref it) 2 >>= _) _ _ s; refine wpAny_bind (wpAny_field hit rfl (x := rawInt step) rfl ?_); show wpAny _ _ (if left ≤ 0 then _ else _) _ _ s; rw [if_pos hleft]
  refine wpAny_bind (wpAny_rule (wpAny_bind ?_)); show wpAny _ _ (newExc (.type "StopIteration") [] >>= _) _ _ _; refine wpAny_bind ?_; simp only [newExc, newTuple]
  refine wpAny_bind (wpAny_newObj_type ?_ (by size_fits)); refine wpAny_bind (m := firstArgMember _ _) (wpAny_of_eq (a := Value.none) (by first | rfl | (simp only [firstArgMember]; rfl)) ?_); refine wpAny_newObj_type ?_ (by size_fits)
  refine raise_hand (oe := oe) (vs := vs) (by first | exact hh | exact (show A.in1.handled = _ from hh)) (Heap.get?_push_of_some _ (Heap.get?_push_of_some _ hea)) hd h2 (Heap.get?_push_size _ rfl) rfl (by simp; omega) (Nat.ne_of_lt (by rw [Heap.size_push]; exact Nat.lt_succ_of_lt lt)) ?_
  refine wpAny_bind (wpAny_isInstance (T := "StopIteration") (b := true) ⟨_, Heap.get?_update_self _ (Heap.get?_push_size _ rfl) rfl, rfl⟩ isSubtype_stop ?_)
  refine wpAny_pure (hQ _ fun b ob hb q => ?_)
  rw [Heap.get?_update_other _ _ (Nat.ne_of_gt (by rw [Heap.size_push]; exact Nat.lt_succ_of_lt (Heap.lt_size q)))]
  exact Heap.get?_push_of_some _ (Heap.get?_push_of_some _ q)
end
theorem turn_range {P : Program} {w : World} {K : PySem.W.Frag} {tg : Expr} (it : Addr) (lo : Int) (n : Nat) {hb : Bool} : Turn P w K tg (Itr lo n) [it] it (fun i h => IsRangeIter h it (lo + (i : Nat) * 1) ((n : Int) - (i : Nat)) 1) hb where
  mem := by simp
  obj := fun i h st b hb => by
    have e : b = it := by simpa using hb
    subst e
    exact ⟨_, st, fun v z => by
      have z' : Data.fields _ = Data.cell v := z
      cases z'⟩
  keep := fun i h h' st k => k it (by simp) _ st
  item := by
    intro X hP hw hK s hc i pins σ H E I hf st hg
    subst hP hw hK
    obtain ⟨f0, f1, f2, f3, f4, f5⟩ := hf it (by simp)
    have hi : i < n := hg
    refine wpAny_pyNext_range_item st (by omega) fun h' st' sb => ?_
    have I1 : Inv X pins σ H { s with heap := h', toks := s.toks + 1 } := I.turned (fun b o hb e => (sb.2 b hb).trans e) f0 f1 f3 f4 f5
    have e1 : lo + ((i : Nat) : Int) * 1 + 1 = lo + ((i + 1 : Nat) : Int) * 1 := by omega
    have e2 : (n : Int) - ((i : Nat) : Int) - 1 = (n : Int) - ((i + 1 : Nat) : Int) := by omega
    rw [e1, e2] at st'
    refine ⟨_, rfl, go_of (s := { s with heap := h', toks := s.toks + 1 }) (n := "range_iterator") st' rfl rfl (by decide) ⟨.int (lo + i), H, I1, ⟨s.toks, ?_⟩, ⟨rfl, rfl⟩, st', fun b hb => (hf b hb).1⟩⟩
    rw [Int.mul_one]
  done := by
    intro X hP hw hK s hc i pins σ H E I hf st hg
    subst hP hw hK
    obtain ⟨f0, f1, f2, f3, f4, f5⟩ := hf it (by simp)
    have hi : (n : Int) - ((i : Nat) : Int) ≤ 0 := by have : n ≤ i := hg; omega
    rcases hc with hc | ⟨_, ea, o, vs, h1, h2, h3, h4⟩
    · exact wpAny_pyNext_range_end hc st hi fun h' eb => ⟨rfl, I.turned (t' := s.toks) (fun b o hb e => eb b o hb e) f0 f1 f3 f4 f5⟩
    · exact range_end_hand h1 h2 h3 h4 st hi fun h' eb => ⟨rfl, I.turned (t' := s.toks) (fun b o hb e => eb b o hb e) f0 f1 f3 f4 f5⟩
  self := fun _ _ _ _ _ st h => wpAny_pyIter_rangeiter st h
end L2

namespace L2
open PySem PySem.Spec PyProof.Rows
section
variable {X : Cx} {tg : Expr}
def iList (K : PySem.W.Frag) (tl : TE) : TI := fun σ H R => tl σ H fun x H1 => ∃ a, x = .ref a ∧ (∃ xs, SqL K H1 a xs) ∧ R (Itl K a) H1
theorem pi_list {l : Expr} {tl : TE} (hl : PE X l tl) : PI X tg l (iList X.K tl) := by
  intro pins s σ H R I h
  refine thn (hl pins s σ H _ I h) fun v s1 ⟨x, H1, I1, r1, q1⟩ => ?_
  obtain ⟨a, e, ⟨xs, hq⟩, q⟩ := q1
  subst e
  cases r1
  obtain ⟨its, rv, p, hz⟩ := I1.list hq
  refine wpAny_pyIter_list p.isList ?_
  refine ⟨s1.heap.objs.size, [s1.heap.objs.size], _, _, H1, rfl, I1.kept (t' := s1.toks) fun b o e => Heap.get?_push_of_some _ e, turn_list a _, ⟨_, Heap.get?_push_size _ rfl, rfl, rfl⟩, fun b hb => ?_, q⟩
  have e : b = s1.heap.objs.size := by simpa using hb
  subst e
  exact I1.fpOk (Nat.le_refl _) (I1.hok.fresh (Nat.le_refl _))
/-- a range object just made, walked -/
theorem range_it {hb : Bool} {pins : List (Addr × Obj)} {σ : St} {H : Hp} {s : Shared} {R : It → Hp → Prop} {E : Value → Shared → Prop} {lo hi : Int} {t u v : Tok} {tk : Nat} (I : Inv X pins σ H s) (h1 : -(2 ^ 62) ≤ lo) (h2 : lo < 2 ^ 62) (h3 : -(2 ^ 62) ≤ hi) (h4 : hi < 2 ^ 62)
    (q : R (Itr lo (hi - lo).toNat) H) : wpAny (model X.prog X.w) X.A (pyIter (.ref s.heap.objs.size)) (PIE X pins σ tg R hb) E { s with heap := s.heap.push { cls := .type "range", data := .fields #[.int lo t, .int hi u, .int 1 v] }, toks := tk } := by
  refine wpAny_pyIter_range (IsRange.new ..) (small_one h1 h2 h3 h4) ?_
  have I1 : Inv X pins σ H { s with heap := s.heap.push { cls := .type "range", data := .fields #[.int lo t, .int hi u, .int 1 v] }, toks := tk } := I.kept fun b o e => Heap.get?_push_of_some _ e
  refine ⟨(s.heap.push { cls := .type "range", data := .fields #[.int lo t, .int hi u, .int 1 v] }).objs.size, [(s.heap.push { cls := .type "range", data := .fields #[.int lo t, .int hi u, .int 1 v] }).objs.size], _, _, H, rfl,
    I1.kept (t' := tk) fun b o e => Heap.get?_push_of_some _ e, turn_range _ lo (hi - lo).toNat, ?_, fun b hb => ?_, q⟩
  · have e1 : lo + ((0 : Nat) : Int) * 1 = lo := by simp
    have e2 : (((hi - lo).toNat : Nat) : Int) - ((0 : Nat) : Int) = Builtin.Range.rangeSize lo hi 1 := by rw [rangeSize_one]; split <;> omega
    show IsRangeIter _ _ (lo + ((0 : Nat) : Int) * 1) ((((hi - lo).toNat : Nat) : Int) - ((0 : Nat) : Int)) 1
    rw [e1, e2]
    exact Heap.get?_push_size _ rfl
  · have e : b = (s.heap.push { cls := .type "range", data := .fields #[.int lo t, .int hi u, .int 1 v] }).objs.size := by simpa using hb
    subst e
    exact I1.fpOk (Nat.le_refl _) (I1.hok.fresh (Nat.le_refl _))
def iRng1 (ta : TA) : TI := fun σ H R => ta σ H fun vs H1 => ∃ j : Int, vs = [.int j] ∧ -(2 ^ 62) ≤ j ∧ j < 2 ^ 62 ∧ R (Itr 0 j.toNat) H1
theorem pi_range1 {hb : Bool} {a : Expr} {ta : TA} {p pos : Pos} (hg : Gl X "range") (hm : X.mg "range" = none) (ha : PA X [a] ta) (hs : starEach [a] X.env = [(false, eval a X.env)] := by rfl) : PI X tg (.Call (.Name "range" p) [a] [] pos) (iRng1 ta) hb := by
  intro pins s σ H R I h
  refine Call_ (ld_blt I hg hm boot_range (PyProof.Rows.callWith_type1 (thn (ha pos pins s σ H _ I h) fun us s1 ⟨vs, H1, I1, r1, q1⟩ => ?_) hs rfl))
  obtain ⟨j, e, q1, q2, q⟩ := q1
  subst e
  cases r1 with
  | cons r rr =>
    cases rr
    obtain ⟨t, rfl⟩ := r
    exact call_range_1 (range_it I1 (by omega) (by omega) q1 q2 (by simpa using q))
/-! ### for -/
/-- W: the invariant by the turn and a measure; N: what the body is to reach -/
def tFor (wi : TI) (g : TG) (tb : TS) : TS := fun D σ H => wi σ H fun J H1 => ∃ W : Nat → Nat → St → Hp → Prop, (∃ m, W 0 m σ H1) ∧ ∀ i m σ H, W i m σ H →
  (J.stop i H ∧ D.nx σ H) ∨ (J.go i H ∧ ∃ N : St → Hp → Prop, (∀ σ' H', N σ' H' → ∃ m', m' < m ∧ W (i + 1) m' σ' H') ∧ ∀ x H', J.yld i H x H' → g x σ H' fun σ2 H2 => tb { D with nx := N, ct := N, bk := D.nx } σ2 H2)
/-- the records at fp as they stand -/
def pinsAt (fp : List Addr) (h : Heap) : List (Addr × Obj) := fp.filterMap fun b => (h.get? b).map fun o => (b, o)
theorem mem_pinsAt {fp : List Addr} {h : Heap} {b : Addr} {o : Obj} (hb : b ∈ fp) (e : h.get? b = some o) : (b, o) ∈ pinsAt fp h := List.mem_filterMap.mpr ⟨b, hb, by rw [e]; rfl⟩
theorem of_pinsAt {fp : List Addr} {h : Heap} {p : Addr × Obj} (hp : p ∈ pinsAt fp h) : p.1 ∈ fp ∧ h.get? p.1 = some p.2 := by
  obtain ⟨b, hb, e⟩ := List.mem_filterMap.mp hp
  cases q : h.get? b with
  | none => rw [q] at e; cases e
  | some o =>
    rw [q] at e
    have e' : (b, o) = p := Option.some.inj e
    subst e'
    exact ⟨hb, q⟩
theorem Inv.pinned {pins : List (Addr × Obj)} {σ : St} {H : Hp} {s : Shared} {fp : List Addr} (I : Inv X pins σ H s) (hf : ∀ b ∈ fp, FpOk X pins H b) (ho : ∀ b ∈ fp, ∃ o, s.heap.get? b = some o ∧ ∀ v, o.data ≠ .cell v) : Inv X (pins ++ pinsAt fp s.heap) σ H s :=
  I.pins_of fun p hp => (List.mem_append.mp hp).elim (fun z => I.pin p (List.mem_append_right _ z)) fun z => by
    obtain ⟨hb, e⟩ := of_pinsAt z
    obtain ⟨f0, f1, f2, _⟩ := hf p.1 hb
    obtain ⟨o, e', d⟩ := ho p.1 hb
    rw [e] at e'; cases e'
    exact ⟨e, f0, f1, f2, d⟩
theorem Inv.unpinned {pins pl : List (Addr × Obj)} {σ : St} {H : Hp} {s : Shared} (I : Inv X (pins ++ pl) σ H s) : Inv X pins σ H s := I.pins_of fun p hp => I.pin p (List.mem_append_right _ (List.mem_append_left _ hp))
theorem ps_for {iter : Expr} {body : List Stmt} {wi : TI} {g : TG} {tb : TS} {pos : Pos} (hp : PassesOwn (model X.prog X.w) X.A X.env X.xe) (hc : X.calm = true) (hi : PI X tg iter wi) (hg : PG X tg g) (hb : PSs X body tb)
    (hs : ∀ x, foldedSetIterable iter X.env x = pure x := by intro _; rfl) : PS X (.For tg iter body [] pos) (tFor wi g tb) := by
  intro pins s σ H D I h
  refine wpAny_For (thn (hi pins s σ H _ I h) fun v s1 h1 => thn h1 fun itv s2 h2 => ?_) hs
  obtain ⟨it, fp, tn, J, H2, e, I2, T, st2, f2, W, ⟨m0, w0⟩, turn⟩ := h2
  subst e
  -- what stays true of the iterator's objects through the loop
  have stat : ∀ {H' : Hp}, (∀ b ∈ fp, H' b = none) → ∀ b ∈ fp, FpOk X pins H' b := fun hn b hb => ⟨hn b hb, (f2 b hb).2⟩
  refine codeAny_forLoop_any (fun n s' => ∃ i σ' H', Inv X pins σ' H' s' ∧ tn i s'.heap ∧ (∀ b ∈ fp, H' b = none) ∧ W i n σ' H') ?_ m0 ⟨0, σ, H2, I2, st2, fun b hb => (f2 b hb).1, w0⟩
  rintro n s3 ⟨i, σ3, H3, I3, st3, fr3, w3⟩
  rcases turn i n σ3 H3 w3 with ⟨stop, qn⟩ | ⟨go, N, hN, step⟩
  · refine wpAny_passesOwn hp (thn (T.done X rfl rfl rfl s3 (.inl (I3.ok.hd hc)) i pins σ3 H3 X.xe I3 (stat fr3) st3 stop) fun r s4 ⟨hr, I4⟩ => ?_)
    subst hr
    exact wpAny_execs_nil ⟨σ3, H3, I4, qn⟩
  · refine wpAny_passesOwn hp (thn (T.item X rfl rfl rfl s3 (.inl (I3.ok.hd hc)) i pins σ3 H3 X.xe I3 (stat fr3) st3 go) fun r s4 ⟨u, hr, h4⟩ => ?_)
    subst hr
    refine wpAny_passesOwn hp (thn h4 fun _ s5 ⟨x, H5, I5, r5, y5, st5, fr5⟩ => ?_)
    have I5' := I5.pinned (stat fr5) (T.obj _ _ st5)
    refine wpAny_passesOwn hp (thn (hg _ s5 σ3 H5 x u _ I5' r5 (step x H5 y5)) fun _ s6 ⟨σ6, H6, I6, q6⟩ => ?_)
    refine wpAny_passesOwn hp (thn (hb _ s6 σ6 H6 _ I6 q6) fun f s7 q7 => ?_)
    have again : ∀ {σ7 : St} {H7 : Hp}, Inv X (pins ++ pinsAt fp s5.heap) σ7 H7 s7 → N σ7 H7 → ∃ m, m < n ∧ ∃ i σ' H', Inv X pins σ' H' s7 ∧ tn i s7.heap ∧ (∀ b ∈ fp, H' b = none) ∧ W i m σ' H' := fun {σ7 H7} I7 n7 => by
      obtain ⟨m', hm, w7⟩ := hN σ7 H7 n7
      refine ⟨m', hm, i + 1, σ7, H7, I7.unpinned, T.keep _ _ _ st5 fun b hb o e => (I7.pin (b, o) (List.mem_append_right _ (List.mem_append_right _ (mem_pinsAt hb e)))).1, fun b hb => ?_, w7⟩
      obtain ⟨o, e, d⟩ := T.obj _ _ st5 b hb
      exact (I7.pin (b, o) (List.mem_append_right _ (List.mem_append_right _ (mem_pinsAt hb e)))).2.1
    cases f with
    | next => obtain ⟨σ7, H7, I7, n7⟩ := q7; exact again I7 n7
    | cont => obtain ⟨σ7, H7, I7, n7⟩ := q7; exact again I7 n7
    | brk => obtain ⟨σ7, H7, I7, q7⟩ := q7; exact ⟨σ7, H7, I7.unpinned, q7⟩
    | ret v => obtain ⟨x7, σ7, H7, I7, r7, q7⟩ := q7; exact ⟨x7, σ7, H7, I7.unpinned, r7, q7⟩
end

/-! ### the forms one uses -/
/-- over a list that the body leaves as it is -/
theorem for_list {K : PySem.W.Frag} {a : Addr} {xs : List V} {g : TG} {tb : TS} {D : Ends} {σ : St} {H : Hp} (Pv : Nat → St → Hp → Prop) (h0 : Pv 0 σ H) (hl : ∀ i σ H, i ≤ xs.length → Pv i σ H → SqL K H a xs)
    (hs : ∀ i x σ H, xs[i]? = some x → Pv i σ H → g x σ H fun σ2 H2 => tb { D with nx := Pv (i + 1), ct := Pv (i + 1), bk := D.nx } σ2 H2) (hd : ∀ σ H, Pv xs.length σ H → D.nx σ H) :
    ∃ W : Nat → Nat → St → Hp → Prop, (∃ m, W 0 m σ H) ∧ ∀ i m σ H, W i m σ H →
      ((Itl K a).stop i H ∧ D.nx σ H) ∨ ((Itl K a).go i H ∧ ∃ N : St → Hp → Prop, (∀ σ' H', N σ' H' → ∃ m', m' < m ∧ W (i + 1) m' σ' H') ∧ ∀ x H', (Itl K a).yld i H x H' → g x σ H' fun σ2 H2 => tb { D with nx := N, ct := N, bk := D.nx } σ2 H2) := by
  refine ⟨fun i m σ H => m = xs.length - i ∧ i ≤ xs.length ∧ Pv i σ H, ⟨xs.length, by simp, Nat.zero_le _, h0⟩, ?_⟩
  rintro i m σ H ⟨rfl, hi, p⟩
  have q := hl i σ H hi p
  by_cases hlt : i < xs.length
  · refine .inr ⟨⟨xs, xs[i], q, by simp [hlt]⟩, Pv (i + 1), fun σ' H' p' => ⟨xs.length - (i + 1), by omega, rfl, hlt, p'⟩, fun x H' y => ?_⟩
    obtain ⟨e, y⟩ := y
    subst e
    exact hs i x σ _ (y xs q) p
  · have e : i = xs.length := by omega
    subst e
    exact .inl ⟨⟨xs, q, Nat.le_refl _⟩, hd σ H p⟩
theorem for_tup {K : PySem.W.Frag} {a : Addr} {xs : List V} {g : TG} {tb : TS} {D : Ends} {σ : St} {H : Hp} (Pv : Nat → St → Hp → Prop) (h0 : Pv 0 σ H) (hl : ∀ i σ H, i ≤ xs.length → Pv i σ H → SqT K H a xs)
    (hs : ∀ i x σ H, xs[i]? = some x → Pv i σ H → g x σ H fun σ2 H2 => tb { D with nx := Pv (i + 1), ct := Pv (i + 1), bk := D.nx } σ2 H2) (hd : ∀ σ H, Pv xs.length σ H → D.nx σ H) :
    ∃ W : Nat → Nat → St → Hp → Prop, (∃ m, W 0 m σ H) ∧ ∀ i m σ H, W i m σ H →
      ((Itt K a).stop i H ∧ D.nx σ H) ∨ ((Itt K a).go i H ∧ ∃ N : St → Hp → Prop, (∀ σ' H', N σ' H' → ∃ m', m' < m ∧ W (i + 1) m' σ' H') ∧ ∀ x H', (Itt K a).yld i H x H' → g x σ H' fun σ2 H2 => tb { D with nx := N, ct := N, bk := D.nx } σ2 H2) := by
  refine ⟨fun i m σ H => m = xs.length - i ∧ i ≤ xs.length ∧ Pv i σ H, ⟨xs.length, by simp, Nat.zero_le _, h0⟩, ?_⟩
  rintro i m σ H ⟨rfl, hi, p⟩
  have q := hl i σ H hi p
  by_cases hlt : i < xs.length
  · refine .inr ⟨⟨xs, xs[i], q, by simp [hlt]⟩, Pv (i + 1), fun σ' H' p' => ⟨xs.length - (i + 1), by omega, rfl, hlt, p'⟩, fun x H' y => ?_⟩
    obtain ⟨e, y⟩ := y
    subst e
    exact hs i x σ _ (y xs q) p
  · have e : i = xs.length := by omega
    subst e
    exact .inl ⟨⟨xs, q, Nat.le_refl _⟩, hd σ H p⟩
theorem for_range {lo : Int} {n : Nat} {g : TG} {tb : TS} {D : Ends} {σ : St} {H : Hp} (Pv : Nat → St → Hp → Prop) (h0 : Pv 0 σ H)
    (hs : ∀ i σ H, i < n → Pv i σ H → g (.int (lo + i)) σ H fun σ2 H2 => tb { D with nx := Pv (i + 1), ct := Pv (i + 1), bk := D.nx } σ2 H2) (hd : ∀ σ H, Pv n σ H → D.nx σ H) :
    ∃ W : Nat → Nat → St → Hp → Prop, (∃ m, W 0 m σ H) ∧ ∀ i m σ H, W i m σ H →
      ((Itr lo n).stop i H ∧ D.nx σ H) ∨ ((Itr lo n).go i H ∧ ∃ N : St → Hp → Prop, (∀ σ' H', N σ' H' → ∃ m', m' < m ∧ W (i + 1) m' σ' H') ∧ ∀ x H', (Itr lo n).yld i H x H' → g x σ H' fun σ2 H2 => tb { D with nx := N, ct := N, bk := D.nx } σ2 H2) := by
  refine ⟨fun i m σ H => m = n - i ∧ i ≤ n ∧ Pv i σ H, ⟨n, by simp, Nat.zero_le _, h0⟩, ?_⟩
  rintro i m σ H ⟨rfl, hi, p⟩
  by_cases hlt : i < n
  · refine .inr ⟨hlt, Pv (i + 1), fun σ' H' p' => ⟨n - (i + 1), by omega, rfl, hlt, p'⟩, fun x H' y => ?_⟩
    obtain ⟨e, y⟩ := y
    subst e y
    exact hs i σ _ hlt p
  · have e : i = n := by omega
    subst e
    exact .inl ⟨Nat.le_refl _, hd σ H p⟩
end L2

namespace L2
open PySem PySem.Spec PyProof.Rows

abbrev R2 := V → V → Hp → VK → Prop
/-- a two-place operation on values: f is binaryOp op, inplaceOp op or compareOp op -/
def OpR (X : Cx) (f : Value → Value → Sem Value) (r : R2) : Prop :=
  ∀ (pins : List (Addr × Obj)) (s : Shared) (σ : St) (H : Hp) (x y : V) (v u : Value) (Q : VK), Inv X pins σ H s → RelV x v → RelV y u → r x y H Q →
    wpAny (model X.prog X.w) X.A (f v u) (EP X pins σ Q) X.xe s
/-- a one-place operation -/
def UnR (X : Cx) (f : Value → Sem Value) (r : V → Hp → VK → Prop) : Prop :=
  ∀ (pins : List (Addr × Obj)) (s : Shared) (σ : St) (H : Hp) (x : V) (v : Value) (Q : VK), Inv X pins σ H s → RelV x v → r x H Q →
    wpAny (model X.prog X.w) X.A (f v) (EP X pins σ Q) X.xe s
/-- a call of a value that is known (a builtin, a type) with values -/
def CallR (X : Cx) (f : Value) (r : List V → Hp → VK → Prop) : Prop :=
  ∀ (pins : List (Addr × Obj)) (s : Shared) (σ : St) (H : Hp) (xs : List V) (us : List Value) (Q : VK), Inv X pins σ H s → Vals xs us → r xs H Q →
    wpAny (model X.prog X.w) X.A (call f us) (EP X pins σ Q) X.xe s
def tOp (r : R2) (ta tb : TE) : TE := fun σ H Q => ta σ H fun x H1 => tb σ H1 fun y H2 => r x y H2 Q
def tUn (r : V → Hp → VK → Prop) (ta : TE) : TE := fun σ H Q => ta σ H fun x H1 => r x H1 Q
/-- ints in, under C, and a value out -/
def rI (C : Int → Int → Prop) (g : Int → Int → V) : R2 := fun x y H Q => ∃ i j, x = .int i ∧ y = .int j ∧ C i j ∧ Q (g i j) H
def rI0 (g : Int → Int → V) : R2 := fun x y H Q => ∃ i j, x = .int i ∧ y = .int j ∧ Q (g i j) H
def rU (g : Int → V) : V → Hp → VK → Prop := fun x H Q => ∃ i, x = .int i ∧ Q (g i) H

section
variable {X : Cx} {a b c : Expr} {ta tb tc : TE} {pos : Pos}

theorem binT (ha : PE X a ta) (hb : PE X b tb) {pins : List (Addr × Obj)} {s : Shared} {σ : St} {H : Hp} {R : V → V → Hp → Prop} (I : Inv X pins σ H s)
    (h : ta σ H fun x H1 => tb σ H1 fun y H2 => R x y H2) {Q : Value → Shared → Prop} {f : Value → Value → Sem Value}
    (hf : ∀ v u s2 x y H2, Inv X pins σ H2 s2 → RelV x v → RelV y u → R x y H2 → wpAny (model X.prog X.w) X.A (f v u) Q X.xe s2) :
    wpAny (model X.prog X.w) X.A (eval a X.env) (fun v s₁ => wpAny (model X.prog X.w) X.A (eval b X.env) (fun u s₂ => wpAny (model X.prog X.w) X.A (f v u) Q X.xe s₂) X.xe s₁) X.xe s := by
  refine thn (ha pins s σ H _ I h) fun v s1 ⟨x, H1, I1, r1, q1⟩ => ?_
  refine thn (hb pins s1 σ H1 _ I1 q1) fun u s2 ⟨y, H2, I2, r2, q2⟩ => ?_
  exact hf v u s2 x y H2 I2 r1 r2 q2

theorem pe_op {op : Operator} {r : R2} (ho : OpR X (binaryOp op) r) (ha : PE X a ta) (hb : PE X b tb) : PE X (.BinOp a op b pos) (tOp r ta tb) := by
  intro pins s σ H Q I h
  exact wpAny_BinOp (binT ha hb I h fun v u s2 x y H2 I2 rx ry q => ho pins s2 σ H2 x y v u Q I2 rx ry q)
theorem pe_un {op : UnaryOp} {r : V → Hp → VK → Prop} (ho : UnR X (unaryOp op) r) (ha : PE X a ta) : PE X (.UnaryOp op a pos) (tUn r ta) := by
  intro pins s σ H Q I h
  exact UnaryOp_ (thn (ha pins s σ H _ I h) fun v s1 ⟨x, H1, I1, r1, q1⟩ => ho pins s1 σ H1 x v Q I1 r1 q1)
/-! ### ints -/
theorem opI {f : Value → Value → Sem Value} {C : Int → Int → Prop} {g : Int → Int → Int}
    (rule : ∀ (i j : Int) (t u : Tok) (s : Shared) (Q : Value → Shared → Prop) (E : Value → Shared → Prop), C i j → Q (.int (g i j) s.toks) { s with toks := s.toks + 1 } → wpAny (model X.prog X.w) X.A (f (.int i t) (.int j u)) Q E s) :
    OpR X f (rI C fun i j => .int (g i j)) := by
  intro pins s σ H x y v u Q I rx ry h
  obtain ⟨i, j, rfl, rfl, hc, q⟩ := h
  obtain ⟨t, rfl⟩ := rx
  obtain ⟨t', rfl⟩ := ry
  exact rule i j t t' s _ _ hc ⟨.int (g i j), H, I.tok _, ⟨_, rfl⟩, q⟩
theorem opI0 {f : Value → Value → Sem Value} {g : Int → Int → Int}
    (rule : ∀ (i j : Int) (t u : Tok) (s : Shared) (Q : Value → Shared → Prop) (E : Value → Shared → Prop), Q (.int (g i j) s.toks) { s with toks := s.toks + 1 } → wpAny (model X.prog X.w) X.A (f (.int i t) (.int j u)) Q E s) :
    OpR X f (rI0 fun i j => .int (g i j)) := by
  intro pins s σ H x y v u Q I rx ry h
  obtain ⟨i, j, rfl, rfl, q⟩ := h
  obtain ⟨t, rfl⟩ := rx
  obtain ⟨t', rfl⟩ := ry
  exact rule i j t t' s _ _ ⟨.int (g i j), H, I.tok _, ⟨_, rfl⟩, q⟩
theorem opB0 {f : Value → Value → Sem Value} {g : Int → Int → Bool}
    (rule : ∀ (i j : Int) (t u : Tok) (s : Shared) (Q : Value → Shared → Prop) (E : Value → Shared → Prop), Q (.bool (g i j)) s → wpAny (model X.prog X.w) X.A (f (.int i t) (.int j u)) Q E s) :
    OpR X f (rI0 fun i j => .bl (g i j)) := by
  intro pins s σ H x y v u Q I rx ry h
  obtain ⟨i, j, rfl, rfl, q⟩ := h
  obtain ⟨t, rfl⟩ := rx
  obtain ⟨t', rfl⟩ := ry
  exact rule i j t t' s _ _ ⟨.bl (g i j), H, I, rfl, q⟩

def CDiv (i j : Int) : Prop := 0 < j ∧ j < 1073741824
def CMul (i j : Int) : Prop := (-(2 ^ 64) < i ∧ i < 2 ^ 64) ∨ (-(2 ^ 64) < j ∧ j < 2 ^ 64)
theorem CMul.ok {i j : Int} (h : CMul i j) : IntMulOk i j := by
  rcases h with ⟨h1, h2⟩ | ⟨h1, h2⟩
  · exact .of_left (intBits_le_64 h1 h2)
  · exact .of_right (intBits_le_64 h1 h2)
theorem op_add : OpR X (binaryOp .Add) (rI0 fun i j => .int (i + j)) := opI0 fun _ _ _ _ _ _ _ q => add_int q
theorem op_sub : OpR X (binaryOp .Sub) (rI0 fun i j => .int (i - j)) := opI0 fun _ _ _ _ _ _ _ q => sub_int q
theorem op_mul : OpR X (binaryOp .Mult) (rI CMul fun i j => .int (i * j)) := opI fun _ _ _ _ _ _ _ hc q => mul_int q hc.ok
/-- // by a positive divisor -/
theorem op_fdiv : OpR X (binaryOp .FloorDiv) (rI CDiv fun i j => .int (i / j)) := opI fun i j _ _ _ _ _ hc q => by
  have h1 : (0 : Int) < j := hc.1
  have h2 : j < 1073741824 := hc.2
  exact floordiv_int (by omega) (by rw [Int.fdiv_eq_ediv_of_nonneg i (by omega)]; exact q) (.inl (PyProof.noPylong_small (by omega)))
/-- % by a positive divisor of any size -/
theorem op_mod : OpR X (binaryOp .Mod) (rI (fun _ j => 0 < j) fun i j => .int (i % j)) := opI fun i j _ _ _ _ _ hc q => by
  have h1 : (0 : Int) < j := hc
  exact mod_int' (by omega) (by rw [Int.fmod_eq_emod_of_nonneg i (by omega)]; exact q)
theorem unI {f : Value → Sem Value} {g : Int → Int}
    (rule : ∀ (i : Int) (t : Tok) (s : Shared) (Q : Value → Shared → Prop) (E : Value → Shared → Prop), Q (.int (g i) s.toks) { s with toks := s.toks + 1 } → wpAny (model X.prog X.w) X.A (f (.int i t)) Q E s) :
    UnR X f (rU fun i => .int (g i)) := by
  intro pins s σ H x v Q I rx h
  obtain ⟨i, rfl, q⟩ := h
  obtain ⟨t, rfl⟩ := rx
  exact rule i t s _ _ ⟨.int (g i), H, I.tok _, ⟨_, rfl⟩, q⟩
theorem un_neg : UnR X (unaryOp .USub) (rU fun i => .int (-i)) := unI fun _ _ _ _ _ q => neg_int q
/-! ### bools among ints: n += (a < b) -/
end

/-! ### comparisons -/
/-- the scalars that == tells apart as data does -/
def scal : V → V → Bool
  | .non, .non => true | .non, .int _ => true | .int _, .non => true | .non, .bl _ => true | .bl _, .non => true | .non, .str _ => true | .str _, .non => true
  | .int _, .int _ => true | .bl _, .bl _ => true | .str _, .str _ => true | .byt _, .byt _ => true
  | .int _, .str _ => true | .str _, .int _ => true | .bl _, .str _ => true | .str _, .bl _ => true
  | _, _ => false
def rEq : R2 := fun x y H Q => scal x y = true ∧ Q (.bl (decide (x = y))) H
def rNe : R2 := fun x y H Q => scal x y = true ∧ Q (.bl (!decide (x = y))) H

theorem dec_int {i j : Int} : decide (V.int i = V.int j) = (i == j) := by
  rw [Bool.eq_iff_iff]
  simp
theorem dec_bl {i j : Bool} : decide (V.bl i = V.bl j) = (i == j) := by
  rw [Bool.eq_iff_iff]
  simp
theorem dec_str {i j : Str} : decide (V.str i = V.str j) = (i == j) := by
  rw [Bool.eq_iff_iff]
  simp
theorem dec_byt {i j : Array UInt8} : decide (V.byt i = V.byt j) = (i.toList == j.toList) := by
  rw [Bool.eq_iff_iff]
  cases i
  cases j
  simp

section
variable {X : Cx} {a b c : Expr} {ta tb tc : TE} {pos : Pos}
theorem fin_bl {pins : List (Addr × Obj)} {σ : St} {H : Hp} {s : Shared} {Q : VK} {k k' : Bool} (I : Inv X pins σ H s) (q : Q (.bl k) H) (e : k = k') : EP X pins σ Q (.bool k') s := by
  subst e
  exact ⟨.bl k, H, I, rfl, q⟩
theorem op_eq : OpR X (compareOp .Eq) rEq := by
  intro pins s σ H x y v u Q I rx ry h
  obtain ⟨hs, q⟩ := h
  cases x with
  | non =>
    cases rx
    cases y with
    | non => cases ry; exact PySem.EqNone.eq_none_none (fin_bl I q (by simp))
    | bl j => cases ry; exact PySem.EqNone.eq_none_bool (fin_bl I q (by simp))
    | int j => obtain ⟨t', rfl⟩ := ry; exact PySem.EqNone.eq_none_int (fin_bl I q (by simp))
    | str j => obtain ⟨t', rfl⟩ := ry; exact PySem.EqNone.eq_none_str (fin_bl I q (by simp))
    | _ => exact absurd (show false = true from hs) Bool.false_ne_true
  | bl i =>
    cases rx
    cases y with
    | non => cases ry; exact PySem.EqNone.eq_bool_none (fin_bl I q (by simp))
    | bl j => cases ry; exact eq_bool (fin_bl I q dec_bl)
    | str j => obtain ⟨t', rfl⟩ := ry; exact PySem.EqMixed.eq_bool_str (fin_bl I q (by simp))
    | _ => exact absurd (show false = true from hs) Bool.false_ne_true
  | int i =>
    obtain ⟨t, rfl⟩ := rx
    cases y with
    | non => cases ry; exact PySem.EqNone.eq_int_none (fin_bl I q (by simp))
    | int j => obtain ⟨t', rfl⟩ := ry; exact eq_int (fin_bl I q dec_int)
    | str j => obtain ⟨t', rfl⟩ := ry; exact PySem.EqMixed.eq_int_str (fin_bl I q (by simp))
    | _ => exact absurd (show false = true from hs) Bool.false_ne_true
  | str i =>
    obtain ⟨t, rfl⟩ := rx
    cases y with
    | non => cases ry; exact PySem.EqNone.eq_str_none (fin_bl I q (by simp))
    | bl j => cases ry; exact PySem.EqMixed.eq_str_bool (fin_bl I q (by simp))
    | int j => obtain ⟨t', rfl⟩ := ry; exact PySem.EqMixed.eq_str_int (fin_bl I q (by simp))
    | str j => obtain ⟨t', rfl⟩ := ry; exact eq_str (fin_bl I q dec_str)
    | _ => exact absurd (show false = true from hs) Bool.false_ne_true
  | byt i =>
    obtain ⟨t, rfl⟩ := rx
    cases y with
    | byt j => obtain ⟨t', rfl⟩ := ry; exact PySem.W.eq_bytes (fin_bl I q dec_byt)
    | _ => exact absurd (show false = true from hs) Bool.false_ne_true
  | _ => cases y <;> exact absurd (show false = true from hs) Bool.false_ne_true
theorem op_ne : OpR X (compareOp .NotEq) rNe := by
  intro pins s σ H x y v u Q I rx ry h
  obtain ⟨hs, q⟩ := h
  cases x with
  | non =>
    cases rx
    cases y with
    | non => cases ry; exact PySem.EqNone.ne_none_none (fin_bl I q (by simp))
    | bl j => cases ry; exact PySem.EqNone.ne_none_bool (fin_bl I q (by simp))
    | int j => obtain ⟨t', rfl⟩ := ry; exact PySem.EqNone.ne_none_int (fin_bl I q (by simp))
    | str j => obtain ⟨t', rfl⟩ := ry; exact PySem.EqNone.ne_none_str (fin_bl I q (by simp))
    | _ => exact absurd (show false = true from hs) Bool.false_ne_true
  | bl i =>
    cases rx
    cases y with
    | non => cases ry; exact PySem.EqNone.ne_bool_none (fin_bl I q (by simp))
    | bl j => cases ry; exact ne_bool (fin_bl I q (congrArg not dec_bl))
    | str j => obtain ⟨t', rfl⟩ := ry; exact PySem.EqMixed.ne_bool_str (fin_bl I q (by simp))
    | _ => exact absurd (show false = true from hs) Bool.false_ne_true
  | int i =>
    obtain ⟨t, rfl⟩ := rx
    cases y with
    | non => cases ry; exact PySem.EqNone.ne_int_none (fin_bl I q (by simp))
    | int j => obtain ⟨t', rfl⟩ := ry; exact ne_int (fin_bl I q (congrArg not dec_int))
    | str j => obtain ⟨t', rfl⟩ := ry; exact PySem.EqMixed.ne_int_str (fin_bl I q (by simp))
    | _ => exact absurd (show false = true from hs) Bool.false_ne_true
  | str i =>
    obtain ⟨t, rfl⟩ := rx
    cases y with
    | non => cases ry; exact PySem.EqNone.ne_str_none (fin_bl I q (by simp))
    | bl j => cases ry; exact PySem.EqMixed.ne_str_bool (fin_bl I q (by simp))
    | int j => obtain ⟨t', rfl⟩ := ry; exact PySem.EqMixed.ne_str_int (fin_bl I q (by simp))
    | str j => obtain ⟨t', rfl⟩ := ry; exact ne_str (fin_bl I q (congrArg not dec_str))
    | _ => exact absurd (show false = true from hs) Bool.false_ne_true
  | byt i =>
    obtain ⟨t, rfl⟩ := rx
    cases y with
    | byt j => obtain ⟨t', rfl⟩ := ry; exact PySem.W.ne_bytes (fin_bl I q (congrArg not dec_byt))
    | _ => exact absurd (show false = true from hs) Bool.false_ne_true
  | _ => cases y <;> exact absurd (show false = true from hs) Bool.false_ne_true

theorem op_lt : OpR X (compareOp .Lt) (rI0 fun i j => .bl (decide (i < j))) := opB0 fun _ _ _ _ _ _ _ q => lt_int q
theorem op_le : OpR X (compareOp .LtE) (rI0 fun i j => .bl (decide (i ≤ j))) := opB0 fun _ _ _ _ _ _ _ q => le_int q
theorem op_gt : OpR X (compareOp .Gt) (rI0 fun i j => .bl (decide (j < i))) := opB0 fun _ _ _ _ _ _ _ q => gt_int q
theorem nomark (b : Expr) {op : CmpOp} (h : op ≠ .In := by decide) (h2 : op ≠ .NotIn := by decide) : behindInMarks op b = false := by
  have e1 : (op == CmpOp.In) = false := by cases op <;> first | rfl | exact absurd rfl h
  have e2 : (op == CmpOp.NotIn) = false := by cases op <;> first | rfl | exact absurd rfl h2
  cases b <;> simp [behindInMarks, e1, e2]
/-- a comparison as a value; hm: nomark b, or (for in, not in) by with_unfolding_all rfl -/
theorem pe_cmpR {op : CmpOp} {r : R2} (ho : OpR X (compareOp op) r) (ha : PE X a ta) (hb : PE X b tb) (hm : behindInMarks op b = false) : PE X (.Compare a [op] [b] pos) (tOp r ta tb) := by
  intro pins s σ H Q I h
  exact wpAny_Compare1 (binT ha hb I h fun v u s2 x y H2 I2 rx ry q => ho pins s2 σ H2 x y v u Q I2 rx ry q) hm
/-- a reading of a value as a test -/
def tTest (t : TE) : TT := fun σ H Q => t σ H fun x H' => ∃ k, x = .bl k ∧ Q k H'
theorem pt_cmpR {op : CmpOp} {r : R2} (ho : OpR X (compareOp op) r) (ha : PE X a ta) (hb : PE X b tb) (hm : behindInMarks op b = false) : PT X (.Compare a [op] [b] pos) (tTest (tOp r ta tb)) := by
  intro pins s σ H Q I h
  refine wpAny_isTrue_Compare1 (thn (ha pins s σ H _ I h) fun v s1 ⟨x, H1, I1, r1, q1⟩ => thn (hb pins s1 σ H1 _ I1 q1) fun u s2 ⟨y, H2, I2, r2, q2⟩ =>
    thn (ho pins s2 σ H2 x y v u _ I2 r1 r2 q2) fun c s3 ⟨z, H3, I3, r3, k, e, q3⟩ => ?_) hm
  subst e
  cases r3
  exact wpAny_truthy_bool ⟨H3, I3, q3⟩
/-- a op1 b op2 c -/
def tChain (r r' : R2) (ta tb tc : TE) : TE := fun σ H Q => ta σ H fun x H1 => tb σ H1 fun y H2 => r x y H2 fun z H3 => ∃ k, z = .bl k ∧
  (if k = true then tc σ H3 fun w' H4 => r' y w' H4 Q else Q (.bl false) H3)
theorem pt_chain {op op' : CmpOp} {r r' : R2} (ho : OpR X (compareOp op) r) (ho' : OpR X (compareOp op') r') (ha : PE X a ta) (hb : PE X b tb) (hc : PE X c tc)
    (hm : lastMarks [op, op'] [b, c] = false := by with_unfolding_all rfl) : PT X (.Compare a [op, op'] [b, c] pos) (tTest (tChain r r' ta tb tc)) := by
  intro pins s σ H Q I h
  refine isTrue_chain (thn (ha pins s σ H _ I h) fun v s1 ⟨x, H1, I1, r1, q1⟩ => test_link (thn (hb pins s1 σ H1 _ I1 q1) fun u s2 ⟨y, H2, I2, r2, q2⟩ =>
    thn (ho pins s2 σ H2 x y v u _ I2 r1 r2 q2) fun d s3 ⟨z, H3, I3, r3, k, e, q3⟩ => ?_)) hm
  subst e
  cases r3
  refine wpAny_truthy_bool ?_
  cases k with
  | false =>
    obtain ⟨k', e', q'⟩ := q3
    cases e'
    exact ite_ff ⟨H3, I3, q'⟩
  | true =>
    refine ite_tt (test_last (thn (hc pins s3 σ H3 _ I3 q3) fun w' s4 ⟨z', H4, I4, r4, q4⟩ => thn (ho' pins s4 σ H4 y z' u w' _ I4 r2 r4 q4) fun d' s5 ⟨z2, H5, I5, r5, k2, e2, q5⟩ => ?_))
    subst e2
    cases r5
    exact wpAny_truthy_bool ⟨H5, I5, q5⟩

/-! ### truth -/
theorem line63 : (sizeLine : Nat) < 2 ^ 63 := by rw [sizeLine_eq]; decide
/-! ### strs and bytes -/
/-! ### scalar builtins, by CallR -/
theorem vals1 {x : V} {us : List Value} (r : Vals [x] us) : ∃ u, us = [u] ∧ RelV x u := by
  cases r with
  | cons r1 r2 => cases r2; exact ⟨_, rfl, r1⟩
theorem vals2 {x y : V} {us : List Value} (r : Vals [x, y] us) : ∃ u w', us = [u, w'] ∧ RelV x u ∧ RelV y w' := by
  cases r with
  | cons r1 r2 =>
    cases r2 with
    | cons r3 r4 => cases r4; exact ⟨_, _, rfl, r1, r3⟩
theorem call_max2 (hc : X.calm = true) : CallR X (.builtin "max") (fun xs H Q => ∃ i j, xs = [.int i, .int j] ∧ Q (.int (if j > i then j else i)) H) := by
  intro pins s σ H xs us Q I r h
  obtain ⟨i, j, rfl, q⟩ := h
  obtain ⟨u, w', rfl, ⟨t, rfl⟩, ⟨t', rfl⟩⟩ := vals2 r
  refine max_two_ints (I.ok.hd hc) fun h' tk k => ⟨_, H, I.kept k, ?_, q⟩
  by_cases hj : j > i
  · rw [if_pos hj, if_pos hj]; exact ⟨_, rfl⟩
  · rw [if_neg hj, if_neg hj]; exact ⟨_, rfl⟩
theorem call_min2 (hc : X.calm = true) : CallR X (.builtin "min") (fun xs H Q => ∃ i j, xs = [.int i, .int j] ∧ Q (.int (if j < i then j else i)) H) := by
  intro pins s σ H xs us Q I r h
  obtain ⟨i, j, rfl, q⟩ := h
  obtain ⟨u, w', rfl, ⟨t, rfl⟩, ⟨t', rfl⟩⟩ := vals2 r
  refine min_two_ints (I.ok.hd hc) fun h' tk k => ⟨_, H, I.kept k, ?_, q⟩
  by_cases hj : j < i
  · rw [if_pos hj, if_pos hj]; exact ⟨_, rfl⟩
  · rw [if_neg hj, if_neg hj]; exact ⟨_, rfl⟩
end
end L2

namespace L2
open PySem PySem.Spec PyProof.Rows

/-! ### an instance, its attributes a map -/
structure ObjM (h : Heap) (x dx C : Addr) (mA : Str → Option Value) : Prop where
  obj : h.get? x = some (PySem.W.instObj C dx)
  ns : h.Ns1 dx mA
  ne : dx ≠ x

theorem lookIn_ns {h : Heap} {dx : Addr} {mA : Str → Option Value} (n : h.Ns1 dx mA) : ∃ od, h.get? dx = some od ∧ ∀ name, PySem.W.lookIn name od = some (mA name) := by
  obtain ⟨o, es, ep, ho, hd, hk, _, hm⟩ := n
  refine ⟨o, ho, fun name => ?_⟩
  have e := hm name
  unfold nsFind findBy at e
  rw [← Array.find?_toList] at e
  unfold PySem.W.lookIn
  rw [hd]
  dsimp only
  split
  · rename_i y q
    rw [q] at e
    exact congrArg some e
  · rename_i q
    rw [q] at e
    have a : es.toList.any (·.refKey) = false := by
      rw [List.any_eq_false]
      intro y hy
      obtain ⟨z, t, hkey⟩ := hk y (Array.mem_toList_iff.mp hy)
      simp [DictEntry.refKey, hkey]
    have a' : ¬ es.toList.any (·.refKey) = true := by rw [a]; exact Bool.false_ne_true
    rw [if_neg a']
    exact congrArg some e

theorem ObjM.look {h : Heap} {x dx C : Addr} {mA : Str → Option Value} (I : ObjM h x dx C mA) : ∃ od, PySem.W.InstAt h x (PySem.W.instObj C dx) C (some od) ∧ ∀ name, PySem.W.lookIn name od = some (mA name) :=
  let ⟨od, ho, hl⟩ := lookIn_ns I.ns
  ⟨od, ⟨I.obj, rfl, rfl, ho⟩, hl⟩

section
variable {prog : Program} {w : World} {A : Around} {E : Value → Shared → Prop} {s : Shared} {K : PySem.W.Frag} {x dx C f : Addr} {mA : Str → Option Value} {name : Str} {v : Value}

end

/-! ### the attributes as a list of pairs -/
theorem RelO.some_of {v : V} {o : Option Value} (r : RelO (some v) o) : ∃ u, o = some u ∧ RelV v u := by
  cases o with
  | none => exact (show False from r).elim
  | some u => exact ⟨u, rfl, r⟩
section
variable {P : Program} {w : World} {H H' : Hp} {h h' : Heap} {a C dx : Addr} {fs fs' : List (Str × V)}
theorem ins_get (hok : HOk P w H h) (e : H a = some (.ins C dx fs)) : ∃ mA, ObjM h a dx C mA ∧ (∀ f, RelO (fs.lookup f) (mA f)) ∧ PySem.Within mA (fs.map (·.1)) ∧ fs.length ≤ 1000 ∧ H dx = some (.own a) := by
  obtain ⟨d, z, ne, ob, mA, n, r, q⟩ := (show ObjOk P w H h a (.ins C dx fs) from hok a _ e)
  exact ⟨mA, ⟨ob, n, ne⟩, r, q, z, d⟩
end

/-! ### what of the text a class must have -/
structure Cls (K : PySem.W.Frag) (C : Addr) : Prop where
  pg : PySem.W.plainGet K C Str.empty = true
  hd : PySem.W.hasDictIn K C = true
  po : PySem.W.plainOver K C = true
  sa : PySem.W.findIn K (.ref C) "__setattr__" = some (some (.builtin "object.__setattr__"))
theorem Cls.get {K : PySem.W.Frag} {C : Addr} (c : Cls K C) (f : Str) : PySem.W.plainGet K C f = true := c.pg
section
variable {X : Cx} {pins : List (Addr × Obj)} {σ : St} {H : Hp} {s : Shared} {a C dx : Addr} {fs : List (Str × V)} {f : Str} {v : V} {A : Around} {E : Value → Shared → Prop}

end

/-! ### readings and rules -/
section
variable {X : Cx} {o e value : Expr} {f : Str} {pos pos' tpos : Pos} {ta tv : TE}
end

/-! ### isinstance -/
section
variable {X : Cx} {pins : List (Addr × Obj)} {σ : St} {H : Hp} {s : Shared} {A : Around} {E : Value → Shared → Prop} {Q : Value → Shared → Prop} {c : Value} {b : Bool}
/-- the type of a value, as the fragment's deciders take it; for an instance its class -/
inductive TyOf (K : PySem.W.Frag) (H : Hp) : V → Value → Prop where
  | non : TyOf K H .non (.type "NoneType")
  | bl (x : Bool) : TyOf K H (.bl x) (.type "bool")
  | int (i : Int) : TyOf K H (.int i) (.type "int")
  | str (x : Str) : TyOf K H (.str x) (.type "str")
  | flt (x : UInt64) : TyOf K H (.flt x) (.type "float")
  | lst {a : Addr} {xs : List V} (e : H a = some (.lst xs)) : TyOf K H (.ref a) (.type "list")
  | frz {a : Addr} {o : Obj} {xs : List V} (e : H a = some (.frz o (.lst xs))) : TyOf K H (.ref a) (.type "list")
  | tup {a : Addr} {xs : List V} (e : H a = some (.tup xs)) : TyOf K H (.ref a) (.type "tuple")
  | dK {a : Addr} {kvs : List (Key × V)} (e : H a = some (.dK kvs)) : TyOf K H (.ref a) (.type "dict")
  | dT {a : Addr} {kvs : List (List Key × V)} (e : H a = some (.dT kvs)) : TyOf K H (.ref a) (.type "dict")
  | ins {a C dx : Addr} {fs : List (Str × V)} (e : H a = some (.ins C dx fs)) (cl : Cls K C) (ha : PySem.W.findIn K (.ref C) "__class__" = some (some (.builtin "object.__class__")))
      (hn : PySem.W.specialIn K (.builtin "object.__class__") "__get__" = some (some (.builtin "getset_descriptor.__get__"))) (htk : PySem.W.takesIn K (.builtin "object.__class__") = some true)
      (hm : PySem.W.mroIn K C (.type "object") = some true) : TyOf K H (.ref a) (.ref C)
/-- isinstance(x, c) for one class c, a built-in or an own one: kitOne's answer -/
theorem isinst_ok {x : V} {u t : Value} (I : Inv X pins σ H s) (rx : RelV x u) (ty : TyOf X.K H x t) (e : PySem.W.kitOne X.K t c = some b) (h : ∀ tk, Q (.bool b) { s with toks := tk }) :
    wpAny (model X.prog X.w) A (call (.builtin "isinstance") [u, c]) Q E s := by
  cases ty with
  | non => cases (show u = Value.none from rx); exact PySem.W.kia_one PySem.W.kitx_none I.kIn True.intro e (fun z => nomatch z) h
  | bl y => cases (show u = Value.bool y from rx); exact PySem.W.kia_one PySem.W.kitx_bool I.kIn True.intro e (fun z => nomatch z) h
  | int i => obtain ⟨t, q⟩ := (show ∃ t, u = Value.int i t from rx); cases q; exact PySem.W.kia_one PySem.W.kitx_int I.kIn True.intro e (fun z => nomatch z) h
  | str y => obtain ⟨t, q⟩ := (show ∃ t, u = Value.str y t from rx); cases q; exact PySem.W.kia_one PySem.W.kitx_str I.kIn True.intro e (fun z => nomatch z) h
  | flt y => obtain ⟨t, q⟩ := (show ∃ t, u = Value.float y t from rx); cases q; exact PySem.W.kia_one PySem.W.kitx_float I.kIn True.intro e (fun z => nomatch z) h
  | @lst a xs ea =>
    cases (show u = Value.ref a from rx)
    obtain ⟨_, _, n, _, h1⟩ := (show ObjOk X.prog X.w H s.heap a (.lst xs) from I.hok a _ ea)
    exact PySem.W.kia_one PySem.W.kitx_list I.kIn ⟨_, h1, rfl⟩ e (fun z => nomatch z) h
  | @frz a ob xs ea =>
    cases (show u = Value.ref a from rx)
    obtain ⟨_, _, _, n, _, h1⟩ := (show ObjOk X.prog X.w H s.heap a (.frz ob (.lst xs)) from I.hok a _ ea)
    exact PySem.W.kia_one PySem.W.kitx_list I.kIn ⟨_, h1, rfl⟩ e (fun z => nomatch z) h
  | @tup a xs ea =>
    cases (show u = Value.ref a from rx)
    obtain ⟨_, _, _, p⟩ := (show ObjOk X.prog X.w H s.heap a (.tup xs) from I.hok a _ ea)
    obtain ⟨o, h1, h2, _⟩ := p
    exact PySem.W.kia_one PySem.W.kitx_tuple I.kIn ⟨o, h1, h2⟩ e (fun z => nomatch z) h
  | @dK a kvs ea =>
    cases (show u = Value.ref a from rx)
    obtain ⟨_, _, vs, _, p⟩ := (show ObjOk X.prog X.w H s.heap a (.dK kvs) from I.hok a _ ea)
    obtain ⟨o, es, ep, h1, h2, _⟩ := p
    exact PySem.W.kia_one PySem.W.kitx_dict I.kIn ⟨o, h1, h2.1⟩ e (fun z => nomatch z) h
  | @dT a kvs ea =>
    cases (show u = Value.ref a from rx)
    obtain ⟨_, _, xs, _, o, es, ep, h1, h2, _⟩ := (show ObjOk X.prog X.w H s.heap a (.dT kvs) from I.hok a _ ea)
    exact PySem.W.kia_one PySem.W.kitx_dict I.kIn ⟨o, h1, h2.1⟩ e (fun z => nomatch z) h
  | @ins a C dx fs ea cl ha hn htk hm =>
    cases (show u = Value.ref a from rx)
    obtain ⟨mA, O, _⟩ := ins_get I.hok ea
    obtain ⟨od, J, _⟩ := O.look
    exact PySem.W.kia_one (PySem.W.kitx_own (cl.get _) cl.hd ha hn htk hm) I.kIn J e (fun z => nomatch z) h
end
end L2

namespace L2
open PySem PySem.Spec PyProof.Rows

/-! ### room -/
structure Room (k : Nat) (A : Around) (c : Bool := true) : Prop where
  hc : c = true → A.handled = none
  dp : A.depth + 3 * k + 5 < recursionLimit
  un : A.units + 16 * k + 200 < cLine
theorem Room.mono {j k : Nat} {A : Around} {c : Bool} (r : Room k A c) (h : j ≤ k) : Room j A c := ⟨r.hc, by have := r.dp; omega, by have := r.un; omega⟩
theorem Room.deeper {k : Nat} {A : Around} {c : Bool} (r : Room (k + 1) A c) (env : Env) : Room k (A.deeper env) c :=
  ⟨r.hc, by have := r.dp; show A.depth + 1 + 3 * k + 5 < _; omega, by have := r.un; show A.units + 3 + 16 * k + 200 < _; omega⟩
theorem Room.depth {k : Nat} {A : Around} {c : Bool} (r : Room k A c) : A.depth < recursionLimit := by have := r.dp; omega
theorem Room.units {k : Nat} {A : Around} {c : Bool} (r : Room k A c) : A.units + 64 < cLine := by have := r.un; omega
/-! ### argument lists and displays -/
def tNil : TA := fun _ H Q => Q [] H
def tCons (ta : TE) (tr : TA) : TA := fun σ H Q => ta σ H fun x H1 => tr σ H1 fun xs H2 => Q (x :: xs) H2
section
variable {X : Cx} {e : Expr} {es : List Expr} {te : TE} {t : TA} {pos : Pos}
theorem pa_nil : PA X [] tNil := fun _ _ _ _ H Q I h => Calls.spliced_nil ⟨[], H, I, .nil, h⟩
theorem pa_cons (ha : PE X e te) (hr : PA X es t) (hs : starEach (e :: es) X.env = (false, eval e X.env) :: starEach es X.env := by rfl) : PA X (e :: es) (tCons te t) := by
  intro pos pins s σ H Q I h
  rw [hs]
  show wpAny _ _ (spliced ((false, eval e X.env) :: backTo pos (starEach es X.env))) _ _ s
  refine Calls.spliced_cons (thn (ha pins s σ H _ I h) fun u s1 ⟨x, H1, I1, r1, q1⟩ => ?_)
  exact thn (hr pos pins s1 σ H1 _ I1 q1) fun us s2 ⟨xs, H2, I2, r2, q2⟩ => ⟨x :: xs, H2, I2, .cons r1 r2, q2⟩

/-- a tuple, a list of written items -/
def tTup (t : TA) : TE := fun σ H Q => t σ H fun xs H1 => xs.length ≤ sizeLine ∧ ∀ p, H1 p = none → Q (.ref p) (upd H1 p (.tup xs))
def tLst (t : TA) : TE := fun σ H Q => t σ H fun xs H1 => xs.length ≤ sizeLine ∧ ∀ p, H1 p = none → Q (.ref p) (upd H1 p (.lst xs))
theorem pe_tup {x1} (h : PA X es t) : PE X (.Tuple es x1 pos) (tTup t) := by
  intro pins s σ H Q I hq
  refine wpAny_Tuple_spliced (thn (h pos pins s σ H _ I hq) fun us s1 ⟨xs, H1, I1, r, z, q⟩ => ⟨by rw [← r.length]; exact z, ?_⟩)
  have hf : H1 s1.heap.objs.size = none := I1.hok.fresh (Nat.le_refl _)
  refine ⟨.ref s1.heap.objs.size, upd H1 s1.heap.objs.size (.tup xs), I1.laid (t' := s1.toks) (fun b u e => Heap.get?_push_of_some _ e) (Nat.le_refl _) ?_, rfl, q _ hf⟩
  exact ⟨z, us, r, ⟨_, Heap.get?_push_size _ rfl, rfl, _, rfl⟩⟩
theorem pe_lst (h : PA X es t) : PE X (.List es pos) (tLst t) := by
  intro pins s σ H Q I hq
  refine wpAny_List_spliced (thn (h pos pins s σ H _ I hq) fun us s1 ⟨xs, H1, I1, r, z, q⟩ => ⟨by rw [← r.length]; exact z, ?_⟩)
  have hf : H1 s1.heap.objs.size = none := I1.hok.fresh (Nat.le_refl _)
  refine ⟨.ref s1.heap.objs.size, upd H1 s1.heap.objs.size (.lst xs), I1.laid (t' := s1.toks) (fun b u e => Heap.get?_push_of_some _ e) (Nat.le_refl _) ?_, rfl, q _ hf⟩
  exact ⟨z, us, 0, r, Heap.get?_push_size _ rfl⟩
end

/-! ### what a def promises -/
/-- a def's promise: the bound arguments in the parameters' order, the heap, the wanted end, the wanted exception -/
abbrev Sp := List V → Hp → VK → XK → Prop
/-- how an exception lies behind a call (file 08 gives it): the callers' frames, abstract heap and state ahead of the call, the wish, the exception, the state -/
abbrev CXT := List Env → Hp → Shared → XK → Value → Shared → Prop

/-- the state at a call -/
structure Env0 (P : Program) (w : World) (K : PySem.W.Frag) (mg : Str → Option Value) (base : Heap) (A : Around) (outer : List Env) (s : Shared) (H : Hp) : Prop where
  frames : A.frames = some outer
  mod : Mod K mg base
  bs : ∀ b o, base.get? b = some o → s.heap.get? b = some o ∧ H b = none
  bsz : base.objs.size ≤ s.heap.objs.size
  funs : s.heap.FunFrames base outer
  frf : ∀ b ∈ frs outer, H b = none
  hok : HOk P w H s.heap
  bare : AllBare s.gens
/-- a call's end -/
def CE (outer : List Env) (P : Program) (w : World) (H : Hp) (s : Shared) (Q : VK) (u : Value) (s' : Shared) : Prop :=
  ∃ v H', s'.os = s.os ∧ AllBare s'.gens ∧ Un (frs outer) [] H H' s.heap s'.heap ∧ HOk P w H' s'.heap ∧ RelV v u ∧ Q v H'
def CR (CX : CXT) (outer : List Env) (P : Program) (w : World) (H : Hp) (s : Shared) (Q : VK) (E : XK) (r : Result) (s' : Shared) : Prop :=
  match r with
  | .ok (.ret u) => CE outer P w H s Q u s'
  | .ok _ => False
  | .error e => CX outer H s E e s'
structure FnOk (P : Program) (w : World) (K : PySem.W.Frag) (mg : Str → Option Value) (base : Heap) (CX : CXT) (k : Nat) (f : Addr) (fd : FuncData) (ps : List Str) (sp : Sp) (c : Bool := true) : Prop where
  len : ∀ vs H Q E, sp vs H Q E → vs.length = ps.length
  run : ∀ (A : Around) (outer : List Env) (s : Shared) (H : Hp) (args : Args) (us : List Value) (vs : List V) (Q : VK) (E : XK), Room k A c → Env0 P w K mg base A outer s H → BindsTo s fd args (ps.zip us) → Vals vs us → sp vs H Q E →
    codeAny (model P w) A (.call (.ref f) args) (CR CX outer P w H s Q E) s
section
variable {X : Cx} {pins : List (Addr × Obj)} {σ : St} {H : Hp} {s s' : Shared}
/-- from a body: what a callee wants -/
theorem Inv.env0 (I : Inv X pins σ H s) : Env0 X.prog X.w X.K X.mg X.base X.A X.stack s H :=
  ⟨I.ok.frames, I.ok.mod, I.bs, Nat.le_trans I.ok.bsz I.sz, I.stack, I.stkFree, I.hok, I.bare⟩
/-- behind a call -/
theorem Inv.after {Q : VK} {u : Value} (I : Inv X pins σ H s) (h : CE X.stack X.prog X.w H s Q u s') : EP X pins σ Q u s' := by
  obtain ⟨v, H', os, bare, un, hok, r, q⟩ := h
  obtain ⟨hh, g, d, t, os'⟩ := s'
  obtain rfl : os' = s.os := os
  exact ⟨v, H', I.call (h' := hh) (g' := g) (d' := d) (t' := t) (ch := []) un hok bare (fun b z => absurd z (by simp)), r, q⟩
end

/-! ### calls -/
/-- f(..): the written arguments, then the defaults dvs; E: what is wanted of an exception -/
def tCall (sp : Sp) (dvs : List V) (E : XK) (t : TA) : TE := fun σ H Q => t σ H fun vs H1 => sp (vs ++ dvs) H1 Q E
/-- how the parameters are bound: us the positional arguments, kw the keywords' values by name, ds the defaults that fill up -/
def Binds (K : PySem.W.Frag) (fd : FuncData) (ps : List Str) (ds : List Value) : Prop :=
  ∀ (s : Shared) (us : List Value), K.In s.heap → (us ++ ds).length = ps.length → BindsTo s fd ⟨us, []⟩ (ps.zip (us ++ ds))
/-- every parameter is given -/
theorem Binds.all {K : PySem.W.Frag} {fd : FuncData} {ps : List Str} (h : ∀ us : List Value, us.length = ps.length → bindArgs fd ⟨us, []⟩ = pure (ps.zip us)) : Binds K fd ps [] := fun s us _ hl => by
  rw [List.append_nil] at hl ⊢
  exact .of_eq (h us hl)

/-- an exception of a callee reaches what this body wants of exceptions -/
def Passes (CX : CXT) (X : Cx) (E : XK) : Prop := ∀ (pins : List (Addr × Obj)) (σ : St) (H : Hp) (s : Shared) (e : Value) (s' : Shared), Inv X pins σ H s → CX X.stack H s E e s' → X.xe e s'

section
variable {X : Cx} {CX : CXT} {k : Nat} {f C : Addr} {fd : FuncData} {ps : List Str} {sp : Sp} {dvs : List V} {ds : List Value} {E : XK} {x m : Str} {p pos apos : Pos} {e o : Expr} {es : List Expr} {ta : TE} {t : TA}

/-- the callee runs -/
theorem run_fn {pins : List (Addr × Obj)} {σ : St} {H : Hp} {s : Shared} {Q : VK} {us : List Value} {vs : List V} {cc : Bool} (F : FnOk X.prog X.w X.K X.mg X.base CX k f fd ps sp cc) (hr : Room k X.A cc) (hb : Binds X.K fd ps ds) (hd : Vals dvs ds) (hx : Passes CX X E)
    (I : Inv X pins σ H s) (r : Vals vs us) (h : sp (vs ++ dvs) H Q E) : wpAny (model X.prog X.w) X.A (call (.ref f) us) (EP X pins σ Q) X.xe s := by
  have r2 : Vals (vs ++ dvs) (us ++ ds) := r.append hd
  have hl : (us ++ ds).length = ps.length := by rw [← r2.length]; exact F.len _ _ _ _ h
  refine wpAny_call (codeAny_mono (F.run X.A X.stack s H ⟨us, []⟩ (us ++ ds) (vs ++ dvs) Q E hr I.env0 (hb s us I.kIn hl) r2 h) fun r s' hq => ?_)
  cases r with
  | error e => exact hx pins σ H s e s' I hq
  | ok fl =>
    cases fl with
    | ret u => exact I.after hq
    | next => exact False.elim hq
    | brk => exact False.elim hq
    | cont => exact False.elim hq

theorem pe_call {cc : Bool} (F : FnOk X.prog X.w X.K X.mg X.base CX k f fd ps sp cc) (hr : Room k X.A cc) (hg : Gl X x) (hm : X.mg x = some (.ref f)) (hk : PySem.W.keepIn X.K (.ref f) = true) (hb : Binds X.K fd ps ds) (hd : Vals dvs ds) (hx : Passes CX X E)
    (ha : PA X (e :: es) t) (hdb : (x == ("__debug__" : Str)) = false := by decide) (he : starEach (e :: es) X.env = (false, eval e X.env) :: starEach es X.env := by rfl) (hpl : (backTo pos (starEach es X.env)).any (·.1) = false := by rfl) :
    PE X (.Call (.Name x p) (e :: es) [] pos) (tCall sp dvs E t) := by
  intro pins s σ H Q I h
  refine wpAny_Call_Name_kw (ld_glob I hg hm ?_ hdb)
  refine PySem.W.callWith_K (h₀ := X.base) I.ok.mod.kin hk (thn (ha pos pins s σ H _ I h) fun us s1 ⟨vs, H1, I1, r, q⟩ => ⟨I1.kIn, ?_⟩) he hpl
  exact run_fn F hr hb hd hx I1 r q
end

/-! ### keywords -/
section
variable {X : Cx} {CX : CXT} {k : Nat} {f C : Addr} {fd : FuncData} {ps ks : List Str} {sp : Sp} {E : XK} {x m : Str} {p pos apos kpos : Pos} {e o : Expr} {es : List Expr} {kws : List Keyword} {te ta : TE} {t tk : TA} {nm : Option Str}
variable {g : List Value → List Value → List Value} {gV : List V → List V → List V}
end

/-! ### a def's body keeps its promise -/
/-- names: the parameters first -/
structure FnScope (N P : List Str) (sc : Scope) : Prop where
  kind : sc.kind = .function
  co : sc.isCoroutine = false
  gen : sc.isGenerator = false
  nd : N.Nodup
  pre : N.take P.length = P
  par : ∀ x ∈ P, sc.names.lookup x = some .local ∨ sc.names.lookup x = some .cell
  nofree : ∀ y ∈ sc.names, y.2 ≠ .free

theorem bindL_out {kindOf : Str → Option NameKind} {x : Str} : ∀ {binds : List (Str × Value)} {m : Str → Option Value}, (∀ v, (x, v) ∉ binds) → bindL kindOf binds m x = m x
  | [], _, _ => rfl
  | (n, v) :: r, m, h => by
    unfold bindL
    rw [bindL_out fun w hw => h w (List.mem_cons_of_mem _ hw)]
    split
    · have : x ≠ n := by rintro rfl; exact h v List.mem_cons_self
      simp [this]
    · rfl
theorem bindC_out {kindOf : Str → Option NameKind} {x : Str} : ∀ {binds : List (Str × Value)} {m : Str → Option Value}, (∀ v, (x, v) ∉ binds) → bindC kindOf binds m x = m x
  | [], _, _ => rfl
  | (n, v) :: r, m, h => by
    unfold bindC
    rw [bindC_out fun w hw => h w (List.mem_cons_of_mem _ hw)]
    split
    · rfl
    · have : x ≠ n := by rintro rfl; exact h v List.mem_cons_self
      simp [this]
theorem bindL_get {kindOf : Str → Option NameKind} {x : Str} {v : Value} : ∀ {P : List Str} {vs : List Value} {i : Nat} {m : Str → Option Value}, P.Nodup → P[i]? = some x → vs[i]? = some v → kindOf x = some .local →
    bindL kindOf (P.zip vs) m x = some v
  | [], _, _, _, _, h, _, _ => by simp at h
  | _ :: _, [], _, _, _, _, h, _ => by simp at h
  | p :: P, w :: vs, 0, m, nd, h1, h2, hk => by
    simp at h1 h2; subst h1; subst h2
    show bindL kindOf ((p, w) :: P.zip vs) m p = _
    unfold bindL
    rw [bindL_out fun v hv => (List.nodup_cons.mp nd).1 (List.of_mem_zip hv).1, if_pos hk]
    simp
  | p :: P, w :: vs, i + 1, m, nd, h1, h2, hk => by
    show bindL kindOf ((p, w) :: P.zip vs) m x = _
    unfold bindL
    exact bindL_get (i := i) (List.nodup_cons.mp nd).2 (by simpa using h1) (by simpa using h2) hk
theorem bindC_get {kindOf : Str → Option NameKind} {x : Str} {v : Value} : ∀ {P : List Str} {vs : List Value} {i : Nat} {m : Str → Option Value}, P.Nodup → P[i]? = some x → vs[i]? = some v → kindOf x ≠ some .local →
    bindC kindOf (P.zip vs) m x = some v
  | [], _, _, _, _, h, _, _ => by simp at h
  | _ :: _, [], _, _, _, _, h, _ => by simp at h
  | p :: P, w :: vs, 0, m, nd, h1, h2, hk => by
    simp at h1 h2; subst h1; subst h2
    show bindC kindOf ((p, w) :: P.zip vs) m p = _
    unfold bindC
    rw [bindC_out fun v hv => (List.nodup_cons.mp nd).1 (List.of_mem_zip hv).1, if_neg hk]
    simp
  | p :: P, w :: vs, i + 1, m, nd, h1, h2, hk => by
    show bindC kindOf ((p, w) :: P.zip vs) m x = _
    unfold bindC
    exact bindC_get (i := i) (List.nodup_cons.mp nd).2 (by simpa using h1) (by simpa using h2) hk

/-- the names' values at the entry -/
def start (N : List Str) (vs : List V) : St := vs.map some ++ List.replicate (N.length - vs.length) none

/-- the context of a def's body, at its entry; an exception leaves the frame, then lies as CX says -/
def cxOf (CX : CXT) (P : Program) (w : World) (K : PySem.W.Frag) (mg : Str → Option Value) (base : Heap) (N : List Str) (qual : Str) (scope : Scope) (f : Addr) (cd : Value) (A : Around) (outer : List Env) (s : Shared) (H : Hp) (E : XK) (c : Bool := true) : Cx where
  prog := P
  w := w
  K := K
  mg := mg
  base := base
  A := A.deeper (envOfC qual scope s.heap.objs.size f cd)
  N := N
  s₀ := s
  H₀ := H
  env := envOfC qual scope s.heap.objs.size f cd
  outer := outer
  stack := envOfC qual scope s.heap.objs.size f cd :: outer
  ex := []
  calm := c
  fn := fun _ => true
  pn := []
  xe := fun e s' => wpAny (model P w) (A.deeper (envOfC qual scope s.heap.objs.size f cd)) (leaving (envOfC qual scope s.heap.objs.size f cd) e) (fun _ s'' => CX outer H s E e s'') (fun e' s'' => CX outer H s E e' s'') s'

theorem cell_has {sc : Scope} {n : Nat} {x : Str} (h : sc.names.lookup x = some .cell) : ∃ c, (cellsFrom n sc.names []).lookup x = some c := by
  have q := PySem.W.cellsFrom_some sc.names n [] (.inl h)
  exact Option.isSome_iff_exists.mp q

theorem inv_start {CX : CXT} {P : Program} {w : World} {K : PySem.W.Frag} {mg : Str → Option Value} {base : Heap} {N ps : List Str} {qual : Str} {scope : Scope} {f : Addr} {cd : Value} {A : Around} {outer : List Env} {s s1 : Shared} {H : Hp} {E : XK} {us : List Value} {vs : List V} {c : Bool}
    (S : FnScope N ps scope) (hd : c = true → A.handled = none) (e0 : Env0 P w K mg base A outer s H) (hl : vs.length = ps.length) (r : Vals vs us)
    (x : InCallC s s.heap.objs.size (bindL (envOfC qual scope s.heap.objs.size f cd).kindOf (ps.zip us) fun _ => none) (cellsFrom (s.heap.objs.size + 1) scope.names []) (bindC (envOfC qual scope s.heap.objs.size f cd).kindOf (ps.zip us) fun _ => none) s1) :
    Inv (cxOf CX P w K mg base N qual scope f cd A outer s H E c) [] (start N vs) H s1 := by
  have hpl : ps.length ≤ N.length := by have := congrArg List.length S.pre; rw [List.length_take] at this; omega
  obtain ⟨h1, tk, rfl, hk⟩ := x.done
  have noA : ∀ b : Addr, b ∉ (cxOf CX P w K mg base N qual scope f cd A outer s H E c).ex := fun b z => absurd (show b ∈ ([] : List Addr) from z) (by simp)
  refine ⟨⟨e0.mod, S.kind, rfl, rfl, Nat.le_refl _, fun y z c' h1 h2 => ?_, fun y hy => ?_, fun y c _ h => ?_, hd, Around.frames_deeper e0.frames, .inr ⟨rfl, rfl⟩, fun b z => absurd z (noA b), e0.bs, e0.bsz, fun b _ _ => noA b, fun b z => absurd z (noA b), e0.funs, e0.frf⟩,
    rfl, e0.bare, Un.kept hk, ⟨_, x.toInCall.ns, fun i y v h1 h2 h3 => ?_⟩, fun y c h => ⟨_, x.cell y c h⟩, e0.hok.fresh (Nat.le_refl _), fun y c h => ?_, fun p hp => absurd (show p ∈ ([] : List (Addr × Obj)) from hp) (by simp), e0.hok.kept hk, ?_⟩
  · exact name_of_addr x.apart (PySem.mem_of_lookup h1) (PySem.mem_of_lookup h2)
  · have hy : scope.names.lookup y = some .cell ∨ scope.names.lookup y = some .free := hy
    rcases hy with hy | hy
    · exact cell_has hy
    · exact absurd rfl (S.nofree _ (PySem.mem_of_lookup hy))
  · exact Nat.le_of_lt (x.above y c (PySem.mem_of_lookup h))
  · have hi : i < vs.length := by
      unfold start at h2
      by_cases hi : i < vs.length
      · exact hi
      · rw [List.getElem?_append_right (by simpa using hi)] at h2
        rw [List.getElem?_replicate] at h2
        split at h2 <;> cases h2
    have ha : vs[i]? = some v := by
      unfold start at h2
      rw [List.getElem?_append_left (by simpa using hi), List.getElem?_map] at h2
      cases e : vs[i]? with
      | none => rw [e] at h2; cases h2
      | some a => rw [e] at h2; cases h2; rfl
    obtain ⟨u, hu, rv⟩ := r.get ha
    have hp : ps[i]? = some y := by
      rw [← S.pre, List.getElem?_take_of_lt (by omega)]; exact h1
    have ndP : ps.Nodup := by rw [← S.pre]; exact S.nd.sublist (List.take_sublist _ _)
    refine ⟨u, rv, ?_⟩
    rcases S.par y (List.mem_of_getElem? hp) with k | k
    · exact .inl ⟨k, bindL_get ndP hp hu k⟩
    · obtain ⟨c, e⟩ := cell_has (n := s.heap.objs.size + 1) k
      refine .inr ⟨.inl k, c, e, ?_⟩
      have q := x.cell y c e
      rw [bindC_get ndP hp hu (by show scope.names.lookup y ≠ _; rw [k]; decide)] at q
      exact q
  · exact e0.hok.fresh (Nat.le_of_lt (x.above y c (PySem.mem_of_lookup h)))
  · unfold start
    show _ = N.length
    rw [List.length_append, List.length_map, List.length_replicate]
    omega

/-- THE RULE: a def (or a method) of the text, by its body. The body's reading t is chosen for each entry; it is run at the parameters' values -/
theorem fn_of {CX : CXT} {P : Program} {w : World} {K : PySem.W.Frag} {mg : Str → Option Value} {base : Heap} {k : Nat} {f : Addr} {name qual : Str} {params : Arguments} {body : List Stmt} {scope : Scope} {dV kV doc pm cdv ct oc : Value} {an od : Option Addr}
    {osl : Array (Option Value)} {N ps : List Str} {sp : Sp} {c : Bool} (lk : K.lookup f = some ⟨oc, od, .func (PySem.W.fnOf name qual params body scope dV kV doc pm an cdv ct), osl⟩) (hcd : PySem.W.codeIn K cdv qual = true) (S : FnScope N ps scope)
    (len : ∀ vs H Q E, sp vs H Q E → vs.length = ps.length)
    (hbody : ∀ (A : Around) (outer : List Env) (s : Shared) (H : Hp) (vs : List V) (Q : VK) (E : XK), Room k (A.deeper (envOfC qual scope s.heap.objs.size f cdv)) c → sp vs H Q E →
      ∃ t, PSs (cxOf CX P w K mg base N qual scope f cdv A outer s H E c) body t ∧ t { nx := fun _ H' => Q .non H', rt := Q } (start N vs) H) :
    FnOk P w K mg base CX (k + 1) f (PySem.W.fnOf name qual params body scope dV kV doc pm an cdv ct) ps sp c := by
  refine ⟨len, fun A outer s H args us vs Q E hr e0 hb r hsp => ?_⟩
  have hl := len _ _ _ _ hsp
  have KX : K.In s.heap := e0.mod.kin.keeps fun b o e => (e0.bs b o e).1
  have lim : s.heap.NoLimit := e0.mod.nolimit.keeps fun b o e => (e0.bs b o e).1
  have hkind : ∀ y ∈ ps.zip us, scope.names.lookup y.1 = some .local ∨ (scope.names.lookup y.1 = some .cell ∧ ((cellsFrom (s.heap.objs.size + 1) scope.names []).lookup y.1).isSome = true) := fun ⟨n, v⟩ hy => by
    rcases S.par n (List.of_mem_zip hy).1 with q | q
    · exact .inl q
    · exact .inr ⟨q, PySem.W.cellsFrom_some _ _ _ (.inl q)⟩
  refine codeAny_call_function hr.depth (KX _ _ lk) rfl S.co S.gen rfl (PySem.W.codeRec_of KX hcd) (hb _ _ _ _ ?_)
  refine wpAny_newFunctionEnv_cells S.kind hkind fun env he s1 x => ?_
  subst he
  refine ⟨lim.keeps x.toInCall.keep, codeAny_func ?_⟩
  obtain ⟨t, ht, hq⟩ := hbody A outer s H vs Q E (hr.deeper _) hsp
  have I : Inv (cxOf CX P w K mg base N qual scope f cdv A outer s H E c) [] (start N vs) H s1 := inv_start S hr.hc e0 hl r x
  refine wpAny_mono (ht [] s1 (start N vs) H _ I hq) (fun fl s' hs => ?_) fun e s' hs => hs
  have fin : ∀ {σ' : St} {H' : Hp} {v : V} {u : Value}, Inv (cxOf CX P w K mg base N qual scope f cdv A outer s H E c) [] σ' H' s' → RelV v u → Q v H' → CE outer P w H s Q u s' :=
    fun {σ' H' v u} J rv q => ⟨v, H', J.os, J.bare, J.base, J.hok, rv, q⟩
  cases fl with
  | ret u =>
    obtain ⟨v, σ', H', J, rv, q⟩ := hs
    exact fin J rv q
  | next =>
    obtain ⟨σ', H', J, q⟩ := hs
    exact fin (v := V.non) (u := Value.none) J rfl q
  | brk =>
    obtain ⟨_, _, _, q⟩ := hs
    exact False.elim q
  | cont =>
    obtain ⟨_, _, _, q⟩ := hs
    exact False.elim q
end L2

namespace L2
open PySem PySem.Spec PyProof.Rows
section
variable {X : Cx} {x : Str} {p pos : Pos} {e : Expr} {es : List Expr} {t : TA} {id T : String} {r : List V → Hp → VK → Prop}

def tCB (r : List V → Hp → VK → Prop) (t : TA) : TE := fun σ H Q => t σ H fun vs H1 => r vs H1 Q
/-- f(e, ..), f a built-in function -/
theorem pe_callB (hc : CallR X (.builtin id) r) (hg : Gl X x) (hm : X.mg x = none) (hv : bootBuiltins x = some (.builtin id)) (ha : PA X (e :: es) t) (hn : x ≠ "__name__" := by decide) (hdb : (x == ("__debug__" : Str)) = false := by decide)
    (he : starEach (e :: es) X.env = (false, eval e X.env) :: starEach es X.env := by rfl) (hpl : (backTo pos (starEach es X.env)).any (·.1) = false := by rfl) : PE X (.Call (.Name x p) (e :: es) [] pos) (tCB r t) := by
  intro pins s σ H Q I h
  refine wpAny_Call_Name_kw (ld_blt I hg hm hv ?_ hn hdb)
  exact PyProof.Rows.callWith_builtin1 (thn (ha pos pins s σ H _ I h) fun us s1 ⟨vs, H1, I1, r1, q1⟩ => hc pins s1 σ H1 vs us Q I1 r1 q1) he hpl
/-- T(e, ..), T a built-in type -/
theorem pe_callTy (hc : CallR X (.type T) r) (hg : Gl X x) (hm : X.mg x = none) (hv : bootBuiltins x = some (.type T)) (ha : PA X (e :: es) t) (hn : x ≠ "__name__" := by decide) (hdb : (x == ("__debug__" : Str)) = false := by decide)
    (he : starEach (e :: es) X.env = (false, eval e X.env) :: starEach es X.env := by rfl) (hpl : (backTo pos (starEach es X.env)).any (·.1) = false := by rfl) : PE X (.Call (.Name x p) (e :: es) [] pos) (tCB r t) := by
  intro pins s σ H Q I h
  refine wpAny_Call_Name_kw (ld_blt I hg hm hv ?_ hn hdb)
  exact PyProof.Rows.callWith_type1 (thn (ha pos pins s σ H _ I h) fun us s1 ⟨vs, H1, I1, r1, q1⟩ => hc pins s1 σ H1 vs us Q I1 r1 q1) he hpl
end
end L2

namespace HT
open PySem PyProof.Rows

section
open PySem.SeqAt
open PySem.AutoSeq1 (wpAny_loadPart')
open PySem.MeetsSeq PySem.MeetsSeq2 PySem.MeetsSeq3

end

section
variable {prog : Program} {w : World} {A : Around} {E : Value → Shared → Prop} {s : Shared}

/-! ### t[a:b], not the whole -/
/-- a slice's bound as a place among n (d where it is left out) -/
def sIx (n d : Nat) : Option Int → Nat
  | none => d
  | some v => if v < 0 then (v + (n : Int)).toNat else min v.toNat n
theorem sIx_none (n d : Nat) : sIx n d none = d := rfl
theorem sIx_nat (n d k : Nat) : sIx n d (some (k : Int)) = min k n := by
  show (if (k : Int) < 0 then ((k : Int) + (n : Int)).toNat else min (k : Int).toNat n) = min k n
  rw [if_neg (by omega), Int.toNat_natCast]
end
end HT

namespace L2
open PySem PySem.Spec PyProof.Rows

/-! ### the parts of a slice -/
abbrev TO := St → Hp → (Option Int → Hp → Prop) → Prop
/-- a slice's part (left out, or an int) -/
def PO (X : Cx) (e : Option Expr) (t : TO) : Prop :=
  ∀ (pins : List (Addr × Obj)) (s : Shared) (σ : St) (H : Hp) (Q : Option Int → Hp → Prop), Inv X pins σ H s → t σ H Q →
    wpAny (model X.prog X.w) X.A (evalPart e X.env) (fun u s' => ∃ o H', Inv X pins σ H' s' ∧ IsPart u o ∧ Q o H') X.xe s
def tNoPart : TO := fun _ H Q => Q none H
def tPart (t : TE) : TO := fun σ H Q => t σ H fun x H1 => ∃ i, x = .int i ∧ Q (some i) H1

section
variable {X : Cx} {e : Expr} {te : TE} {lo hi : Option Expr} {tl th : TO} {pos p2 : Pos}

theorem po_none : PO X none tNoPart := by
  intro pins s σ H Q I h
  rw [evalPart_none]
  exact wpAny_pure ⟨none, H, I, .none, h⟩
theorem po_some (h : PE X e te) : PO X (some e) (tPart te) := by
  intro pins s σ H Q I hw
  rw [evalPart_some]
  refine thn (h pins s σ H _ I hw) fun u s1 ⟨x, H1, I1, r1, q1⟩ => ?_
  obtain ⟨i, rfl, q⟩ := q1
  obtain ⟨t, rfl⟩ := r1
  exact ⟨some i, H1, I1, .int i t, q⟩

/-- what a slice of a value is, by values: the slice object stands at sl -/
def SlR (X : Cx) (r : V → Option Int → Option Int → Hp → VK → Prop) : Prop :=
  ∀ (pins : List (Addr × Obj)) (s : Shared) (σ : St) (H : Hp) (x : V) (v vl vu : Value) (lo hi : Option Int) (sl : Addr) (Q : VK), Inv X pins σ H s → RelV x v → s.heap.IsSliceOf sl vl vu .none → IsPart vl lo → IsPart vu hi → r x lo hi H Q →
    ∃ T id, typeLookup (.type T) "__getitem__" = pure (some (.builtin id)) ∧ s.TypeIs v T ∧ wpAny (model X.prog X.w) X.A (getItem v (.ref sl)) (EP X pins σ Q) X.xe s
def tSl (r : V → Option Int → Option Int → Hp → VK → Prop) (te : TE) (tl th : TO) : TE := fun σ H Q => te σ H fun x H1 => tl σ H1 fun l H2 => th σ H2 fun u H3 => r x l u H3 Q
/-- a[lo:hi], any a -/
theorem pe_slice {r : V → Option Int → Option Int → Hp → VK → Prop} (hr : SlR X r) (he : PE X e te) (hl : PO X lo tl) (hu : PO X hi th) : PE X (.Subscript e (.Slice lo hi none p2) pos) (tSl r te tl th) := by
  intro pins s σ H Q I h
  refine Subscript_ (thn (he pins s σ H _ I h) fun v s1 ⟨x, H1, I1, r1, q1⟩ => ?_)
  refine wpAny_Slice (thn (hl pins s1 σ H1 _ I1 q1) fun vl s2 ⟨l, H2, I2, pl, q2⟩ => thn (hu pins s2 σ H2 _ I2 q2) fun vu s3 ⟨u, H3, I3, pu, q3⟩ => ?_)
  rw [evalPart_none]
  refine wpAny_pure ?_
  have I4 : Inv X pins σ H3 { s3 with heap := s3.heap.push { cls := .type "slice", data := .fields #[vl, vu, .none] } } := I3.kept (t' := s3.toks) fun b ob q => Heap.get?_push_of_some _ q
  obtain ⟨T, id, hT, ht, hg⟩ := hr pins { s3 with heap := s3.heap.push { cls := .type "slice", data := .fields #[vl, vu, .none] } } σ H3 x v vl vu l u s3.heap.objs.size Q I4 r1 (Heap.IsSliceOf.new ..) pl pu q3
  show wpAny (model X.prog X.w) X.A (subscriptTail e (.Slice lo hi none p2) v (.ref s3.heap.objs.size)) (EP X pins σ Q) X.xe { s3 with heap := s3.heap.push { cls := .type "slice", data := .fields #[vl, vu, .none] } }
  exact tail_any (ops := [.ref s3.heap.objs.size, v]) ht hT hg (by with_unfolding_all rfl)

/-- the items of xs[lo:hi] -/
def cutV (xs : List V) (lo hi : Option Int) : List V := (xs.drop (HT.sIx xs.length 0 lo)).take (HT.sIx xs.length xs.length hi - HT.sIx xs.length 0 lo)
theorem cutV_length (xs : List V) (lo hi : Option Int) : (cutV xs lo hi).length ≤ xs.length := by
  unfold cutV
  rw [List.length_take, List.length_drop]
  omega
/-! ### t < u, t + u -/
end
end L2

namespace L2
open PySem PySem.Spec PyProof.Rows

/-! ### places -/
/-- the place that an index of any sign means -/
def ixN (n : Nat) (i : Int) : Option Nat := if 0 ≤ i then (if i < n then some i.toNat else none) else if -(n : Int) ≤ i then some (i + n).toNat else none
def atI {α : Type} (xs : List α) (i : Int) : Option α := (ixN xs.length i).bind fun j => xs[j]?
theorem ixN_seq {n : Nat} {i : Int} {j : Nat} (h : ixN n i = some j) : seqIndex? i n = some j ∧ j < n ∧ -(n : Int) ≤ i ∧ i < n := by
  unfold ixN at h
  by_cases h0 : 0 ≤ i
  · rw [if_pos h0] at h
    by_cases h1 : i < n
    · rw [if_pos h1] at h
      have e : i.toNat = j := Option.some.inj h
      exact ⟨by rw [seqIndex_of h0 h1, e], by omega, by omega, h1⟩
    · rw [if_neg h1] at h; cases h
  · rw [if_neg h0] at h
    by_cases h1 : -(n : Int) ≤ i
    · rw [if_pos h1] at h
      have e : (i + n).toNat = j := Option.some.inj h
      exact ⟨by rw [seqIndex_neg (by omega) h1, e], by omega, h1, by omega⟩
    · rw [if_neg h1] at h; cases h
theorem atI_get {α : Type} {xs : List α} {i : Int} {v : α} (h : atI xs i = some v) : ∃ j, seqIndex? i xs.length = some j ∧ xs[j]? = some v ∧ j < xs.length ∧ -(xs.length : Int) ≤ i ∧ i < xs.length := by
  unfold atI at h
  cases e : ixN xs.length i with
  | none => rw [e] at h; cases h
  | some j =>
    rw [e] at h
    obtain ⟨h1, h2, h3, h4⟩ := ixN_seq e
    exact ⟨j, h1, h, h2, h3, h4⟩
theorem atI_nat {α : Type} {xs : List α} {j : Nat} {v : α} (h : xs[j]? = some v) : atI xs (j : Int) = some v := by
  have hj : j < xs.length := (List.getElem?_eq_some_iff.mp h).1
  have e : ixN xs.length (j : Int) = some j := by
    unfold ixN
    rw [if_pos (by omega), if_pos (by omega)]; simp
  unfold atI; rw [e]; exact h
theorem atI_last {α : Type} (xs : List α) (v : α) : atI (xs ++ [v]) (-1) = some v := by
  have hl : (xs ++ [v]).length = xs.length + 1 := by simp
  have e : ixN (xs ++ [v]).length (-1) = some xs.length := by
    unfold ixN
    rw [hl, if_neg (by decide), if_pos (by omega)]
    congr 1
    omega
  unfold atI
  rw [e]
  show (xs ++ [v])[xs.length]? = some v
  simp

/-! ### what may be subscripted -/
/-- what stands as an index of a plain subscript -/
def PlainIx (b : Expr) : Prop := ∀ o i, subscripted b false o i = operate [o, i] (getItem o i)
/-- a subscript by values -/
def IxR (X : Cx) (r : R2) : Prop :=
  ∀ (value slice : Expr) (pins : List (Addr × Obj)) (s : Shared) (σ : St) (H : Hp) (x y : V) (v u : Value) (Q : VK), Inv X pins σ H s → RelV x v → RelV y u → r x y H Q →
    subscripted slice false v u = operate [v, u] (getItem v u) → wpAny (model X.prog X.w) X.A (subscriptTail value slice v u) (EP X pins σ Q) X.xe s
/-- a call of a builtin's method by values: the receiver, the arguments -/
def MtR (X : Cx) (id : String) (r : V → List V → Hp → VK → Prop) : Prop :=
  ∀ (pins : List (Addr × Obj)) (s : Shared) (σ : St) (H : Hp) (x : V) (xs : List V) (v : Value) (us : List Value) (Q : VK), Inv X pins σ H s → RelV x v → Vals xs us → r x xs H Q →
    wpAny (model X.prog X.w) X.A (call (.builtin id) (v :: us)) (EP X pins σ Q) X.xe s
section
variable {X : Cx} {a b : Expr} {ta tb : TE} {pos : Pos}
theorem IxR.or {r r' : R2} (h : IxR X r) (h' : IxR X r') : IxR X (fun x y H Q => r x y H Q ∨ r' x y H Q) := by
  intro value slice pins s σ H x y v u Q I rx ry q hs
  rcases q with q | q
  · exact h value slice pins s σ H x y v u Q I rx ry q hs
  · exact h' value slice pins s σ H x y v u Q I rx ry q hs
/-- a[b] -/
theorem pe_ix {r : R2} (hr : IxR X r) (ha : PE X a ta) (hb : PE X b tb) (hs : PlainIx b) : PE X (.Subscript a b pos) (tOp r ta tb) := by
  intro pins s σ H Q I h
  exact Subscript_ (binT ha hb I h fun v u s2 x y H2 I2 rx ry q => hr a b pins s2 σ H2 x y v u Q I2 rx ry q (hs _ _))

def rIxL (K : PySem.W.Frag) : R2 := fun x y H Q => ∃ p xs i v, x = .ref p ∧ y = .int i ∧ SqL K H p xs ∧ atI xs i = some v ∧ Q v H
def rIxT (K : PySem.W.Frag) : R2 := fun x y H Q => ∃ p xs i v, x = .ref p ∧ y = .int i ∧ SqT K H p xs ∧ atI xs i = some v ∧ Q v H
def rIxS : R2 := fun x y H Q => ∃ z i c, x = .str z ∧ y = .int i ∧ z.length ≤ sizeLine ∧ atI z.cps.toList i = some c ∧ Q (.str ⟨#[c]⟩) H
theorem ix_list : IxR X (rIxL X.K) := by
  intro value slice pins s σ H x y v u Q I rx ry h hs
  obtain ⟨p, xs, i, z, rfl, rfl, hq, he, q⟩ := h
  cases rx
  obtain ⟨t, rfl⟩ := ry
  obtain ⟨its, r, pl, hz⟩ := I.list hq
  obtain ⟨j, h1, h2, h3, h4, h5⟩ := atI_get he
  obtain ⟨w, ew, rw'⟩ := r.get h2
  have hl := r.length
  have hn := line63
  have fin : EP X pins σ Q w s := ⟨z, H, I, rw', q⟩
  by_cases h0 : 0 ≤ i
  · have hj : i.toNat = j := by
      rw [seqIndex_of h0 h5] at h1
      exact Option.some.inj h1
    exact item_listR pl.isList h0 (by omega) (by rw [hj]; simpa using ew) fin hs
  · have hj : (i + (its.toArray.size : Int)).toNat = j := by
      rw [seqIndex_neg (by omega) h4] at h1
      rw [List.size_toArray, ← hl]
      exact Option.some.inj h1
    exact subscriptTail_builtinR (x := w) pl.isList.typeIs slot_list_getitem.lookup
      (wpAny_getItem_list_neg (Q := fun r s' => r = w ∧ EP X pins σ Q r s') pl.isList (by omega) (by rw [List.size_toArray] <;> omega) (by omega) (by rw [hj]; simpa using ew) ⟨rfl, fin⟩) hs
theorem ix_tup : IxR X (rIxT X.K) := by
  intro value slice pins s σ H x y v u Q I rx ry h hs
  obtain ⟨p, xs, i, z, rfl, rfl, hq, he, q⟩ := h
  cases rx
  obtain ⟨t, rfl⟩ := ry
  obtain ⟨its, r, pl, hz⟩ := I.tuple hq
  obtain ⟨j, h1, h2, h3, h4, h5⟩ := atI_get he
  obtain ⟨w, ew, rw'⟩ := r.get h2
  have hl := r.length
  have hn := line63
  have fin : EP X pins σ Q w s := ⟨z, H, I, rw', q⟩
  exact subscriptTail_builtinR (x := w) pl.typeIs slot_tuple_getitem.lookup
    (getItem_tuple (j := j) (Q := fun r s' => r = w ∧ EP X pins σ Q r s') pl (by omega) (by omega) (by rw [List.size_toArray, ← hl]; exact h1) (by simpa using ew) ⟨rfl, fin⟩) hs
theorem ix_str : IxR X rIxS := by
  intro value slice pins s σ H x y v u Q I rx ry h hs
  obtain ⟨z, i, c, rfl, rfl, hz, he, q⟩ := h
  obtain ⟨t, rfl⟩ := rx
  obtain ⟨t', rfl⟩ := ry
  obtain ⟨j, h1, h2, h3, h4, h5⟩ := atI_get he
  have hl : z.cps.toList.length = z.length := by simp [Str.length]
  rw [hl] at h1 h4 h5
  have hn := line63
  exact tail_any (typeIs_str s z t) slot_str_getitem.lookup (getItem_str (c := c) (by
    have e1 : decide (i < -(2 ^ 63 : Int)) = false := decide_eq_false (by omega)
    have e2 : decide (i ≥ 2 ^ 63) = false := decide_eq_false (by omega)
    rw [e1, e2, Bool.or_false]) (by rw [h1]; simpa using h2) ⟨.str ⟨#[c]⟩, H, I.tok _, ⟨_, rfl⟩, q⟩) hs
/-- list, tuple or str -/
def rIx (K : PySem.W.Frag) : R2 := fun x y H Q => rIxL K x y H Q ∨ rIxT K x y H Q ∨ rIxS x y H Q
theorem ix_seq : IxR X (rIx X.K) := ix_list.or (ix_tup.or ix_str)

/-! ### xs[i] = v, any sign -/
/-- the list's object behind a store -/
theorem mapSeq_set (its : List Value) (n j : Nat) (u : Value) : Obj.mapSeq (·.setIfInBounds j u) { cls := .type "list", data := .seq its.toArray n } = { cls := .type "list", data := .seq (its.set j u).toArray n } := by
  simp [Obj.mapSeq]
theorem Inv.lst {pins : List (Addr × Obj)} {σ : St} {H : Hp} {s : Shared} {p : Addr} {xs : List V} (I : Inv X pins σ H s) (h : H p = some (.lst xs)) :
    ∃ (its : List Value) (n : Nat), Vals xs its ∧ s.heap.get? p = some { cls := .type "list", data := .seq its.toArray n } ∧ xs.length ≤ sizeLine := by
  obtain ⟨z, its, n, r, e⟩ := I.hok p _ h
  exact ⟨its, n, r, e, z⟩
/-- the list at p is written by an update of its object -/
theorem Inv.lstUpd {pins : List (Addr × Obj)} {σ : St} {H : Hp} {s : Shared} {p : Addr} {xs ys : List V} {its its' : List Value} {n n' : Nat} {f : Obj → Obj} (I : Inv X pins σ H s) (h : H p = some (.lst xs))
    (ho : s.heap.get? p = some { cls := .type "list", data := .seq its.toArray n }) (hf : f { cls := .type "list", data := .seq its.toArray n } = { cls := .type "list", data := .seq its'.toArray n' }) (r : Vals ys its') (hz : ys.length ≤ sizeLine) (t : Nat) :
    Inv X pins σ (upd H p (.lst ys)) { s with heap := s.heap.update p f, toks := t } := by
  have e : (s.heap.update p f).get? p = some { cls := .type "list", data := .seq its'.toArray n' } := by
    rw [Heap.get?_update_self f ho (by rw [hf] <;> rfl), hf]
  refine I.write (x := p) (e := p) (by rw [h]; trivial) (.inl rfl) (fun b u hb q => (Heap.get?_update_other _ _ (Ne.symm hb)).trans q) ⟨_, e⟩ ?_
  exact ⟨hz, its', n', r, e⟩
def rSetL : V → V → V → Hp → (Hp → Prop) → Prop := fun o i v H Q => ∃ p xs k j, o = .ref p ∧ i = .int k ∧ H p = some (.lst xs) ∧ ixN xs.length k = some j ∧ Q (upd H p (.lst (xs.set j v)))
theorem set_list : PSet X rSetL := by
  intro pins s σ H o i v ov iv u Q I ro ri rv h
  obtain ⟨p, xs, k, j, rfl, rfl, hp, hj, q⟩ := h
  cases ro
  obtain ⟨t, rfl⟩ := ri
  obtain ⟨its, n, r, ho, hz⟩ := I.lst hp
  obtain ⟨h1, h2, h3, h4⟩ := ixN_seq hj
  have hl := r.length
  have hn := line63
  have I' : Inv X pins σ (upd H p (.lst (xs.set j v))) { s with heap := s.heap.update p (Obj.mapSeq (·.setIfInBounds j u)) } :=
    I.lstUpd hp ho (mapSeq_set its n j u) (r.set rv j) (by rw [List.length_set]; exact hz) s.toks
  by_cases h0 : 0 ≤ k
  · have hk : k.toNat = j := by
      rw [seqIndex_of h0 h4] at h1
      exact Option.some.inj h1
    exact PySem.W.ki_setAt ho h0 (by omega) (by rw [List.size_toArray, ← hl]; exact h4) (by rw [hk]; exact ⟨_, I', q⟩)
  · have hk : (k + (its.toArray.size : Int)).toNat = j := by
      rw [seqIndex_neg (by omega) h3] at h1
      rw [List.size_toArray, ← hl]
      exact Option.some.inj h1
    exact PySem.W.ki_setBack ho (by omega) (by rw [List.size_toArray, ← hl]; exact h3) (by omega) (by rw [hk]; exact ⟨_, I', q⟩)

/-! ### slices -/
theorem slice_bounds (lo hi : Option Int) (n : Nat) : (sliceBounds lo hi none n).1 = ((HT.sIx n 0 lo : Nat) : Int) ∧ (sliceBounds lo hi none n).2.1 = ((HT.sIx n n hi : Nat) : Int) ∧ (sliceBounds lo hi none n).2.2 = 1 := by
  refine ⟨?_, ?_, rfl⟩
  · cases lo with
    | none => simp [sliceBounds, HT.sIx]
    | some i =>
      simp only [sliceBounds, HT.sIx, Option.getD_none, show (1 : Int) > 0 by decide, if_true]
      by_cases h : i < 0
      · simp only [h, if_true] <;> omega
      · simp only [h, if_false] <;> omega
  · cases hi with
    | none => simp [sliceBounds, HT.sIx]
    | some i =>
      simp only [sliceBounds, HT.sIx, Option.getD_none, show (1 : Int) > 0 by decide, if_true]
      by_cases h : i < 0
      · simp only [h, if_true] <;> omega
      · simp only [h, if_false] <;> omega
theorem slicePick_cut (its : List Value) (lo hi : Option Int) : slicePick its.toArray lo hi none = ((its.drop (HT.sIx its.length 0 lo)).take (HT.sIx its.length its.length hi - HT.sIx its.length 0 lo)).toArray := by
  obtain ⟨h1, h2, h3⟩ := slice_bounds lo hi its.toArray.size
  unfold slicePick
  rw [h1, h2, h3]
  simp only [sliceRange_one, pick_run, List.size_toArray] <;> rfl
/-- xs[lo:hi] of a list: a new list -/
def rSlL (K : PySem.W.Frag) : V → Option Int → Option Int → Hp → VK → Prop := fun x lo hi H Q => ∃ a xs, x = .ref a ∧ SqL K H a xs ∧ ∀ p, H p = none → Q (.ref p) (upd H p (.lst (cutV xs lo hi)))
theorem sl_list : SlR X (rSlL X.K) := by
  intro pins s σ H x v vl vu lo hi sl Q I rx hs pl pu h
  obtain ⟨a, xs, rfl, hx, q⟩ := h
  cases rx
  obtain ⟨its, r, ht, hz⟩ := I.list hx
  have hlen := r.length
  refine ⟨"list", _, slot_list_getitem.lookup, ht.isList.typeIs, ?_⟩
  refine wpAny_getItem_list_slice ht.isList hs pl pu .none (by simp) ?_ (by rw [List.size_toArray] <;> omega)
  rw [slicePick_cut, ← hlen]
  refine ⟨.ref s.heap.objs.size, _, I.laid (t' := s.toks) (o := .lst (cutV xs lo hi)) (fun b ob q => Heap.get?_push_of_some _ q) (Nat.le_refl _) ?_, rfl, q _ (I.hok.fresh (Nat.le_refl _))⟩
  exact ⟨Nat.le_trans (cutV_length xs lo hi) hz, _, 0, (r.drop (HT.sIx xs.length 0 lo)).take (HT.sIx xs.length xs.length hi - HT.sIx xs.length 0 lo), Heap.get?_push_size _ rfl⟩

/-! ### in, not in: flat items -/
def flatV : V → Bool
  | .non => true
  | .bl _ => true
  | .int _ => true
  | .str _ => true
  | _ => false
/-- == of flat values -/
def eqV : V → V → Bool
  | .non, .non => true
  | .bl a, .bl b => a == b
  | .bl a, .int b => (if a then 1 else 0) == b
  | .int a, .bl b => a == (if b then 1 else 0)
  | .int a, .int b => a == b
  | .str a, .str b => a == b
  | _, _ => false
theorem eqAt_V {A : Around} {s : Shared} {y x : V} {u v : Value} (ry : RelV y u) (rx : RelV x v) (fy : flatV y = true) (fx : flatV x = true) : SeqAt.EqAt A s u v (eqV y x) := by
  cases y with
  | non =>
    cases ry
    cases x with
    | non => cases rx; exact SeqAt.EqAt.same _
    | bl b => cases rx; exact SeqAt.EqAt.none_bool b
    | int b => obtain ⟨t, rfl⟩ := rx; exact SeqAt.EqAt.none_int b t
    | str b => obtain ⟨t, rfl⟩ := rx; exact SeqAt.EqAt.none_str b t
    | _ => exact absurd (show false = true from fx) Bool.false_ne_true
  | bl a =>
    cases ry
    cases x with
    | non => cases rx; exact SeqAt.EqAt.bool_none a
    | bl b => cases rx; exact SeqAt.EqAt.bool_bool a b
    | int b => obtain ⟨t, rfl⟩ := rx; exact SeqAt.EqAt.bool_int a b t
    | str b => obtain ⟨t, rfl⟩ := rx; exact SeqAt.EqAt.bool_str a b t
    | _ => exact absurd (show false = true from fx) Bool.false_ne_true
  | int a =>
    obtain ⟨t', rfl⟩ := ry
    cases x with
    | non => cases rx; exact SeqAt.EqAt.int_none a t'
    | bl b => cases rx; exact SeqAt.EqAt.int_bool a t' b
    | int b => obtain ⟨t, rfl⟩ := rx; exact SeqAt.EqAt.int_int a t' b t
    | str b => obtain ⟨t, rfl⟩ := rx; exact SeqAt.EqAt.int_str a t' b t
    | _ => exact absurd (show false = true from fx) Bool.false_ne_true
  | str a =>
    obtain ⟨t', rfl⟩ := ry
    cases x with
    | non => cases rx; exact SeqAt.EqAt.str_none a t'
    | bl b => cases rx; exact SeqAt.EqAt.str_bool a t' b
    | int b => obtain ⟨t, rfl⟩ := rx; exact SeqAt.EqAt.str_int a t' b t
    | str b => obtain ⟨t, rfl⟩ := rx; exact SeqAt.EqAt.str_str a t' b t
    | _ => exact absurd (show false = true from fx) Bool.false_ne_true
  | _ => exact absurd (show false = true from fy) Bool.false_ne_true
/-! ### len, list(x), tuple(x) of any list or tuple that is read -/
theorem call_len_seq : CallR X (.builtin "len") (fun xs H Q => ∃ p ys, xs = [.ref p] ∧ (SqL X.K H p ys ∨ SqT X.K H p ys) ∧ Q (.int ys.length) H) := by
  intro pins s σ H xs us Q I r h
  obtain ⟨p, ys, rfl, hq, q⟩ := h
  obtain ⟨u, rfl, rx⟩ := vals1 r
  cases rx
  have hn := line63
  rcases hq with hq | hq
  · obtain ⟨its, r', pl, hz⟩ := I.list hq
    have hlen := r'.length
    exact Calls.call_len_list pl.isList (by simp only [List.size_toArray] <;> omega) ⟨.int ys.length, H, I.tok _, ⟨s.toks + 1, by rw [List.size_toArray, hlen]⟩, q⟩
  · obtain ⟨its, r', pl, hz⟩ := I.tuple hq
    have hlen := r'.length
    exact len_tuple pl (by simp only [List.size_toArray] <;> omega) ⟨.int ys.length, H, I.tok _, ⟨s.toks + 1, by rw [List.size_toArray, hlen]⟩, q⟩
theorem call_list_of : CallR X (.type "list") (fun xs H Q => ∃ p ys, xs = [.ref p] ∧ (SqL X.K H p ys ∨ SqT X.K H p ys) ∧ ∀ l, H l = none → Q (.ref l) (upd H l (.lst ys))) := by
  intro pins s σ H xs us Q I r h
  obtain ⟨p, ys, rfl, hq, q⟩ := h
  obtain ⟨u, rfl, rx⟩ := vals1 r
  cases rx
  have fin : ∀ (its : List Value), Vals ys its → ys.length ≤ sizeLine → ∀ (h' : Heap) (c' : Nat), (∀ b o', s.heap.get? b = some o' → h'.get? b = some o') →
      h'.get? s.heap.objs.size = some { cls := .type "list", dict := none, data := .seq its.toArray c', slots := #[] } → EP X pins σ Q (.ref s.heap.objs.size) { s with heap := h' } := fun its r' hz h' c' kp e =>
    ⟨.ref s.heap.objs.size, _, I.laid (t' := s.toks) kp (Nat.le_refl _) (show ObjOk X.prog X.w _ h' _ (.lst ys) from ⟨hz, its, c', r', e⟩), rfl, q _ (I.hok.fresh (Nat.le_refl _))⟩
  rcases hq with hq | hq
  · obtain ⟨its, r', pl, hz⟩ := I.list hq
    have hlen := r'.length
    obtain ⟨o, ho, hc, n, hd⟩ := pl.isList
    exact call_list_seq p (.inl rfl) ho hc hd (fun h' c' kp e => fin its r' hz h' c' kp e) (by simp only [List.size_toArray] <;> omega)
  · obtain ⟨its, r', pl, hz⟩ := I.tuple hq
    have hlen := r'.length
    obtain ⟨o, ho, hc, n, hd⟩ := pl
    exact call_list_seq p (.inr rfl) ho hc hd (fun h' c' kp e => fin its r' hz h' c' kp e) (by simp only [List.size_toArray] <;> omega)
theorem call_tuple_of : CallR X (.type "tuple") (fun xs H Q => ∃ p ys, xs = [.ref p] ∧ ((SqL X.K H p ys ∧ ∀ l, H l = none → Q (.ref l) (upd H l (.tup ys))) ∨ (SqT X.K H p ys ∧ Q (.ref p) H))) := by
  intro pins s σ H xs us Q I r h
  obtain ⟨p, ys, rfl, h⟩ := h
  obtain ⟨u, rfl, rx⟩ := vals1 r
  cases rx
  rcases h with ⟨hq, q⟩ | ⟨hq, q⟩
  · obtain ⟨its, r', pl, hz⟩ := I.list hq
    have hlen := r'.length
    refine call_tuple_list pl.isList (fun h' kp => ?_) (by simp only [List.size_toArray] <;> omega)
    have I1 : Inv X pins σ H { s with heap := h' } := I.kept (t' := s.toks) kp
    have I2 : Inv X pins σ (upd H h'.objs.size (.tup ys)) { s with heap := h'.push { cls := .type "tuple", data := .seq its.toArray } } :=
      I1.laid (t' := s.toks) (fun b o e => Heap.get?_push_of_some _ e) (Nat.le_refl _) (show ObjOk X.prog X.w _ _ _ (.tup ys) from ⟨hz, its, r', IsTup.new _ _⟩)
    exact ⟨.ref h'.objs.size, _, I2, rfl, q _ (I1.hok.fresh (Nat.le_refl _))⟩
  · obtain ⟨its, r', pl, hz⟩ := I.tuple hq
    exact call_tuple_same pl ⟨.ref p, H, I, rfl, q⟩

/-! ### the call of a builtin's method: o.m(..) -/
/-- the value is of that builtin type -/
def tyV (K : PySem.W.Frag) (T : String) (x : V) (H : Hp) : Prop := match x with
  | .str _ => T = "str"
  | .int _ => T = "int"
  | .ref p => (T = "list" ∧ ∃ xs, SqL K H p xs) ∨ (T = "tuple" ∧ ∃ o, K.lookup p = some o ∧ o.cls = .type "tuple" ∧ o.dict = none) ∨
      (T = "dict" ∧ ((∃ kvs, H p = some (.dK kvs)) ∨ ∃ kvs, H p = some (.dT kvs))) ∨ (T = "set" ∧ ∃ S n, H p = some (.set S n))
  | _ => False
theorem tyV_is {pins : List (Addr × Obj)} {σ : St} {H : Hp} {s : Shared} {T : String} {x : V} {v : Value} (I : Inv X pins σ H s) (r : RelV x v) (ty : tyV X.K T x H) :
    s.TypeIs v T ∧ ∀ a, v = .ref a → ∃ ob, s.heap.get? a = some ob ∧ ob.dict = none := by
  cases x with
  | str z =>
    obtain ⟨t, rfl⟩ := r
    cases (show T = "str" from ty)
    exact ⟨typeIs_str s z t, fun _ e => nomatch e⟩
  | int i =>
    obtain ⟨t, rfl⟩ := r
    cases (show T = "int" from ty)
    exact ⟨typeIs_int s i t, fun _ e => nomatch e⟩
  | ref p =>
    cases r
    rcases ty with ⟨rfl, xs, hq⟩ | ⟨rfl, o, hk, hc, hd⟩ | ⟨rfl, hk⟩ | ⟨rfl, S, n, hk⟩
    · obtain ⟨its, _, pl, _⟩ := I.list hq
      refine ⟨pl.isList.typeIs, fun a e => ?_⟩
      cases e
      obtain ⟨o, n, e, c, hd, _⟩ := pl
      exact ⟨o, e, hd⟩
    · refine ⟨⟨o, I.kIn p o hk, hc⟩, fun a e => ?_⟩
      cases e
      exact ⟨o, I.kIn _ o hk, hd⟩
    · have z : ∃ o, s.heap.get? p = some o ∧ o.ExactDict := by
        rcases hk with ⟨kvs, hk⟩ | ⟨kvs, hk⟩
        · obtain ⟨_, _, _, _, o, _, _, e, ex, _⟩ := I.hok p _ hk
          exact ⟨o, e, ex⟩
        · obtain ⟨_, _, _, _, o, _, _, e, ex, _⟩ := I.hok p _ hk
          exact ⟨o, e, ex⟩
      obtain ⟨o, e, ex⟩ := z
      refine ⟨⟨o, e, ex.1⟩, fun a e2 => ?_⟩
      cases e2
      exact ⟨o, e, ex.2.1⟩
    · obtain ⟨o, _, _, _, e, ex, _⟩ := I.hok p _ hk
      refine ⟨⟨o, e, ex.1⟩, fun a e2 => ?_⟩
      cases e2
      exact ⟨o, e, ex.2.1⟩
  | _ => exact False.elim ty
def tBM (K : PySem.W.Frag) (T : String) (r : V → List V → Hp → VK → Prop) (to : TE) (t : TA) : TE := fun σ H Q => to σ H fun x H1 => tyV K T x H1 ∧ t σ H1 fun xs H2 => r x xs H2 Q
variable {o e : Expr} {es : List Expr} {to : TE} {t : TA} {name : Str} {apos cpos : Pos} {T id : String} {r : V → List V → Hp → VK → Prop}
theorem pe_bm (pa : PlainAttrs T) (slot : Slot T name id) (hty : typeOf (.builtin id) = pure (.type "method_descriptor")) (hm : MtR X id r) (ho : PE X o to) (ha : PA X (e :: es) t)
    (hbase : attributeBase o name X.env (eval o X.env) = eval o X.env := by rfl)
    (hfew : ((backTo cpos (starEach (e :: es) X.env)).all (fun x => !x.1) && (backToKw cpos (keywordEach [] X.env)).all (fun x => x.1.isSome)
      && decide ((e :: es).length + ([] : List Keyword).length + (if ([] : List Keyword).isEmpty then 0 else 1) < 30)) = true := by rfl)
    (hline : (apos.endLine == cpos.line) = true := by rfl) (hs : starEach (e :: es) X.env = (false, eval e X.env) :: starEach es X.env := by rfl) (hplain : (backTo cpos (starEach es X.env)).any (·.1) = false := by rfl) :
    PE X (.Call (.Attribute o name apos) (e :: es) [] cpos) (tBM X.K T r to t) := by
  intro pins s σ H Q I h
  refine wpAny_Call_method_late hbase hfew hline rfl (thn (ho pins s σ H _ I h) fun v s1 ⟨x, H1, I1, r1, ty, q1⟩ => ?_)
  obtain ⟨h1, h2⟩ := tyV_is I1 r1 ty
  refine ⟨T, id, pa, slot, hty, h1, h2, ?_⟩
  have hA := ha cpos pins s1 σ H1 _ I1 q1
  rw [hs] at hA ⊢
  refine Calls.callWith_builtin (by show (false || (backTo cpos (starEach es X.env)).any (·.1)) = false; rw [hplain] <;> rfl) (Calls.evalArgs_plain ?_)
  exact thn hA fun us s2 ⟨vs, H2, I2, r2, q2⟩ => hm pins s2 σ H2 x vs v us Q I2 r1 r2 q2
/- xs.append(e), list.index on a module's tuple .. are MtR facts of 06m -/
end
end L2

namespace L2
open PySem PySem.Spec PyProof.Rows

def MtM (X : Cx) (id : String) (r : V → List V → Hp → VK → Prop) : Prop :=
  ∀ (pins : List (Addr × Obj)) (s : Shared) (σ : St) (H : Hp) (x : V) (xs : List V) (v : Value) (us : List Value) (Q : VK), Inv X pins σ H s → RelV x v → Vals xs us → r x xs H Q →
    wpAny (model X.prog X.w) X.A (call (.builtin id) (v :: us)) (EP X pins σ Q) X.xe s

/-! ### lists of values -/
theorem Vals.one : ∀ {x : V} {us : List Value}, Vals [x] us → ∃ u, us = [u] ∧ RelV x u
  | _, _, .cons r .nil => ⟨_, rfl, r⟩
theorem Vals.two : ∀ {x y : V} {us : List Value}, Vals [x, y] us → ∃ u v, us = [u, v] ∧ RelV x u ∧ RelV y v
  | _, _, _, .cons r (.cons q .nil) => ⟨_, _, rfl, r, q⟩
theorem Vals.rep {xs : List V} {us : List Value} (h : Vals xs us) : ∀ k : Nat, Vals (List.replicate k xs).flatten (List.replicate k us).flatten
  | 0 => .nil
  | k + 1 => by
    rw [List.replicate_succ, List.replicate_succ, List.flatten_cons, List.flatten_cons]
    exact Vals.append h (Vals.rep h k)
theorem foldl_rep (its : List Value) : ∀ (k : Nat) (acc : List Value),
    List.foldl (fun x1 x2 => x1 ++ x2) acc.toArray (List.replicate k its.toArray) = (acc ++ (List.replicate k its).flatten).toArray
  | 0, acc => by simp
  | k + 1, acc => by
    have e : acc.toArray ++ its.toArray = (acc ++ its).toArray := by simp
    have e2 : (acc ++ its) ++ (List.replicate k its).flatten = acc ++ (List.replicate (k + 1) its).flatten := by
      rw [List.replicate_succ, List.flatten_cons, List.append_assoc]
    rw [← e2, ← foldl_rep its k (acc ++ its), ← e, List.replicate_succ, List.foldl_cons]

section
variable {X : Cx} {pins : List (Addr × Obj)} {σ : St} {H : Hp} {s : Shared} {l b : Addr} {xs ys zs : List V}

/-! ### the two steps: a tracked list is rewritten, a new list is laid -/
theorem Inv.lset {its its' : List Value} {n : Nat} {f : Array Value → Array Value} {t' : Nat} (I : Inv X pins σ H s) (hH : H l = some (.lst xs))
    (e : s.heap.get? l = some { cls := .type "list", data := .seq its.toArray n }) (hf : f its.toArray = its'.toArray) (hv : Vals ys its') (hz : ys.length ≤ sizeLine) :
    Inv X pins σ (upd H l (.lst ys)) { s with heap := s.heap.update l (Obj.mapSeq f), toks := t' } := by
  have q := PySem.IsL.update e f
  rw [hf] at q
  refine I.write (x := l) (e := l) (by rw [hH]; exact trivial) (.inl rfl) (fun b' u hb hu => (Heap.get?_update_other s.heap (Obj.mapSeq f) (Ne.symm hb)).trans hu) ⟨_, q⟩ ?_
  exact ⟨hz, its', _, hv, q⟩
theorem Inv.lnew {its : List Value} {t' : Nat} (I : Inv X pins σ H s) (hv : Vals ys its) (hz : ys.length ≤ sizeLine) :
    Inv X pins σ (upd H s.heap.objs.size (.lst ys)) { s with heap := s.heap.push { cls := .type "list", data := .seq its.toArray }, toks := t' } :=
  I.laid (fun _ _ q => Heap.get?_push_of_some _ q) (Nat.le_refl _) ⟨hz, its, 0, hv, Heap.get?_push_size _ rfl⟩
theorem Inv.fresh (I : Inv X pins σ H s) : H s.heap.objs.size = none := I.hok.fresh (Nat.le_refl _)
theorem Inv.lstM (I : Inv X pins σ H s) (hH : H l = some (.lst xs)) : xs.length ≤ sizeLine ∧ ∃ (its : List Value) (n : Nat), Vals xs its ∧ xs.length = its.length ∧ s.heap.get? l = some { cls := .type "list", data := .seq its.toArray n } := by
  obtain ⟨z, its, n, r, e⟩ := I.hok l _ hH
  exact ⟨z, its, n, r, r.length, e⟩

theorem notLongL {n : Nat} (h : n ≤ sizeLine) : Builtin.List.listTooLong n = false := by
  unfold Builtin.List.listTooLong
  exact decide_eq_false (by omega)
end

section
variable {X : Cx}

/-! ### methods -/
def rAppend : V → List V → Hp → VK → Prop := fun x vs H Q => ∃ l xs y, x = .ref l ∧ vs = [y] ∧ H l = some (.lst xs) ∧ xs.length < sizeLine ∧ Q .non (upd H l (.lst (xs ++ [y])))
theorem mt_append : MtM X "list.append" rAppend := by
  intro pins s σ H x vs v us Q I rx rv h
  obtain ⟨l, xs, y, rfl, rfl, hH, hz, q⟩ := h
  cases rx
  obtain ⟨u, rfl, ru⟩ := rv.one
  obtain ⟨z, its, n, r, hl, e⟩ := I.lstM hH
  refine call_meets F.slot_list_append ⟨_, e, rfl⟩ F.entry_list_append (F.args_list_append_2 _ _) (PySem.list_append l its.toArray n u (by rw [List.size_toArray]; omega)) ⟨e, ?_⟩
  refine ⟨.non, _, I.lset (its' := its ++ [u]) hH e (by simp) (r.append (.cons ru .nil)) ?_, rfl, q⟩
  rw [List.length_append, List.length_singleton]
  omega

def rExtend : V → List V → Hp → VK → Prop := fun x vs H Q => ∃ l b xs zs, x = .ref l ∧ vs = [.ref b] ∧ H l = some (.lst xs) ∧ H b = some (.lst zs) ∧ xs.length + zs.length ≤ sizeLine ∧ Q .non (upd H l (.lst (xs ++ zs)))
theorem mt_extend : MtM X "list.extend" rExtend := by
  intro pins s σ H x vs v us Q I rx rv h
  obtain ⟨l, b, xs, zs, rfl, rfl, hH, hB, hz, q⟩ := h
  cases rx
  obtain ⟨u, rfl, ru⟩ := rv.one
  cases ru
  obtain ⟨z, its, n, r, hl, e⟩ := I.lstM hH
  obtain ⟨z2, its2, n2, r2, hl2, e2⟩ := I.lstM hB
  have hsz : its.toArray.size + its2.toArray.size ≤ sizeLine := by rw [List.size_toArray, List.size_toArray]; omega
  have hlong : ¬ (!its.toArray.isEmpty && Builtin.List.listTooLong (its.toArray.size + its2.toArray.size)) = true := by
    rw [notLongL hsz, Bool.and_false]
    exact Bool.false_ne_true
  refine call_meets F.slot_list_extend ⟨_, e, rfl⟩ F.entry_list_extend (F.args_list_extend_2 _ _)
    (AutoSeq1.list_extend_list_list_0 l its.toArray n b its2.toArray n2 hlong (by rw [List.size_toArray]; omega) (by omega)) ⟨e, e2, ?_⟩
  refine ⟨.non, _, I.lset (its' := its ++ its2) hH e (by simp) (r.append r2) ?_, rfl, q⟩
  rw [List.length_append]
  omega

/-! ### list + list, list += list, list * int -/
def rCat : R2 := fun x y H Q => ∃ l b xs zs, x = .ref l ∧ y = .ref b ∧ H l = some (.lst xs) ∧ H b = some (.lst zs) ∧ xs.length + zs.length ≤ sizeLine ∧ ∀ p, H p = none → Q (.ref p) (upd H p (.lst (xs ++ zs)))
theorem op_cat : OpR X (binaryOp .Add) rCat := by
  intro pins s σ H x y v u Q I rx ry h
  obtain ⟨l, b, xs, zs, rfl, rfl, hH, hB, hz, q⟩ := h
  cases rx
  cases ry
  obtain ⟨z, its, n, r, hl, e⟩ := I.lstM hH
  obtain ⟨z2, its2, n2, r2, hl2, e2⟩ := I.lstM hB
  refine PySem.P.add_list e e2 ?_ (by rw [List.size_toArray, List.size_toArray]; omega)
  have ea : its.toArray ++ its2.toArray = (its ++ its2).toArray := by simp
  rw [ea]
  exact ⟨.ref _, _, I.lnew (t' := s.toks) (r.append r2) (by rw [List.length_append]; omega), rfl, q _ I.fresh⟩
/-- a list times an int (a negative one is nothing) -/
def rRep : R2 := fun x y H Q => ∃ l k xs, x = .ref l ∧ y = .int k ∧ H l = some (.lst xs) ∧ -(2 ^ 63) ≤ k ∧ k < 2 ^ 63 ∧ xs.length * k.toNat ≤ sizeLine ∧
  ∀ p, H p = none → Q (.ref p) (upd H p (.lst (List.replicate k.toNat xs).flatten))
theorem len_rep {α : Type} (xs : List α) (k : Nat) : (List.replicate k xs).flatten.length = k * xs.length := by
  induction k with
  | zero => simp
  | succ k ih => rw [List.replicate_succ, List.flatten_cons, List.length_append, ih, Nat.succ_mul, Nat.add_comm]
theorem op_rep : OpR X (binaryOp .Mult) rRep := by
  intro pins s σ H x y v u Q I rx ry h
  obtain ⟨l, k, xs, rfl, rfl, hH, h1, h2, hz, q⟩ := h
  cases rx
  obtain ⟨t, rfl⟩ := ry
  obtain ⟨z, its, n, r, hl, e⟩ := I.lstM hH
  have hlen : its.toArray.size * k.toNat ≤ sizeLine := by rw [List.size_toArray, ← hl]; exact hz
  have hcap : ¬ its.toArray.size * k.toNat > (2 ^ 63 - 1) / 8 := by
    have : (sizeLine : Nat) ≤ (2 ^ 63 - 1) / 8 := by decide
    omega
  have hfit : ¬ (!Builtin.List.listFitsIndex k) = true := by
    rw [fitsIndex_both h1 h2]
    exact Bool.false_ne_true
  have hlong : ¬ Builtin.List.listTooLong (its.toArray.size * k.toNat) = true := by
    rw [notLongL hlen]
    exact Bool.false_ne_true
  have hnew : List.foldl (fun x1 x2 => x1 ++ x2) #[] (List.replicate (if its.toArray.isEmpty = true then 0 else k.toNat) its.toArray) = (List.replicate k.toNat its).flatten.toArray := by
    have f0 : ∀ m : Nat, List.foldl (fun x1 x2 => x1 ++ x2) #[] (List.replicate m its.toArray) = (List.replicate m its).flatten.toArray := fun m => by
      have := foldl_rep its m []
      rw [List.nil_append] at this
      exact this
    rw [f0]
    cases its with
    | nil => simp
    | cons a r' => rw [if_neg (by simp)]
  refine wpAny_binaryOp_repeat_ref (T := "list") (U := "int") (by decide) ⟨_, e, rfl⟩ (fun s' => typeIs_int s' k t) noFill_list_mul F.fills_int_mul F.slot_int_rmul repeat_list F.slot_int_index.lookup
    (call_meets F.slot_int_rmul (typeIs_int s k t) F.entry_int_rmul (F.args_int_rmul_2 _ _) (int___rmul___int_list k t l its.toArray n)
      ⟨e, rfl, ⟨_, e, rfl⟩, call_meets F.slot_list_mul ⟨_, e, rfl⟩ F.entry_list_mul (F.args_list_mul_2 _ _) (AutoListH.list___mul___list_int_3 l its.toArray n k t hfit hcap hlong) ⟨e, ?_⟩⟩)
  rw [hnew]
  exact ⟨.ref _, _, I.lnew (t' := s.toks) (r.rep k.toNat) (by rw [len_rep, Nat.mul_comm]; exact hz), rfl, q _ I.fresh⟩

/-! ### del xs[i] -/
end

/-! ### xs[a:b] = ys -/
section
variable {prog : Program} {w : World} {A : Around} {E : Value → Shared → Prop} {s : Shared}
end

section
variable {X : Cx}
end
end L2

namespace Att
open PySem PySem.W PySem.Calls PyProof.Rows

/-! ### the script -/
theorem ints_of_wellAll {P : Params} {h : Heap} : ∀ (ns : List Int) (vs : List Value), WellAll P h vs (ns.map WData.int) → IntsAre vs ns := by
  intro ns
  induction ns with
  | nil =>
    intro vs w
    rw [List.map_nil] at w
    cases w
    exact .nil
  | cons n ns ih =>
    intro vs w
    rw [List.map_cons] at w
    cases w with
    | cons a b =>
      cases a
      exact .cons _ _ (ih _ b)

theorem script_of {l : OpenLaw} {n : Nat} (hn : l.most = some n) {P : Params} {h : Heap} {args : List WData} {vals : List Value}
    (hpre : l.row.toRowW.claim.pre args = true) (hwl : WellAll P h vals args) :
    ∃ a vs ns, vals = [Value.ref a] ∧ args = [WData.list (ns.map WData.int)] ∧ h.get? a = some { cls := .type "list", data := .seq vs.toArray } ∧ IntsAre vs ns ∧ ns.length ≤ n := by
  have hsh : WShape.hasAll [] args [.list .int] = true := (pre_splitW hpre).1
  have hc : l.pre.holds [] { args := args } = true := (pre_splitW hpre).2
  obtain ⟨d, r, rfl, h1, h2⟩ := hasAllW_cons hsh
  obtain rfl := hasAllW_nil h2
  obtain ⟨xs, rfl, h3⟩ := hasW_list h1
  obtain ⟨ns, rfl⟩ := items_int h3
  have hlen : ns.length ≤ n := by
    unfold OpenLaw.pre at hc
    have h4 : (WTm.not (.lt (.lit (.int (n : Int))) (.len (.arg 0)))).holds [] { args := [.list (ns.map .int)] } = true := by
      have h4 := (holds_andW hc).1
      rw [hn] at h4
      exact h4
    have h5 := condW_of h4 (w_not (w_lt w_lit (w_len_list (w_arg rfl))))
    rw [List.length_map] at h5
    refine Nat.le_of_not_lt fun q => ?_
    have q' : (n : Int) < ((ns.length : Nat) : Int) := by omega
    first
      | (rw [decide_eq_true q'] at h5; exact absurd h5 (by decide))
      | (simp at h5; omega)
  cases hwl with
  | cons w1 w2 =>
    cases w2
    cases w1 with
    | list ho hall => exact ⟨_, _, ns, rfl, rfl, ho, ints_of_wellAll ns _ hall, hlen⟩

theorem post_true (l : OpenLaw) (args : List WData) : l.row.toRowW.claim.post args (.bool true) args = true :=
  postW_of (r := l.row.toRowW) (X := (true == true))
    (show WShape.has [] (.bool true) .bool = true by first | rfl | decide | simp [WShape.has, WShape.arms, WShape.armsAll])
    (show (WTm.eq .res (.lit (.bool true))).value [] { args := args, res := some (.bool true), after := args } = some (.bool (true == true)) from w_eq_bool (w_res rfl) w_lit) rfl

/-! ### the attachment: holds_open's last premise (the goal 'hc' behind k_head) from a wpAny of the law's body -/
/-- the same from a codeAny of the CALL (for a layer whose function contracts speak of calls) -/
theorem attach_call {l : OpenLaw} {n : Nat} {q : Program} {loose : List Str} {XP : (Str → Option Value) → Heap → Prop} {YP : World → Heap → Prop} {d : DefRec}
    (hn : l.most = some n) (hdf : d.params.defaults = [])
    (call : ∀ (w : World) (s₀ s₁ : Shared) (mg mb : Str → Option Value) (fa : Addr) (o : Obj) (pm cd doc : Value) (a : Addr) (vs : List Value) (ns : List Int),
      Ground q loose [] XP w s₀ mg mb s₁.heap → YP w s₁.heap →
      s₁.heap.get? fa = some o → o.data = .func (docDef d.name d.params d.body d.scope pm cd doc) → s₁.heap.CodeRec cd d.name → mg d.name = some (.ref fa) →
      s₁.heap.get? a = some { cls := .type "list", data := .seq vs.toArray } → IntsAre vs ns → ns.length ≤ n → s₁.gens = #[] →
      codeAny (model l.prog w) callerA (.call (.ref fa) ⟨[.ref a], []⟩) (fun r s' => r = .ok (.ret (.bool true)) ∧ OldK s₁.heap s'.heap ∧ s'.os = s₁.os ∧ AllBare s'.gens) s₁) :
    WalkO q loose XP YP l.row.toRowW d [] (fun f vs => PySem.call f vs) := by
  intro w s₀ s₁ mg mb G Y fa o pm cd doc dV kV ho hd hcd hD hmg hg args vals as hpre hlay hrd hwl hlo
  obtain rfl : dV = .none := Dflts.none hD hdf
  obtain rfl : kV = .none := Dflts.noKw hD
  obtain ⟨a, vs, ns, rfl, rfl, hobj, hints, hlen⟩ := script_of hn hpre hwl
  refine enter_call (codeAny_mono (call w s₀ s₁ mg mb fa o pm cd doc a vs ns G Y ho (fd_plain hd) hcd hmg hobj hints hlen hg) fun r s' hq => ?_)
  obtain ⟨rfl, h2, h3, h4⟩ := hq
  exact ⟨.inl ⟨.bool true, .bool true, [], rfl, fun _ => rfl, .bool true, post_true l _, fun _ => ⟨List.Pairwise.nil, fun _ hm => (nomatch hm)⟩⟩, h2, h3, h4⟩

/-! ### rules over ANY heap (no ledger) from facts about the written part K: the library's own take a ledger (News) for what they write -/
section
variable {prog : Program} {w : World} {A : Around} {E : Value → Shared → Prop} {s : Shared} {K : Frag}

/-! the whole heap as the ledger: makes every rule that writes through a ledger a rule over any heap -/
end
end Att

namespace L2
open PySem PySem.Spec PyProof.Rows

theorem vals_ints : ∀ {vs : List Value} {ns : List Int}, IntsAre vs ns → Vals (ns.map V.int) vs
  | _, _, .nil => .nil
  | _, _, .cons n t h => .cons ⟨t, rfl⟩ (vals_ints h)

end L2

namespace L2
open PySem PySem.Spec PyProof.Rows

end L2

/- THE LAST THEOREM (shape; LID, My.* are yours):
   My.Adr: a structure of the addresses that your layer names (classes, functions); My.Txt K t: a structure (Prop) of the equations over K;
   My.txt_mk : {K} {implicit addresses ..} (e1 : nsIn K mainGlobals "law" = some (some (.ref f))) (e2 : K.lookup f = some ⟨oc, od, .func (fnOf "law" "law" params body scope dV kV doc pm an cdv ct), sl⟩) (e3 : codeIn K cdv "law" = true) .. : ∃ t, My.Txt K t

set_option maxRecDepth 100000 in
set_option maxHeartbeats 0 in
theorem PySem.Challenge.cw_LID_holds : PySem.Challenge.rw_LID.Holds := by
  w_on; o_law; k_head; (case hw => w_witness2)
  k_fill
  refine L2.walk_of (l := PySem.Challenge.rw_LID) (n := 63) (k := 40) (x := "script") (CX := fun w => ..) (sp := fun _ => My.sp_law) rfl (by decide) rfl ⟨rfl, by decide, by decide⟩ (fun w h Y => PySem.W.kIn_of Y) ?F ?S ?C
  case F =>
    intro w mg fa h KX G hmg
    have T : ∃ t, My.Txt (L2.KOf KX) t := by
      dsimp only [L2.KOf]                          -- K must stand as «<heap const> w.params» for k_is
      refine' My.txt_mk ?e1 ?e2 ?e3 ..
      (case e1 => PySem.W.k_is)                    -- in the order: a name -> its address -> its object -> its parts
      (case e2 => PySem.W.k_is)
      ..
    obtain ⟨t, T⟩ := T
    have e0 := hmg.symm.trans (PySem.W.mg_of KX G T.law)
    cases e0                                       -- fa is the law's own address
    exact ⟨_, fun s u => .of_eq rfl, fun base kb nb => My.law_fn T kb nb⟩     -- if «.of_eq rfl» comes too early: refine' ⟨_, ?b, fun base kb nb => My.law_fn T kb nb⟩; exact fun s u => .of_eq rfl
  case S => exact fun w H a ns hl hO hS => ..
  case C => exact ..
(the tactic k_is has no namespace: write k_is) -/

/-! SHORT WORDS over the layer: a def of the text, its body, what a loop and a test want. -/
namespace L2
open PySem PySem.Spec PyProof.Rows

/-! ### the text by places -/
def defArgs (s : Stmt) : Arguments := match s with
  | .FunctionDef _ a _ _ _ _ _ _ _ _ => a
  | _ => { posonlyargs := [], args := [], vararg := none, kwonlyargs := [], kw_defaults := [], kwarg := none, defaults := [] }
def defBody (s : Stmt) : List Stmt := match s with
  | .FunctionDef _ _ b _ _ _ _ _ _ _ => b
  | _ => []
def defScope (s : Stmt) : Scope := match s with
  | .FunctionDef _ _ _ _ _ _ sc _ _ _ => sc
  | _ => { kind := .function, names := [], isGenerator := false, isCoroutine := false }

/-! ### no exception leaves a def -/
abbrev CX0 : CXT := fun _ _ _ _ _ _ => False
abbrev E0 : XK := fun _ _ _ => False
theorem pass0 {X : Cx} : Passes CX0 X E0 := fun _ _ _ _ _ _ _ h => h.elim

/-! ### a def (or method) of the text as it stands behind the top -/
structure Fun (K : PySem.W.Frag) (x qual : Str) (st : Stmt) (f : Addr) (fd : FuncData) : Prop where
  ex : ∃ (oc : Value) (od : Option Addr) (kV doc pm : Value) (an : Option Addr) (cdv ct : Value) (osl : Array (Option Value)),
    fd = PySem.W.fnOf x qual (defArgs st) (defBody st) (defScope st) .none kV doc pm an cdv ct ∧ K.lookup f = some ⟨oc, od, .func fd, osl⟩ ∧ PySem.W.codeIn K cdv qual = true
  kp : PySem.W.keepIn K (.ref f) = true
section
variable {P : Program} {w : World} {K : PySem.W.Frag} {mg : Str → Option Value} {base : Heap}
/-- THE RULE for a def: its body as a term of rules, and the reading of that term -/
theorem Fun.ok {x qual : Str} {st : Stmt} {f : Addr} {fd : FuncData} {N ps : List Str} {k : Nat} {sp : Sp} {c : Bool} (F : Fun K x qual st f fd) (S : FnScope N ps (defScope st)) (len : ∀ vs H Q E, sp vs H Q E → vs.length = ps.length)
    (hbody : ∀ (cdv : Value) (A : Around) (outer : List Env) (s : Shared) (H : Hp) (vs : List V) (Q : VK) (E : XK), Room k (A.deeper (envOfC qual (defScope st) s.heap.objs.size f cdv)) c → sp vs H Q E →
      ∃ t, PSs (cxOf CX0 P w K mg base N qual (defScope st) f cdv A outer s H E c).nox (defBody st) t ∧ t { nx := fun _ H' => Q .non H', rt := Q } (start N vs) H) : FnOk P w K mg base CX0 (k + 1) f fd ps sp c := by
  obtain ⟨oc, od, kV, doc, pm, an, cdv, ct, osl, rfl, lk, hcd⟩ := F.ex
  refine fn_of lk hcd S len fun A outer s H vs Q E hr hsp => ?_
  obtain ⟨t, h, q⟩ := hbody cdv A outer s H vs Q E hr hsp
  exact ⟨t, h.nox, q⟩
/-- how its arguments bind (no defaults): h is «fun _ _ _ _ _ _ us hl => match us, hl with | [_, _], _ => rfl», one _ a parameter -/
theorem Fun.binds {x qual : Str} {st : Stmt} {f : Addr} {fd : FuncData} {ps : List Str} (F : Fun K x qual st f fd)
    (h : ∀ (kV doc pm : Value) (an : Option Addr) (cdv ct : Value) (us : List Value), us.length = ps.length → bindArgs (PySem.W.fnOf x qual (defArgs st) (defBody st) (defScope st) .none kV doc pm an cdv ct) ⟨us, []⟩ = pure (ps.zip us)) : Binds K fd ps [] := by
  obtain ⟨oc, od, kV, doc, pm, an, cdv, ct, osl, rfl, lk, hcd⟩ := F.ex
  exact .all (h kV doc pm an cdv ct)
theorem fun_mk {x qual : Str} {st : Stmt} {f : Addr} {oc : Value} {od an : Option Addr} {osl : Array (Option Value)} {kV doc pm cdv ct : Value} (l : K.lookup f = some ⟨oc, od, .func (PySem.W.fnOf x qual (defArgs st) (defBody st) (defScope st) .none kV doc pm an cdv ct), osl⟩)
    (c : PySem.W.codeIn K cdv qual = true) (k : PySem.W.keepIn K (.ref f) = true) : Fun K x qual st f (PySem.W.fnOf x qual (defArgs st) (defBody st) (defScope st) .none kV doc pm an cdv ct) := ⟨⟨oc, od, kV, doc, pm, an, cdv, ct, osl, rfl, l, c⟩, k⟩
end
theorem hu_of {A : Around} {k : Nat} {c : Bool} (hr : Room k A c) : A.units + 1 < cLine := Nat.lt_of_le_of_lt (Nat.add_le_add_left (by decide : 1 ≤ 64) _) hr.units
/-! ### expressions in short: the name that stands in the i-th slot -/
section
variable {X : Cx}
theorem pv (i : Nat) {x : Str} {pos : Pos} (hN : X.N[i]? = some x := by rfl) (hv : Vis X.env.scope x := by first | exact Or.inl rfl | exact Or.inr (Or.inl rfl) | exact Or.inr (Or.inr rfl)) (hd : (x == ("__debug__" : Str)) = false := by decide)
    (hcd : (x == ("__classdict__" : Str)) = false := by decide) : PE X (.Name x pos) (tVar i) := pe_var hN hv hd hcd
end

/-! ### tests -/
theorem iteF {A B : Prop} (h : B) : if false = true then A else B := by
  rw [if_neg Bool.false_ne_true]
  exact h
theorem iteT {A B : Prop} (h : A) : if true = true then A else B := by
  rw [if_pos rfl]
  exact h
theorem ite2 {c A B : Prop} [Decidable c] (h1 : c → A) (h2 : ¬ c → B) : if c then A else B := by
  by_cases h : c
  · rw [if_pos h]
    exact h1 h
  · rw [if_neg h]
    exact h2 h
/-! ### heaps -/
/-- all that was tracked is as it was -/
def Same (H H' : Hp) : Prop := ∀ b o, H b = some o → H' b = some o
theorem Same.trans {H H1 H2 : Hp} (a : Same H H1) (b : Same H1 H2) : Same H H2 := fun c o h => b c o (a c o h)
theorem Same.free {H H' : Hp} (e : Same H H') {l : Addr} (h : H' l = Option.none) : H l = Option.none := by
  cases q : H l with
  | none => rfl
  | some o =>
    rw [e l o q] at h
    cases h
theorem Same.seq {K : PySem.W.Frag} {H H' : Hp} {a : Addr} {xs : List V} (e : Same H H') (h : SqL K H a xs) : SqL K H' a xs := by
  rcases h with (h | ⟨o, h⟩) | h
  · exact .inl (.inl (e _ _ h))
  · exact .inl (.inr ⟨o, e _ _ h⟩)
  · exact .inr h

end L2
namespace L2
open PySem PySem.Spec PyProof.Rows

/-! ### no exception -/
abbrev NoX : Value → Shared → Prop := fun _ _ => False
theorem noX {α : Type} {M : Model} {A : Around} {t : Sem α} {Q : α → Shared → Prop} {E : Value → Shared → Prop} {s : Shared} (h : wpAny M A t Q NoX s) : wpAny M A t Q E s := wpAny_mono h (fun _ _ q => q) fun _ _ z => z.elim

/-! ### a comprehension's turns -/
abbrev tstSem (ifs : List Expr) (env : Env) : Sem Bool := forIn ifs true fun c r => if r = true then do let ok ← isTrue c env (eval c env); pure (ForInStep.yield ok) else pure (ForInStep.yield r)
section
variable {prog : Program} {w : World} {A : Around} {R : Result → Shared → Prop} {s : Shared}
theorem comp_loop {elt tg iter : Expr} {ifs : List Expr} {sc : Scope} {pos : Pos} {it acc : Value} {env : Env} (I : Nat → Shared → Prop)
    (turn : ∀ n s, I n s → wpAny (model prog w) A (pyNext it) (fun r s1 => match r with
      | none => R (.ok .next) s1
      | some v => wpAny (model prog w) A (letOwnedTupleGo tg it v) (fun _ s2 => wpAny (model prog w) A (assign tg env v) (fun _ s3 => wpAny (model prog w) A (tstSem ifs env) (fun ok s4 =>
          if ok = true then wpAny (model prog w) A (eval elt env) (fun x s5 => wpAny (model prog w) A (call (.builtin "list.append") [acc, x]) (fun _ s6 => ∃ m, m < n ∧ I m s6) NoX s5) NoX s4
          else ∃ m, m < n ∧ I m s4) NoX s3) NoX s2) NoX s1) NoX s)
    (n : Nat) (h : I n s) : codeAny (model prog w) A (.compLoop (.ListComp elt [⟨tg, iter, ifs, 0⟩] sc pos) 0 it acc env) R s := by
  refine codeAny_loop rfl I (fun n s hI => ?_) n h
  show wpAny _ A ((compTurn (.ListComp elt [⟨tg, iter, ifs, 0⟩] sc pos) 0 it acc env).onRaise (fun x => do noteFrame x env; theTreesLotGoes x)) _ _ s
  refine wpAny_noted ?_
  rw [compTurn_list]
  refine wpAny_bind (wpAny_standAt (wpAny_bind (noX (thn (turn n s hI) fun r s1 h1 => ?_))))
  cases r with
  | none => exact wpAny_pure h1
  | some v =>
    refine wpAny_bind (noX (thn h1 fun _ s2 h2 => wpAny_bind (noX (thn h2 fun _ s3 h3 => wpAny_bind (noX (thn h3 fun ok s4 h4 => ?_))))))
    cases ok with
    | false => exact wpAny_pure ⟨rfl, h4⟩
    | true => exact wpAny_bind (wpAny_bind (noX (thn h4 fun x s5 h5 => wpAny_bind (noX (thn h5 fun _ s6 h6 => wpAny_pure (wpAny_pure ⟨rfl, h6⟩))))))
end

/-! ### the cells of the names that a block takes from around it -/
theorem closure_go {env : Env} : ∀ (l : List (Str × NameKind)) (acc : List (Str × Addr)), (∀ y ∈ l, y.2 = .free → ∃ c, env.cells.lookup y.1 = some c) → (∀ y c, acc.lookup y = some c → env.cells.lookup y = some c) →
    ∃ cl, (forIn l acc fun x r => if (x.2 == NameKind.free) = true then (do let c ← cellOf env x.1; pure (ForInStep.yield ((x.1, c) :: r))) else pure (ForInStep.yield r)) = (pure cl : Sem (List (Str × Addr))) ∧
      (∀ y c, cl.lookup y = some c → env.cells.lookup y = some c) ∧ (∀ y ∈ l, y.2 = .free → ∃ c, cl.lookup y.1 = some c) ∧ (∀ y c, acc.lookup y = some c → ∃ c', cl.lookup y = some c')
  | [], acc, _, h2 => ⟨acc, rfl, h2, (fun _ z => nomatch z), (fun _ c e => ⟨c, e⟩)⟩
  | (n, k) :: r, acc, h1, h2 => by
    rw [List.forIn_cons]
    by_cases hk : k = .free
    · subst hk
      obtain ⟨c, hc⟩ := h1 (n, .free) List.mem_cons_self rfl
      have e : cellOf env n = pure c := by
        have hc' : env.cells.lookup n = some c := hc
        unfold cellOf
        rw [hc']
      obtain ⟨cl, q1, q2, q3, q4⟩ := closure_go r ((n, c) :: acc) (fun y hy => h1 y (List.mem_cons_of_mem _ hy)) (fun y c' e' => by
        rw [List.lookup_cons] at e'
        by_cases hy : (y == n) = true
        · rw [hy] at e'
          have hn : y = n := eq_of_beq hy
          subst hn
          cases e'
          exact hc
        · rw [Bool.not_eq_true] at hy
          rw [hy] at e'
          exact h2 y c' e')
      refine ⟨cl, ?_, q2, fun y hy hf => ?_, fun y c' e' => ?_⟩
      · simp only [beq_self_eq_true, if_true, e, pure_bind]
        exact q1
      · rcases List.mem_cons.mp hy with rfl | hy
        · exact q4 n c (by simp)
        · exact q3 y hy hf
      · by_cases hy : (y == n) = true
        · have hn : y = n := eq_of_beq hy
          subst hn
          exact q4 y c (by simp)
        · rw [Bool.not_eq_true] at hy
          exact q4 y c' (by rw [List.lookup_cons, hy]; exact e')
    · have hb : (k == NameKind.free) = false := by simpa using hk
      obtain ⟨cl, q1, q2, q3, q4⟩ := closure_go r acc (fun y hy => h1 y (List.mem_cons_of_mem _ hy)) h2
      refine ⟨cl, ?_, q2, fun y hy hf => ?_, q4⟩
      · simp only [hb, Bool.false_eq_true, if_false, pure_bind]
        exact q1
      · rcases List.mem_cons.mp hy with rfl | hy
        · exact absurd hf hk
        · exact q3 y hy hf
theorem closure_ok {env : Env} {sc : Scope} (h : ∀ y ∈ sc.names, y.2 = .free → ∃ c, env.cells.lookup y.1 = some c) :
    ∃ cl, closureFor sc env = pure cl ∧ (∀ y c, cl.lookup y = some c → env.cells.lookup y = some c) ∧ ∀ y ∈ sc.names, y.2 = .free → ∃ c, cl.lookup y.1 = some c := by
  obtain ⟨cl, q1, q2, q3, _⟩ := closure_go sc.names [] h (fun _ _ z => nomatch z)
  refine ⟨cl, ?_, q2, q3⟩
  unfold closureFor
  rw [bind_pure]
  exact q1
theorem relabel_look {env : Env} {y : Str} {k : NameKind} {sc : Scope} (h : (relabel sc env).names.lookup y = some k) : ∃ k0, sc.names.lookup y = some k0 ∧ (k = k0 ∨ (k0 = .free ∧ k = .cell)) := by
  have go : ∀ l : List (Str × NameKind), (l.map fun (n, k) => if (k == .free && env.scope.kind == .function && env.kindOf n == some .cell) then (n, NameKind.cell) else (n, k)).lookup y = some k → ∃ k0, l.lookup y = some k0 ∧ (k = k0 ∨ (k0 = .free ∧ k = .cell)) := by
    intro l
    induction l with
    | nil => intro z; cases z
    | cons a r ih =>
      obtain ⟨n, k1⟩ := a
      intro z
      rw [List.map_cons] at z
      by_cases hc : (k1 == NameKind.free && env.scope.kind == .function && env.kindOf n == some .cell) = true
      · have hf : k1 = .free := by
          rw [Bool.and_eq_true, Bool.and_eq_true] at hc
          simpa using hc.1.1
        simp only [hc, if_true] at z
        rw [List.lookup_cons] at z ⊢
        by_cases hy : (y == n) = true
        · rw [hy] at z ⊢
          cases z
          exact ⟨k1, rfl, .inr ⟨hf, rfl⟩⟩
        · rw [Bool.not_eq_true] at hy
          rw [hy] at z ⊢
          exact ih z
      · simp only [hc, Bool.false_eq_true, if_false] at z
        rw [List.lookup_cons] at z ⊢
        by_cases hy : (y == n) = true
        · rw [hy] at z ⊢
          cases z
          exact ⟨_, rfl, .inl rfl⟩
        · rw [Bool.not_eq_true] at hy
          rw [hy] at z ⊢
          exact ih z
  exact go sc.names h
theorem relabel_free {env : Env} {y : Str} {sc : Scope} (h : sc.names.lookup y = some .free) : (relabel sc env).names.lookup y = some .cell ∨ (relabel sc env).names.lookup y = some .free := by
  have go : ∀ l : List (Str × NameKind), l.lookup y = some .free → (l.map fun (n, k) => if (k == .free && env.scope.kind == .function && env.kindOf n == some .cell) then (n, NameKind.cell) else (n, k)).lookup y = some .cell ∨
      (l.map fun (n, k) => if (k == .free && env.scope.kind == .function && env.kindOf n == some .cell) then (n, NameKind.cell) else (n, k)).lookup y = some .free := by
    intro l
    induction l with
    | nil => intro z; cases z
    | cons a r ih =>
      obtain ⟨n, k1⟩ := a
      intro z
      rw [List.lookup_cons] at z
      rw [List.map_cons]
      by_cases hy : (y == n) = true
      · rw [hy] at z
        cases z
        by_cases hc : (NameKind.free == NameKind.free && env.scope.kind == .function && env.kindOf n == some .cell) = true
        · simp only [hc, if_true]
          exact .inl (by rw [List.lookup_cons, hy])
        · simp only [hc, Bool.false_eq_true, if_false]
          exact .inr (by rw [List.lookup_cons, hy])
      · rw [Bool.not_eq_true] at hy
        rw [hy] at z
        by_cases hc : (k1 == NameKind.free && env.scope.kind == .function && env.kindOf n == some .cell) = true
        · simp only [hc, if_true]
          rw [List.lookup_cons, hy]
          exact ih z
        · simp only [hc, Bool.false_eq_true, if_false]
          rw [List.lookup_cons, hy]
          exact ih z
  exact go sc.names h

/-! ### the block's context -/
abbrev cxComp (X : Cx) (N : List Str) (sc : Scope) (cl : List (Str × Addr)) (C : Addr) (s : Shared) (H : Hp) (ex : List Addr) (pn : List (Addr × Obj)) : Cx :=
  { prog := X.prog, w := X.w, K := X.K, mg := X.mg, base := X.base, A := X.A, N := N, s₀ := s, H₀ := H, env := compEnvC sc cl C X.env, outer := X.stack, stack := X.stack, ex := ex, fn := fun _ => false, calm := X.calm, pn := pn, xe := fun _ _ => False }
/-- a block's tests -/
def PTs (X : Cx) (ifs : List Expr) (t : TT) : Prop :=
  ∀ (pins : List (Addr × Obj)) (s : Shared) (σ : St) (H : Hp) (Q : Bool → Hp → Prop), Inv X pins σ H s → t σ H Q → wpAny (model X.prog X.w) X.A (tstSem ifs X.env) (TP X pins σ Q) X.xe s
def tTrue : TT := fun _ H Q => Q true H
theorem ttT {σ : St} {H : Hp} {A B : Hp → Prop} (h : A H) : tTrue σ H (fun b H4 => if b = true then A H4 else B H4) := by
  show if true = true then A H else B H
  rw [if_pos rfl]
  exact h
theorem pts_nil {X : Cx} : PTs X [] tTrue := fun _ _ _ H _ I h => wpAny_tests_nil ⟨H, I, h⟩
/-- what the block sees of the names around it -/
def capV (σ : St) (caps : List Nat) : St := caps.map fun i => (σ[i]?).getD none
def CompW (J : It) (p : Addr) (tt : TT) (te : TE) (cs : St) (Q : VK) (H1 : Hp) : Prop := ∃ W : Nat → Nat → List V → Hp → Prop, (∃ m, W 0 m [] (upd H1 p (.lst []))) ∧ ∀ i m ys H2, W i m ys H2 →
  (J.stop i H2 ∧ Q (.ref p) H2) ∨ (J.go i H2 ∧ ∃ N : List V → Hp → Prop, (∀ ys' H', N ys' H' → ∃ m', m' < m ∧ W (i + 1) m' ys' H') ∧
    ∀ v H3, J.yld i H2 v H3 → tt (some v :: cs) H3 fun b H4 => if b = true then te (some v :: cs) H4 fun y H5 => H5 p = some (.lst ys) ∧ ys.length < sizeLine ∧ N (ys ++ [y]) (upd H5 p (.lst (ys ++ [y]))) else N ys H4)
/-- .. with what must hold of the heap at each turn and at the end -/
def CompWG (Gs : Hp → Prop) (J : It) (p : Addr) (tt : TT) (te : TE) (cs : St) (Q : VK) (H1 : Hp) : Prop := ∃ W : Nat → Nat → List V → Hp → Prop, (∃ m, W 0 m [] (upd H1 p (.lst []))) ∧ ∀ i m ys H2, W i m ys H2 →
  (J.stop i H2 ∧ Gs H2 ∧ Q (.ref p) H2) ∨ (J.go i H2 ∧ Gs H2 ∧ ∃ N : List V → Hp → Prop, (∀ ys' H', N ys' H' → ∃ m', m' < m ∧ W (i + 1) m' ys' H') ∧
    ∀ v H3, J.yld i H2 v H3 → tt (some v :: cs) H3 fun b H4 => if b = true then te (some v :: cs) H4 fun y H5 => H5 p = some (.lst ys) ∧ ys.length < sizeLine ∧ N (ys ++ [y]) (upd H5 p (.lst (ys ++ [y]))) else N ys H4)
def tCompC (CW : It → Addr → St → VK → Hp → Prop) (wi : TI) (caps : List Nat) : TE := fun σ H Q => wi σ H fun J H1 => ∀ p, H1 p = none → CW J p (capV σ caps) Q H1
def tComp (wi : TI) (tt : TT) (te : TE) (caps : List Nat) : TE := fun σ H Q => wi σ H fun J H1 => ∀ p, H1 p = none → CompW J p tt te (capV σ caps) Q H1

theorem comp_go {X : Cx} {use : Option (Value → Sem Unit)} {Post : Value → Shared → Prop} {pins : List (Addr × Obj)} {s : Shared} {σ : St} {H : Hp} {Q : VK} {Gs : Hp → Prop} {hb : Bool} {CW : It → Addr → St → VK → Hp → Prop} {elt iter : Expr} {ifs : List Expr} {x : Str} {px pos : Pos} {sc : Scope} {wi : TI} {tt : TT} {te : TE} (caps : List Nat) (capsN : List Str)
    (hi : PI X (.Name x px) iter wi hb)
    (ht : ∀ cl C s H ex pn, PTs (cxComp X (x :: capsN) sc cl C s H ex pn) ifs tt)
    (he : ∀ cl C s H ex pn, PE (cxComp X (x :: capsN) sc cl C s H ex pn) elt te)
    (hkind : sc.kind = .function) (hcell : ∀ y ∈ sc.names, y.2 ≠ .cell) (hnames : ∀ y ∈ sc.names, y.2 = .local → sc.names.lookup y.1 = some .local) (hx : sc.names.lookup x = some .local)
    (hfr : ∀ y ∈ sc.names, y.2 = .free → y.1 ∈ capsN)
    (hcap : ∀ (j : Nat) (y : Str), capsN[j]? = some y → ∃ i : Nat, caps[j]? = some i ∧ X.N[i]? = some y ∧ sc.names.lookup y = some .free ∧ (X.env.kindOf y = some .cell ∨ X.env.kindOf y = some .free)) (hlen : caps.length = capsN.length)
    (hnd : (x :: capsN).Nodup) (hc : X.calm = true ∨ (hb = true ∧ ∀ s H, HOk X.prog X.w H s.heap → Gs H → HandQ X s)) (kW : ∀ J p cs Q H1, CW J p cs Q H1 → CompWG Gs J p tt te cs Q H1)
    (hs : ∀ x, foldedSetIterable iter X.env x = pure x) (I : Inv X pins σ H s) (h : tCompC CW wi caps σ H Q)
    (fin : ∀ (C p : Addr) (H5 : Hp) (s5 : Shared), (∃ m, s5.heap.Ns C m) → Inv X pins σ H5 s5 → FpOk X pins H5 C → Q (.ref p) H5 → compPost (model X.prog X.w) X.A X.xe use Post (.ref p) C (.ok .next) s5) :
    wpAny (model X.prog X.w) X.A (comprehension (.ListComp elt [⟨.Name x px, iter, ifs, 0⟩] sc pos) sc X.env (firstIterPos [⟨.Name x px, iter, ifs, 0⟩] pos) (newList []) (firstAsync [⟨.Name x px, iter, ifs, 0⟩]) (firstIter [⟨.Name x px, iter, ifs, 0⟩] X.env) use) Post X.xe s := by
  have hEnd : ∀ s H, HOk X.prog X.w H s.heap → Gs H → EndQ hb X s := by
    rcases hc with hc | ⟨e, k⟩
    · exact fun _ _ _ _ => .inl (I.ok.hd hc)
    · exact fun s H o g => .inr ⟨e, k s H o g⟩
  obtain ⟨cl, hclos, hq2, hq3⟩ := closure_ok (env := X.env) (sc := sc) (fun y hy hf => by
    obtain ⟨j, hj⟩ := List.mem_iff_getElem?.mp (hfr y hy hf)
    obtain ⟨_, _, _, _, k⟩ := hcap j y.1 hj
    exact I.ok.has y.1 k)
  refine wpAny_comprehension_free (use := use) rfl hs hclos hkind hnames (thn (hi pins s σ H _ I h) fun v s1 h1 => thn h1 fun itv s2 h2 => ?_)
  obtain ⟨it, fp, tn, J, H2, e, I2, T, st2, f2, q⟩ := h2
  subst e
  refine wpAny_newObj_type (wpAny_newFunctionEnv hcell (by intro y hy; simp at hy) (fun h1 hns hsb => ?_) hkind)
  dsimp only at hns hsb ⊢
  obtain ⟨W, ⟨m0, w0⟩, turn⟩ := kW _ _ _ _ _ (q s2.heap.objs.size (I2.hok.fresh (Nat.le_refl _)))
  have I3 : Inv X pins σ (upd H2 s2.heap.objs.size (.lst [])) { s2 with heap := s2.heap.push { cls := .type "list", dict := none, data := .seq ([] : List Value).toArray }, toks := s2.toks } := I2.lnew (its := []) (ys := []) (t' := s2.toks) .nil (Nat.zero_le _)
  generalize hH3 : s2.heap.push { cls := .type "list", dict := none, data := .seq ([] : List Value).toArray } = g3 at hns hsb I3 ⊢
  have hsz3 : g3.objs.size = s2.heap.objs.size + 1 := by rw [← hH3, Heap.size_push]
  generalize hHp : upd H2 s2.heap.objs.size (.lst []) = Hp3 at w0 I3
  have hlt : ∀ b o, g3.get? b = some o → b ≠ g3.objs.size := fun b o e => Nat.ne_of_lt (Heap.lt_size e)
  have old : ∀ b o, g3.get? b = some o → h1.get? b = some o := fun b o e => hsb.extBut b o (hlt b o e) (Heap.get?_push_of_some _ e)
  have fpo : ∀ b ∈ fp, ∃ o, g3.get? b = some o := fun b hb => by
    obtain ⟨o, e, _⟩ := T.obj 0 s2.heap st2 b hb
    exact ⟨o, by rw [← hH3]; exact Heap.get?_push_of_some _ e⟩
  have fpC : ∀ b ∈ fp, b ≠ g3.objs.size := fun b hb => by obtain ⟨o, e⟩ := fpo b hb; exact hlt b o e
  have fpH : ∀ b ∈ fp, Hp3 b = none := fun b hb => by
    obtain ⟨o, e, _⟩ := T.obj 0 s2.heap st2 b hb
    rw [← hHp, upd_ne (Nat.ne_of_lt (Heap.lt_size e))]
    exact (f2 b hb).1
  have fsSub : ∀ b, b ≠ X.env.locals → b ∉ X.fs → b ∉ frs X.stack := fun b h1 h2 z => by
    rcases List.mem_cons.mp (I2.stkSub b z) with z | z
    · exact h1 z
    · exact h2 z
  -- the block's context
  have okc : (cxComp X (x :: capsN) sc cl g3.objs.size { s2 with heap := g3, toks := s2.toks } Hp3 fp (X.pn ++ pins)).Ok := by
    refine ⟨I3.ok.mod, hkind, I3.ok.glob, I3.ok.blt, Nat.le_refl _, fun y z c e1 e2 => I3.ok.inj y z c (hq2 y c e1) (hq2 z c e2), fun y hy => ?_, fun y c z => absurd z Bool.false_ne_true, I3.ok.hd, I3.ok.frames, .inl rfl, fun b hb => ⟨fpC b hb, fun y c e => (f2 b hb).2.2.2.2.1 y c (hq2 y c e)⟩,
      I3.bs, Nat.le_trans I3.ok.bsz I3.sz, fun b o e hb => ?_, fun b hb => fsSub b (f2 b hb).2.1 (f2 b hb).2.2.1, I3.stack, I3.stkFree⟩
    · have hy' : ∃ k, (relabel sc X.env).names.lookup y = some k ∧ (k = .cell ∨ k = .free) := by
        rcases hy with hy | hy
        · exact ⟨_, hy, .inl rfl⟩
        · exact ⟨_, hy, .inr rfl⟩
      obtain ⟨k, e, hk⟩ := hy'
      obtain ⟨k0, e0, hk0⟩ := relabel_look e
      have em := PySem.mem_of_lookup e0
      rcases hk0 with rfl | ⟨rfl, _⟩
      · rcases hk with rfl | rfl
        · exact absurd rfl (hcell _ em)
        · exact hq3 _ em rfl
      · exact hq3 _ em rfl
    · rcases (f2 b hb).2.2.2.1 with z | z
      · exact I3.ok.noex b o e z
      · have h1 : b < X.base.objs.size := Heap.lt_size e
        have h2 := I3.ok.bsz
        exact absurd (Nat.lt_of_lt_of_le h1 (Nat.le_trans h2 z)) (Nat.lt_irrefl _)
  have Ic : Inv (cxComp X (x :: capsN) sc cl g3.objs.size { s2 with heap := g3, toks := s2.toks } Hp3 fp (X.pn ++ pins)) [] (none :: capV σ caps) Hp3 { s2 with heap := h1, toks := s2.toks + ([] : List (Str × Value)).length } := by
    refine ⟨okc, rfl, I3.bare, Un.kept old, ⟨_, hns, fun i y v e1 e2 e3 => ?_⟩, fun y c e => ?_, I3.hok.fresh (Nat.le_refl _), fun y c e => I3.freeC y c (hq2 y c e), fun p hp => ?_, I3.hok.kept old, ?_⟩
    · cases i with
      | zero => cases e2
      | succ j =>
        have e1' : capsN[j]? = some y := e1
        obtain ⟨i, c1, c2, c3, c4⟩ := hcap j y e1'
        have e2' : (capV σ caps)[j]? = some (some v) := e2
        have hv : σ[i]? = some (some v) := by
          unfold capV at e2'
          rw [List.getElem?_map, c1] at e2'
          have e4 : (σ[i]?).getD none = some v := Option.some.inj e2'
          cases e5 : σ[i]? with
          | none => rw [e5] at e4; cases e4
          | some w => rw [e5] at e4; exact congrArg some e4
        obtain ⟨m, _, hl⟩ := I3.loc
        have vis : Vis X.env.scope y := by
          rcases c4 with z | z
          · exact .inr (.inl z)
          · exact .inr (.inr z)
        obtain ⟨u, r, l⟩ := hl i y v c2 hv vis
        refine ⟨u, r, .inr ⟨relabel_free c3, ?_⟩⟩
        rcases l with ⟨lk, _⟩ | ⟨_, c, ec, o, ho, hd⟩
        · rcases c4 with z | z <;> (rw [lk] at z; cases z)
        · obtain ⟨c', e'⟩ := hq3 _ (PySem.mem_of_lookup c3) rfl
          have e'' := hq2 _ _ e'
          have e3' : (some c' : Option Addr) = some c := e''.symm.trans ec
          cases e3'
          exact ⟨c, e', o, old _ _ ho, hd⟩
    · obtain ⟨v, o, ho, hd⟩ := I3.cell y c (hq2 y c e)
      exact ⟨v, o, old _ _ ho, hd⟩
    · have hp' : p ∈ X.pn ++ pins := by simpa using hp
      obtain ⟨e1, e2, e3, e4, e5⟩ := I3.pin p hp'
      exact ⟨old _ _ e1, e2, hlt _ _ e1, fsSub _ e3 e4, e5⟩
    · show (capV σ caps).length + 1 = capsN.length + 1
      unfold capV
      rw [List.length_map, hlen]
  have stat : ∀ {H' : Hp}, (∀ b ∈ fp, H' b = none) → ∀ b ∈ fp, FpOk (cxComp X (x :: capsN) sc cl g3.objs.size { s2 with heap := g3, toks := s2.toks } Hp3 fp (X.pn ++ pins)) [] H' b := fun hn b hb =>
    ⟨hn b hb, fpC b hb, fsSub b (f2 b hb).2.1 (f2 b hb).2.2.1, .inl hb, fun y c e => (f2 b hb).2.2.2.2.1 y c (hq2 y c e), fun p hp => (f2 b hb).2.2.2.2.2 p (by simpa using hp)⟩
  -- behind the block
  have back : ∀ {pins5 : List (Addr × Obj)} {σ5 : St} {H5 : Hp} {s5 : Shared} {h' : Heap}, Inv (cxComp X (x :: capsN) sc cl g3.objs.size { s2 with heap := g3, toks := s2.toks } Hp3 fp (X.pn ++ pins)) pins5 σ5 H5 s5 → Heap.SameBut g3.objs.size s5.heap h' → Inv X pins σ H5 { s5 with heap := h' } := by
    intro pins5 σ5 H5 s5 h' I5 sb
    have un : Un (frs X.stack) fp Hp3 H5 g3 s5.heap := I5.base
    have fr : H5 g3.objs.size = none := I5.free
    have un' : Un (frs X.stack) fp Hp3 H5 g3 h' := ⟨fun b o e n hb hx => (sb.2 b (hlt b o e)).trans (un.keep b o e n hb hx),
      fun b o e n hb hx => by obtain ⟨sl, z⟩ := un.slot b o e n hb hx; exact ⟨sl, (sb.2 b (hlt b o e)).trans z⟩, un.free,
      fun b o e hx => by obtain ⟨o', z⟩ := un.there b o e hx; exact ⟨o', (sb.2 b (hlt b o e)).trans z⟩, un.tups, un.frzs, un.tbls⟩
    have hok : HOk X.prog X.w H5 h' := fun b u e => (I5.hok b u e).stay (fun c v hc' z => (sb.2 c (by
      rintro rfl
      rcases hc' with hc' | hc'
      · rw [hc', e] at fr; cases fr
      · rw [fr] at hc'; cases hc')).trans z) (fun _ z => z) (fun _ _ z => z)
    obtain ⟨hh, g, d, t, os⟩ := s5
    have eo : os = s2.os := I5.os
    subst eo
    have z := I3.call (h' := h') (g' := g) (d' := d) (t' := t) (ch := fp) un' hok I5.bare fun b hb => ⟨(f2 b hb).2.2.2.1, (f2 b hb).2.1, (f2 b hb).2.2.2.2.1, (f2 b hb).2.2.2.2.2⟩
    exact z
  have st4 : tn 0 h1 := T.keep 0 s2.heap h1 st2 fun b hb o e => old b o (by rw [← hH3]; exact Heap.get?_push_of_some _ e)
  have loop : codeAny (model X.prog X.w) X.A (.compLoop (.ListComp elt [⟨.Name x px, iter, ifs, 0⟩] sc pos) 0 (.ref it) (.ref s2.heap.objs.size) (compEnvC sc cl g3.objs.size X.env))
      (compPost (model X.prog X.w) X.A X.xe use Post (.ref s2.heap.objs.size) g3.objs.size) { s2 with heap := h1, toks := s2.toks + ([] : List (Str × Value)).length } := by
    refine comp_loop (fun n s' => ∃ i ys v0 H', Inv (cxComp X (x :: capsN) sc cl g3.objs.size { s2 with heap := g3, toks := s2.toks } Hp3 fp (X.pn ++ pins)) [] (v0 :: capV σ caps) H' s' ∧ tn i s'.heap ∧ (∀ b ∈ fp, H' b = none) ∧ W i n ys H') ?_ m0 ⟨0, [], none, Hp3, Ic, st4, fpH, w0⟩
    rintro n s' ⟨i, ys, v0, H', I', st', fr', w'⟩
    rcases turn i n ys H' w' with ⟨stop, gs, qn⟩ | ⟨go, gs, N, hN, step⟩
    · refine thn (T.done (cxComp X (x :: capsN) sc cl g3.objs.size { s2 with heap := g3, toks := s2.toks } Hp3 fp (X.pn ++ pins)) rfl rfl rfl s' (hEnd s' H' I'.hok gs) i [] _ H' NoX I' (stat fr') st' stop) fun r s5 ⟨hr, I5⟩ => ?_
      subst hr
      obtain ⟨m, hn, _⟩ := id I5.loc
      exact fin g3.objs.size s2.heap.objs.size H' s5 ⟨m, hn⟩ (back (h' := s5.heap) I5 ⟨rfl, fun _ _ => rfl⟩) (I3.fpOk (Nat.le_refl _) I5.free) qn
    · refine thn (T.item (cxComp X (x :: capsN) sc cl g3.objs.size { s2 with heap := g3, toks := s2.toks } Hp3 fp (X.pn ++ pins)) rfl rfl rfl s' (hEnd s' H' I'.hok gs) i [] _ H' NoX I' (stat fr') st' go) fun r s5 ⟨u, hr, h5⟩ => ?_
      subst hr
      refine thn h5 fun _ s6 ⟨v, H6, I6, r6, y6, st6, fr6⟩ => ?_
      have I6' := I6.pinned (stat fr6) (T.obj _ _ st6)
      have again : ∀ {σ7 : St} {H7 : Hp} {s7 : Shared} {ys' : List V}, σ7 = some v :: capV σ caps → Inv (cxComp X (x :: capsN) sc cl g3.objs.size { s2 with heap := g3, toks := s2.toks } Hp3 fp (X.pn ++ pins)) ([] ++ pinsAt fp s6.heap) σ7 H7 s7 → N ys' H7 →
          ∃ m, m < n ∧ ∃ i ys v0 H', Inv (cxComp X (x :: capsN) sc cl g3.objs.size { s2 with heap := g3, toks := s2.toks } Hp3 fp (X.pn ++ pins)) [] (v0 :: capV σ caps) H' s7 ∧ tn i s7.heap ∧ (∀ b ∈ fp, H' b = none) ∧ W i m ys H' := by
        intro σ7 H7 s7 ys' eσ I7 n7
        subst eσ
        obtain ⟨m', hm, w7⟩ := hN ys' H7 n7
        refine ⟨m', hm, i + 1, ys', some v, H7, I7.unpinned, T.keep _ _ _ st6 fun b hb o e => (I7.pin (b, o) (List.mem_append_right _ (List.mem_append_right _ (mem_pinsAt hb e)))).1, fun b hb => ?_, w7⟩
        obtain ⟨o, e, d⟩ := T.obj _ _ st6 b hb
        exact (I7.pin (b, o) (List.mem_append_right _ (List.mem_append_right _ (mem_pinsAt hb e)))).2.1
      refine thn (pg_name (X := cxComp X (x :: capsN) sc cl g3.objs.size { s2 with heap := g3, toks := s2.toks } Hp3 fp (X.pn ++ pins)) (i := 0) hnd rfl (Or.inl (lookup_relabel_local hx)) (.inr (lookup_relabel_local hx)) _ s6 _ H6 v u
        (fun σ' H' => σ' = some v :: capV σ caps ∧ H' = H6) I6' r6 ⟨rfl, rfl⟩) fun _ s7 ⟨σ7, H7, I7, e7, e7'⟩ => ?_
      subst e7 e7'
      refine thn (ht _ _ _ _ _ _ _ s7 _ H7 _ I7 (step v H7 y6)) fun ok s8 ⟨H8, I8, q8⟩ => ?_
      cases ok with
      | false => exact again rfl I8 q8
      | true =>
        refine thn (he _ _ _ _ _ _ _ s8 _ H8 _ I8 q8) fun y s9 ⟨yv, H9, I9, r9, hp9, hz9, n9⟩ => ?_
        refine thn (mt_append (X := cxComp X (x :: capsN) sc cl g3.objs.size { s2 with heap := g3, toks := s2.toks } Hp3 fp (X.pn ++ pins)) _ s9 _ H9 (.ref s2.heap.objs.size) [yv] (.ref s2.heap.objs.size) [y] (fun _ H' => H' = upd H9 s2.heap.objs.size (.lst (ys ++ [yv]))) I9 rfl (.cons r9 .nil)
          ⟨s2.heap.objs.size, ys, yv, rfl, rfl, hp9, hz9, rfl⟩) fun _ s10 ⟨_, H10, I10, _, e10⟩ => ?_
        subst e10
        exact again rfl I10 n9
  exact codeAny_compStart_list loop (T.self X.A 0 _ _ _ st4 loop)

theorem pe_compG {X : Cx} {Gs : Hp → Prop} {hb : Bool} {CW : It → Addr → St → VK → Hp → Prop} {elt iter : Expr} {ifs : List Expr} {x : Str} {px pos : Pos} {sc : Scope} {wi : TI} {tt : TT} {te : TE} (caps : List Nat) (capsN : List Str)
    (hi : PI X (.Name x px) iter wi hb)
    (ht : ∀ cl C s H ex pn, PTs (cxComp X (x :: capsN) sc cl C s H ex pn) ifs tt)
    (he : ∀ cl C s H ex pn, PE (cxComp X (x :: capsN) sc cl C s H ex pn) elt te)
    (hkind : sc.kind = .function) (hcell : ∀ y ∈ sc.names, y.2 ≠ .cell) (hnames : ∀ y ∈ sc.names, y.2 = .local → sc.names.lookup y.1 = some .local) (hx : sc.names.lookup x = some .local)
    (hfr : ∀ y ∈ sc.names, y.2 = .free → y.1 ∈ capsN)
    (hcap : ∀ (j : Nat) (y : Str), capsN[j]? = some y → ∃ i : Nat, caps[j]? = some i ∧ X.N[i]? = some y ∧ sc.names.lookup y = some .free ∧ (X.env.kindOf y = some .cell ∨ X.env.kindOf y = some .free)) (hlen : caps.length = capsN.length)
    (hnd : (x :: capsN).Nodup) (hc : X.calm = true ∨ (hb = true ∧ ∀ s H, HOk X.prog X.w H s.heap → Gs H → HandQ X s)) (kW : ∀ J p cs Q H1, CW J p cs Q H1 → CompWG Gs J p tt te cs Q H1)
    (hs : ∀ x, foldedSetIterable iter X.env x = pure x := by intro _; rfl) :
    PE X (.ListComp elt [⟨.Name x px, iter, ifs, 0⟩] sc pos) (tCompC CW wi caps) := by
  intro pins s σ H Q I h
  rw [eval_ListComp]
  exact comp_go (use := none) caps capsN hi ht he hkind hcell hnames hx hfr hcap hlen hnd hc kW hs I h fun C p H5 s5 ⟨m, hn⟩ I5 f q => ⟨m, hn, fun h' sb => ⟨.ref p, H5, I5.turned (t' := s5.toks) (fun b o hb e => (sb.2 b hb).trans e) f.1 f.2.1 f.2.2.2.1 f.2.2.2.2.1 f.2.2.2.2.2, rfl, q⟩⟩
theorem CompW.g {J : It} {p : Addr} {tt : TT} {te : TE} {cs : St} {Q : VK} {H1 : Hp} (h : CompW J p tt te cs Q H1) : CompWG (fun _ => True) J p tt te cs Q H1 := by
  obtain ⟨W, h0, h1⟩ := h
  refine ⟨W, h0, fun i m ys H2 w => ?_⟩
  rcases h1 i m ys H2 w with ⟨a, b⟩ | ⟨a, b⟩
  · exact .inl ⟨a, trivial, b⟩
  · exact .inr ⟨a, trivial, b⟩
theorem pe_comp {X : Cx} {elt iter : Expr} {ifs : List Expr} {x : Str} {px pos : Pos} {sc : Scope} {wi : TI} {tt : TT} {te : TE} (caps : List Nat) (capsN : List Str)
    (hi : PI X (.Name x px) iter wi)
    (ht : ∀ cl C s H ex pn, PTs (cxComp X (x :: capsN) sc cl C s H ex pn) ifs tt)
    (he : ∀ cl C s H ex pn, PE (cxComp X (x :: capsN) sc cl C s H ex pn) elt te)
    (hkind : sc.kind = .function) (hcell : ∀ y ∈ sc.names, y.2 ≠ .cell) (hnames : ∀ y ∈ sc.names, y.2 = .local → sc.names.lookup y.1 = some .local) (hx : sc.names.lookup x = some .local)
    (hfr : ∀ y ∈ sc.names, y.2 = .free → y.1 ∈ capsN)
    (hcap : ∀ (j : Nat) (y : Str), capsN[j]? = some y → ∃ i : Nat, caps[j]? = some i ∧ X.N[i]? = some y ∧ sc.names.lookup y = some .free ∧ (X.env.kindOf y = some .cell ∨ X.env.kindOf y = some .free)) (hlen : caps.length = capsN.length)
    (hnd : (x :: capsN).Nodup) (hc : X.calm = true)
    (hs : ∀ x, foldedSetIterable iter X.env x = pure x := by intro _; rfl) :
    PE X (.ListComp elt [⟨.Name x px, iter, ifs, 0⟩] sc pos) (tComp wi tt te caps) :=
  pe_compG (Gs := fun _ => True) (hb := false) (CW := fun J p cs Q H1 => CompW J p tt te cs Q H1) caps capsN hi ht he hkind hcell hnames hx hfr hcap hlen hnd (.inl hc) (fun _ _ _ _ _ h => h.g) hs

/-- a block over n items, by its word: turn, what is made so far, heap -/
theorem comp_by {J : It} {p : Addr} {tt : TT} {te : TE} {cs : St} {Q : VK} {H1 : Hp} (n : Nat) (Pv : Nat → List V → Hp → Prop) (h0 : Pv 0 [] (upd H1 p (.lst [])))
    (hs : ∀ i ys H, i < n → Pv i ys H → J.go i H ∧ ∀ v H3, J.yld i H v H3 → tt (some v :: cs) H3 fun b H4 => if b = true then te (some v :: cs) H4 fun y H5 => H5 p = some (.lst ys) ∧ ys.length < sizeLine ∧ Pv (i + 1) (ys ++ [y]) (upd H5 p (.lst (ys ++ [y]))) else Pv (i + 1) ys H4)
    (hd : ∀ ys H, Pv n ys H → J.stop n H ∧ Q (.ref p) H) : CompW J p tt te cs Q H1 := by
  refine ⟨fun i m ys H => m = n - i ∧ i ≤ n ∧ Pv i ys H, ⟨n, by simp, Nat.zero_le _, h0⟩, ?_⟩
  rintro i m ys H ⟨rfl, hi, pv⟩
  by_cases hlt : i < n
  · obtain ⟨g, st⟩ := hs i ys H hlt pv
    exact .inr ⟨g, Pv (i + 1), fun ys' H' p' => ⟨n - (i + 1), by omega, rfl, hlt, p'⟩, st⟩
  · have e : i = n := by omega
    subst e
    exact .inl (hd ys H pv)

/-! ### over a text's signs -/
/-! ### isinstance -/
section
variable {X : Cx}
theorem call_isinst : CallR X (.builtin "isinstance") (fun vs H Q => ∃ x T t b, vs = [x, .ty T] ∧ TyOf X.K H x t ∧ PySem.W.kitOne X.K t (.type T) = some b ∧ Q (.bl b) H) := by
  intro pins s σ H xs us Q I r h
  obtain ⟨x, T, t, b, rfl, ty, e, q⟩ := h
  obtain ⟨u, v, rfl, rx, rv⟩ := r.two
  cases (show v = Value.type T from rv)
  exact isinst_ok I rx ty e fun tk => ⟨.bl b, H, I.tok tk, rfl, q⟩

/-! ### texts -/
/-! ### lists compared, flat items -/
def eqVs : List V → List V → Bool
  | [], [] => true
  | x :: xs, y :: ys => eqV x y && eqVs xs ys
  | _, _ => false
theorem eqVs_len : ∀ {xs ys : List V}, xs.length ≠ ys.length → eqVs xs ys = false
  | [], [], h => absurd rfl h
  | [], _ :: _, _ => rfl
  | _ :: _, [], _ => rfl
  | x :: xs, y :: ys, h => by
    have h' : xs.length ≠ ys.length := fun e => h (by rw [List.length_cons, List.length_cons, e])
    show (eqV x y && eqVs xs ys) = false
    rw [eqVs_len h', Bool.and_false]
def eqAtN (xs ys : List V) (j : Nat) : Bool := match xs[j]?, ys[j]? with
  | some a, some b => eqV a b
  | _, _ => false
theorem all_eqAtN : ∀ {xs ys : List V}, xs.length = ys.length → (List.range xs.length).all (eqAtN xs ys) = eqVs xs ys
  | [], [], _ => rfl
  | [], _ :: _, h => by simp at h
  | _ :: _, [], h => by simp at h
  | x :: xs, y :: ys, h => by
    have h' : xs.length = ys.length := by simpa using h
    rw [List.length_cons, List.range_succ_eq_map, List.all_cons, List.all_map]
    have e : ((eqAtN (x :: xs) (y :: ys)) ∘ Nat.succ) = eqAtN xs ys := by
      funext j
      simp [eqAtN]
    rw [e, all_eqAtN h']
    rfl
theorem items_eqAt {A : Around} {s : Shared} {xs ys : List V} {us vs : List Value} (r : Vals xs us) (q : Vals ys vs) (fx : xs.all flatV = true) (fy : ys.all flatV = true) (j : Nat) (h1 : j < us.toArray.size) (h2 : j < vs.toArray.size) :
    SeqAt.EqAt A s us.toArray[j] vs.toArray[j] (eqAtN xs ys j) := by
  have l1 := r.length
  have l2 := q.length
  have h1' : j < xs.length := by rw [l1]; simpa using h1
  have h2' : j < ys.length := by rw [l2]; simpa using h2
  obtain ⟨u, eu, ru⟩ := r.get (i := j) (x := xs[j]) (by simp [h1'])
  obtain ⟨v, ev, rv⟩ := q.get (i := j) (x := ys[j]) (by simp [h2'])
  have e1 : us.toArray[j] = u := by
    obtain ⟨_, e⟩ := List.getElem?_eq_some_iff.mp eu
    simpa using e
  have e2 : vs.toArray[j] = v := by
    obtain ⟨_, e⟩ := List.getElem?_eq_some_iff.mp ev
    simpa using e
  have e3 : eqAtN xs ys j = eqV xs[j] ys[j] := by simp [eqAtN, h1', h2']
  rw [e1, e2, e3]
  exact eqAt_V ru rv (List.all_eq_true.mp fx _ (List.getElem_mem h1')) (List.all_eq_true.mp fy _ (List.getElem_mem h2'))
def rEqL (K : PySem.W.Frag) (neg : Bool) : R2 := fun x y H Q => ∃ a b xs ys, x = .ref a ∧ y = .ref b ∧ SqL K H a xs ∧ SqL K H b ys ∧ xs.all flatV = true ∧ ys.all flatV = true ∧ Q (.bl (if neg then !eqVs xs ys else eqVs xs ys)) H
theorem op_eqL (hu : X.A.units < cLine) : OpR X (compareOp .Eq) (rEqL X.K false) := by
  intro pins s σ H x y v u Q I rx ry h
  obtain ⟨a, b, xs, ys, rfl, rfl, ha, hb, fx, fy, q⟩ := h
  cases rx
  cases ry
  obtain ⟨its, r1, p1, _⟩ := I.list ha
  obtain ⟨its2, r2, p2, _⟩ := I.list hb
  have l1 := r1.length
  have l2 := r2.length
  by_cases hl : xs.length = ys.length
  · refine SeqAt.eq_listAt (e := eqAtN xs ys) p1.isList p2.isList (by simp; omega) hu (fun j h1 h2 => items_eqAt r1 r2 fx fy j h1 h2) ⟨.bl _, H, I, rfl, ?_⟩
    rw [List.size_toArray, ← l1, all_eqAtN hl]
    exact q
  · refine SeqAt.eq_list_lengthsAt p1.isList p2.isList (by simp; omega) hu ⟨.bl false, H, I, rfl, ?_⟩
    have e := eqVs_len hl
    simp only [e] at q
    exact q
theorem op_neL (hu : X.A.units < cLine) : OpR X (compareOp .NotEq) (rEqL X.K true) := by
  intro pins s σ H x y v u Q I rx ry h
  obtain ⟨a, b, xs, ys, rfl, rfl, ha, hb, fx, fy, q⟩ := h
  cases rx
  cases ry
  obtain ⟨its, r1, p1, _⟩ := I.list ha
  obtain ⟨its2, r2, p2, _⟩ := I.list hb
  have l1 := r1.length
  have l2 := r2.length
  by_cases hl : xs.length = ys.length
  · refine SeqAt.RcNeAt.lists (e := eqAtN xs ys) p1.isList p2.isList (by simp; omega) hu (fun j h1 h2 => items_eqAt r1 r2 fx fy j h1 h2) _ _ _ _ ⟨.bl _, H, I, rfl, ?_⟩
    rw [List.size_toArray, ← l1, all_eqAtN hl]
    exact q
  · refine SeqAt.RcNeAt.lists_lengths p1.isList p2.isList (by simp; omega) hu _ _ _ _ ⟨.bl true, H, I, rfl, ?_⟩
    have e := eqVs_len hl
    simp only [e] at q
    exact q

/-! ### sum of a list of ints -/
/-! ### // by any written positive number -/
/-! ### tuples put together: whichever is empty -/
end
end L2
namespace L2
open PySem PySem.Spec PyProof.Rows
/-! ### comprehensions whose target is any: a tuple of names -/
end L2
namespace L2
open PySem PySem.Spec PyProof.Rows

/-! ### an exception of an own class: its object, its traceback -/
section
variable {M : Model} {A : Around} {E : Value → Shared → Prop} {s : Shared}
end
end L2
namespace L2
open PySem PySem.Spec PyProof.Rows PySem.W PySem.Builtin PySem.Builtin.ObjectAttr

/-! ### a field of an exception of an own class is stored, read -/
section
variable {prog : Program} {w : World} {A : Around} {E : Value → Shared → Prop} {s : Shared} {K : Frag} {x C : Addr} {ox : Obj} {od : Option Obj} {R : Result → Shared → Prop}
end
end L2
namespace L2
open PySem PySem.Spec PyProof.Rows PySem.W

/-! ### an exception of an own class with an own __init__ is made -/
section
variable {prog : Program} {w : World} {A : Around} {E : Value → Shared → Prop} {h : Heap} {g : Array GenState} {d : Drawn} {t : Nat} {os : OsState} {nm q : Str} {C N fI : Addr} {bs bm bmB rest : List Value} {hdct : Bool} {sn : List Str} {sub : List Value}
  {ab : Bool} {col : Option Bool} {dd : Option Addr} {k0 k1 k2 k3 k5 : Option Value} {B newId initId : String}
end
end L2
namespace L2
open PySem PySem.Spec PyProof.Rows PySem.W
section
variable {M : Model} {A : Around} {E : Value → Shared → Prop} {h : Heap} {g : Array GenState} {d : Drawn} {t : Nat} {os : OsState} {nm q : Str} {C N : Addr} {bs bm : List Value} {hdct : Bool} {sn : List Str} {sub : List Value}
  {ab : Bool} {col : Option Bool} {dd : Option Addr} {k0 k1 k2 k3 k5 : Option Value} {newId : String} {env : Env}
variable {nm2 q2 : Str} {D N2 : Addr} {bs2 bm2 : List Value} {hdct2 : Bool} {sn2 : List Str} {sub2 : List Value} {ab2 : Bool} {col2 : Option Bool} {dd2 : Option Addr} {j0 j1 j2 j3 j5 : Option Value} {newId2 : String}
end
end L2
namespace L2
open PySem PySem.Spec PyProof.Rows PySem.W

/-! ### exceptions in the abstract heap -/
section
variable {P : Program} {w : World} {H : Hp} {h : Heap} {e C dx : Addr} {dd : Option Addr} {tb : Value} {fs : List (Str × V)}
end
section
variable {X : Cx} {pins : List (Addr × Obj)} {σ : St} {H : Hp} {s : Shared} {h' : Heap} {ea C T : Addr} {dd : Option Addr} {tb : Value}
end

/-! ### how an exception lies behind a call; within a body -/
section
variable {X : Cx} {pins : List (Addr × Obj)} {σ : St} {H : Hp} {s s' : Shared} {E : XK} {e : Value}
end
end L2
namespace L2
open PySem PySem.Spec PyProof.Rows PySem.W

/-! ### an own class of exceptions, by the text -/
section
variable {X : Cx} {CX : CXT} {k : Nat} {f C : Addr} {bm : List Value} {fd : FuncData} {ps : List Str} {sp : Sp} {dvs : List V} {ds : List Value} {E : XK} {x m : Str} {p pos apos : Pos} {e o : Expr} {es : List Expr} {ta : TE} {t : TA}
end

/-! ### its fields -/
section
variable {X : Cx} {pins : List (Addr × Obj)} {σ : St} {H : Hp} {s : Shared} {a C dx : Addr} {fs : List (Str × V)} {f : Str} {A : Around} {E : Value → Shared → Prop}
end
section
variable {X : Cx} {o e value : Expr} {f : Str} {pos pos' tpos : Pos} {ta tv : TE}
end
/-! ### an own exception class without an __init__ of its own -/
section
variable {X : Cx} {C : Addr} {bm : List Value} {x : Str} {p pos : Pos}
end
end L2
namespace L2
open PySem PySem.Spec PyProof.Rows PySem.W

/-! ### code whose exceptions are caught in the same body -/
section
variable {X : Cx} {k : Nat} {f C : Addr} {fd : FuncData} {ps : List Str} {sp : Sp} {dvs : List V} {ds : List Value} {E : XK} {x m : Str} {p pos apos : Pos} {e o : Expr} {es : List Expr} {ta : TE} {t : TA}
end

/-! ### try: .. except D as n: .. -/
section
variable {X : Cx} {pins : List (Addr × Obj)} {σ : St} {H : Hp} {s : Shared} {ea : Addr}
end
section
variable {X : Cx} {body suite : List Stmt} {b₀ : Stmt} {tb : TB} {ts : Addr → TS} {wn n : Str} {D : Addr} {bmD : List Value} {i : Nat} {np hpos pos : Pos}
end
end L2
namespace L2
open PySem PySem.Spec PyProof.Rows
section
variable {X : Cx}
end
end L2
/-! ### general words over the layer -/
namespace L2
open PySem PySem.Spec PyProof.Rows
section
variable {P : Program} {w : World} {K : PySem.W.Frag} {mg : Str → Option Value} {base : Heap}
theorem same_new {H : Hp} {p : Addr} (h : H p = none) (o : HO) : Same H (upd H p o) := fun b u q => by rw [upd_ne (ne_of_none q h)]; exact q
theorem same_over {H H' : Hp} {p : Addr} (s : Same H H') (h : H p = none) (o : HO) : Same H (upd H' p o) := fun b u q => by rw [upd_ne (ne_of_none q h)]; exact s b u q
theorem small {n : Nat} (h : n ≤ 100000) : n < sizeLine := Nat.lt_of_le_of_lt h (by decide)
structure Has (K : PySem.W.Frag) (mg : Str → Option Value) (x : Str) (st : Stmt) (ps : List Str) (f : Addr) (fd : FuncData) : Prop where
  fn : Fun K x x st f fd
  bd : Binds K fd ps []
  nm : mg x = some (.ref f)
end
end L2
namespace L2
open PySem PyProof.Rows
/-- an if whose ends go on as one: R holds behind either -/
theorem if_rest {c : TT} {t : TS} {rt : VK} {bk ct : St → Hp → Prop} {σ : St} {H : Hp} {U : St → Hp → Prop} (R : St → Hp → Prop) (h1 : ∀ σ' H', R σ' H' → U σ' H') (h2 : (∀ σ' H', R σ' H' → U σ' H') → tIfS c t tNext { nx := U, rt := rt, bk := bk, ct := ct } σ H) :
    tIfS c t tNext { nx := U, rt := rt, bk := bk, ct := ct } σ H := h2 h1
theorem at_next {i : Nat} {v : V} {σ : St} {H : Hp} {k : St → Hp → Prop} (h : k (σ.set i (some v)) H) : gName i v σ H k := h
theorem seq_in {t u : TS} {D : Ends} {σ : St} {H : Hp} (h : t { nx := u D, rt := D.rt, bk := D.bk, ct := D.ct } σ H) : tSeq t u D σ H := h
/-! ### classes of exceptions by the text -/
end L2
namespace L2
open PySem PySem.Spec PyProof.Rows
/-! ### lists of pairs as tables -/
section
variable {κ : Type} [DecidableEq κ]
def valV (kvs : List (κ × V)) (k : κ) : Option V := (kvs.find? fun kv => decide (kv.1 = k)).map (·.2)
/-- in its place, or at the end -/
def putK (kvs : List (κ × V)) (k : κ) (v : V) : List (κ × V) :=
  if (kvs.any fun kv => decide (kv.1 = k)) = true then kvs.map (fun kv => if kv.1 = k then (kv.1, v) else kv) else kvs ++ [(k, v)]
theorem valV_pos {p : κ × V} {r : List (κ × V)} {k : κ} (e : p.1 = k) : valV (p :: r) k = some p.2 := by simp [valV, List.find?_cons, e]
theorem valV_neg {p : κ × V} {r : List (κ × V)} {k : κ} (e : ¬ p.1 = k) : valV (p :: r) k = valV r k := by simp [valV, List.find?_cons, e]
theorem valV_any (k : κ) : ∀ kvs : List (κ × V), (kvs.any fun kv => decide (kv.1 = k)) = (valV kvs k).isSome
  | [] => rfl
  | p :: r => by
    rw [List.any_cons]
    by_cases e : p.1 = k
    · simp only [valV_pos e, decide_eq_true e, Bool.true_or, Option.isSome_some]
    · rw [valV_neg e, decide_eq_false e, Bool.false_or]; exact valV_any k r
theorem valV_map (k j : κ) (y : V) : ∀ kvs : List (κ × V), valV (kvs.map fun kv => if kv.1 = k then (kv.1, y) else kv) j = (valV kvs j).map fun x => if j = k then y else x
  | [] => rfl
  | p :: r => by
    have ih := valV_map k j y r
    rw [List.map_cons]
    by_cases h : p.1 = k
    · rw [if_pos h]
      by_cases e : p.1 = j
      · rw [valV_pos (p := (p.1, y)) e, valV_pos e, Option.map_some, if_pos (e.symm.trans h)]
      · rw [valV_neg (p := (p.1, y)) e, valV_neg e, ih]
    · rw [if_neg h]
      by_cases e : p.1 = j
      · rw [valV_pos (p := p) e, valV_pos e, Option.map_some, if_neg (fun z => h (e.trans z))]
      · rw [valV_neg (p := p) e, valV_neg e, ih]
theorem valV_snoc (k j : κ) (y : V) : ∀ kvs : List (κ × V), valV kvs k = none → valV (kvs ++ [(k, y)]) j = if j = k then some y else valV kvs j
  | [], _ => by
    by_cases e : k = j
    · rw [if_pos e.symm]; exact valV_pos (p := (k, y)) e
    · rw [if_neg (fun z => e z.symm)]; exact valV_neg (p := (k, y)) e
  | p :: r, hn => by
    rw [List.cons_append]
    have hk : ¬ p.1 = k := fun z => by rw [valV_pos z] at hn; cases hn
    rw [valV_neg hk] at hn
    have ih := valV_snoc k j y r hn
    by_cases e : p.1 = j
    · rw [valV_pos e, valV_pos e, if_neg (fun z => hk (e.trans z))]
    · rw [valV_neg e, valV_neg e, ih]
theorem valV_put (kvs : List (κ × V)) (k j : κ) (y : V) : valV (putK kvs k y) j = if j = k then some y else valV kvs j := by
  unfold putK
  by_cases a : (kvs.any fun kv => decide (kv.1 = k)) = true
  · rw [if_pos a, valV_map]
    rw [valV_any] at a
    by_cases e : j = k
    · obtain ⟨x, hx⟩ := Option.isSome_iff_exists.mp a
      rw [if_pos e, e, hx, Option.map_some, if_pos rfl]
    · rw [if_neg e]
      cases valV kvs j with
      | none => rfl
      | some x => rw [Option.map_some, if_neg e]
  · rw [if_neg a]
    refine valV_snoc k j y kvs ?_
    rw [valV_any] at a
    cases q : valV kvs k with
    | none => rfl
    | some x => rw [q] at a; exact (a rfl).elim
theorem length_putK (kvs : List (κ × V)) (k : κ) (v : V) : (putK kvs k v).length ≤ kvs.length + 1 := by
  unfold putK
  split
  · rw [List.length_map]; omega
  · rw [List.length_append, List.length_cons, List.length_nil]; omega
theorem putK_new {kvs : List (κ × V)} {k : κ} (v : V) (h : valV kvs k = none) : putK kvs k v = kvs ++ [(k, v)] := by
  unfold putK
  rw [valV_any, h]
  exact if_neg (by decide)

theorem RelO.isSome_eq {o : Option V} {u : Option Value} (r : RelO o u) : o.isSome = u.isSome := by
  cases o with
  | none => cases u with
    | none => rfl
    | some _ => exact (show False from r).elim
  | some _ => cases u with
    | none => exact (show False from r).elim
    | some _ => rfl
/-- raw tables of the same keys -/
theorem KV.val {kvs : List (κ × V)} {vs : List (κ × Value)} (r : KV kvs vs) (k : κ) : RelO (valV kvs k) (valueAt vs k) := by
  unfold KV at r
  induction r with
  | nil => exact True.intro
  | @cons p q ps qs h t ih =>
    obtain ⟨h1, h2⟩ := h
    by_cases e : p.1 = k
    · have e' : q.1 = k := h1.symm.trans e
      have b : valueAt (q :: qs) k = some q.2 := by simp [valueAt, List.find?_cons, e']
      rw [valV_pos e, b]; exact h2
    · have e' : ¬ q.1 = k := fun z => e (h1.trans z)
      have b : valueAt (q :: qs) k = valueAt qs k := by simp [valueAt, List.find?_cons, e']
      rw [valV_neg e, b]; exact ih
theorem KV.any {kvs : List (κ × V)} {vs : List (κ × Value)} (r : KV kvs vs) (k : κ) : (kvs.any fun kv => decide (kv.1 = k)) = vs.any fun kv => decide (kv.1 = k) := by
  unfold KV at r
  induction r with
  | nil => rfl
  | cons h t ih => rw [List.any_cons, List.any_cons, ih, h.1]
theorem KV.repl {kvs : List (κ × V)} {vs : List (κ × Value)} (r : KV kvs vs) (k : κ) {y : V} {u : Value} (ry : RelV y u) :
    KV (kvs.map fun kv => if kv.1 = k then (kv.1, y) else kv) (vs.map fun kv => if kv.1 = k then (kv.1, u) else kv) := by
  unfold KV at r ⊢
  induction r with
  | nil => exact .nil
  | @cons p q ps qs h t ih =>
    rw [List.map_cons, List.map_cons]
    refine .cons ?_ ih
    obtain ⟨h1, h2⟩ := h
    by_cases e : p.1 = k
    · rw [if_pos e, if_pos (h1.symm.trans e)]; exact ⟨h1, ry⟩
    · rw [if_neg e, if_neg (fun z => e (h1.trans z))]; exact ⟨h1, h2⟩
theorem KV.put {kvs : List (κ × V)} {vs : List (κ × Value)} (r : KV kvs vs) (k : κ) {y : V} {u : Value} (ry : RelV y u) : KV (putK kvs k y) (stored vs k u) := by
  unfold putK stored
  rw [r.any k]
  by_cases e : (vs.any fun kv => decide (kv.1 = k)) = true
  · rw [if_pos e, if_pos e]; exact r.repl k ry
  · rw [if_neg e, if_neg e]; exact Paired.snoc r ⟨rfl, ry⟩
theorem KV.length {kvs : List (κ × V)} {vs : List (κ × Value)} (r : KV kvs vs) : kvs.length = vs.length := Paired.length r
end


/-! ### a tracked dict, its keys ints and texts or tuples of these -/
theorem kV_is {P : Program} {w : World} {k : Key} {u : Value} (r : RelV (kV k) u) : (mixKind P w).is k u = true := by
  cases k with
  | inl i => obtain ⟨t, e⟩ := (show ∃ t, u = Value.int i t from r); subst e; exact mixKind_int P w i t
  | inr x => obtain ⟨t, e⟩ := (show ∃ t, u = Value.str x t from r); subst e; exact mixKind_str P w x t
theorem items_are {P : Program} {w : World} : ∀ {ks : List Key} {us : List Value}, Vals (ks.map kV) us → ItemsAre (mixKind P w) ks us
  | [], _, r => by rw [List.map_nil] at r; cases r; exact .nil
  | k :: ks, _, r => by
    rw [List.map_cons] at r
    cases r with
    | cons h t => exact .cons (kV_is h) (items_are t)

/-- raw entries of a dict with tuple keys -/
abbrev KT (H : Hp) : List (List Key × V) → List (List Key × Addr × Value) → Prop := Paired fun p q => p.1 = q.1 ∧ H q.2.1 = some (.tup (p.1.map kV)) ∧ RelV p.2 q.2.2
theorem KT.val {H : Hp} {kvs : List (List Key × V)} {xs : List (List Key × Addr × Value)} (r : KT H kvs xs) (k : List Key) : RelO (valV kvs k) ((atKey xs k).map (·.2)) := by
  induction r with
  | nil => exact True.intro
  | @cons p q ps qs h t ih =>
    obtain ⟨h1, _, h2⟩ := h
    by_cases e : p.1 = k
    · have e' : q.1 = k := h1.symm.trans e
      have b : atKey (q :: qs) k = some q.2 := by simp [atKey, List.find?_cons, e']
      rw [valV_pos e, b]; exact h2
    · have e' : ¬ q.1 = k := fun z => e (h1.trans z)
      have b : atKey (q :: qs) k = atKey qs k := by simp [atKey, List.find?_cons, e']
      rw [valV_neg e, b]; exact ih
theorem KT.repl {H : Hp} {kvs : List (List Key × V)} {xs : List (List Key × Addr × Value)} (r : KT H kvs xs) (k : List Key) {y : V} {u : Value} (ry : RelV y u) :
    KT H (kvs.map fun kv => if kv.1 = k then (kv.1, y) else kv) (xs.map (putAt k u)) := by
  induction r with
  | nil => exact .nil
  | @cons p q ps qs h t ih =>
    rw [List.map_cons, List.map_cons]
    refine .cons ?_ ih
    obtain ⟨h1, h2, h3⟩ := h
    unfold putAt
    by_cases e : p.1 = k
    · rw [if_pos e, if_pos (h1.symm.trans e)]; exact ⟨h1, h2, ry⟩
    · rw [if_neg e, if_neg (fun z => e (h1.trans z))]; exact ⟨h1, h2, h3⟩
theorem KT.put {H : Hp} {kvs : List (List Key × V)} {xs : List (List Key × Addr × Value)} (r : KT H kvs xs) (k : List Key) {b : Addr} {y : V} {u : Value} (hb : H b = some (.tup (k.map kV))) (ry : RelV y u) :
    KT H (putK kvs k y) (storedH xs k b u) := by
  have e : (kvs.any fun kv => decide (kv.1 = k)) = (atKey xs k).isSome := by
    rw [valV_any, (r.val k).isSome_eq, Option.isSome_map]
  unfold putK storedH
  rw [e]
  by_cases q : (atKey xs k).isSome = true
  · rw [if_pos q, if_pos q]; exact r.repl k ry
  · rw [if_neg q, if_neg q]; exact Paired.snoc r ⟨rfl, hb, ry⟩
theorem KT.keeps {H H' : Hp} {kvs : List (List Key × V)} {xs : List (List Key × Addr × Value)} (r : KT H kvs xs) (ht : ∀ b ys, H b = some (.tup ys) → H' b = some (.tup ys)) : KT H' kvs xs :=
  Paired.mapP r fun _ _ z => ⟨z.1, ht _ _ z.2.1, z.2.2⟩

section
variable {P : Program} {w : World} {H : Hp} {h : Heap} {a : Addr}
theorem rd_of {u : HO} (ok : HOk P w H h) (e : Rd H a u) : ObjOk P w H h a u := e.ok ok
theorem dk_rd {kvs : List (Key × V)} (ok : HOk P w H h) (e : Rd H a (.dK kvs)) : kvs.length ≤ sizeLine ∧ (a == sysModules) = false ∧ ∃ vs, KV kvs vs ∧ h.DictOf (mixKind P w) a vs :=
  show ObjOk P w H h a (.dK kvs) from rd_of ok e
theorem dk_of {kvs : List (Key × V)} (ok : HOk P w H h) (e : H a = some (.dK kvs)) : kvs.length ≤ sizeLine ∧ (a == sysModules) = false ∧ ∃ vs, KV kvs vs ∧ h.DictOf (mixKind P w) a vs := dk_rd ok (.inl e)
/-- a tracked tuple of ints and texts is a key -/
theorem key_of {ks : List Key} (ok : HOk P w H h) (e : H a = some (.tup (ks.map kV))) : (tupleKind (mixKind P w)).is h ks a := by
  obtain ⟨_, its, r, o, h1, h2, n, h3⟩ := (show ObjOk P w H h a (.tup (ks.map kV)) from ok a _ e)
  exact ⟨o, its.toArray, n, h1, h2, h3, by simpa using items_are r⟩
theorem dt_rd {kvs : List (List Key × V)} (ok : HOk P w H h) (e : Rd H a (.dT kvs)) : kvs.length ≤ sizeLine ∧ (a == sysModules) = false ∧
    ∃ xs, KT H kvs xs ∧ h.DictOfH (tupleKind (mixKind P w)) a xs := by
  obtain ⟨z, y, xs, r, o, es, ep, h1, h2, h3, h4, h5⟩ := (show ObjOk P w H h a (.dT kvs) from rd_of ok e)
  refine ⟨z, y, xs, r, o, es, ep, h1, h2, h3, h4, fun x hx => ?_, h5⟩
  have all : ∀ {l : List (List Key × V)} {m : List (List Key × Addr × Value)}, KT H l m → ∀ x ∈ m, (tupleKind (mixKind P w)).is h x.1 x.2.1 := by
    intro l m q
    induction q with
    | nil => intro x hx; exact nomatch hx
    | @cons p q ps qs hq t ih =>
      intro x hx
      rcases List.mem_cons.mp hx with e | hx
      · subst e
        exact key_of ok (by rw [← hq.1]; exact hq.2.1)
      · exact ih x hx
  exact all r x hx
theorem dt_of {kvs : List (List Key × V)} (ok : HOk P w H h) (e : H a = some (.dT kvs)) : kvs.length ≤ sizeLine ∧ (a == sysModules) = false ∧
    ∃ xs, KT H kvs xs ∧ h.DictOfH (tupleKind (mixKind P w)) a xs := dt_rd ok (.inl e)
end

/-- what the dict at a holds at the key y -/
def DGet (H : Hp) (a : Addr) (y : V) (r : Option V) : Prop :=
  (∃ kvs k, Rd H a (.dK kvs) ∧ y = kV k ∧ r = valV kvs k) ∨ ∃ kvs k b, Rd H a (.dT kvs) ∧ y = .ref b ∧ H b = some (.tup (k.map kV)) ∧ r = valV kvs k
/-- the heap behind a[y] = v -/
def DPut (H : Hp) (a : Addr) (y v : V) (H' : Hp) : Prop :=
  (∃ kvs k, H a = some (.dK kvs) ∧ y = kV k ∧ kvs.length < sizeLine ∧ H' = upd H a (.dK (putK kvs k v))) ∨
  ∃ kvs k b, H a = some (.dT kvs) ∧ y = .ref b ∧ H b = some (.tup (k.map kV)) ∧ kvs.length < sizeLine ∧ H' = upd H a (.dT (putK kvs k v))
theorem DPut.k {H : Hp} {a : Addr} {kvs : List (Key × V)} {k : Key} {v : V} (e : H a = some (.dK kvs)) (hl : kvs.length < sizeLine) : DPut H a (kV k) v (upd H a (.dK (putK kvs k v))) := .inl ⟨kvs, k, e, rfl, hl, rfl⟩
section
variable {X : Cx} {pins : List (Addr × Obj)} {σ : St} {H : Hp} {s : Shared} {a : Addr} {y v : V} {u r : Value} {o : Option V} {A : Around} {E : Value → Shared → Prop}

theorem Inv.big (I : Inv X pins σ H s) : sysModules < s.heap.objs.size := by
  have h : mainGlobals < s.heap.objs.size := (I.mod.glob.keeps I.bk).lt
  exact Nat.lt_trans (by decide) h

/-- d[y], there -/
theorem d_getItem {Q : Value → Shared → Prop} (hu : A.units + 1 < cLine) (I : Inv X pins σ H s) (g : DGet H a y (some v)) (ry : RelV y u) (h : ∀ w' s', Inv X pins σ H s' → RelV v w' → Q w' s') :
    wpAny (model X.prog X.w) A (getItem (.ref a) u) Q E s := by
  rcases g with ⟨kvs, k, e, ey, l⟩ | ⟨kvs, k, b, e, ey, eb, l⟩
  · subst ey
    obtain ⟨z, hd, vs, rel, dd⟩ := dk_rd I.hok e
    obtain ⟨w', hw, rw'⟩ := RelO.some_of (v := v) (o := valueAt vs k) (by rw [l]; exact rel.val k)
    exact wpAny_getItem_of (kV_is ry) dd.mapOf hw (h w' _ (I.tok _) rw')
  · subst ey
    cases (show u = Value.ref b from ry)
    obtain ⟨z, hd, xs, rel, dd⟩ := dt_rd I.hok e
    obtain ⟨w', hw, rw'⟩ := RelO.some_of (v := v) (o := (atKey xs k).map (·.2)) (by rw [l]; exact rel.val k)
    obtain ⟨p, hp, hp2⟩ := Option.map_eq_some_iff.mp hw
    refine wpAny_getItem_heap (tupleKind_room_in1 hu) (key_of I.hok eb) dd hp ?_
    rw [hp2]
    exact h w' _ (I.tok _) rw'
theorem d_notIn {Q : Value → Shared → Prop} (hu : A.units + 1 < cLine) (I : Inv X pins σ H s) (g : DGet H a y o) (ry : RelV y u) (h : ∀ s', Inv X pins σ H s' → Q (.bool (!o.isSome)) s') :
    wpAny (model X.prog X.w) A (compareOp .NotIn u (.ref a)) Q E s := by
  rcases g with ⟨kvs, k, e, ey, l⟩ | ⟨kvs, k, b, e, ey, eb, l⟩
  · subst ey
    obtain ⟨z, hd, vs, rel, dd⟩ := dk_rd I.hok e
    refine wpAny_notIn_of (kV_is ry) hd dd.mapOf ?_
    rw [← (rel.val k).isSome_eq, ← l]
    exact h _ (I.tok _)
  · subst ey
    cases (show u = Value.ref b from ry)
    obtain ⟨z, hd, xs, rel, dd⟩ := dt_rd I.hok e
    refine wpAny_notIn_heap (tupleKind_room_in1 hu) (key_of I.hok eb) hd dd ?_
    have q := (rel.val k).isSome_eq
    rw [Option.isSome_map] at q
    rw [← q, ← l]
    exact h _ (I.tok _)
/-- a dict's object is replaced -/
theorem d_write {h' : Heap} {t' : Nat} {ob : HO} (I : Inv X pins σ H s) (mu : Mut (H a)) (hs : Heap.SameBut a s.heap h') (he : ∃ q, h'.get? a = some q) (new : ObjOk X.prog X.w (upd H a ob) h' a ob) :
    Inv X pins σ (upd H a ob) { s with heap := h', toks := t' } :=
  I.write (x := a) (e := a) mu (.inl rfl) (fun b q hb z => (hs.2 b hb).trans z) he new
theorem dk_new {P : Program} {w : World} {H' : Hp} {h' : Heap} {kvs : List (Key × V)} {vs : List (Key × Value)} (z : kvs.length ≤ sizeLine) (hd : (a == sysModules) = false) (rel : KV kvs vs) (dd : h'.DictOf (mixKind P w) a vs) :
    ObjOk P w H' h' a (.dK kvs) := ⟨z, hd, vs, rel, dd⟩
/-- d[y] = v -/
theorem d_setItem {H' : Hp} {Q : Unit → Shared → Prop} (hu : A.units + 1 < cLine) (I : Inv X pins σ H s) (g : DPut H a y v H') (ry : RelV y u) (rv : RelV v r) (h : ∀ s', Inv X pins σ H' s' → Q () s') :
    wpAny (model X.prog X.w) A (setItem (.ref a) u r) Q E s := by
  rcases g with ⟨kvs, k, e, ey, l, eH⟩ | ⟨kvs, k, b, e, ey, eb, l, eH⟩
  · subst ey eH
    obtain ⟨z, hd, vs, rel, dd⟩ := dk_of I.hok e
    have hz : vs.length ≤ sizeLine := by rw [← rel.length]; exact z
    have hl : (putK kvs k v).length ≤ sizeLine := by have := length_putK kvs k v; omega
    refine wpAny_setItem_pairs (hsz := hz) (kV_is ry) dd fun h' dd' hs => h _ ?_
    have he : ∃ q, h'.get? a = some q := let ⟨q, _, _, hq, _⟩ := dd'; ⟨q, hq⟩
    exact d_write I (by rw [e]; exact True.intro) hs he (dk_new hl hd (rel.put k rv) dd')
  · subst ey eH
    cases (show u = Value.ref b from ry)
    obtain ⟨z, hd, xs, rel, dd⟩ := dt_of I.hok e
    have hz : xs.length ≤ sizeLine := by rw [← Paired.length rel]; exact z
    have hl : (putK kvs k v).length ≤ sizeLine := by have := length_putK kvs k v; omega
    refine wpAny_setItem_heap (hsz := hz) (tupleKind_room_in1 hu) (key_of I.hok eb) dd fun h' dd' hs => h _ ?_
    obtain ⟨q, es, ep, hq, h2, h3, h4, _, h5⟩ := dd'
    refine d_write I (by rw [e]; exact True.intro) hs ⟨q, hq⟩ ⟨hl, hd, _, (rel.put k eb rv).keeps fun c ys ec => ?_, q, es, ep, hq, h2, h3, h4, h5⟩
    rw [upd_ne (ne_of ec e (fun z => nomatch z))]
    exact ec
end

section
variable {X : Cx} {pins : List (Addr × Obj)} {σ : St} {H : Hp} {s : Shared} {a : Addr} {kvs : List (Key × V)} {k : Key} {u : Value} {A : Around} {E : Value → Shared → Prop}
end


/-! ### readings and rules -/
/-- the element of a subscription, not a slice -/
def NoSl (i : Expr) : Prop := ∀ ov iv, subscripted i false ov iv = operate [ov, iv] (getItem ov iv)
theorem subD_of {prog : Program} {w : World} {A : Around} {E : Value → Shared → Prop} {s : Shared} {env : Env} {value slice : Expr} {pos : Pos} {T id : String} {Q : Value → Shared → Prop}
    (hl : typeLookup (.type T) "__getitem__" = pure (some (.builtin id))) (hs : NoSl slice)
    (h : wpAny (model prog w) A (eval value env) (fun o s₁ => wpAny (model prog w) A (eval slice env) (fun i s₂ => s₂.TypeIs o T ∧ wpAny (model prog w) A (getItem o i) Q E s₂) E s₁) E s) :
    wpAny (model prog w) A (eval (.Subscript value slice pos) env) Q E s := by
  refine Subscript_ (wpAny_mono h (fun o s₁ h₁ => wpAny_mono h₁ (fun i s₂ h₂ => ?_) fun _ _ x => x) fun _ _ x => x)
  obtain ⟨hT, h₂⟩ := h₂
  unfold subscriptTail
  refine wpAny_bind ?_
  rw [getitemInPython_of_ne hT.not_modules]
  refine wpAny_bind (wpAny_specialOf hT hl ?_)
  have fin : wpAny (model prog w) A (subscripted slice false o i) (fun r s₃ => wpAny (model prog w) A (letTemporaryGo value o r >>= fun _ => pure r) Q E s₃) E s₂ := by
    rw [hs o i]
    exact wpAny_operating (wpAny_mono h₂ (fun r s₃ h₃ => wpAny_bind (wpAny_letTemporaryGo (wpAny_pure h₃))) fun _ _ x => x)
  first
    | exact wpAny_pure (wpAny_bind fin)
    | exact wpAny_bind (wpAny_pure (wpAny_bind fin))
    | exact wpAny_bind fin

theorem dict_typeIs {X : Cx} {pins : List (Addr × Obj)} {σ : St} {H : Hp} {s : Shared} {a : Addr} {y : V} {o : Option V} (I : Inv X pins σ H s) (g : DGet H a y o) : s.TypeIs (.ref a) "dict" := by
  rcases g with ⟨kvs, k, e, _, _⟩ | ⟨kvs, k, b, e, _, _, _⟩
  · obtain ⟨_, _, vs, _, dd⟩ := dk_rd I.hok e
    exact dd.typeIs
  · obtain ⟨_, _, xs, _, dd⟩ := dt_rd I.hok e
    exact dd.typeIs
/-- d[y] -/
def tDGet (td ty : TE) : TE := fun σ H Q => td σ H fun x H1 => ty σ H1 fun y H2 => ∃ a v, x = .ref a ∧ DGet H2 a y (some v) ∧ Q v H2
def tDNotIn (ty td : TE) : TE := fun σ H Q => ty σ H fun y H1 => td σ H1 fun x H2 => ∃ a o, x = .ref a ∧ DGet H2 a y o ∧ Q (.bl (!o.isSome)) H2
/-- d[y] = v -/
def sDPut (td ty tv : TE) : TS := fun D σ H => tv σ H fun v H1 => td σ H1 fun x H2 => ty σ H2 fun y H3 => ∃ a H4, x = .ref a ∧ DPut H3 a y v H4 ∧ D.nx σ H4
section
variable {X : Cx} {o i e value : Expr} {pos pos' tpos : Pos} {td ty tv : TE}
theorem pe_dget (hu : X.A.units + 1 < cLine) (ho : PE X o td) (hi : PE X i ty) (hs : NoSl i) : PE X (.Subscript o i pos) (tDGet td ty) := by
  intro pins s σ H Q I h
  refine subD_of PySem.F.slot_dict_getitem.lookup hs (thn (ho pins s σ H _ I h) fun u s1 ⟨x, H1, I1, rx, q1⟩ => thn (hi pins s1 σ H1 _ I1 q1) fun iv s2 ⟨y, H2, I2, ry, a, v, ex, g, q2⟩ => ?_)
  subst ex
  obtain rfl : u = Value.ref a := rx
  exact ⟨dict_typeIs I2 g, d_getItem hu I2 g ry fun w' s3 I3 rw' => ⟨v, H2, I3, rw', q2⟩⟩
theorem pc_dnotin (hu : X.A.units + 1 < cLine) (hi : PE X i ty) (ho : PE X o td) : PC X .NotIn i o (tDNotIn ty td) := by
  intro pins s σ H Q I h
  refine thn (hi pins s σ H _ I h) fun iv s1 ⟨y, H1, I1, ry, q1⟩ => thn (ho pins s1 σ H1 _ I1 q1) fun u s2 ⟨x, H2, I2, rx, a, ov, ex, g, q2⟩ => ?_
  subst ex
  obtain rfl : u = Value.ref a := rx
  exact d_notIn hu I2 g ry fun s3 I3 => ⟨.bl (!ov.isSome), H2, I3, rfl, q2⟩
theorem ps_dput (hu : X.A.units + 1 < cLine) (ho : PE X o td) (hi : PE X i ty) (hv : PE X value tv) (hs : swapsWith value (some (.Subscript o i pos')) pos.line X.env = pure false) :
    PS X (.Assign [.Subscript o i pos'] value pos) (sDPut td ty tv) := by
  intro pins s σ H D I h
  refine wpAny_Assign_Subscript (thn (hv pins s σ H _ I h) fun r s1 ⟨v, H1, I1, rv, q1⟩ => thn (ho pins s1 σ H1 _ I1 q1) fun u s2 ⟨x, H2, I2, rx, q2⟩ => thn (hi pins s2 σ H2 _ I2 q2) fun iv s3 ⟨y, H3, I3, ry, a, H4, ex, g, q3⟩ => ?_) hs
  subst ex
  obtain rfl : u = Value.ref a := rx
  exact d_setItem hu I3 g ry rv fun s4 I4 => ⟨σ, H4, I4, q3⟩
end


/-! ### displays -/
theorem dk_empty {P : Program} {w : World} {H : Hp} (h : Heap) (hb : sysModules < h.objs.size) : ObjOk P w H (h.push { cls := .type "dict", data := .dict #[] }) h.objs.size (.dK []) :=
  ⟨Nat.zero_le _, beq_eq_false_iff_ne.mpr (Ne.symm (Nat.ne_of_lt hb)), [], .nil, Heap.DictOf.new h⟩
/-- {}, to be a dict of the kind that is wanted -/
def tDNewK : TE := fun _ H Q => ∀ p, H p = none → Q (.ref p) (upd H p (.dK []))
section
variable {X : Cx} {pos : Pos}
theorem pe_dnewK : PE X (.Dict [] [] pos) tDNewK := fun pins s σ H Q I h =>
  wpAny_Dict_empty ⟨.ref s.heap.objs.size, _, I.laid (a := s.heap.objs.size) (o := .dK []) (t' := s.toks) (fun _ _ q => Heap.get?_push_of_some _ q) (Nat.le_refl _) (dk_empty s.heap I.big), rfl, h _ (I.hok.fresh (Nat.le_refl _))⟩
end

/-! ### methods -/
section
variable {X : Cx} {pins : List (Addr × Obj)} {σ : St} {H : Hp} {s : Shared} {a : Addr} {y d : V} {u r : Value} {o : Option V} {A : Around} {E : Value → Shared → Prop}
end

section
variable {X : Cx} {o e f : Expr} {apos cpos : Pos} {td ty tx : TE}
end

/-! ### dict(d): a copy -/
section
variable {X : Cx} {pins : List (Addr × Obj)} {σ : St} {H : Hp} {s : Shared} {a : Addr} {kvs : List (Key × V)} {A : Around} {E : Value → Shared → Prop}
end


section
variable {X : Cx} {pins : List (Addr × Obj)} {σ : St} {H : Hp} {s : Shared} {a : Addr} {y : V} {u : Value} {A : Around} {E : Value → Shared → Prop}
end
section
variable {X : Cx}
end
/-! ### a dict's pairs: keys that differ -/
section
variable {κ : Type} [DecidableEq κ]
theorem valV_in {kvs : List (κ × V)} {k : κ} {v : V} (h : valV kvs k = some v) : k ∈ kvs.map (·.1) := by
  have q : (kvs.any fun kv => decide (kv.1 = k)) = true := by
    rw [valV_any, h]
    all_goals rfl
  obtain ⟨p, hp, e⟩ := List.any_eq_true.mp q
  exact List.mem_map.mpr ⟨p, hp, of_decide_eq_true e⟩
end
end L2
namespace L2
open PySem PySem.Spec PyProof.Rows
/-! ### lists and tuples within one another that are equal -/
mutual
/-- equal things, n deep -/
def Eqv (K : PySem.W.Frag) (H : Hp) : Nat → V → V → Prop
  | 0, x, y => (flatV x = true ∧ flatV y = true ∧ eqV x y = true) ∨ ∃ a, x = .ref a ∧ y = .ref a
  | n + 1, x, y => (flatV x = true ∧ flatV y = true ∧ eqV x y = true) ∨ (∃ a, x = .ref a ∧ y = .ref a) ∨ EqvS K H n x y
/-- two tuples or two lists, item by item -/
def EqvS (K : PySem.W.Frag) (H : Hp) : Nat → V → V → Prop
  | n, x, y => ∃ a b xs ys, x = .ref a ∧ y = .ref b ∧ ((SqT K H a xs ∧ SqT K H b ys) ∨ (SqL K H a xs ∧ SqL K H b ys)) ∧ xs.length = ys.length ∧ ∀ (i : Nat) u v, xs[i]? = some u → ys[i]? = some v → Eqv K H n u v
end
section
variable {X : Cx} {pins : List (Addr × Obj)} {σ : St} {H : Hp} {s : Shared}
theorem all_true (n : Nat) : (List.range n).all (fun _ => true) = true := List.all_eq_true.mpr fun _ _ => rfl
/-- what item by item gives -/
theorem items_D {A : Around} {n : Nat} {xs ys : List V} {us vs : List Value} (r : Vals xs us) (q : Vals ys vs) (h : ∀ (i : Nat) u v, xs[i]? = some u → ys[i]? = some v → Eqv X.K H n u v)
    (ih : ∀ {x y : V} {u v : Value}, Eqv X.K H n x y → RelV x u → RelV y v → SeqAt.EqAt A s u v true) (j : Nat) (h1 : j < us.toArray.size) (h2 : j < vs.toArray.size) : SeqAt.EqAt A s us.toArray[j] vs.toArray[j] true := by
  have l1 := r.length
  have l2 := q.length
  have h1' : j < xs.length := by rw [l1]; simpa using h1
  have h2' : j < ys.length := by rw [l2]; simpa using h2
  obtain ⟨u, eu, ru⟩ := r.get (i := j) (x := xs[j]) (by simp [h1'])
  obtain ⟨v, ev, rv⟩ := q.get (i := j) (x := ys[j]) (by simp [h2'])
  have e1 : us.toArray[j] = u := by
    obtain ⟨_, e⟩ := List.getElem?_eq_some_iff.mp eu
    simpa using e
  have e2 : vs.toArray[j] = v := by
    obtain ⟨_, e⟩ := List.getElem?_eq_some_iff.mp ev
    simpa using e
  rw [e1, e2]
  exact ih (h j _ _ (by simp [h1']) (by simp [h2'])) ru rv
theorem rc_D {A : Around} {n : Nat} {x y : V} {u v : Value} (I : Inv X pins σ H s) (h : EqvS X.K H n x y) (rx : RelV x u) (ry : RelV y v) (hu : A.units < cLine)
    (ih : ∀ {x y : V} {u v : Value}, Eqv X.K H n x y → RelV x u → RelV y v → SeqAt.EqAt A.in1 s u v true) : ∃ a b, u = .ref a ∧ v = .ref b ∧ SeqAt.RcAt A s (.ref a) (.ref b) true ∧ SeqAt.RcNeAt A s (.ref a) (.ref b) false := by
  unfold EqvS at h
  obtain ⟨a, b, xs, ys, rfl, rfl, hq, hl, hi⟩ := h
  cases rx
  cases ry
  refine ⟨a, b, rfl, rfl, ?_⟩
  rcases hq with ⟨ha, hb⟩ | ⟨ha, hb⟩
  · obtain ⟨its, r1, p1, _⟩ := I.tuple ha
    obtain ⟨its2, r2, p2, _⟩ := I.tuple hb
    have l1 := r1.length
    have l2 := r2.length
    have e : ((List.range (min its.toArray.size its2.toArray.size)).all (fun _ => true) && its.toArray.size == its2.toArray.size) = true := by
      rw [all_true]; simp; omega
    have A1 := SeqAt.RcAt.tuples (A := A) (e := fun _ => true) (show s.heap.IsTuple a its.toArray from p1) (show s.heap.IsTuple b its2.toArray from p2) hu (fun j h1 h2 => items_D r1 r2 hi ih j h1 h2)
    have A2 := SeqAt.RcNeAt.tuples (A := A) (e := fun _ => true) (show s.heap.IsTuple a its.toArray from p1) (show s.heap.IsTuple b its2.toArray from p2) hu (fun j h1 h2 => items_D r1 r2 hi ih j h1 h2)
    rw [e] at A1 A2
    exact ⟨A1, A2⟩
  · obtain ⟨its, r1, p1, _⟩ := I.list ha
    obtain ⟨its2, r2, p2, _⟩ := I.list hb
    have l1 := r1.length
    have l2 := r2.length
    have A1 := SeqAt.RcAt.lists (A := A) (e := fun _ => true) p1.isList p2.isList (by simp; omega) hu (fun j h1 h2 => items_D r1 r2 hi ih j h1 h2)
    have A2 := SeqAt.RcNeAt.lists (A := A) (e := fun _ => true) p1.isList p2.isList (by simp; omega) hu (fun j h1 h2 => items_D r1 r2 hi ih j h1 h2)
    rw [all_true] at A1 A2
    exact ⟨A1, A2⟩
theorem eqAt_D (I : Inv X pins σ H s) : ∀ (n : Nat) {A : Around} {x y : V} {u v : Value}, Eqv X.K H n x y → RelV x u → RelV y v → A.units + n < cLine → SeqAt.EqAt A s u v true := by
  intro n
  induction n with
  | zero =>
    intro A x y u v h rx ry hu
    unfold Eqv at h
    rcases h with ⟨f1, f2, e⟩ | ⟨a, rfl, rfl⟩
    · have z := eqAt_V (A := A) (s := s) rx ry f1 f2
      rw [e] at z
      exact z
    · cases rx
      cases ry
      exact SeqAt.EqAt.same _
  | succ n ih =>
    intro A x y u v h rx ry hu
    unfold Eqv at h
    rcases h with ⟨f1, f2, e⟩ | ⟨a, rfl, rfl⟩ | h
    · have z := eqAt_V (A := A) (s := s) rx ry f1 f2
      rw [e] at z
      exact z
    · cases rx
      cases ry
      exact SeqAt.EqAt.same _
    · obtain ⟨a, b, rfl, rfl, z, _⟩ := rc_D (A := A) I h rx ry (by omega) (fun h rx ry => ih (A := A.in1) h rx ry (by show A.units + 1 + n < _; omega))
      by_cases hne : a = b
      · subst hne
        exact SeqAt.EqAt.same _
      · exact SeqAt.EqAt.of_refs hne z
/-- == and != of such -/
theorem op_eqD (hu : X.A.units + 40 < cLine) : OpR X (compareOp .Eq) (fun x y H Q => ∃ n, EqvS X.K H n x y ∧ n ≤ 20 ∧ Q (.bl true) H) := by
  intro pins s σ H x y v u Q I rx ry h
  obtain ⟨n, h, hn, q⟩ := h
  obtain ⟨a, b, rfl, rfl, z, _⟩ := rc_D (A := X.A) I h rx ry (by omega) (fun h rx ry => eqAt_D I n h rx ry (by show X.A.units + 1 + n < _; omega))
  exact z _ _ _ _ ⟨.bl true, H, I, rfl, q⟩
theorem op_neD (hu : X.A.units + 40 < cLine) : OpR X (compareOp .NotEq) (fun x y H Q => ∃ n, EqvS X.K H n x y ∧ n ≤ 20 ∧ Q (.bl false) H) := by
  intro pins s σ H x y v u Q I rx ry h
  obtain ⟨n, h, hn, q⟩ := h
  obtain ⟨a, b, rfl, rfl, _, z⟩ := rc_D (A := X.A) I h rx ry (by omega) (fun h rx ry => eqAt_D I n h rx ry (by show X.A.units + 1 + n < _; omega))
  exact z _ _ _ _ ⟨.bl false, H, I, rfl, q⟩
end
end L2
namespace L2
open PySem PySem.Spec PyProof.Rows
/-! ### what is a list or a tuple -/
def sqO (tu : Bool) (xs : List V) : HO := match tu with
  | false => .lst xs
  | true => .tup xs
def Sq (K : PySem.W.Frag) (tu : Bool) (H : Hp) (a : Addr) (xs : List V) : Prop := match tu with
  | false => SqL K H a xs
  | true => SqT K H a xs
theorem Sq.of {K : PySem.W.Frag} {tu : Bool} {H : Hp} {a : Addr} {xs : List V} (h : H a = some (sqO tu xs)) : Sq K tu H a xs := by
  cases tu with
  | false => exact SqL.of h
  | true => exact SqT.of h
theorem Sq.or {K : PySem.W.Frag} {tu : Bool} {H : Hp} {a : Addr} {xs : List V} (h : H a = some (sqO tu xs)) : SqL K H a xs ∨ SqT K H a xs := by
  cases tu with
  | false => exact .inl (SqL.of h)
  | true => exact .inr (SqT.of h)
def ItS (K : PySem.W.Frag) (tu : Bool) (a : Addr) : It := match tu with
  | false => Itl K a
  | true => Itt K a
def iSeq (K : PySem.W.Frag) (tl : TE) : TI := fun σ H R => tl σ H fun x H1 => ∃ (a : Addr) (tu : Bool), x = .ref a ∧ (∃ xs, Sq K tu H1 a xs) ∧ R (ItS K tu a) H1
theorem pi_seq {X : Cx} {tg l : Expr} {tl : TE} (hl : PE X l tl) : PI X tg l (iSeq X.K tl) := by
  intro pins s σ H R I h
  refine thn (hl pins s σ H _ I h) fun v s1 ⟨x, H1, I1, r1, q1⟩ => ?_
  obtain ⟨a, tu, e, ⟨xs, hq⟩, q⟩ := q1
  subst e
  cases r1
  have fr : ∀ b ∈ [s1.heap.objs.size], FpOk X pins H1 b := fun b hb => by
    obtain rfl : b = s1.heap.objs.size := by simpa using hb
    exact I1.fpOk (Nat.le_refl _) (I1.hok.fresh (Nat.le_refl _))
  cases tu with
  | false =>
    obtain ⟨its, rv, p, hz⟩ := I1.list hq
    exact wpAny_pyIter_list p.isList ⟨s1.heap.objs.size, [s1.heap.objs.size], _, _, H1, rfl, I1.kept (t' := s1.toks) fun b o e => Heap.get?_push_of_some _ e, turn_list a _, ⟨_, Heap.get?_push_size _ rfl, rfl, rfl⟩, fr, q⟩
  | true =>
    obtain ⟨its, rv, p, hz⟩ := I1.tuple hq
    exact wpAny_pyIter_tuple (show s1.heap.IsTuple a its.toArray from p) ⟨s1.heap.objs.size, [s1.heap.objs.size], _, _, H1, rfl, I1.kept (t' := s1.toks) fun b o e => Heap.get?_push_of_some _ e, turn_tuple a _, ⟨_, Heap.get?_push_size _ rfl, rfl, rfl⟩, fr, q⟩
theorem for_seq {K : PySem.W.Frag} {a : Addr} {tu : Bool} {xs : List V} {g : TG} {tb : TS} {D : Ends} {σ : St} {H : Hp} (Pv : Nat → St → Hp → Prop) (h0 : Pv 0 σ H) (hl : ∀ i σ H, i ≤ xs.length → Pv i σ H → Sq K tu H a xs)
    (hs : ∀ i x σ H, xs[i]? = some x → Pv i σ H → g x σ H fun σ2 H2 => tb { D with nx := Pv (i + 1), ct := Pv (i + 1), bk := D.nx } σ2 H2) (hd : ∀ σ H, Pv xs.length σ H → D.nx σ H) :
    ∃ W : Nat → Nat → St → Hp → Prop, (∃ m, W 0 m σ H) ∧ ∀ i m σ H, W i m σ H →
      ((ItS K tu a).stop i H ∧ D.nx σ H) ∨ ((ItS K tu a).go i H ∧ ∃ N : St → Hp → Prop, (∀ σ' H', N σ' H' → ∃ m', m' < m ∧ W (i + 1) m' σ' H') ∧ ∀ x H', (ItS K tu a).yld i H x H' → g x σ H' fun σ2 H2 => tb { D with nx := N, ct := N, bk := D.nx } σ2 H2) := by
  cases tu with
  | false => exact for_list Pv h0 hl hs hd
  | true => exact for_tup Pv h0 hl hs hd
/-- a comprehension over a list or a tuple -/
theorem comp_seq {K : PySem.W.Frag} {tu : Bool} {a p : Addr} {tt : TT} {te : TE} {cs : St} {Q : VK} {H1 : Hp} {xs : List V} (Pv : Nat → List V → Hp → Prop) (h0 : Pv 0 [] (upd H1 p (.lst [])))
    (hl : ∀ i ys H, i ≤ xs.length → Pv i ys H → Sq K tu H a xs)
    (hs : ∀ i x ys H, xs[i]? = some x → Pv i ys H → tt (some x :: cs) H fun b H4 => if b = true then te (some x :: cs) H4 fun y H5 => H5 p = some (.lst ys) ∧ ys.length < sizeLine ∧ Pv (i + 1) (ys ++ [y]) (upd H5 p (.lst (ys ++ [y]))) else Pv (i + 1) ys H4)
    (hd : ∀ ys H, Pv xs.length ys H → Q (.ref p) H) : CompW (ItS K tu a) p tt te cs Q H1 := by
  refine comp_by xs.length Pv h0 ?_ ?_
  · intro i ys H hi pv
    have q := hl i ys H (Nat.le_of_lt hi) pv
    cases tu with
    | false =>
      refine ⟨⟨xs, xs[i], q, by simp [hi]⟩, fun v H3 y => ?_⟩
      obtain ⟨e, y⟩ := y
      subst e
      exact hs i v ys _ (y xs q) pv
    | true =>
      refine ⟨⟨xs, xs[i], q, by simp [hi]⟩, fun v H3 y => ?_⟩
      obtain ⟨e, y⟩ := y
      subst e
      exact hs i v ys _ (y xs q) pv
  · intro ys H pv
    have q := hl _ ys H (Nat.le_refl _) pv
    cases tu with
    | false => exact ⟨⟨xs, q, Nat.le_refl _⟩, hd ys H pv⟩
    | true => exact ⟨⟨xs, q, Nat.le_refl _⟩, hd ys H pv⟩
/-! ### l != [] -/
section
variable {X : Cx}
def rNeE (K : PySem.W.Frag) : R2 := fun x y H Q => ∃ a b xs, x = .ref a ∧ y = .ref b ∧ SqL K H a xs ∧ SqL K H b [] ∧ Q (.bl (decide (xs ≠ []))) H
theorem op_neE (hu : X.A.units < cLine) : OpR X (compareOp .NotEq) (rNeE X.K) := by
  intro pins s σ H x y v u Q I rx ry h
  obtain ⟨a, b, xs, rfl, rfl, ha, hb, q⟩ := h
  cases hx : xs with
  | nil =>
    subst hx
    exact op_neL hu pins s σ H _ _ v u Q I rx ry ⟨a, b, _, _, rfl, rfl, ha, hb, rfl, rfl, q⟩
  | cons z zs =>
    cases rx
    cases ry
    obtain ⟨its, r1, p1, _⟩ := I.list ha
    obtain ⟨its2, r2, p2, _⟩ := I.list hb
    have l1 := r1.length
    have l2 := r2.length
    have lx : xs.length = zs.length + 1 := by rw [hx]; rfl
    have l0 : ([] : List V).length = 0 := rfl
    refine SeqAt.RcNeAt.lists_lengths p1.isList p2.isList (by simp; omega) hu _ _ _ _ ⟨.bl true, H, I, rfl, ?_⟩
    have e : decide (xs ≠ []) = true := decide_eq_true (by rw [hx]; exact List.cons_ne_nil _ _)
    rw [e] at q
    exact q
end
/-! ### rules within a comprehension, K told -/
section
variable {X : Cx} {K : PySem.W.Frag}
theorem sl_listK (h : X.K = K) : SlR X (rSlL K) := by
  subst h
  exact sl_list
theorem call_tuple_ofK (h : X.K = K) : CallR X (.type "tuple") (fun xs H Q => ∃ p ys, xs = [.ref p] ∧ ((SqL K H p ys ∧ ∀ l, H l = none → Q (.ref l) (upd H l (.tup ys))) ∨ (SqT K H p ys ∧ Q (.ref p) H))) := by
  subst h
  exact call_tuple_of
end
/-! ### tuples of flat things in a list -/
def TupsAt (H : Hp) : List V → List (List V) → Prop
  | [], [] => True
  | v :: ys, t :: ts => (∃ q, v = .ref q ∧ H q = some (.tup t)) ∧ TupsAt H ys ts
  | _, _ => False
theorem TupsAt.len {H : Hp} : ∀ {ys : List V} {ts : List (List V)}, TupsAt H ys ts → ys.length = ts.length
  | [], [], _ => rfl
  | _ :: ys, _ :: ts, h => by rw [List.length_cons, List.length_cons, TupsAt.len h.2]
  | [], _ :: _, h => h.elim
  | _ :: _, [], h => h.elim
theorem TupsAt.keep {H H' : Hp} (k : ∀ q t, H q = some (.tup t) → H' q = some (.tup t)) : ∀ {ys : List V} {ts : List (List V)}, TupsAt H ys ts → TupsAt H' ys ts
  | [], [], _ => trivial
  | _ :: ys, _ :: ts, h => by
    obtain ⟨⟨q, e, hq⟩, r⟩ := h
    exact ⟨⟨q, e, k q _ hq⟩, TupsAt.keep k r⟩
  | [], _ :: _, h => h.elim
  | _ :: _, [], h => h.elim
theorem TupsAt.mono {H H' : Hp} {ys : List V} {ts : List (List V)} (h : TupsAt H ys ts) (s : Same H H') : TupsAt H' ys ts := h.keep fun q t e => s q _ e
theorem TupsAt.upd {H : Hp} {ys : List V} {ts : List (List V)} {p : Addr} {o : HO} (h : TupsAt H ys ts) (hp : ∀ t, H p ≠ some (.tup t)) : TupsAt (upd H p o) ys ts :=
  h.keep fun q t e => by
    rw [upd_ne (fun z => hp t (by rw [← z]; exact e))]
    exact e
theorem lst_ne {H : Hp} {p : Addr} {l : List V} (h : H p = some (.lst l)) : ∀ t, H p ≠ some (.tup t) := fun t z => by
  rw [h] at z
  cases z
theorem TupsAt.snoc {H : Hp} {q : Addr} {t : List V} (e : H q = some (.tup t)) : ∀ {ys : List V} {ts : List (List V)}, TupsAt H ys ts → TupsAt H (ys ++ [.ref q]) (ts ++ [t])
  | [], [], _ => ⟨⟨q, rfl, e⟩, trivial⟩
  | _ :: ys, _ :: ts, h => ⟨h.1, TupsAt.snoc e h.2⟩
  | [], _ :: _, h => h.elim
  | _ :: _, [], h => h.elim
theorem TupsAt.last {H : Hp} {t : List V} : ∀ {ys : List V} {ts : List (List V)}, TupsAt H ys (ts ++ [t]) → ∃ ys0 q, ys = ys0 ++ [.ref q] ∧ TupsAt H ys0 ts ∧ H q = some (.tup t)
  | [], [], h => h.elim
  | [v], [], h => by
    obtain ⟨⟨q, e, hq⟩, _⟩ := h
    exact ⟨[], q, by rw [e]; rfl, trivial, hq⟩
  | _ :: _ :: _, [], h => h.2.elim
  | [], _ :: _, h => h.elim
  | v :: ys, u :: ts, h => by
    obtain ⟨ys0, q, e, h0, hq⟩ := TupsAt.last h.2
    exact ⟨v :: ys0, q, by rw [e]; rfl, ⟨h.1, h0⟩, hq⟩
theorem TupsAt.get {H : Hp} : ∀ {ys : List V} {ts : List (List V)} {i : Nat} {v : V}, TupsAt H ys ts → ys[i]? = some v → ∃ t q, ts[i]? = some t ∧ v = .ref q ∧ H q = some (.tup t)
  | [], [], _, _, _, e => by simp at e
  | y :: ys, t :: ts, 0, v, h, e => by
    obtain ⟨q, e1, hq⟩ := h.1
    rw [List.getElem?_cons_zero] at e
    cases e
    exact ⟨t, q, rfl, e1, hq⟩
  | y :: ys, t :: ts, i + 1, v, h, e => by
    rw [List.getElem?_cons_succ] at e
    rw [List.getElem?_cons_succ]
    exact TupsAt.get h.2 e
  | [], _ :: _, _, _, h, _ => h.elim
  | _ :: _, [], _, _, h, _ => h.elim
theorem eqV_self {x : V} (h : flatV x = true) : eqV x x = true := by
  cases x <;> first | rfl | (simp [eqV]; done) | (simp [flatV] at h)
end L2
namespace L2
open PySem PySem.Spec PyProof.Rows
/-! ### rows of stretches, as numbers -/
abbrev S4 := Int × Int × Int × Int
def tv (r : S4) : List V := [.int r.1, .int r.2.1, .int r.2.2.1, .int r.2.2.2]
def pmax (i j : Int) : Int := if j > i then j else i
def pmin (i j : Int) : Int := if j < i then j else i
def cut1 (lo hi : Int) (r : S4) : List S4 := if pmax r.1 lo < pmin (r.1 + r.2.1) hi then [(pmax r.1 lo, pmin (r.1 + r.2.1) hi - pmax r.1 lo, r.2.2.1, r.2.2.2 + pmax r.1 lo - r.1)] else []
def partsP (rs : List S4) (lo hi : Int) : List S4 := rs.flatMap (cut1 lo hi)
/-- a row that lies from lo to hi -/
def Ord : Int → List S4 → Int → Prop
  | lo, [], hi => lo ≤ hi
  | lo, r :: t, hi => lo ≤ r.1 ∧ 0 < r.2.1 ∧ Ord (r.1 + r.2.1) t hi
theorem Ord.le : ∀ {rs : List S4} {lo hi : Int}, Ord lo rs hi → lo ≤ hi
  | [], _, _, h => h
  | r :: t, lo, hi, h => by
    have := Ord.le h.2.2
    have := h.1
    have := h.2.1
    omega
theorem Ord.up : ∀ {rs : List S4} {lo hi hi' : Int}, Ord lo rs hi → hi ≤ hi' → Ord lo rs hi'
  | [], _, _, _, h, l => Int.le_trans h l
  | r :: t, _, _, _, h, l => ⟨h.1, h.2.1, Ord.up h.2.2 l⟩
theorem Ord.snoc : ∀ {rs : List S4} {lo hi hi' : Int} {r : S4}, Ord lo rs hi → hi ≤ r.1 → 0 < r.2.1 → r.1 + r.2.1 ≤ hi' → Ord lo (rs ++ [r]) hi'
  | [], _, _, _, r, h, l, p, e => ⟨Int.le_trans h l, p, e⟩
  | q :: t, _, _, _, r, h, l, p, e => ⟨h.1, h.2.1, Ord.snoc h.2.2 l p e⟩
theorem Ord.mem : ∀ {rs : List S4} {lo hi : Int} {r : S4}, Ord lo rs hi → r ∈ rs → lo ≤ r.1 ∧ 0 < r.2.1 ∧ r.1 + r.2.1 ≤ hi
  | q :: t, lo, hi, r, h, m => by
    cases m with
    | head => exact ⟨h.1, h.2.1, h.2.2.le⟩
    | tail _ m =>
      have z := Ord.mem h.2.2 m
      have := h.1
      have := h.2.1
      exact ⟨by omega, z.2.1, z.2.2⟩
theorem parts_snoc (rs : List S4) (r : S4) (lo hi : Int) : partsP (rs ++ [r]) lo hi = partsP rs lo hi ++ cut1 lo hi r := by
  unfold partsP
  rw [List.flatMap_append]
  simp
theorem cut1_len (lo hi : Int) (r : S4) : (cut1 lo hi r).length ≤ 1 := by
  unfold cut1
  split <;> simp
theorem parts_len (lo hi : Int) : ∀ rs : List S4, (partsP rs lo hi).length ≤ rs.length
  | [] => Nat.le_refl _
  | r :: t => by
    have := parts_len lo hi t
    have := cut1_len lo hi r
    unfold partsP at *
    rw [List.flatMap_cons, List.length_append, List.length_cons]
    omega
theorem take_next {α : Type} {rs : List α} {i : Nat} {r : α} (h : rs[i]? = some r) : rs.take (i + 1) = rs.take i ++ [r] := by
  rw [List.take_add_one, h]
  rfl
/-- a stretch as the laws make them -/
def GoodR (r : S4) : Prop := 2 ≤ r.2.2.1 ∧ r.2.2.1 ≤ 5 ∧ 0 ≤ r.2.2.2 ∧ r.2.2.2 + r.2.1 ≤ 8
/-! ### whole numbers from b on -/
/-! ### gaps -/
/-! ### rows in the heap -/
def RowAt (tu : Bool) (H : Hp) (a : Addr) (rs : List S4) : Prop := ∃ ys, H a = some (sqO tu ys) ∧ TupsAt H ys (rs.map tv)
theorem RowAt.mono {tu : Bool} {H H' : Hp} {a : Addr} {rs : List S4} (h : RowAt tu H a rs) (s : Same H H') : RowAt tu H' a rs := by
  obtain ⟨ys, e, t⟩ := h
  exact ⟨ys, s _ _ e, t.mono s⟩
theorem row_get {H : Hp} {ys : List V} {rs : List S4} {i : Nat} {v : V} (h : TupsAt H ys (rs.map tv)) (e : ys[i]? = some v) : ∃ r q, rs[i]? = some r ∧ v = .ref q ∧ H q = some (.tup (tv r)) := by
  obtain ⟨t, q, h1, h2, h3⟩ := h.get e
  rw [List.getElem?_map] at h1
  obtain ⟨r, h4, rfl⟩ := Option.map_eq_some_iff.mp h1
  exact ⟨r, q, h4, h2, h3⟩
theorem row_len {H : Hp} {ys : List V} {rs : List S4} (h : TupsAt H ys (rs.map tv)) : ys.length = rs.length := by rw [h.len, List.length_map]
end L2
namespace L2
open PySem PySem.Spec PyProof.Rows PySem.W

/-! ### try with several clauses, with or without a name; with an else -/
section
variable {X : Cx} {rest : List ExceptHandler} {suite : List Stmt} {b₀ : Stmt} {ts : Addr → TS} {tr : THs} {wn n : Str} {D : Addr} {bmD : List Value} {i : Nat} {np hpos pos : Pos}
end
end L2
namespace L2
open PySem PySem.Spec PyProof.Rows PySem.W

/-! ### loops in a def that may raise -/
section
variable {X : Cx} {E : XK}
end

/-! ### methods and makings that raise, within a try's body -/
section
variable {X : Cx} {k : Nat} {f C : Addr} {fd : FuncData} {ps : List Str} {sp : Sp} {dvs : List V} {ds : List Value} {x m : Str} {p pos apos : Pos} {e o : Expr} {es : List Expr} {ta : TE} {t : TA}
end
end L2
/-! ### things of any kind; is_whole, is_within -/
namespace L2
open PySem PySem.Spec PyProof.Rows
section
variable (K : PySem.W.Frag)
end
theorem hu40 {A : Around} {k : Nat} {c : Bool} (hr : Room k A c) : A.units + 40 < cLine := Nat.lt_of_le_of_lt (Nat.add_le_add_left (by decide : 40 ≤ 64) _) hr.units
/-! ### methods; classes of exceptions -/
end L2
/-! ### a floor -/
namespace FL
open PySem L2 PyProof.Rows
structure FS where
  n : Int
  kp : List (Key × V)
  ks : List (Key × V)
  ws : List V
  d : Bool
  l : V
section
variable {C p pc sp wr : Addr} {H H' : Hp} {st st' : FS}
end
structure Cl where
  F : Addr
  W : Addr
  PG : Addr
  NF : Addr
  NP : Addr
  NI : Addr
  SO : Addr
/-! ### what each of its methods promises -/
end FL
namespace L2
open PySem PySem.Spec PyProof.Rows
section
variable {X : Cx}
end
end L2
namespace FL
open PySem L2 PyProof.Rows
/-! ### what the law keeps beside a floor -/
structure LS where
  bn : List (Key × V)
  bd : List (Key × V)
  dn : List V
  lf : Int
  dk : Bool
section
variable {H H' : Hp} {q b a d : Addr} {ls : LS}
end
section
variable {H : Hp} {q b a d : Addr} {ls : LS}
end
/-! ### both tell the same -/
section
variable {st : FS} {ls : LS} {m : Nat} {i : Int} {v : V}
/-! ### a floor and what is kept beside it -/
structure AD where
  p : Addr
  pc : Addr
  sp : Addr
  wr : Addr
  q : Addr
  b : Addr
  a : Addr
  d : Addr
section
variable {R R' : FS → LS → Prop} {c : Cl} {H H' : Hp} {A B : AD} {n : Int}
end
end
end FL
/-! ### sorted, min and max of lists, min of three -/
namespace L2
open PySem PySem.Spec PyProof.Rows
theorem vals3 {x y z : V} {us : List Value} (r : Vals [x, y, z] us) : ∃ a b c, us = [a, b, c] ∧ RelV x a ∧ RelV y b ∧ RelV z c := by
  cases r with
  | cons h1 r => cases r with
    | cons h2 r => cases r with
      | cons h3 r => cases r with
        | nil => exact ⟨_, _, _, rfl, h1, h2, h3⟩
section
variable {X : Cx}
/-- min(a, b, c) of ints -/
theorem args_min3 (a b c : Value) : argsOk "min" ⟨[a, b, c], []⟩ := by unfold argsOk; kernel_rfl
theorem min3_walk {prog : Program} {w : World} {A : Around} {E : Value → Shared → Prop} {s : Shared} {a b c : Value} {Q : Value → Shared → Prop}
    (h : wpAny (model prog w) A.in1 (pyIter (.ref s.heap.objs.size)) (fun z s1 => ∃ J fp wr n P St bt, z = .ref J ∧ Walks prog w A.in1 J fp wr n P St ∧ St 0 s1.heap ∧ (∀ x ∈ fp, x < s1.heap.objs.size) ∧ 0 < n ∧ CmpOf prog w A.in1 .Lt P bt ∧ ∀ y h' tk, P (argBest bt (n - 1)) y → (∀ x o, x ∉ wr → s1.heap.get? x = some o → h'.get? x = some o) → Q y { s1 with heap := h', toks := tk }) E { s with heap := s.heap.push { cls := .type "tuple", data := .seq #[a, b, c] } }) :
    wpAny (model prog w) A (call (.builtin "min") [a, b, c]) Q E s := by
  have nm : (toString "min" ++ toString ".loop" : String) = "min.loop" := by decide
  refine call_function_tree F.kind_min F.plain_min F.entry_min (args_min3 a b c) ?_
  have bp : Builtin.Builtins.bindParams "min" ["key", "default"] 0 ⟨[], []⟩ = pure [none, none] := rfl
  show wpAny (model prog w) A.in1 (Builtin.Builtins.bindParams "min" ["key", "default"] 0 ⟨[], []⟩ >>= _) _ E s
  refine wpAny_bind (wpAny_of_eq bp ?_)
  show wpAny (model prog w) A.in1 (newTuple [a, b, c] >>= _) _ E s
  refine wpAny_bind (wpAny_newObj_type (wpAny_bind (wpAny_mono h (fun z s1 hz => ?_) fun _ _ e => e)))
  obtain ⟨J, fp, wr, n, P, St, bt, rfl, W, st, hf, hn, hc, k⟩ := hz
  have nf : s1.heap.objs.size ∉ fp := fun m => Nat.lt_irrefl _ (hf _ m)
  refine wpAny_bind (wpAny_newObj_type ?_)
  rw [nm]
  have fr : St 0 (s1.heap.push { cls := .type "list", data := .seq ([] : List Value).toArray }) := W.frame _ _ _ st fun x _ o e => Heap.get?_push_of_some _ e
  refine wpAny_pure ⟨plainId_quiet F.plain_min_loop _, codeAny_min_loop_first W bt hc s1.heap.objs.size nf hn fr (Heap.get?_push_size _ rfl) ?_⟩
  intro y h' tk hP hk
  refine k y h' tk hP fun x o hx e => ?_
  exact hk x o hx (Nat.ne_of_lt (Heap.lt_size e)) (Heap.get?_push_of_some _ e)
theorem min3_ints {prog : Program} {w : World} {A : Around} {E : Value → Shared → Prop} {s : Shared} {a b c : Int} {t u v : Tok} {Q : Value → Shared → Prop} (hh : A.handled = none)
    (h : ∀ h' tk r tr, (∀ x o, s.heap.get? x = some o → h'.get? x = some o) → r = min (min a b) c → Q (.int r tr) { s with heap := h', toks := tk }) : wpAny (model prog w) A (call (.builtin "min") [.int a t, .int b u, .int c v]) Q E s := by
  have it : (s.heap.push { cls := .type "tuple", data := .seq #[.int a t, .int b u, .int c v] }).IsTuple s.heap.objs.size (intItems #[(a, t), (b, u), (c, v)]) := ⟨_, Heap.get?_push_size _ rfl, rfl, 0, by simp [intItems]⟩
  have sz : (s.heap.push { cls := .type "tuple", data := .seq #[.int a t, .int b u, .int c v] }).objs.size = s.heap.objs.size + 1 := Heap.size_push ..
  refine min3_walk (wpAny_pyIter_tuple it ⟨_, [_, s.heap.objs.size], [_], _, _, _, _, rfl, Walks.tuple (A := A.in1) hh _ s.heap.objs.size (by rw [sz]; exact Nat.ne_of_lt (Nat.lt_succ_self _)) (intItems #[(a, t), (b, u), (c, v)]), ⟨⟨_, Heap.get?_push_size _ rfl, rfl, rfl⟩, it.push _⟩, fun x hx => ?_, by simp [intItems], CmpOf.ints_lt (numAt #[(a, t), (b, u), (c, v)]) (fun _ _ => intItems_at), fun y h' tk hP hk => ?_⟩)
  · show x < ((s.heap.push _).push _).objs.size
    rw [Heap.size_push, sz]
    rcases List.mem_cons.mp hx with e | hx
    · rw [e, sz]
      exact Nat.lt_succ_self _
    · rw [List.mem_singleton.mp hx]
      exact Nat.lt_succ_of_lt (Nat.lt_succ_self _)
  · have hold : ∀ x o, s.heap.get? x = some o → h'.get? x = some o := fun x o e => by
      refine hk x o (fun m => ?_) (Heap.get?_push_of_some _ (Heap.get?_push_of_some _ e))
      have l := Heap.lt_size e
      rw [List.mem_singleton] at m
      rw [m, sz] at l
      exact Nat.lt_irrefl _ (Nat.lt_of_succ_lt l)
    have hP' : (intItems #[(a, t), (b, u), (c, v)])[argBest (fun i j => decide (numAt #[(a, t), (b, u), (c, v)] i < numAt #[(a, t), (b, u), (c, v)] j)) 2]? = some y := by
      have z2 : (intItems #[(a, t), (b, u), (c, v)]).size - 1 = 2 := by simp [intItems]
      rw [← z2]
      exact hP
    obtain ⟨tr, hy⟩ := intItems_at hP'
    rw [hy]
    refine h h' tk _ tr hold ?_
    by_cases h1 : b < a
    · by_cases h2 : c < b
      · simp [argBest, numAt, h1, h2]
        omega
      · simp [argBest, numAt, h1, h2]
        omega
    · by_cases h2 : c < a
      · simp [argBest, numAt, h1, h2]
        omega
      · simp [argBest, numAt, h1, h2]
        omega
theorem call_min3 (hc : X.calm = true) : CallR X (.builtin "min") (fun xs H Q => ∃ i j k, xs = [.int i, .int j, .int k] ∧ Q (.int (min (min i j) k)) H) := by
  intro pins s σ H xs us Q I r h
  obtain ⟨i, j, k, rfl, q⟩ := h
  obtain ⟨a, b, c, rfl, ⟨t, rfl⟩, ⟨t', rfl⟩, ⟨t2, rfl⟩⟩ := vals3 r
  exact min3_ints (I.ok.hd hc) fun h' tk r tr kp e => ⟨.int (min (min i j) k), H, I.kept kp, ⟨tr, by rw [e]⟩, q⟩
end
end L2
/-! ### a dict's keys as a list, sorted -/
namespace L2
open PySem PySem.Spec PyProof.Rows PySem.W
theorem is_kV {P : Program} {w : World} {k : Key} {u : Value} (h : (mixKind P w).is k u = true) : RelV (kV k) u := by
  rcases keyIs_shape (k := k) (v := u) h with ⟨i, t, rfl, rfl⟩ | ⟨x, t, rfl, rfl⟩
  · exact ⟨t, rfl⟩
  · exact ⟨t, rfl⟩
theorem vals_keys {P : Program} {w : World} {kvs : List (Key × V)} {vs : List (Key × Value)} {us : List Value} (rel : KV kvs vs) (hl : us.length = vs.length)
    (h : ∀ (j : Nat) (v : Value), us[j]? = some v → ∃ k x, vs[j]? = some (k, x) ∧ (mixKind P w).is k v = true) : Vals (kvs.map fun p => kV p.1) us := by
  unfold KV at rel
  induction rel generalizing us with
  | nil =>
    cases us with
    | nil => exact .nil
    | cons a r => cases hl
  | @cons p q ps qs hr r ih =>
    cases us with
    | nil => cases hl
    | cons u us =>
      obtain ⟨kk, x, e, hk⟩ := h 0 u rfl
      have e' : q = (kk, x) := Option.some.inj e
      refine .cons ?_ (ih (Nat.succ.inj hl) fun j v hj => h (j + 1) v hj)
      show RelV (kV p.1) u
      rw [hr.1, e']
      exact is_kV hk
section
variable {X : Cx}
/-- list(d) -/
theorem call_listK (hc : X.calm = true) : CallR X (.type "list") (fun xs H Q => ∃ a kvs, xs = [V.ref a] ∧ H a = some (.dK kvs) ∧ ∀ l, H l = none → Q (.ref l) (upd H l (.lst (kvs.map fun p => kV p.1)))) := by
  intro pins s σ H xs us Q I r h
  obtain ⟨a, kvs, rfl, ha, q⟩ := h
  obtain ⟨u, rfl, ru⟩ := vals1 r
  cases ru
  obtain ⟨z, hd, vs, rel, dd⟩ := dk_of I.hok ha
  obtain ⟨ep, da⟩ : ∃ ep, s.heap.DictAt (mixKind X.prog X.w) a vs ep := by
    obtain ⟨o, es, ep, h1, h2, h3, h4⟩ := dd
    exact ⟨ep, o, es, h1, h2, h3, h4⟩
  have hz : vs.length ≤ sizeLine := by rw [← rel.length]; exact z
  refine kdl_call (kdl_dict hd) (I.ok.hd hc) da hz fun h' tk acc c kp hS it => ?_
  have nn := I.hok.fresh (Nat.le_refl s.heap.objs.size)
  refine ⟨.ref s.heap.objs.size, _, I.laid (a := s.heap.objs.size) (o := .lst (kvs.map fun p => kV p.1)) (t' := tk) kp (Nat.le_refl _) ?_, rfl, q _ nn⟩
  refine ⟨by rw [List.length_map]; exact z, acc.toList, c, vals_keys (P := X.prog) (w := X.w) rel (by rw [← it.1]; simp) (fun j v hj => ?_), hS⟩
  exact it.2 j v (by simpa using hj)
end
end L2
/-! ### d.update(e), both dicts of ints and texts -/
namespace L2
open PySem PySem.Spec PyProof.Rows
section
variable {X : Cx} {pins : List (Addr × Obj)} {σ : St} {H : Hp} {s : Shared} {a b : Addr} {A : Around} {E : Value → Shared → Prop}
end
section
variable {X : Cx} {o e : Expr} {apos cpos : Pos} {td ty : TE}
end
end L2
/-! ### several records of ours turn; zip of two lists, its pairs taken apart at once -/
namespace L2
open PySem PySem.Spec PyProof.Rows
section
variable {X : Cx} {pins : List (Addr × Obj)} {σ : St} {H : Hp} {s : Shared} {h' : Heap}
/-- untracked records of ours have turned -/
theorem Inv.turns {t' : Nat} {W : List Addr} (I : Inv X pins σ H s) (hW : ∀ b ∈ W, FpOk X pins H b) (k : ∀ b o, b ∉ W → s.heap.get? b = some o → h'.get? b = some o) : Inv X pins σ H { s with heap := h', toks := t' } := by
  have nit : ∀ b u, H b = some u → b ∉ W := fun b u e z => by
    have q := (hW b z).1
    rw [q] at e
    cases e
  have lW : X.env.locals ∉ W := fun z => (hW _ z).2.1 rfl
  refine I.step (g' := s.gens) (d' := s.drawn) (ch := W) (fun b hb => ?_) (fun b o _ _ hc e _ => k b o hc e) (fun b o _ _ hc e _ => ⟨o.slots, k b o hc e⟩) (fun _ _ _ _ n => n) (fun b o hc e => ⟨o, k b o hc e⟩) (fun _ _ e => e) (fun _ _ _ e => e)
    (fun b ps e => ⟨#[], by rw [e]; simp⟩) (fun m hm => ?_) (fun b u e => ?_) I.bare
  · obtain ⟨_, a2, _, a4, a5, a6⟩ := hW b hb
    exact ⟨a4, a2, a5, a6⟩
  · obtain ⟨o, es, ep, ho, r⟩ := hm
    exact ⟨o, es, ep, k _ o lW ho, r⟩
  · refine (I.hok b u e).stay (fun c v hc q => k c v ?_ q) (fun _ q => q) fun _ _ q => q
    rcases hc with z | z
    · exact z ▸ nit b u e
    · exact nit c _ z
/-- the same, and a new object is tracked -/
theorem Inv.turnsLaid {t' : Nat} {W : List Addr} {T : Addr} {o : HO} (I : Inv X pins σ H s) (hW : ∀ b ∈ W, FpOk X pins H b) (k : ∀ b u, b ∉ W → s.heap.get? b = some u → h'.get? b = some u) (hT : s.heap.objs.size ≤ T)
    (new : ObjOk X.prog X.w (upd H T o) h' T o) : Inv X pins σ (upd H T o) { s with heap := h', toks := t' } := by
  have nT := I.hok.fresh hT
  have nit : ∀ b u, H b = some u → b ∉ W := fun b u e z => by
    have q := (hW b z).1
    rw [q] at e
    cases e
  have lW : X.env.locals ∉ W := fun z => (hW _ z).2.1 rfl
  refine I.step (g' := s.gens) (d' := s.drawn) (ch := W) (fun b hb => ?_) (fun b o _ _ hc e _ => k b o hc e) (fun b o _ _ hc e _ => ⟨o.slots, k b o hc e⟩)
    (fun b o _ e n => by rw [upd_ne (Nat.ne_of_lt (Nat.lt_of_lt_of_le (Heap.lt_size e) hT))]; exact n) (fun b o hc e => ⟨o, k b o hc e⟩)
    (fun b xs e => by rw [upd_ne (ne_of_none e nT)]; exact e) (fun b _ _ e => by rw [upd_ne (ne_of_none e nT)]; exact e)
    (fun b ps e => ⟨#[], by rw [upd_ne (ne_of_none e nT), e]; simp⟩) (fun m hm => ?_) (fun b u e => ?_) I.bare
  · obtain ⟨_, a2, _, a4, a5, a6⟩ := hW b hb
    exact ⟨a4, a2, a5, a6⟩
  · obtain ⟨o, es, ep, ho, r⟩ := hm
    exact ⟨o, es, ep, k _ o lW ho, r⟩
  · by_cases hb : b = T
    · subst hb
      rw [upd_same] at e
      cases e
      exact new
    · rw [upd_ne hb] at e
      refine (I.hok b u e).stay (fun c v hc q => k c v ?_ q) (fun c q => by rw [upd_ne (ne_of_none q nT)]; exact q) fun c xs q => by rw [upd_ne (ne_of_none q nT)]; exact q
      rcases hc with z | z
      · exact z ▸ nit b u e
      · exact nit c _ z
end
end L2
/-! ### zip of two tuples, its pairs taken apart at once -/
namespace L2
open PySem PySem.Spec PyProof.Rows
section
variable {prog : Program} {w : World} {A : Around} {E : Value → Shared → Prop} {s : Shared}
end
end L2

namespace L2
open PySem PySem.Spec PyProof.Rows
section
variable {prog : Program} {w : World} {A : Around} {E : Value → Shared → Prop} {s : Shared}
end
end L2
namespace L2
open PySem PySem.Spec PyProof.Rows
/-! ### rows by cells, and joined -/
/-! ### lists of rows compared -/
section
variable {X : Cx} {pins : List (Addr × Obj)} {σ : St} {H : Hp} {s : Shared}
end
/-! ### a slice of a tuple, perhaps the whole -/
end L2
namespace L2
open PySem PySem.Spec PyProof.Rows
/-! ### things that are no tuples -/
section
variable (K : PySem.W.Frag)
end
/-! ### a stretch, or what is none -/
/-! ### loops over two tuples at once, comprehensions over a tuple -/
end L2
namespace HT
open PySem PySem.Spec PyProof.Rows
section
variable {prog : Program} {w : World} {A : Around} {E : Value → Shared → Prop} {s : Shared}
end
end HT
namespace L2
open PySem PySem.Spec PyProof.Rows
section
variable {X : Cx}
end
end L2
namespace L2
open PySem PySem.Spec PyProof.Rows
/-! ### a dict of cells -/
/-! ### a row's cells rise -/
/-! ### the law's loop over a thing -/
end L2
namespace L2
open PySem PySem.Spec PyProof.Rows
/-! ### a tidied row is a tidy row -/
end L2
namespace L2
open PySem PySem.Spec PyProof.Rows
/-! ### a row laid over a row -/
/-! ### cells -/
/-! ### a dict of cells, in whatever order -/
end L2
set_option maxHeartbeats 1000000
/-! ### range(a, b, 8) -/
namespace L2
open PySem PySem.Spec PyProof.Rows
def ItR (lo c : Int) (n : Nat) : It := ⟨fun i _ => i < n, fun i H x H' => H' = H ∧ x = .int (lo + i * c), fun i _ => n ≤ i⟩
theorem turn_rangeS {P : Program} {w : World} {K : PySem.W.Frag} {tg : Expr} (it : Addr) (lo c : Int) (n : Nat) {hb : Bool} : Turn P w K tg (ItR lo c n) [it] it (fun i h => IsRangeIter h it (lo + (i : Nat) * c) ((n : Int) - (i : Nat)) c) hb where
  mem := by simp
  obj := fun i h st b hb => by
    have e : b = it := by simpa using hb
    subst e
    exact ⟨_, st, fun v z => by
      have z' : Data.fields _ = Data.cell v := z
      cases z'⟩
  keep := fun i h h' st k => k it (by simp) _ st
  item := by
    intro X hP hw hK s hc i pins σ H E I hf st hg
    subst hP hw hK
    obtain ⟨f0, f1, f2, f3, f4, f5⟩ := hf it (by simp)
    have hi : i < n := hg
    refine wpAny_pyNext_range_item st (by omega) fun h' st' sb => ?_
    have I1 : Inv X pins σ H { s with heap := h', toks := s.toks + 1 } := I.turned (fun b o hb e => (sb.2 b hb).trans e) f0 f1 f3 f4 f5
    have e1 : lo + ((i : Nat) : Int) * c + c = lo + ((i + 1 : Nat) : Int) * c := by
      rw [Int.natCast_add, Int.add_mul, Int.add_assoc]
      simp
    have e2 : (n : Int) - ((i : Nat) : Int) - 1 = (n : Int) - ((i + 1 : Nat) : Int) := by omega
    rw [e1, e2] at st'
    exact ⟨_, rfl, go_of (s := { s with heap := h', toks := s.toks + 1 }) (n := "range_iterator") st' rfl rfl (by decide) ⟨.int (lo + i * c), H, I1, ⟨s.toks, rfl⟩, ⟨rfl, rfl⟩, st', fun b hb => (hf b hb).1⟩⟩
  done := by
    intro X hP hw hK s hc i pins σ H E I hf st hg
    subst hP hw hK
    obtain ⟨f0, f1, f2, f3, f4, f5⟩ := hf it (by simp)
    have hi : (n : Int) - ((i : Nat) : Int) ≤ 0 := by have : n ≤ i := hg; omega
    rcases hc with hc | ⟨_, ea, o, vs, h1, h2, h3, h4⟩
    · exact wpAny_pyNext_range_end hc st hi fun h' eb => ⟨rfl, I.turned (t' := s.toks) (fun b o hb e => eb b o hb e) f0 f1 f3 f4 f5⟩
    · exact range_end_hand h1 h2 h3 h4 st hi fun h' eb => ⟨rfl, I.turned (t' := s.toks) (fun b o hb e => eb b o hb e) f0 f1 f3 f4 f5⟩
  self := fun _ _ _ _ _ st h => wpAny_pyIter_rangeiter st h
theorem size8 (a b : Int) : Builtin.Range.rangeSize a b 8 = if a < b then (b - a - 1) / 8 + 1 else 0 := by
  unfold Builtin.Range.rangeSize
  rw [if_pos (by decide)]
theorem small_8 {a b : Int} (ha : -(2 ^ 60) ≤ a) (ha' : a < 2 ^ 60) (hb : -(2 ^ 60) ≤ b) (hb' : b < 2 ^ 60) : Builtin.Range.small a b 8 = true := by
  unfold Builtin.Range.small
  rw [size8]
  simp only [Builtin.Range.rangeFitsLong, Bool.and_eq_true, Bool.or_eq_true, decide_eq_true_eq, beq_iff_eq, show (8 : Int) > 0 by decide, if_true]
  split <;> omega
section
variable {X : Cx} {tg : Expr}
def iRng3 (ta : TA) : TI := fun σ H R => ta σ H fun vs H1 => ∃ i j : Int, vs = [.int i, .int j, .int 8] ∧ (-(2 ^ 60) ≤ i ∧ i < 2 ^ 60 ∧ -(2 ^ 60) ≤ j ∧ j < 2 ^ 60) ∧ R (ItR i 8 (if i < j then (j - i - 1) / 8 + 1 else 0).toNat) H1
theorem range_it8 {hb : Bool} {pins : List (Addr × Obj)} {σ : St} {H : Hp} {s : Shared} {R : It → Hp → Prop} {E : Value → Shared → Prop} {lo hi : Int} {t u v : Tok} {tk : Nat} (I : Inv X pins σ H s) (h1 : -(2 ^ 60) ≤ lo) (h2 : lo < 2 ^ 60) (h3 : -(2 ^ 60) ≤ hi) (h4 : hi < 2 ^ 60)
    (q : R (ItR lo 8 (if lo < hi then (hi - lo - 1) / 8 + 1 else 0).toNat) H) : wpAny (model X.prog X.w) X.A (pyIter (.ref s.heap.objs.size)) (PIE X pins σ tg R hb) E { s with heap := s.heap.push { cls := .type "range", data := .fields #[.int lo t, .int hi u, .int 8 v] }, toks := tk } := by
  refine wpAny_pyIter_range (IsRange.new ..) (small_8 h1 h2 h3 h4) ?_
  have I1 : Inv X pins σ H { s with heap := s.heap.push { cls := .type "range", data := .fields #[.int lo t, .int hi u, .int 8 v] }, toks := tk } := I.kept fun b o e => Heap.get?_push_of_some _ e
  refine ⟨(s.heap.push { cls := .type "range", data := .fields #[.int lo t, .int hi u, .int 8 v] }).objs.size, [(s.heap.push { cls := .type "range", data := .fields #[.int lo t, .int hi u, .int 8 v] }).objs.size], _, _, H, rfl,
    I1.kept (t' := tk) fun b o e => Heap.get?_push_of_some _ e, turn_rangeS _ lo 8 _, ?_, fun b hb => ?_, q⟩
  · have e1 : lo + ((0 : Nat) : Int) * 8 = lo := by simp
    have e2 : (((if lo < hi then (hi - lo - 1) / 8 + 1 else 0).toNat : Nat) : Int) - ((0 : Nat) : Int) = Builtin.Range.rangeSize lo hi 8 := by
      rw [size8]
      split <;> omega
    show IsRangeIter _ _ (lo + ((0 : Nat) : Int) * 8) ((((if lo < hi then (hi - lo - 1) / 8 + 1 else 0).toNat : Nat) : Int) - ((0 : Nat) : Int)) 8
    rw [e1, e2]
    exact Heap.get?_push_size _ rfl
  · have e : b = (s.heap.push { cls := .type "range", data := .fields #[.int lo t, .int hi u, .int 8 v] }).objs.size := by simpa using hb
    subst e
    exact I1.fpOk (Nat.le_refl _) (I1.hok.fresh (Nat.le_refl _))
theorem pi_range3 {hb : Bool} {a b c : Expr} {ta : TA} {p pos : Pos} (hg : Gl X "range") (hm : X.mg "range" = none) (ha : PA X [a, b, c] ta) (hs : starEach [a, b, c] X.env = [(false, eval a X.env), (false, eval b X.env), (false, eval c X.env)] := by rfl) (hs2 : starEach [b, c] X.env = [(false, eval b X.env), (false, eval c X.env)] := by rfl) :
    PI X tg (.Call (.Name "range" p) [a, b, c] [] pos) (iRng3 ta) hb := by
  intro pins s σ H R I h
  refine Call_ (ld_blt I hg hm boot_range (PyProof.Rows.callWith_type1 (thn (ha pos pins s σ H _ I h) fun us s1 ⟨vs, H1, I1, r1, q1⟩ => ?_) (by rw [hs, hs2]) (by rw [hs2]; rfl)))
  obtain ⟨i, j, e, ⟨q1, q2, q3, q4⟩, q⟩ := q1
  subst e
  cases r1 with
  | cons r rr =>
    cases rr with
    | cons r' rr =>
      cases rr with
      | cons r'' rr =>
        cases rr
        obtain ⟨t, rfl⟩ := r
        obtain ⟨t', rfl⟩ := r'
        obtain ⟨t'', rfl⟩ := r''
        exact call_range_3 (by decide) (range_it8 I1 q1 q2 q3 q4 q) (.inl (PyProof.noPylong_small (by omega)))
end
theorem comp_rangeS {lo c : Int} {n : Nat} {p : Addr} {tt : TT} {te : TE} {cs : St} {Q : VK} {H1 : Hp} (Pv : Nat → List V → Hp → Prop) (h0 : Pv 0 [] (upd H1 p (.lst [])))
    (hs : ∀ i ys H, i < n → Pv i ys H → tt (some (.int (lo + i * c)) :: cs) H fun b H4 => if b = true then te (some (.int (lo + i * c)) :: cs) H4 fun y H5 => H5 p = some (.lst ys) ∧ ys.length < sizeLine ∧ Pv (i + 1) (ys ++ [y]) (upd H5 p (.lst (ys ++ [y]))) else Pv (i + 1) ys H4)
    (hd : ∀ ys H, Pv n ys H → Q (.ref p) H) : CompW (ItR lo c n) p tt te cs Q H1 := by
  refine comp_by n Pv h0 ?_ ?_
  · intro i ys H hi pv
    refine ⟨hi, fun v H3 y => ?_⟩
    obtain ⟨rfl, rfl⟩ := y
    exact hs i ys _ hi pv
  · intro ys H pv
    exact ⟨Nat.le_refl _, hd ys H pv⟩
end L2
/-! ### enumerate(a list), its pairs taken apart at once -/
namespace L2
open PySem PySem.Spec PyProof.Rows
def Ite (K : PySem.W.Frag) (a : Addr) : It :=
  ⟨fun i H => ∃ xs x, SqL K H a xs ∧ xs[i]? = some x, fun i H v H' => ∃ t x, v = .ref t ∧ H t = none ∧ H' = upd H t (.tup [.int i, x]) ∧ ∀ xs, SqL K H a xs → xs[i]? = some x, fun i H => ∃ xs, SqL K H a xs ∧ xs.length ≤ i⟩
theorem turn_enum {P : Program} {w : World} {K : PySem.W.Frag} {elts : List Expr} {x1} {tp : Pos} {e it a : Addr} (n : e ≠ it) :
    Turn P w K (.Tuple elts x1 tp) (Ite K a) [e, it] e (fun i h => (∃ old, IsEnum h e it i old) ∧ h.IsListIter it a i) where
  mem := by simp
  obj := fun i h Z c hc => by
    obtain ⟨⟨old, he⟩, ⟨o1, e1, _, d1⟩⟩ := Z
    simp only [List.mem_cons, List.not_mem_nil, or_false] at hc
    rcases hc with rfl | rfl
    · exact ⟨_, he, fun v q => by cases q⟩
    · exact ⟨_, e1, fun v q => by rw [d1] at q; cases q⟩
  keep := fun i h h' Z k => by
    obtain ⟨⟨old, he⟩, j⟩ := Z
    exact ⟨⟨old, k e (by simp) _ he⟩, j.at fun o z => k it (by simp) o z⟩
  item := by
    intro X hP hw hK s hc i pins σ H E I hf Z hg
    subst hP hw hK
    obtain ⟨xs, x, qa, gx⟩ := hg
    obtain ⟨its, rv, p, _⟩ := I.list qa
    obtain ⟨u, hu, ru⟩ := rv.get gx
    obtain ⟨⟨old, he⟩, j⟩ := Z
    refine wpAny_pyNext_enum_item he j p.isList (x := u) (by simpa using hu) n fun h1 a1 a2 a3 a4 kp => ?_
    refine ⟨_, rfl, wpAny_letOwnedTupleGo_enum a1 fun h2 b1 sb => ?_⟩
    have lz := Heap.lt_size he
    have nT := I.hok.fresh (Nat.le_refl s.heap.objs.size)
    have T2 := sb.extBut _ _ (Nat.ne_of_gt lz) a3
    have I1 : Inv X pins σ (upd H s.heap.objs.size (.tup [.int i, x])) { s with heap := h2, toks := s.toks + 1 } := I.turnsLaid (W := [e, it]) (t' := s.toks + 1) (T := s.heap.objs.size) (o := .tup [.int i, x]) hf
      (fun c o hc z => by
        simp only [List.mem_cons, List.not_mem_nil, or_false, not_or] at hc
        exact sb.extBut _ _ hc.1 (kp c o hc.1 hc.2 z)) (Nat.le_refl _) ⟨by show 2 ≤ sizeLine; decide, [.int i s.toks, u], .cons ⟨_, rfl⟩ (.cons ru .nil), ⟨_, T2, rfl, _, rfl⟩⟩
    refine ⟨.ref s.heap.objs.size, _, I1, rfl, ⟨_, x, rfl, nT, rfl, fun zs hq => by rw [I.list_inj hq qa]; exact gx⟩, ⟨⟨u, ?_⟩, a2.extBut sb.extBut (Ne.symm n)⟩, fun c hc => ?_⟩
    · exact b1
    · have lt : c < s.heap.objs.size := by
        simp only [List.mem_cons, List.not_mem_nil, or_false] at hc
        obtain ⟨o1, f1, _⟩ := j
        rcases hc with rfl | rfl
        · exact lz
        · exact Heap.lt_size f1
      rw [upd_ne (Nat.ne_of_lt lt)]
      exact (hf c hc).1
  done := by
    intro X hP hw hK s hc i pins σ H E I hf Z hg
    subst hP hw hK
    obtain ⟨xs, qa, hx⟩ := hg
    obtain ⟨its, rv, p, _⟩ := I.list qa
    obtain ⟨⟨old, he⟩, j⟩ := Z
    have l1 := rv.length
    refine wpAny_pyNext_enum_end hc.none he j p.isList (by simp; omega) fun h' kp => ⟨rfl, I.turns (t' := s.toks) (W := [e, it]) hf fun c o hc z => kp c o (fun q => hc (by simp [q])) z⟩
  self := fun _ _ s _ _ st h => by
    obtain ⟨⟨old, he⟩, _⟩ := st
    exact wpAny_pyIter_enum he h
def iEnum (K : PySem.W.Frag) (ta : TA) : TI := fun σ H R => ta σ H fun vs H1 => ∃ a xs, vs = [.ref a] ∧ SqL K H1 a xs ∧ R (Ite K a) H1
theorem pi_enum {X : Cx} {elts : List Expr} {x1} {tp : Pos} {a : Expr} {ta : TA} {p pos : Pos} (hg : Gl X "enumerate") (hm : X.mg "enumerate" = none) (ha : PA X [a] ta) (hs : starEach [a] X.env = [(false, eval a X.env)] := by rfl) :
    PI X (.Tuple elts x1 tp) (.Call (.Name "enumerate" p) [a] [] pos) (iEnum X.K ta) := by
  intro pins s σ H R I h
  refine Call_ (ld_blt I hg hm boot_enumerate (PyProof.Rows.callWith_type1 (thn (ha pos pins s σ H _ I h) fun us s1 ⟨vs, H1, I1, r1, q1⟩ => ?_) hs rfl))
  obtain ⟨a, xs, e, qa, q⟩ := q1
  subst e
  cases r1 with
  | cons r rr =>
    cases rr
    cases r
    obtain ⟨its, rv, p, _⟩ := I1.list qa
    refine call_enumerate_list p.isList fun h' z1 z2 z3 kp => wpAny_pyIter_enum z1 ?_
    refine ⟨_, [_, s1.heap.objs.size], _, _, H1, rfl, I1.kept (t' := s1.toks) kp, turn_enum (by simp), ⟨⟨_, z1⟩, z2⟩, fun c hc => ?_, q⟩
    have le : s1.heap.objs.size ≤ c := by
      simp only [List.mem_cons, List.not_mem_nil, or_false] at hc
      rcases hc with rfl | rfl <;> omega
    exact I1.fpOk le (I1.hok.fresh le)
theorem for_enum {K : PySem.W.Frag} {a : Addr} {xs : List V} {g : TG} {tb : TS} {D : Ends} {σ : St} {H : Hp} (Pv : Nat → St → Hp → Prop) (h0 : Pv 0 σ H) (hl : ∀ i σ H, Pv i σ H → SqL K H a xs)
    (hs : ∀ i x t σ H, xs[i]? = some x → Pv i σ H → H t = none → g (.ref t) σ (upd H t (.tup [.int i, x])) fun σ2 H2 => tb { D with nx := Pv (i + 1), ct := Pv (i + 1), bk := D.nx } σ2 H2) (hd : ∀ σ H, Pv xs.length σ H → D.nx σ H) :
    ∃ W : Nat → Nat → St → Hp → Prop, (∃ m, W 0 m σ H) ∧ ∀ i m σ H, W i m σ H →
      ((Ite K a).stop i H ∧ D.nx σ H) ∨ ((Ite K a).go i H ∧ ∃ N : St → Hp → Prop, (∀ σ' H', N σ' H' → ∃ m', m' < m ∧ W (i + 1) m' σ' H') ∧ ∀ x H', (Ite K a).yld i H x H' → g x σ H' fun σ2 H2 => tb { D with nx := N, ct := N, bk := D.nx } σ2 H2) := by
  refine ⟨fun i m σ H => m = xs.length - i ∧ i ≤ xs.length ∧ Pv i σ H, ⟨xs.length, by simp, Nat.zero_le _, h0⟩, ?_⟩
  rintro i m σ H ⟨rfl, li, p⟩
  have q1 := hl i σ H p
  by_cases hlt : i < xs.length
  · refine .inr ⟨⟨xs, xs[i]'hlt, q1, by simp [hlt]⟩, Pv (i + 1), fun σ' H' p' => ⟨xs.length - (i + 1), by omega, rfl, hlt, p'⟩, fun x H' y => ?_⟩
    obtain ⟨t, u, rfl, ht, rfl, hx⟩ := y
    exact hs i u t σ H (hx xs q1) p ht
  · have e : i = xs.length := by omega
    subst e
    exact .inl ⟨⟨xs, q1, Nat.le_refl _⟩, hd σ H p⟩
end L2
set_option maxHeartbeats 1000000
/-! ### a lambda x: x[G], called -/
namespace L2
open PySem PySem.Spec PySem.Calls PySem.W PyProof.Rows
section
variable {prog : Program} {w : World} {A : Around} {E : Value → Shared → Prop} {s : Shared}
/-- the scope of lambda x: .. G .. -/
structure LamSc (scope : Scope) (x : Str) : Prop where
  co : scope.isCoroutine = false
  gen : scope.isGenerator = false
  fn : scope.kind = .function
  nocell : ∀ y ∈ scope.names, y.2 ≠ .cell
  loc : scope.names.lookup x = some .local
end
end L2
set_option maxHeartbeats 1000000
/-! ### sorted by a key -/
namespace L2
open PySem PySem.Spec PySem.Calls PySem.W PyProof.Rows
section
variable {X : Cx} {pins : List (Addr × Obj)} {σ : St} {H : Hp} {s : Shared}
end
end L2
/-! ### min and max of a list of ints, with default= -/
namespace L2
open PySem PySem.Spec PyProof.Rows
section
variable {prog : Program} {w : World} {A : Around} {I : Addr} {fp wr : List Addr} {n : Nat} {P : Nat → Value → Prop} {St : Nat → Heap → Prop} {R : Result → Shared → Prop}
end
end L2
/-! ### min(l, default=d), max(l, default=d), l a list of ints -/
namespace L2
open PySem PySem.Spec PyProof.Rows
section
variable {prog : Program} {w : World} {A : Around} {E : Value → Shared → Prop} {s : Shared}
end
section
variable {prog : Program} {w : World} {A : Around} {E : Value → Shared → Prop} {s : Shared}
end
section
variable {prog : Program} {w : World} {A : Around} {E : Value → Shared → Prop} {s : Shared}
end
end L2
namespace L2
open PySem PySem.Spec PyProof.Rows
section
variable {X : Cx} {e v : Expr} {te tv : TE}
end
end L2
set_option maxHeartbeats 1000000
/-! ### sorted(e, key=lambda x: x[G]) -/
namespace L2
open PySem PySem.Spec PySem.Calls PySem.W PyProof.Rows
/-- the table of a code object, as it stands -/
def tabφ (P : Addr) (ps : Array Value) : Heap → Prop := fun h => h.get? P = some (tabObj ps)
def codφ (c : Addr) (qual : Str) : Heap → Prop := fun h => h.CodeRec (.ref c) qual
def TabS (H : Hp) (P : Addr) (pos : Pos) (qual : Str) : Prop := ∃ ps, H P = some (.ext (tabφ P ps)) ∧ TriplesOk ps.toList ∧ (codeAmong pos ps.toList = none ∨ ∃ c', codeAmong pos ps.toList = some (.ref c') ∧ H c' = some (.ext (codφ c' qual)))
/-- all but at P as it was -/
def SxP (P : Addr) (H H' : Hp) : Prop := ∀ b o, b ≠ P → H b = some o → H' b = some o
theorem SxP.refl (P : Addr) (H : Hp) : SxP P H H := fun _ _ _ e => e
theorem SxP.trans {P : Addr} {H H1 H2 : Hp} (a : SxP P H H1) (b : SxP P H1 H2) : SxP P H H2 := fun c o n e => b c o n (a c o n e)
theorem Same.sxP {P : Addr} {H H' : Hp} (s : Same H H') : SxP P H H' := fun b o _ e => s b o e
structure BltIn (base : Heap) (mg : Str → Option Value) : Prop where
  ex : ∃ bm o, mg "__builtins__" = some (.ref bm) ∧ bm ≠ builtinsNs ∧ bm ≠ mainGlobals ∧ base.get? bm = some o ∧ o.cls = .type "module" ∧ o.dict = some builtinsNs ∧ o.data = .plain
section
variable {X : Cx} {pins : List (Addr × Obj)} {σ : St} {H : Hp} {s : Shared}
theorem ext_ok {P : Program} {w : World} {H : Hp} {h : Heap} {a : Addr} {φ : Heap → Prop} (x : ObjOk P w H h a (.ext φ)) : φ h := x.1
theorem triples_snoc : ∀ {l : List Value} {a b : Int} {t u : Tok} {c : Value}, TriplesOk l → TriplesOk (l ++ [.int a t, .int b u, c])
  | [], _, _, _, _, _, _ => trivial
  | .int _ _ :: .int _ _ :: _ :: rest, _, _, _, _, _, h => triples_snoc (l := rest) h
end
section
variable {X : Cx} {e : Expr} {te : TE}
end
end L2
set_option maxHeartbeats 1000000
/-! ### the head, where defs make lambdas: their tables tracked -/
namespace L2
open PySem PySem.Spec PySem.Calls PySem.W PyProof.Rows
theorem law_callT {P : Program} {w : World} {K : PySem.W.Frag} {mg mb : Str → Option Value} {CX : CXT} {k : Nat} {fa a : Addr} {fd : FuncData} {x : Str} {sp : Sp} {s₁ : Shared} {vs : List Value} {ns : List Int} {tabs : List (Addr × Addr)}
    (KX : K.In s₁.heap) (hns : s₁.heap.Ns mainGlobals mg) (hb : s₁.heap.Ns builtinsNs mb) (hbb : ∀ x : Str, x ≠ "__name__" → mb x = bootBuiltins x) (hlim : s₁.heap.NoLimit) (hg : s₁.gens = #[])
    (ha : s₁.heap.get? a = some { cls := .type "list", data := .seq vs.toArray }) (hi : IntsAre vs ns) (hl : ns.length ≤ sizeLine) (hr : Room k callerA)
    (hbm : ∃ bm ob, mg "__builtins__" = some (.ref bm) ∧ bm ≠ builtinsNs ∧ s₁.heap.get? bm = some ob ∧ ob.cls = .type "module" ∧ ob.dict = some builtinsNs ∧ ob.data = .plain)
    (hT : TabsAt tabs s₁.heap) (hTK : ∀ t ∈ tabs, K.lookup t.2 = none)
    (F : ∀ base : Heap, K.In base → base.Ns mainGlobals mg → (∀ t ∈ tabs, CodeHd base t.1 t.2) → BltIn base mg → FnOk P w K mg base CX k fa fd [x] sp) (hbind : ∀ (s : Shared) (u : Value), BindsTo s fd ⟨[u], []⟩ [(x, u)])
    (hsp : ∀ H : Hp, SqL K H a (ns.map V.int) → (∀ t ∈ tabs, H t.2 = some (.ext (tabφ t.2 #[]))) → sp [.ref a] H (fun v H' => v = .bl true ∧ ∀ t ∈ tabs, ∃ ps, H' t.2 = some (.ext (tabφ t.2 ps))) fun _ _ _ => False)
    (hCX : ∀ H e s', CX [] H s₁ (fun _ _ _ => False) e s' → False) :
    codeAny (model P w) callerA (.call (.ref fa) ⟨[.ref a], []⟩) (fun r s' => r = .ok (.ret (.bool true)) ∧ OldK s₁.heap s'.heap ∧ s'.os = s₁.os ∧ AllBare s'.gens) s₁ := by
  have rv := vals_ints hi
  have lenV := hi.length
  have aT : ∀ t ∈ tabs, t.2 ≠ a := fun t ht z => by
    have := (hT t ht).2
    rw [z, ha] at this
    cases this
  have core : ∀ H : Hp, SqL K H a (ns.map V.int) → HOk P w H s₁.heap → (∀ b, H b = none ∨ (b = a ∧ ∃ xs, H b = some (.frz { cls := .type "list", data := .seq vs.toArray } (.lst xs))) ∨ (∃ t ∈ tabs, b = t.2 ∧ H b = some (.ext (tabφ b #[])))) → (∀ t ∈ tabs, H t.2 = some (.ext (tabφ t.2 #[]))) → (H a ≠ none → K.lookup a = none) →
      codeAny (model P w) callerA (.call (.ref fa) ⟨[.ref a], []⟩) (fun r s' => r = .ok (.ret (.bool true)) ∧ OldK s₁.heap s'.heap ∧ s'.os = s₁.os ∧ AllBare s'.gens) s₁ := by
    intro H hS hok hA hTH hK
    have base_of : ∀ {b : Addr} {o : Obj}, s₁.heap.get? b = some o → H b = none → (hidT s₁.heap H).get? b = some o := fun e n => hidT_get e n
    have noA : ∀ {b : Addr} {o : Obj}, s₁.heap.get? b = some o → o ≠ { cls := .type "list", data := .seq vs.toArray } → o ≠ tabObj #[] → H b = none := fun {b o} e n1 n2 => by
      rcases hA b with z | ⟨z, _⟩ | ⟨t, ht, z, _⟩
      · exact z
      · rw [z, ha] at e
        exact absurd (Option.some.inj e).symm n1
      · rw [z, (hT t ht).2] at e
        exact absurd (Option.some.inj e).symm n2
    have nsK : ∀ {b : Addr} {m : Str → Option Value}, s₁.heap.Ns b m → (hidT s₁.heap H).Ns b m := fun {b m} ⟨o, es, ep, e, d, r⟩ => ⟨o, es, ep, base_of e (noA e (fun z => by rw [z] at d; cases d) (fun z => by rw [z] at d; cases d)), d, r⟩
    have hKb : K.In (hidT s₁.heap H) := fun b o e => base_of (KX b o e) (by
      rcases hA b with z | ⟨z, xs, e2⟩ | ⟨t, ht, z, _⟩
      · exact z
      · subst z
        rw [hK (by rw [e2]; simp)] at e
        cases e
      · rw [z, hTK t ht] at e
        cases e)
    have hM : Mod K mg (hidT s₁.heap H) := ⟨hKb, nsK hns, ⟨mb, nsK hb, hbb⟩, let ⟨mc, h1, h2⟩ := hlim; ⟨mc, nsK h1, h2⟩⟩
    have hC : ∀ t ∈ tabs, CodeHd (hidT s₁.heap H) t.1 t.2 := fun t ht => by
      obtain ⟨o, vs2, file, tf, flags, tg, inF, text, tt, e, c1, r⟩ := (hT t ht).1
      exact ⟨o, vs2, file, tf, flags, tg, inF, text, tt, base_of e (noA e (fun z => by rw [z] at c1; injection c1 with c1; exact absurd c1 (by decide)) (fun z => by rw [z] at c1; cases c1)), c1, r⟩
    have hBl : BltIn (hidT s₁.heap H) mg := by
      obtain ⟨bm, ob, b1, b2, b3, b4, b5, b6⟩ := hbm
      refine ⟨bm, ob, b1, b2, fun z => ?_, base_of b3 (noA b3 (fun z => by rw [z] at b6; cases b6) (fun z => by rw [z] at b6; cases b6)), b4, b5, b6⟩
      obtain ⟨o, es, ep, e, d, r⟩ := hns
      rw [z, e] at b3
      cases b3
      rw [d] at b6
      cases b6
    have e0 : Env0 P w K mg (hidT s₁.heap H) callerA [] s₁ H := ⟨rfl, hM, fun b o e => of_hidT e, Nat.le_of_eq (hidT_size _ _), trivial, fun b hb => absurd (show b ∈ ([] : List Addr) from hb) (by simp), hok, .of_eq hg⟩
    refine codeAny_mono ((F _ hKb (nsK hns) hC hBl).run callerA [] s₁ H ⟨[.ref a], []⟩ [.ref a] [.ref a] _ _ hr e0 (hbind s₁ (.ref a)) (.cons rfl .nil) (hsp H hS hTH)) fun r s' h => ?_
    cases r with
    | error e => exact (hCX H e s' h).elim
    | ok fl =>
      cases fl with
      | next => exact False.elim h
      | brk => exact False.elim h
      | cont => exact False.elim h
      | ret u =>
        obtain ⟨v, H', os, bare, un, hok', r', q⟩ := h
        have q' : v = .bl true ∧ ∀ t ∈ tabs, ∃ ps, H' t.2 = some (.ext (tabφ t.2 ps)) := q
        obtain ⟨rfl, q'⟩ := q'
        obtain rfl : u = Value.bool true := r'
        refine ⟨rfl, ⟨fun b o e => ?_, fun b o e => un.there b o e (by simp)⟩, os, bare⟩
        rcases hA b with z | ⟨z, xs, e2⟩ | ⟨t, ht, z, _⟩
        · exact .inl (un.keep b o e z (by intro y; exact absurd (show b ∈ ([] : List Addr) from y) (by simp)) (by simp))
        · have z2 := un.frzs b _ _ e2
          obtain ⟨e1, _⟩ := hok b _ e2
          obtain ⟨e3, _⟩ := hok' b _ z2
          rw [e] at e1; cases e1
          exact .inl e3
        · subst z
          obtain ⟨ps, hp⟩ := q' t ht
          have e3 : s'.heap.get? t.2 = some (tabObj ps) := ext_ok (hok' _ _ hp)
          have e4 := (hT t ht).2
          rw [e] at e4
          cases e4
          obtain ⟨o, vs2, file, tf, flags, tg, inF, text, tt, e5, c1, d1, v1, _⟩ := (hT t ht).1
          refine .inr (.inl ⟨⟨t.1, o, vs2, e5, c1, d1, v1⟩, rfl, #[], ps, rfl, ?_⟩)
          rw [e3]
          simp
  have tabO : ∀ t ∈ tabs, ∀ H : Hp, ObjOk P w H s₁.heap t.2 (.ext (tabφ t.2 #[])) := fun t ht H => ⟨(hT t ht).2, ⟨_, (hT t ht).2⟩, fun h1 h2 x1 k2 => k2 _ x1⟩
  cases hk : K.lookup a with
  | some o =>
    have e := KX a o hk
    rw [ha] at e
    cases e
    refine core (fun b => if b ∈ tabs.map (·.2) then some (.ext (tabφ b #[])) else none) (.inr ⟨_, vs.toArray, _, hk, rfl, rfl, rfl, by rw [List.size_toArray, lenV]; exact hl, by simpa using rv⟩) (fun b u z => ?_) (fun b => ?_) (fun t ht => if_pos (List.mem_map_of_mem ht)) (fun z => absurd (if_neg fun m => ?_) z)
    · by_cases hm : b ∈ tabs.map (·.2)
      · have z' := (if_pos hm).symm.trans z
        cases z'
        obtain ⟨t, ht, rfl⟩ := List.mem_map.mp hm
        exact tabO t ht _
      · have z' := (if_neg hm).symm.trans z
        cases z'
    · by_cases hm : b ∈ tabs.map (·.2)
      · obtain ⟨t, ht, rfl⟩ := List.mem_map.mp hm
        exact .inr (.inr ⟨t, ht, rfl, if_pos hm⟩)
      · exact .inl (if_neg hm)
    · obtain ⟨t, ht, z⟩ := List.mem_map.mp m
      exact aT t ht z
  | none =>
    refine core (fun b => if b = a then some (.frz { cls := .type "list", data := .seq vs.toArray } (.lst (ns.map V.int))) else if b ∈ tabs.map (·.2) then some (.ext (tabφ b #[])) else none) (.inl (.inr ⟨{ cls := .type "list", data := .seq vs.toArray }, if_pos rfl⟩)) (fun b u z => ?_) (fun b => ?_) (fun t ht => ?_) fun _ => hk
    · by_cases hb : b = a
      · have z' := (if_pos hb).symm.trans z
        cases z'
        subst hb
        exact ⟨ha, by rw [List.length_map]; exact hl, vs, _, rv, ha⟩
      · have z' := (if_neg hb).symm.trans z
        by_cases hm : b ∈ tabs.map (·.2)
        · have z2 := (if_pos hm).symm.trans z'
          cases z2
          obtain ⟨t, ht, rfl⟩ := List.mem_map.mp hm
          exact tabO t ht _
        · have z2 := (if_neg hm).symm.trans z'
          cases z2
    · by_cases hb : b = a
      · exact .inr (.inl ⟨hb, _, if_pos hb⟩)
      · by_cases hm : b ∈ tabs.map (·.2)
        · obtain ⟨t, ht, rfl⟩ := List.mem_map.mp hm
          exact .inr (.inr ⟨t, ht, rfl, (if_neg hb).trans (if_pos hm)⟩)
        · exact .inl ((if_neg hb).trans (if_neg hm))
    · exact (if_neg (aT t ht)).trans (if_pos (List.mem_map_of_mem ht))
theorem walk_tab {l : PySem.W.OpenLaw} {n k : Nat} {q : Program} {loose : List Str} {XP : (Str → Option Value) → Heap → Prop} {YP : World → Heap → Prop} {d : DefRec} {K : Params → PySem.W.Frag} {CX : World → CXT} {sp : World → Sp} {x : Str} {tabs : List (Addr × Addr)}
    (hn : l.most = some n) (hn2 : n ≤ sizeLine) (hdf : d.params.defaults = []) (hr : Room k callerA)
    (hY : ∀ (w : World) (h : Heap), YP w h → (K w.params).In h ∧ TabsAt tabs h) (hTK : ∀ (w : World), ∀ t ∈ tabs, (K w.params).lookup t.2 = none)
    (F : ∀ (w : World) (mg : Str → Option Value) (fa : Addr) (h : Heap), (K w.params).In h → h.Ns mainGlobals mg → mg d.name = some (.ref fa) →
      ∃ fd : FuncData, (∀ (s : Shared) (u : Value), BindsTo s fd ⟨[u], []⟩ [(x, u)]) ∧
        ∀ base : Heap, (K w.params).In base → base.Ns mainGlobals mg → (∀ t ∈ tabs, CodeHd base t.1 t.2) → BltIn base mg → FnOk l.prog w (K w.params) mg base (CX w) k fa fd [x] (sp w))
    (hsp : ∀ (w : World) (H : Hp) (a : Addr) (ns : List Int), ns.length ≤ n → SqL (K w.params) H a (ns.map V.int) → (∀ t ∈ tabs, H t.2 = some (.ext (tabφ t.2 #[]))) → sp w [.ref a] H (fun v H' => v = .bl true ∧ ∀ t ∈ tabs, ∃ ps, H' t.2 = some (.ext (tabφ t.2 ps))) fun _ _ _ => False)
    (hCX : ∀ (w : World) (H : Hp) (s : Shared) (e : Value) (s' : Shared), CX w [] H s (fun _ _ _ => False) e s' → False) :
    PySem.W.WalkO q loose XP YP l.row.toRowW d [] (fun f vs => PySem.call f vs) := by
  refine Att.attach_call hn hdf fun w s₀ s₁ mg mb fa o pm cd doc a vs ns G Y ho hd hcd hmg hobj hints hlen hg => ?_
  have KX := (hY w _ Y).1
  obtain ⟨fd, hb, hF⟩ := F w mg fa _ KX G.T.g hmg
  exact law_callT KX G.T.g G.T.b G.T.builtins G.T.nolimit hg hobj hints (Nat.le_trans hlen hn2) hr G.T.bmain (hY w _ Y).2 (hTK w) hF hb (fun H hS hT => hsp w H a ns hlen hS hT) fun H e s' => hCX w H s₁ e s'
end L2
set_option maxHeartbeats 1000000
/-! ### a lambda x: d[x], d a name of the frame that made it, called by a local name -/
namespace L2
open PySem PySem.Spec PySem.Calls PySem.W PyProof.Rows
/-- what is written of it -/
structure LamT where
  qual : Str
  params : Arguments
  x : Str
  y : Str
  p1 : Pos
  p2 : Pos
  p3 : Pos
  scope : Scope
def LamT.body (t : LamT) : Expr := .Subscript (.Name t.y t.p1) (.Name t.x t.p2) t.p3
structure LamT.Ok (t : LamT) : Prop where
  sc : LamSc t.scope t.x
  hx : ∀ L a cd c, (envX t.qual t.scope L a cd [(t.y, c)]).kindOf t.x = some .local
  hy : ∀ L a cd c, (envX t.qual t.scope L a cd [(t.y, c)]).kindOf t.y = some .free
  bind : ∀ u pm c' ctv c, bindArgs (kla_fn "<lambda>" t.qual t.params t.body t.scope [(t.y, c)] pm (.ref c') ctv) ⟨[u], []⟩ = pure [(t.x, u)]
  dx : (t.x == ("__debug__" : Str)) = false
  dy : (t.y == ("__debug__" : Str)) = false
  cy : (t.y == ("__classdict__" : Str)) = false
  sl : NoSl (.Name t.x t.p2)
def objφ (a : Addr) (o : Obj) : Heap → Prop := fun h => h.get? a = some o
/-- f gives d's values -/
def GetsOf (H : Hp) (f d : Addr) : Prop := ∃ (t : LamT) (c : Addr) (pm : Value) (c' : Addr) (ctv : Value) (oc : Obj), t.Ok ∧
  H f = some (.ext (objφ f (kla_obj "<lambda>" t.qual t.params t.body t.scope [(t.y, c)] pm c' ctv))) ∧ H c' = some (.ext (codφ c' t.qual)) ∧ H c = some (.ext (objφ c oc)) ∧ oc.data = .cell (some (.ref d))
theorem GetsOf.mono {H H' : Hp} {f d : Addr} (g : GetsOf H f d) (s : Same H H') : GetsOf H' f d := by
  obtain ⟨t, c, pm, c', ctv, oc, h1, h2, h3, h4, h5⟩ := g
  exact ⟨t, c, pm, c', ctv, oc, h1, s _ _ h2, s _ _ h3, s _ _ h4, h5⟩
section
variable {X : Cx} {pins : List (Addr × Obj)} {σ : St} {H : Hp} {s : Shared} {A : Around} {E : Value → Shared → Prop}
theorem lam_get {f d : Addr} {u : Value} {y v : V} {Q : Value → Shared → Prop} (I : Inv X pins σ H s) (hr : A.depth < recursionLimit) (hu : A.units + 4 < cLine) (g : GetsOf H f d) (dg : DGet H d y (some v)) (ry : RelV y u)
    (h : ∀ w' s', Inv X pins σ H s' → RelV v w' → Q w' s') : wpAny (model X.prog X.w) A (call (.ref f) [u]) Q E s := by
  obtain ⟨t, c, pm, c', ctv, oc, ok, h2, h3, h4, h5⟩ := g
  have ef : s.heap.get? f = some _ := ext_ok (I.hok f _ h2)
  have ec : s.heap.get? c = some oc := ext_ok (I.hok c _ h4)
  have er : s.heap.CodeRec (.ref c') t.qual := ext_ok (I.hok c' _ h3)
  refine wpAny_call ?_
  refine kla_callFunE hr ef rfl ok.sc.co ok.sc.gen rfl er ?_
  rw [ok.bind]
  refine wpAny_pure (wpAny_newFunctionEnv ok.sc.nocell (fun y hy => by
    obtain rfl : y = (t.x, u) := by simpa using hy
    exact ok.sc.loc) (fun h₁ hns hsb => ⟨I.nolimit.fresh _ hsb, ?_⟩) ok.sc.fn)
  show codeAny _ _ (.expr t.body (envX t.qual t.scope s.heap.objs.size f (.ref c') [(t.y, c)])) _ _
  have hk₁ : ∀ b o, s.heap.get? b = some o → h₁.get? b = some o := fun b o e => hsb.extBut b o (Nat.ne_of_lt (Heap.lt_size e)) (Heap.get?_push_of_some _ e)
  refine kla_codeExpr ?_
  refine subD_of PySem.F.slot_dict_getitem.lookup ok.sl ?_
  refine wpAny_Name (wpAny_loadName_free (v := .ref d) ok.sc.fn (ok.hy _ _ _ _) (by show (((t.y, c) :: []).lookup t.y) = some c; simp) ⟨oc, hk₁ _ _ ec, h5⟩ ?_ ok.cy) ok.dy
  refine wpAny_Name (wpAny_loadName_local (v := u) ok.sc.fn (ok.hx _ _ _ _) hns (by simp) ?_) ok.dx
  have I1 : Inv X pins σ H { s with heap := h₁, toks := s.toks + 1 } := I.kept hk₁
  exact ⟨dict_typeIs I1 dg, d_getItem (by show A.units + 3 + 1 < cLine; omega) I1 dg ry fun w' s' I' r' => h w' s' I' r'⟩
end
section
variable {X : Cx} {e : Expr} {te : TE}
def tFetch (i : Nat) (te : TE) : TE := fun σ H Q => ∃ f, σ[i]? = some (some (.ref f)) ∧ (∃ d, GetsOf H f d) ∧ te σ H fun y H1 => ∃ d v, GetsOf H1 f d ∧ DGet H1 d y (some v) ∧ Q v H1
theorem GetsOf.fn {pins : List (Addr × Obj)} {σ : St} {H : Hp} {s : Shared} {f d : Addr} (I : Inv X pins σ H s) (g : GetsOf H f d) : FnAt f s.heap := by
  obtain ⟨t, c, pm, c', ctv, oc, ok, h2, _⟩ := g
  exact ⟨_, _, _, _, ext_ok (I.hok f _ h2)⟩
theorem pe_fetch {i : Nat} {x : Str} {p pos : Pos} (hr : Room 1 X.A) (hv : ∀ {ps : Pos}, PE X (.Name x ps) (tVar i)) (he : PE X e te) (h1 : starEach [e] X.env = [(false, eval e X.env)] := by rfl) :
    PE X (.Call (.Name x p) [e] [] pos) (tFetch i te) := by
  intro pins s σ H Q I h
  obtain ⟨f, hf, ⟨d, g⟩, h⟩ := h
  refine wpAny_Call_Name_kw (thn (hv pins s σ H (fun v H' => v = .ref f ∧ H' = H) I ⟨_, hf, rfl, rfl⟩) fun u s1 ⟨v, H1, I1, rv, ev, eH⟩ => ?_)
  subst ev eH
  cases rv
  refine callWith_F (g.fn I1) ?_ h1 rfl
  rw [h1]
  show wpAny (model X.prog X.w) _ (spliced ((false, eval e X.env) :: backTo pos (starEach [] X.env))) _ _ s1
  refine Calls.spliced_cons (thn (he pins s1 σ _ _ I1 h) fun u s2 ⟨y, H2, I2, ry, d2, v, g2, dg, q⟩ => Calls.spliced_nil ⟨g2.fn I2, ?_⟩)
  have dp := hr.dp
  have un := hr.un
  exact lam_get I2 (by omega) (by omega) g2 dg ry fun w' s' I' r' => ⟨v, H2, I', r', q⟩
end
end L2
set_option maxHeartbeats 1000000
/-! ### a call that is handed a lambda over a name of this frame -/
namespace L2
open PySem PySem.Spec PySem.Calls PySem.W PyProof.Rows
def del (H : Hp) (c : Addr) : Hp := fun b => if b = c then none else H b
theorem del_ne {H : Hp} {c b : Addr} (h : b ≠ c) : del H c b = H b := if_neg h
theorem del_same {H : Hp} {c : Addr} : del H c c = none := if_pos rfl
theorem same_del {H H' : Hp} {c : Addr} {o : HO} (h : H c = none) (s : Same (upd H c o) H') : Same H (del H' c) := fun b u e => by
  have z : b ≠ c := fun z => by rw [z, h] at e; cases e
  rw [del_ne z]
  exact s b u (by rw [upd_ne z]; exact e)
section
variable {X : Cx} {pins : List (Addr × Obj)} {σ : St} {H : Hp} {s : Shared} {y : Str} {c : Addr} {oc : Obj}
theorem Inv.cellApart (I : Inv X pins σ H s) (hfn : X.fn y = true) (hcl : X.env.cells.lookup y = some c) : X.base.get? c = none ∧ c ∉ frs X.stack := by
  have ge := I.ok.cab y c hfn hcl
  refine ⟨Heap.get?_none_of_le (Nat.le_trans I.ok.bsz ge), fun z => ?_⟩
  rcases List.mem_cons.mp (I.stkSub c z) with z | z
  · obtain ⟨m, ⟨o, es, ep, ho, hd, _⟩, _⟩ := I.loc
    obtain ⟨v, o2, ho2, hd2⟩ := I.cell y c hcl
    rw [z, ho] at ho2
    cases ho2
    rw [hd] at hd2
    cases hd2
  · obtain ⟨_, o, ho, _⟩ := I.ok.funs.mem z
    exact absurd (Heap.lt_size ho) (Nat.not_lt.mpr ge)
theorem HOk.extra {P : Program} {w : World} {h : Heap} (k : HOk P w H h) (hn : H c = none) (ec : h.get? c = some oc) : HOk P w (upd H c (.ext (objφ c oc))) h := fun b u e => by
  by_cases z : b = c
  · subst z
    rw [upd_same] at e
    cases e
    exact ⟨ec, ⟨_, ec⟩, fun h1 h2 x1 k2 => k2 _ x1⟩
  · rw [upd_ne z] at e
    exact (k b u e).stay (fun _ _ _ q => q) (fun b2 e2 => by rw [upd_ne (fun z2 => by rw [z2, hn] at e2; cases e2)]; exact e2) fun b2 xs e2 => by rw [upd_ne (fun z2 => by rw [z2, hn] at e2; cases e2)]; exact e2
theorem HOk.del {P : Program} {w : World} {h : Heap} {φ : Heap → Prop} (k : HOk P w H h) (hc : H c = some (.ext φ)) : HOk P w (del H c) h := fun b u e => by
  have z : b ≠ c := fun z => by rw [z, del_same] at e; cases e
  rw [del_ne z] at e
  exact (k b u e).stay (fun _ _ _ q => q) (fun b2 e2 => by rw [del_ne (fun z2 => by rw [z2, hc] at e2; cases e2)]; exact e2) fun b2 xs e2 => by rw [del_ne (fun z2 => by rw [z2, hc] at e2; cases e2)]; exact e2
theorem run_fnC {k : Nat} {f : Addr} {fd : FuncData} {ps : List Str} {sp : Sp} {dvs : List V} {ds : List Value} {Q : VK} {us : List Value} {vs : List V} {cc : Bool} (F : FnOk X.prog X.w X.K X.mg X.base CX0 k f fd ps sp cc) (hr : Room k X.A cc) (hb : Binds X.K fd ps ds) (hd : Vals dvs ds)
    (I : Inv X pins σ H s) (r : Vals vs us) (hfn : X.fn y = true) (hcl : X.env.cells.lookup y = some c) (ec : s.heap.get? c = some oc)
    (h : sp (vs ++ dvs) (upd H c (.ext (objφ c oc))) (fun v H' => H' c = some (.ext (objφ c oc)) ∧ Q v (L2.del H' c)) E0) : wpAny (model X.prog X.w) X.A (call (.ref f) us) (EP X pins σ Q) X.xe s := by
  have r2 : Vals (vs ++ dvs) (us ++ ds) := r.append hd
  have hl : (us ++ ds).length = ps.length := by rw [← r2.length]; exact F.len _ _ _ _ h
  have hn := I.freeC y c hcl
  obtain ⟨nb, nf⟩ := I.cellApart hfn hcl
  have e0 : Env0 X.prog X.w X.K X.mg X.base X.A X.stack s (upd H c (.ext (objφ c oc))) := ⟨I.ok.frames, I.ok.mod, fun b o e => ⟨(I.bs b o e).1, by rw [upd_ne (fun z => by rw [z, nb] at e; cases e)]; exact (I.bs b o e).2⟩, Nat.le_trans I.ok.bsz I.sz, I.stack,
    fun b hb => by
      have z : b ≠ c := fun z => nf (by rw [← z]; exact hb)
      rw [upd_ne z]; exact I.stkFree b hb, I.hok.extra hn ec, I.bare⟩
  refine wpAny_call (codeAny_mono (F.run X.A X.stack s _ ⟨us, []⟩ (us ++ ds) (vs ++ dvs) _ E0 hr e0 (hb s us I.kIn hl) r2 h) fun r s' hq => ?_)
  cases r with
  | error e => exact False.elim hq
  | ok fl =>
    cases fl with
    | ret u =>
      obtain ⟨v, H', os, bare, un, hok, rv, hc', q⟩ := hq
      have ec' : s'.heap.get? c = some oc := ext_ok (hok c _ hc')
      have nc : ∀ b u, H b = some u → b ≠ c := fun b u e z => by rw [z, hn] at e; cases e
      refine I.after ⟨v, L2.del H' c, os, bare, ⟨fun b o e n hb hx => ?_, fun b o e n hb hx => ?_, fun b o e n hx => ?_, un.there, fun b xs e => ?_, fun b o u e => ?_, fun b ps e => ?_⟩, hok.del hc', rv, q⟩
      · by_cases z : b = c
        · subst z
          rw [ec] at e
          cases e
          exact ec'
        · exact un.keep b o e (by rw [upd_ne z]; exact n) hb hx
      · have z : b ≠ c := fun z => nf (by rw [← z]; exact hb)
        exact un.slot b o e (by rw [upd_ne z]; exact n) hb hx
      · by_cases z : b = c
        · rw [z, del_same]
        · rw [del_ne z]
          exact un.free b o e (by rw [upd_ne z]; exact n) hx
      · rw [del_ne (nc b _ e)]
        exact un.tups b xs (by rw [upd_ne (nc b _ e)]; exact e)
      · rw [del_ne (nc b _ e)]
        exact un.frzs b o u (by rw [upd_ne (nc b _ e)]; exact e)
      · rw [del_ne (nc b _ e)]
        exact un.tbls b ps (by rw [upd_ne (nc b _ e)]; exact e)
    | next => exact False.elim hq
    | brk => exact False.elim hq
    | cont => exact False.elim hq
theorem codeAmong_snoc_ne {pos pos2 : Pos} {c : Value} (hne : ¬ (pos.line = pos2.line ∧ pos.col = pos2.col)) (l : List Value) (h : TriplesOk l) : codeAmong pos2 (l ++ [rawInt pos.line, rawInt pos.col, c]) = codeAmong pos2 l := by
  fun_induction TriplesOk l with
  | case1 =>
    simp only [List.nil_append, codeAmong, rawInt]
    rw [if_neg]
    intro z
    simp only [Bool.and_eq_true, beq_iff_eq] at z
    apply hne
    omega
  | case2 a t b u x rest ih =>
    simp only [List.cons_append, codeAmong]
    rw [ih h]
  | case3 => exact h.elim
theorem triple_1 : ∀ {l : List Value} {q : Str} {t : Tok}, TriplesOk l → ¬ l[1]? = some (.str q t)
  | [], _, _, _ => by simp
  | .int _ _ :: .int _ _ :: _ :: _, _, _, _ => by simp
/-- the lambda made: it and its code tracked -/
theorem mk_lamC {cd P : Addr} {qual : Str} {params : Arguments} {body : Expr} {scope : Scope} {pos : Pos} {clos : List (Str × Addr)} {Q : Value → Shared → Prop} (I : Inv X pins σ H s) (hcode : X.env.code = .ref cd) (C : CodeHd X.base cd P) (B : BltIn X.base X.mg) (t : TabS H P pos qual)
    (hcl : closureFor scope X.env = pure clos)
    (h : ∀ f c' pm ctv s' H', Inv X pins σ H' s' → SxP P H H' → TabS H' P pos qual → (∀ pos2 q2, ¬ (pos.line = pos2.line ∧ pos.col = pos2.col) → TabS H P pos2 q2 → TabS H' P pos2 q2) → H f = none → H' f = some (.ext (objφ f (kla_obj "<lambda>" qual params body scope clos pm c' ctv))) → H' c' = some (.ext (codφ c' qual)) → Q (.ref f) s') :
    wpAny (model X.prog X.w) X.A (makeFunction "<lambda>" qual params (.expr body) scope X.env [] [] [] pos pos.line) Q X.xe s := by
  obtain ⟨ps, hP, tr, hc⟩ := t
  have eP : s.heap.get? P = some (tabObj ps) := ext_ok (I.hok P _ hP)
  have nB : ∀ b o, X.base.get? b = some o → b ≠ P := fun b o e z => by
    have := (I.bs b o e).2
    rw [z, hP] at this
    cases this
  have hgs := I.mod.glob.keeps I.bk
  have gP : mainGlobals ≠ P := by
    obtain ⟨o, _, _, e, _⟩ := I.mod.glob
    exact nB _ o e
  have BA : s.heap.BuiltinsAt X.mg P := by
    obtain ⟨bm, o, b1, b2, b3, b4, b5, b6, b7⟩ := B.ex
    exact ⟨bm, o, b1, b2, b3, nB bm o b4, I.bk _ _ b4, b5, b6, b7⟩
  have nL : ∀ b u, H b = some u → b ≠ X.env.locals := fun b u e z => by
    have := I.free
    rw [← z, e] at this
    cases this
  have lay : ∀ (h' : Heap) (tk : Tok) (H1 : Hp) (pm : Value) (c' : Addr) (ctv : Value), Inv X pins σ H1 { s with heap := h', toks := tk } →
      Inv X pins σ (upd H1 h'.objs.size (.ext (objφ h'.objs.size (kla_obj "<lambda>" qual params body scope clos pm c' ctv)))) { s with heap := h'.push (kla_obj "<lambda>" qual params body scope clos pm c' ctv), toks := tk } := fun h' tk H1 pm c' ctv I1 =>
    I1.laid (a := h'.objs.size) (t' := tk) (fun b o e => Heap.get?_push_of_some _ e) (Nat.le_refl _) ⟨Heap.get?_push_size _ rfl, ⟨_, Heap.get?_push_size _ rfl⟩, fun h1 h2 x1 k2 => k2 _ x1⟩
  rcases hc with hc | ⟨c', hc, hc'⟩
  · refine kla_makeFunction (mg := X.mg) hcl I.ok.glob hgs hcode (C.keeps I.bk) eP tr hc gP BA fun c' ctv h' tk hx hge hlt hrec htb => ?_
    have nc : ∀ b o, s.heap.get? b = some o → b ≠ c' := fun b o e z => absurd (Nat.lt_of_lt_of_le (Heap.lt_size e) (z ▸ hge)) (Nat.lt_irrefl _)
    have Hc : H c' = none := I.hok.fresh hge
    have ncP : c' ≠ P := fun z => nc P _ eP z.symm
    have lt := I.lt
    have up : ∀ b u, b ≠ P → H b = some u → upd (upd H P (.ext (tabφ P (ps ++ #[rawInt pos.line, rawInt pos.col, .ref c'])))) c' (.ext (codφ c' qual)) b = some u := fun b u hb e => by
      have : b ≠ c' := fun z => by rw [z, Hc] at e; cases e
      rw [upd_ne this, upd_ne hb]
      exact e
    have nPt : ∀ b u, H b = some u → (∀ φ, u ≠ .ext φ) → b ≠ P := fun b u e ne z => by
      rw [z, hP] at e
      cases e
      exact ne _ rfl
    have I1 : Inv X pins σ (upd (upd H P (.ext (tabφ P (ps ++ #[rawInt pos.line, rawInt pos.col, .ref c'])))) c' (.ext (codφ c' qual))) { s with heap := h', toks := tk } := by
      refine I.step (g' := s.gens) (d' := s.drawn) (t' := tk) (ch := []) (fun b hb => nomatch hb) (fun b o hL _ _ e n => hx b o (fun z => by rw [z, hP] at n; cases n) e) (fun b o hL _ _ e n => ⟨o.slots, hx b o (fun z => by rw [z, hP] at n; cases n) e⟩)
        (fun b o _ e n => ?_) (fun b o _ e => ?_) (fun b xs e => up b _ (nPt b _ e fun φ z => by cases z) e) (fun b o u e => up b _ (nPt b _ e fun φ z => by cases z) e) (fun b ps e => ⟨#[], by rw [up b _ (nPt b _ e fun φ z => by cases z) e]; simp⟩) (fun m hm => hm.at fun o e => hx _ o (fun z => nL P _ hP z.symm) e) (fun b u e => ?_) I.bare
      · rw [upd_ne (nc b o e), upd_ne (fun z => by rw [z, hP] at n; cases n)]
        exact n
      · by_cases hb : b = P
        · subst hb
          exact ⟨_, htb⟩
        · exact ⟨o, hx b o hb e⟩
      · by_cases hb : b = c'
        · subst hb
          rw [upd_same] at e
          cases e
          obtain ⟨c2, oc, vs2, t2, e2, g2, d2⟩ := id hrec
          cases e2
          refine ⟨hrec, ⟨oc, g2⟩, fun h1 h2 x1 k2 => ?_⟩
          obtain ⟨c3, oc3, vs3, t3, e3, g3, d3⟩ := x1
          cases e3
          exact ⟨_, oc3, vs3, t3, rfl, k2 _ g3, d3⟩
        · by_cases hbP : b = P
          · subst hbP
            rw [upd_ne hb, upd_same] at e
            cases e
            exact ⟨htb, ⟨_, htb⟩, fun h1 h2 x1 k2 => k2 _ x1⟩
          · rw [upd_ne hb, upd_ne hbP] at e
            refine (I.hok b u e).stay (fun c v hc qc => hx c v ?_ qc) (fun c qc => up c _ (nPt c _ qc fun φ z => by cases z) qc) fun c xs qc => up c _ (nPt c _ qc fun φ z => by cases z) qc
            rcases hc with z | z
            · rw [z]; exact hbP
            · exact nPt c _ z fun φ z => by cases z
    have fne : ∀ b, b < h'.objs.size → b ≠ h'.objs.size := fun b hb => Nat.ne_of_lt hb
    have Plt : P < h'.objs.size := Heap.lt_size htb
    refine h h'.objs.size c' _ ctv _ _ (lay h' tk _ _ c' ctv I1) (fun b o hb e => ?_) ?_ (fun pos2 q2 hne ⟨ps2, hP2, tr2, hc2⟩ => ?_) ?_ upd_same ?_
    · have lb := I.hok.lt e
      rw [upd_ne (Nat.ne_of_lt (Nat.lt_of_lt_of_le lb (Nat.le_trans hge (Nat.le_of_lt hlt))))]
      exact up b o hb e
    · refine ⟨_, by rw [upd_ne (fne _ Plt), upd_ne (Ne.symm ncP), upd_same], ?_, .inr ⟨c', ?_, by rw [upd_ne (fne _ hlt), upd_same]⟩⟩
      · rw [Array.toList_append]
        exact triples_snoc tr
      · rw [Array.toList_append]
        exact codeAmong_snoc _ tr hc
    · have eP2 : s.heap.get? P = some (tabObj ps2) := ext_ok (I.hok P _ hP2)
      obtain rfl : ps2 = ps := by
        rw [eP] at eP2
        injection eP2 with z
        injection z with _ _ z
        injection z with z
        exact z.symm
      refine ⟨_, by rw [upd_ne (fne _ Plt), upd_ne (Ne.symm ncP), upd_same], ?_, ?_⟩
      · rw [Array.toList_append]
        exact triples_snoc tr
      · rw [Array.toList_append]
        have e2 := codeAmong_snoc_ne (c := .ref c') hne ps2.toList tr
        rcases hc2 with z | ⟨c2, z1, z2⟩
        · exact .inl (e2.trans z)
        · refine .inr ⟨c2, e2.trans z1, ?_⟩
          have lb := I.hok.lt z2
          have n1 : c2 ≠ h'.objs.size := Nat.ne_of_lt (Nat.lt_of_lt_of_le lb (Nat.le_trans hge (Nat.le_of_lt hlt)))
          have n2 : c2 ≠ c' := Nat.ne_of_lt (Nat.lt_of_lt_of_le lb hge)
          by_cases z3 : c2 = P
          · exfalso
            obtain ⟨_, oc, vs2, t2, e3, g2, d2⟩ := id (ext_ok (I.hok c2 _ z2) : s.heap.CodeRec (.ref c2) q2)
            cases e3
            rw [z3, eP] at g2
            cases g2
            obtain ⟨d2, d3⟩ := d2
            have d4 : Data.fields ps2 = Data.fields vs2 := d2
            injection d4 with d4
            subst d4
            exact triple_1 tr (by rw [Array.getElem?_toList]; exact d3)
          · rw [upd_ne n1]
            exact up c2 _ z3 z2
    · exact I.hok.fresh (Nat.le_trans hge (Nat.le_of_lt hlt))
    · rw [upd_ne (fne _ hlt), upd_same]
  · refine kla_makeFunctionHit (mg := X.mg) hcl I.ok.glob hgs hcode (C.keeps I.bk) eP tr hc BA fun ctv h' tk hk hsz => ?_
    have I1 : Inv X pins σ H { s with heap := h', toks := tk } := I.kept hk
    have ne : ∀ b u, H b = some u → b ≠ h'.objs.size := fun b u e => Nat.ne_of_lt (Nat.lt_of_lt_of_le (I.hok.lt e) hsz)
    refine h h'.objs.size c' _ ctv _ _ (lay h' tk _ _ c' ctv I1) (fun b o hb e => by rw [upd_ne (ne b o e)]; exact e) ⟨ps, by rw [upd_ne (ne _ _ hP)]; exact hP, tr, .inr ⟨c', hc, by rw [upd_ne (ne _ _ hc')]; exact hc'⟩⟩ (fun pos2 q2 _ ⟨ps2, hP2, tr2, hc2⟩ => ⟨ps2, by rw [upd_ne (ne _ _ hP2)]; exact hP2, tr2, hc2.imp id fun ⟨c2, a1, a2⟩ => ⟨c2, a1, by rw [upd_ne (ne _ _ a2)]; exact a2⟩⟩) (I.hok.fresh hsz) upd_same (by rw [upd_ne (ne _ _ hc')]; exact hc')
end
end L2
set_option maxHeartbeats 1000000
namespace L2
open PySem PySem.Spec PySem.Calls PySem.W PyProof.Rows
section
variable {X : Cx} {y : Str} {c : Addr}
def tLamC (P : Addr) (lpos : Pos) (t : LamT) (c : Addr) : TE := fun σ H Q => TabS H P lpos t.qual ∧ ∀ f c' pm ctv H', SxP P H H' → TabS H' P lpos t.qual → (∀ pos2 q2, ¬ (lpos.line = pos2.line ∧ lpos.col = pos2.col) → TabS H P pos2 q2 → TabS H' P pos2 q2) → H f = none →
  H' f = some (.ext (objφ f (kla_obj "<lambda>" t.qual t.params t.body t.scope [(t.y, c)] pm c' ctv))) → H' c' = some (.ext (codφ c' t.qual)) → Q (.ref f) H'
theorem pe_lamC {cd P : Addr} {lpos : Pos} (t : LamT) (hcode : X.env.code = .ref cd) (C : CodeHd X.base cd P) (B : BltIn X.base X.mg) (hqual : X.env.qual ++ Str.ofString "<lambda>" = t.qual) (hdef : defaultsOf t.params X.env = ([], []))
    (hcl : closureFor t.scope X.env = pure [(t.y, c)]) : PE X (.Lambda t.params t.body t.scope lpos) (tLamC P lpos t c) := by
  intro pins s σ H Q I h
  obtain ⟨tb, h⟩ := h
  refine kla_eval hdef ?_
  have e : X.env.qual ++ Str.ofString "<lambda>" = t.qual := hqual
  rw [e]
  exact mk_lamC I hcode C B tb hcl fun f c' pm ctv s' H' I' sx tb' ot hf hf' hc' => ⟨.ref f, H', I', rfl, h f c' pm ctv H' sx tb' ot hf hf' hc'⟩
/-- a call that may look into the frame's cell -/
def tCallC (sp : Sp) (i : Nat) (c : Addr) (t : TA) : TE := fun σ H Q => t σ H fun vs H1 => ∃ d, σ[i]? = some (some (.ref d)) ∧ ∀ oc : Obj, H1 c = none → oc.data = .cell (some (.ref d)) →
  sp vs (upd H1 c (.ext (objφ c oc))) (fun v H' => H' c = some (.ext (objφ c oc)) ∧ Q v (del H' c)) E0
theorem pe_callC {k i : Nat} {f : Addr} {fd : FuncData} {ps : List Str} {sp : Sp} {x : Str} {p pos : Pos} {e : Expr} {es : List Expr} {t : TA} {cc : Bool} (F : FnOk X.prog X.w X.K X.mg X.base CX0 k f fd ps sp cc) (hr : Room k X.A cc) (hg : Gl X x) (hm : X.mg x = some (.ref f)) (hk : PySem.W.keepIn X.K (.ref f) = true) (hb : Binds X.K fd ps [])
    (ha : PA X (e :: es) t) (hfn : X.fn y = true) (hcl : X.env.cells.lookup y = some c) (hN : X.N[i]? = some y) (hkd : X.env.kindOf y = some .cell) (hv : Vis X.env.scope y)
    (hdb : (x == ("__debug__" : Str)) = false := by decide) (he : starEach (e :: es) X.env = (false, eval e X.env) :: starEach es X.env := by rfl) (hpl : (backTo pos (starEach es X.env)).any (·.1) = false := by rfl) :
    PE X (.Call (.Name x p) (e :: es) [] pos) (tCallC sp i c t) := by
  intro pins s σ H Q I h
  refine wpAny_Call_Name_kw (ld_glob I hg hm ?_ hdb)
  refine PySem.W.callWith_K (h₀ := X.base) I.ok.mod.kin hk (thn (ha pos pins s σ H _ I h) fun us s1 ⟨vs, H1, I1, r, d, hd, q⟩ => ⟨I1.kIn, ?_⟩) he hpl
  obtain ⟨m, hn, hl⟩ := I1.loc
  obtain ⟨u, ru, l⟩ := hl i y _ hN hd hv
  cases ru
  rcases l with ⟨z, _⟩ | ⟨_, c2, hc2, oc, ec, dc⟩
  · rw [hkd] at z
    cases z
  · rw [hcl] at hc2
    cases hc2
    refine run_fnC (dvs := []) (ds := []) F hr hb .nil I1 r hfn hcl ec ?_
    rw [List.append_nil]
    exact q oc (I1.freeC y c hcl) dc
theorem GetsOf.mk {H : Hp} {t : LamT} {f c c' d : Addr} {pm ctv : Value} {oc : Obj} (ok : t.Ok) (hc : H c = none) (hf : H f = some (.ext (objφ f (kla_obj "<lambda>" t.qual t.params t.body t.scope [(t.y, c)] pm c' ctv)))) (hc' : H c' = some (.ext (codφ c' t.qual))) (dc : oc.data = .cell (some (.ref d))) :
    GetsOf (upd H c (.ext (objφ c oc))) f d := by
  have ne : ∀ b u, H b = some u → b ≠ c := fun b u e z => by rw [z, hc] at e; cases e
  exact ⟨t, c, pm, c', ctv, oc, ok, by rw [upd_ne (ne _ _ hf)]; exact hf, by rw [upd_ne (ne _ _ hc')]; exact hc', upd_same, dc⟩
end
/-- a def whose code object is told -/
theorem okC {P : Program} {w : World} {K : PySem.W.Frag} {mg : Str → Option Value} {base : Heap} {x qual : Str} {st : Stmt} {f : Addr} {fd : FuncData} {N ps : List Str} {k : Nat} {sp : Sp} (F : Fun K x qual st f fd) (S : FnScope N ps (defScope st)) (len : ∀ vs H Q E, sp vs H Q E → vs.length = ps.length)
    (hbody : ∀ (cdv : Value) (A : Around) (outer : List Env) (s : Shared) (H : Hp) (vs : List V) (Q : VK) (E : XK), cdv = fd.code → Room k (A.deeper (PyProof.Rows.envOfC qual (defScope st) s.heap.objs.size f cdv)) → sp vs H Q E →
      ∃ t, PSs (cxOf CX0 P w K mg base N qual (defScope st) f cdv A outer s H E).nox (defBody st) t ∧ t { nx := fun _ H' => Q .non H', rt := Q } (start N vs) H) : FnOk P w K mg base CX0 (k + 1) f fd ps sp := by
  obtain ⟨oc, od, kV, doc, pm, an, cdv, ct, osl, rfl, lk, hcd⟩ := F.ex
  refine fn_of lk hcd S len fun A outer s H vs Q E hr hsp => ?_
  obtain ⟨t, h, q⟩ := hbody cdv A outer s H vs Q E rfl hr hsp
  exact ⟨t, h.nox, q⟩
end L2
namespace K14
open PySem L2 PyProof.Rows
def top (i : Nat) : Stmt := PySem.Challenge.pw_clonewood_k14_cells_of_a_file.main.body.getD i (.Pass ⟨0, 0, 0, 0⟩)
abbrev sPts : Stmt := top 2
abbrev sCof : Stmt := top 3
abbrev sSpl : Stmt := top 4
abbrev sCel : Stmt := top 6
abbrev sStm : Stmt := top 7
abbrev sRow : Stmt := top 8
abbrev sPie : Stmt := top 9
abbrev sCls : Stmt := top 10
abbrev sLSp : Stmt := top 11
abbrev sLaw : Stmt := top 12
def noPos : Pos := ⟨0, 0, 0, 0⟩
def lamOf (q : Str) : Expr → LamT × Pos
  | .Lambda ps (.Subscript (.Name y p1) (.Name x p2) p3) sc lp => (⟨q, ps, x, y, p1, p2, p3, sc⟩, lp)
  | _ => (⟨q, ⟨[], [], none, [], [], none, []⟩, "", "", noPos, noPos, noPos, defScope sPts⟩, noPos)
def lastOf : Expr → Expr
  | .Call _ l _ _ => l.getD 2 (.Name "" noPos)
  | .Compare l _ _ _ => (match l with
    | .Call _ l _ _ => l.getD 2 (.Name "" noPos)
    | e => e)
  | e => e
def inStmt : Stmt → Expr
  | .Return (some e) _ => lastOf e
  | .Assign _ e _ => lastOf e
  | .If e _ _ _ => lastOf e
  | .For _ _ b _ _ => (match b.getD 0 (.Pass noPos) with
    | .Assign _ e _ => lastOf e
    | _ => .Name "" noPos)
  | _ => .Name "" noPos
def bodyOf : Stmt → List Stmt
  | .FunctionDef _ _ b _ _ _ _ _ _ _ => b
  | _ => []
def l0 : LamT × Pos := lamOf "_law_split.<locals>.<lambda>" (inStmt ((bodyOf sLSp).getD 8 (.Pass noPos)))
def l1 : LamT × Pos := lamOf "law.<locals>.<lambda>" (inStmt ((bodyOf sLaw).getD 4 (.Pass noPos)))
def l2 : LamT × Pos := lamOf "law.<locals>.<lambda>" (inStmt ((bodyOf sLaw).getD 5 (.Pass noPos)))
def lam0 : LamT := l0.1
def lam1 : LamT := l1.1
def lam2 : LamT := l2.1
theorem ok0 : lam0.Ok := ⟨⟨rfl, rfl, rfl, by decide +kernel, rfl⟩, fun _ _ _ _ => rfl, fun _ _ _ _ => rfl, fun _ _ _ _ _ => rfl, by decide +kernel, by decide +kernel, by decide +kernel, fun _ _ => rfl⟩
theorem ok1 : lam1.Ok := ⟨⟨rfl, rfl, rfl, by decide +kernel, rfl⟩, fun _ _ _ _ => rfl, fun _ _ _ _ => rfl, fun _ _ _ _ _ => rfl, by decide +kernel, by decide +kernel, by decide +kernel, fun _ _ => rfl⟩
theorem ok2 : lam2.Ok := ⟨⟨rfl, rfl, rfl, by decide +kernel, rfl⟩, fun _ _ _ _ => rfl, fun _ _ _ _ => rfl, fun _ _ _ _ _ => rfl, by decide +kernel, by decide +kernel, by decide +kernel, fun _ _ => rfl⟩
/-- what the top has of names -/
structure Txt (mg : Str → Option Value) : Prop where
  isi : mg "isinstance" = none
  len : mg "len" = none
  rng : mg "range" = none
  lst : mg "list" = none
  tup : mg "tuple" = none
  min : mg "min" = none
  max : mg "max" = none
  enu : mg "enumerate" = none
  pc8 : ∃ t, mg "PIECE_CELLS" = some (.int 8 t)
section
variable (K : PySem.W.Frag)
theorem kit_ll : PySem.W.kitOne K (.type "list") (.type "list") = some true := by kernel_rfl
theorem kit_tt : PySem.W.kitOne K (.type "tuple") (.type "tuple") = some true := by kernel_rfl
end
end K14
/-! ### cells told by a row and pieces -/
namespace L2
open PySem PySem.Spec PyProof.Rows
def vR (pc : Int → List Int) (k : Int) (v : Int) (r : S4) : Int := if r.1 ≤ k ∧ k < r.1 + r.2.1 then (pc r.2.2.1).getD (r.2.2.2 + k - r.1).toNat 0 else v
def vAt (pc : Int → List Int) (rs : List S4) (k : Int) : Int := rs.foldl (vR pc k) 0
theorem vAt_snoc (pc : Int → List Int) (rs : List S4) (r : S4) (k : Int) : vAt pc (rs ++ [r]) k = vR pc k (vAt pc rs k) r := by
  unfold vAt
  rw [List.foldl_append]
  rfl
theorem vR_cut {pc : Int → List Int} {k v size : Int} {r : S4} (h0 : 0 ≤ k) (h1 : k < size) : (cut1 0 size r).foldl (vR pc k) v = vR pc k v r := by
  obtain ⟨a, l, p, s⟩ := r
  unfold cut1
  simp only
  split
  · next h =>
    show vR pc k v _ = _
    unfold vR
    simp only
    have e : s + pmax a 0 - a + k - pmax a 0 = s + k - a := by omega
    rw [e]
    have c : (pmax a 0 ≤ k ∧ k < pmax a 0 + (pmin (a + l) size - pmax a 0)) ↔ (a ≤ k ∧ k < a + l) := by
      unfold pmax pmin
      split <;> split <;> omega
    by_cases z : a ≤ k ∧ k < a + l
    · rw [if_pos z, if_pos (c.mpr z)]
    · rw [if_neg z, if_neg (fun y => z (c.mp y))]
  · next h =>
    show v = vR pc k v _
    unfold vR
    simp only
    rw [if_neg]
    rintro ⟨z1, z2⟩
    apply h
    unfold pmax pmin
    split <;> split <;> omega
theorem vAt_parts {pc : Int → List Int} {k size : Int} (h0 : 0 ≤ k) (h1 : k < size) : ∀ (rs : List S4) (v : Int), (partsP rs 0 size).foldl (vR pc k) v = rs.foldl (vR pc k) v
  | [], v => rfl
  | r :: t, v => by
    have ep : partsP (r :: t) 0 size = cut1 0 size r ++ partsP t 0 size := by
      unfold partsP
      rw [List.flatMap_cons]
    rw [ep, List.foldl_append, vR_cut h0 h1, vAt_parts h0 h1 t]
    rfl
/-- the list of them -/
def cellsL (pc : Int → List Int) (rs : List S4) (n : Nat) : List Int := (List.range n).map fun k : Nat => vAt pc rs (k : Int)
theorem cellsL_len {pc : Int → List Int} {rs : List S4} {n : Nat} : (cellsL pc rs n).length = n := by
  unfold cellsL
  simp
theorem cellsL_nil (pc : Int → List Int) (n : Nat) : cellsL pc [] n = List.replicate n 0 := by
  unfold cellsL
  refine List.ext_getElem (by simp) fun i h1 h2 => ?_
  simp [vAt]
theorem cellsL_parts (pc : Int → List Int) (rs : List S4) (n : Nat) : cellsL pc (partsP rs 0 (n : Int)) n = cellsL pc rs n := by
  unfold cellsL
  refine List.map_congr_left fun k hk => ?_
  have := List.mem_range.mp hk
  exact vAt_parts (by omega) (by omega) rs 0
theorem cells_set {n m : Nat} {f g : Nat → Int} {v : Int} (h : ∀ k, k < n → g k = if k = m then v else f k) : ((List.range n).map f).set m v = (List.range n).map g := by
  refine List.ext_getElem (by simp) fun i h1 h2 => ?_
  have hi : i < n := by simpa using h2
  rw [List.getElem_set]
  simp only [List.getElem_map, List.getElem_range]
  rw [h i hi]
  by_cases z : i = m
  · rw [if_pos z.symm, if_pos z]
  · rw [if_neg (fun y => z y.symm), if_neg z]
/-- one more cell of a stretch -/
theorem cellsL_step {pc : Int → List Int} {rs : List S4} {n j : Nat} {a p s v : Int} (h0 : 0 ≤ a) (hs : 0 ≤ s) (hv : (pc p)[(s + (j : Int)).toNat]? = some v) :
    (cellsL pc (rs ++ [(a, (j : Int), p, s)]) n).set (a + (j : Int)).toNat v = cellsL pc (rs ++ [(a, ((j + 1 : Nat) : Int), p, s)]) n := by
  unfold cellsL
  refine cells_set fun k hk => ?_
  rw [vAt_snoc, vAt_snoc]
  generalize vAt pc rs (k : Int) = b
  unfold vR
  simp only
  by_cases z : k = (a + (j : Int)).toNat
  · rw [if_pos z, if_pos (by omega)]
    have e : s + (k : Int) - a = s + (j : Int) := by omega
    rw [e, List.getD_eq_getElem?_getD, hv]
    rfl
  · rw [if_neg z]
    by_cases y : a ≤ (k : Int) ∧ (k : Int) < a + (j : Int)
    · rw [if_pos y, if_pos (by omega)]
    · rw [if_neg y, if_neg (by omega)]
theorem cellsL_zero {pc : Int → List Int} {rs : List S4} {n : Nat} {a p s : Int} : cellsL pc (rs ++ [(a, ((0 : Nat) : Int), p, s)]) n = cellsL pc rs n := by
  unfold cellsL
  refine List.map_congr_left fun k _ => ?_
  rw [vAt_snoc]
  unfold vR
  simp only
  rw [if_neg (by omega)]
/-- a dict of pieces -/
def PcAt (H : Hp) (d : Addr) (pc : Int → List Int) (rs : List S4) : Prop := ∃ kvs, H d = some (.dK kvs) ∧ ∀ r ∈ rs, ∃ q tu, valV kvs (.inl r.2.2.1) = some (.ref q) ∧ H q = some (sqO tu ((pc r.2.2.1).map V.int)) ∧ 0 ≤ r.2.2.2 ∧ r.2.2.2 + r.2.1 ≤ ((pc r.2.2.1).length : Int)
theorem PcAt.mono {H H' : Hp} {d : Addr} {pc : Int → List Int} {rs : List S4} (h : PcAt H d pc rs) (s : Same H H') : PcAt H' d pc rs := by
  obtain ⟨kvs, e, k⟩ := h
  refine ⟨kvs, s _ _ e, fun r hr => ?_⟩
  obtain ⟨q, tu, h1, h2, h3⟩ := k r hr
  exact ⟨q, tu, h1, s _ _ h2, h3⟩
theorem mem_partsP {rs : List S4} {lo hi : Int} {r : S4} (h : r ∈ partsP rs lo hi) : ∃ r0 ∈ rs, r.2.2.1 = r0.2.2.1 ∧ lo ≤ r.1 ∧ r0.1 ≤ r.1 ∧ 0 < r.2.1 ∧ r.1 + r.2.1 ≤ hi ∧ r.1 + r.2.1 ≤ r0.1 + r0.2.1 ∧ r.2.2.2 = r0.2.2.2 + (r.1 - r0.1) := by
  unfold partsP at h
  obtain ⟨r0, h0, h1⟩ := List.mem_flatMap.mp h
  refine ⟨r0, h0, ?_⟩
  obtain ⟨a, l, p, s⟩ := r0
  unfold cut1 at h1
  simp only at h1
  split at h1
  · next c =>
    obtain rfl := List.mem_singleton.mp h1
    simp only
    unfold pmax pmin at *
    split at c <;> split at c <;> simp only [*, if_true, if_false] <;> refine ⟨trivial, ?_, ?_, ?_, ?_, ?_, ?_⟩ <;> (try trivial) <;> (try omega)
  · cases h1
theorem PcAt.parts {H : Hp} {d : Addr} {pc : Int → List Int} {rs : List S4} {lo hi : Int} (h : PcAt H d pc rs) : PcAt H d pc (partsP rs lo hi) := by
  obtain ⟨kvs, e, k⟩ := h
  refine ⟨kvs, e, fun r hr => ?_⟩
  obtain ⟨r0, h0, e1, e2, e3, e4, e5, e6, e7⟩ := mem_partsP hr
  obtain ⟨q, tu, h1, h2, h3, h4⟩ := k r0 h0
  rw [e1]
  exact ⟨q, tu, h1, h2, by omega, by omega⟩
end L2
set_option maxHeartbeats 4000000
namespace K14
open PySem L2
section
variable {P : Program} {w : World} {K : PySem.W.Frag} {mg : Str → Option Value} {base : Heap} {f fPts : Addr} {fd dPts : FuncData}
theorem none_back {H H' : Hp} {l : Addr} (s : Same H H') (h : H' l = none) : H l = none := by
  cases e : H l with
  | none => rfl
  | some o => rw [s _ _ e] at h; cases h
/-! ### parts -/
def spPts : Sp := fun vs H Q _ => ∃ (a : Addr) (tu : Bool) (rs : List S4) (lo hi : Int), vs = [.ref a, .int lo, .int hi] ∧ RowAt tu H a rs ∧ rs.length ≤ 1000 ∧ ∀ p H', Same H H' → H p = none → RowAt false H' p (partsP rs lo hi) → Q (.ref p) H'
theorem scPts : FnScope ["row", "low", "high", "cut", "at", "long", "place", "skip", "begin", "end"] ["row", "low", "high"] (defScope sPts) := ⟨rfl, rfl, rfl, by decide +kernel, rfl, by decide +kernel, by decide +kernel⟩
theorem ok_Pts (F : Fun K "parts" "parts" sPts f fd) (T : Txt mg) : FnOk P w K mg base CX0 1 f fd ["row", "low", "high"] spPts := by
  refine F.ok scPts (fun vs H Q E h => ?_) (fun cdv A outer s H vs Q E hr h => ?_)
  · obtain ⟨a, tu, rs, lo, hi, rfl, _⟩ := h
    rfl
  obtain ⟨a, tu, rs, lo, hi, rfl, ⟨ys, ha, hT⟩, hn, qq⟩ := h
  refine ⟨_, (pss_cons (ps_set (i := 3) scPts.nd rfl (Or.inl rfl) (pe_lst pa_nil))
    (pss_cons (ps_for PassesOwn.never rfl (pi_seq (pv 0)) (pg_tup rfl (pgs_cons (pg_name (i := 4) scPts.nd rfl (Or.inl rfl)) (pgs_cons (pg_name (i := 5) scPts.nd rfl (Or.inl rfl)) (pgs_cons (pg_name (i := 6) scPts.nd rfl (Or.inl rfl)) (pgs_cons (pg_name (i := 7) scPts.nd rfl (Or.inl rfl)) pgs_nil)))))
    (pss_cons (ps_set (i := 8) scPts.nd rfl (Or.inl rfl) (pe_callB (call_max2 rfl) rfl T.max PyProof.Rows.boot_max (pa_cons (pv 4) (pa_cons (pv 1) pa_nil))))
    (pss_cons (ps_set (i := 9) scPts.nd rfl (Or.inl rfl) (pe_callB (call_min2 rfl) rfl T.min PyProof.Rows.boot_min (pa_cons (pe_op op_add (pv 4) (pv 5)) (pa_cons (pv 2) pa_nil))))
    (pss_one (ps_if (pt_cmpR op_lt (pv 8) (pv 9) (nomark _))
    (pss_one (ps_expr (pe_bm PySem.F.plainAttrs_list PySem.F.slot_list_append PySem.F.type_list_append mt_append (pv 3) (pa_cons (pe_tup (pa_cons (pv 8) (pa_cons (pe_op op_sub (pv 9) (pv 8)) (pa_cons (pv 6) (pa_cons (pe_op op_sub (pe_op op_add (pv 7) (pv 8)) (pv 4)) pa_nil))))) pa_nil))))
    pss_nil)))))
    (pss_one (ps_ret (pv 3))))), ?_⟩
  refine ⟨by decide, fun p hp => ?_⟩
  have s1 := same_new hp (HO.lst [])
  have ly := row_len hT
  refine ⟨_, rfl, a, tu, rfl, ⟨_, Sq.of (s1 _ _ ha)⟩, for_seq (K := K) (tu := tu) (a := a) (xs := ys) (fun i σ H2 => ∃ (o4 o5 o6 o7 o8 o9 : Option V) (zs : List V), σ = [some (.ref a), some (.int lo), some (.int hi), some (.ref p), o4, o5, o6, o7, o8, o9] ∧ Same H H2 ∧ H2 p = some (.lst zs) ∧ TupsAt H2 zs ((partsP (rs.take i) lo hi).map tv)) ⟨none, none, none, none, none, none, [], rfl, s1, upd_same, trivial⟩ (fun i σ H2 _ h2 => ?_) ?_ ?_⟩
  · obtain ⟨_, _, _, _, _, _, _, _, s2, _⟩ := h2
    exact Sq.of (s2 _ _ ha)
  · rintro i x σ H2 hx ⟨o4, o5, o6, o7, o8, o9, zs, rfl, s2, e2, t2⟩
    obtain ⟨r, q, hr', rfl, hq⟩ := row_get (hT.mono s2) hx
    refine ⟨q, _, rfl, SqT.of hq, rfl, _, _, rfl, _, _, rfl, _, _, rfl, _, _, rfl, rfl, ?_⟩
    refine ⟨_, rfl, _, rfl, _, _, rfl, ?_⟩
    refine ⟨_, rfl, _, rfl, _, _, rfl, rfl, _, rfl, _, _, rfl, ?_⟩
    refine ⟨_, rfl, _, rfl, _, _, rfl, rfl, _, rfl, ?_⟩
    have lz := row_len t2
    have lz2 := parts_len lo hi (rs.take i)
    have lz3 := List.length_take_le' i rs
    have tn : partsP (rs.take (i + 1)) lo hi = partsP (rs.take i) lo hi ++ cut1 lo hi r := by rw [take_next hr', parts_snoc]
    refine ite2 (fun c => ?_) (fun c => ?_)
    · have c' : pmax r.1 lo < pmin (r.1 + r.2.1) hi := of_decide_eq_true c
      refine ⟨_, rfl, .inl ⟨rfl, _, SqL.of e2⟩, _, rfl, _, rfl, _, rfl, _, _, rfl, rfl, _, rfl, _, rfl, _, rfl, _, _, rfl, rfl, _, rfl, _, _, rfl, rfl, (by show 4 ≤ sizeLine; decide), fun q2 hq2 => ?_⟩
      have s3 := same_new hq2 (HO.tup (tv (pmax r.1 lo, pmin (r.1 + r.2.1) hi - pmax r.1 lo, r.2.2.1, r.2.2.2 + pmax r.1 lo - r.1)))
      have e3 := s3 _ _ e2
      refine ⟨p, zs, _, rfl, rfl, e3, small (by omega), _, _, _, _, _, _, _, rfl, same_over (s2.trans s3) hp _, upd_same, ?_⟩
      rw [tn]
      unfold cut1
      rw [if_pos c', List.map_append]
      exact ((t2.mono s3).snoc upd_same).upd (lst_ne e3)
    · have c' : ¬ pmax r.1 lo < pmin (r.1 + r.2.1) hi := fun e => c (decide_eq_true e)
      refine ⟨_, _, _, _, _, _, _, rfl, s2, e2, ?_⟩
      rw [tn]
      unfold cut1
      rw [if_neg c', List.append_nil]
      exact t2
  · rintro σ H2 ⟨o4, o5, o6, o7, o8, o9, zs, rfl, s2, e2, t2⟩
    rw [ly, List.take_length] at t2
    exact ⟨_, rfl, qq p H2 s2 hp ⟨zs, e2, t2⟩⟩
/-! ### cells_of -/
def spCof : Sp := fun vs H Q _ => ∃ (a g d : Addr) (tu : Bool) (rs : List S4) (n : Nat) (pc : Int → List Int), vs = [.ref a, .int (n : Int), .ref g] ∧ RowAt tu H a rs ∧ rs.length ≤ 1000 ∧ n ≤ 1000 ∧ GetsOf H g d ∧ PcAt H d pc rs ∧
  ∀ p H', Same H H' → H p = none → H' p = some (.lst ((cellsL pc rs n).map V.int)) → Q (.ref p) H'
theorem scCof : FnScope ["row", "size", "fetch", "cells", "at", "long", "place", "skip", "piece", "step"] ["row", "size", "fetch"] (defScope sCof) := ⟨rfl, rfl, rfl, by decide +kernel, rfl, by decide +kernel, by decide +kernel⟩
theorem ok_Cof (F : Fun K "cells_of" "cells_of" sCof f fd) (hPts : Has K mg "parts" sPts ["row", "low", "high"] fPts dPts) (GPts : FnOk P w K mg base CX0 1 fPts dPts ["row", "low", "high"] spPts) (T : Txt mg) : FnOk P w K mg base CX0 2 f fd ["row", "size", "fetch"] spCof := by
  refine F.ok scCof (fun vs H Q E h => ?_) (fun cdv A outer s H vs Q E hr h => ?_)
  · obtain ⟨a, g, d, tu, rs, n, pc, rfl, _⟩ := h
    rfl
  obtain ⟨a, g, d, tu, rs, n, pc, rfl, hR, hl, hn, hg, hpc, qq⟩ := h
  refine ⟨_, (pss_cons (ps_set (i := 3) scCof.nd rfl (Or.inl rfl) (pe_op op_rep (pe_lst (pa_cons pe_int pa_nil)) (pv 1)))
    (pss_cons (ps_for PassesOwn.never rfl (pi_list (pe_call GPts (hr.mono (by decide)) rfl hPts.nm hPts.fn.kp hPts.bd .nil pass0 (pa_cons (pv 0) (pa_cons pe_int (pa_cons (pv 1) pa_nil))))) (pg_tup rfl (pgs_cons (pg_name (i := 4) scCof.nd rfl (Or.inl rfl)) (pgs_cons (pg_name (i := 5) scCof.nd rfl (Or.inl rfl)) (pgs_cons (pg_name (i := 6) scCof.nd rfl (Or.inl rfl)) (pgs_cons (pg_name (i := 7) scCof.nd rfl (Or.inl rfl)) pgs_nil)))))
    (pss_cons (ps_set (i := 8) scCof.nd rfl (Or.inl rfl) (pe_fetch (i := 2) (hr.mono (by decide)) (pv 2) (pv 6)))
    (pss_one (ps_for PassesOwn.never rfl (pi_range1 rfl T.rng (pa_cons (pv 5) pa_nil)) (pg_name (i := 9) scCof.nd rfl (Or.inl rfl))
    (pss_one (ps_asg (pe_ix ix_seq (pv 8) (pe_op op_add (pv 7) (pv 9)) (fun _ _ => rfl)) (pg_sub (pv 3) (pe_op op_add (pv 4) (pv 9)) set_list)))))))
    (pss_one (ps_ret (pv 3))))), ?_⟩
  refine ⟨(by show 1 ≤ sizeLine; decide), fun l hl1 => ⟨_, rfl, l, (n : Int), _, rfl, rfl, upd_same, by omega, by omega, ?_, fun p hp => ?_⟩⟩
  · rw [Int.toNat_natCast]
    exact Nat.le_of_lt (small (by simp; omega))
  have s1 := same_new hl1 (HO.lst [V.int 0])
  have s2 := s1.trans (same_new hp (HO.lst (List.replicate (n : Int).toNat [V.int 0]).flatten))
  have e0 : (List.replicate (n : Int).toNat [V.int 0]).flatten = (cellsL pc [] n).map V.int := by
    rw [cellsL_nil, Int.toNat_natCast, List.map_replicate]
    simp
  have ep : upd (upd H l (HO.lst [V.int 0])) p (HO.lst (List.replicate (n : Int).toNat [V.int 0]).flatten) p = some (.lst ((cellsL pc [] n).map V.int)) := by rw [upd_same, e0]
  have hpH : H p = none := none_back s1 hp
  revert s2 ep
  generalize upd (upd H l (HO.lst [V.int 0])) p (HO.lst (List.replicate (n : Int).toNat [V.int 0]).flatten) = H1
  intro s2 ep
  refine ⟨_, rfl, _, rfl, a, tu, rs, 0, (n : Int), rfl, hR.mono s2, hl, fun pt H2 s3 hpt ⟨ys, e2, t2⟩ => ?_⟩
  have npt : pt ≠ p := fun z => by rw [z, ep] at hpt; cases hpt
  have sA := s2.trans s3
  have hpcH : PcAt H d pc (partsP rs 0 (n : Int)) := hpc.parts
  have mp : ∀ r ∈ partsP rs 0 (n : Int), 0 ≤ r.1 ∧ 0 < r.2.1 ∧ r.1 + r.2.1 ≤ (n : Int) := fun r hr' => by
    obtain ⟨_, _, _, h1, _, h2, h3, _⟩ := mem_partsP hr'
    exact ⟨h1, h2, h3⟩
  have lp := parts_len 0 (n : Int) rs
  rw [← cellsL_parts] at qq
  generalize partsP rs 0 (n : Int) = ps at t2 hpcH mp lp qq
  have ly := row_len t2
  have e2' : H2 pt = some (.lst ys) := e2
  refine ⟨pt, rfl, ⟨_, SqL.of e2'⟩, for_list (K := K) (a := pt) (xs := ys) (fun i σ H3 => ∃ (o4 o5 o6 o7 o8 o9 : Option V), σ = [some (.ref a), some (.int (n : Int)), some (.ref g), some (.ref p), o4, o5, o6, o7, o8, o9] ∧ Same H H3 ∧ H3 pt = some (.lst ys) ∧ TupsAt H3 ys (ps.map tv) ∧ H3 p = some (.lst ((cellsL pc (ps.take i) n).map V.int)))
    ⟨none, none, none, none, none, none, rfl, sA, e2, t2, s3 _ _ ep⟩ (fun i σ H3 _ h3 => ?_) ?_ ?_⟩
  · obtain ⟨_, _, _, _, _, _, _, _, e3, _⟩ := h3
    exact SqL.of e3
  · rintro i x σ H3 hx ⟨o4, o5, o6, o7, o8, o9, rfl, s4, e3, t3, e4⟩
    obtain ⟨r, q, hr', rfl, hq⟩ := row_get t3 hx
    obtain ⟨b0, b1, b2⟩ := mp r (List.mem_of_getElem? hr')
    obtain ⟨kvs, ed, kk⟩ := id hpcH
    have g3 := hg.mono s4
    obtain ⟨q1, tu1, h1, h2, h3, h4⟩ := kk r (List.mem_of_getElem? hr')
    refine ⟨q, _, rfl, SqT.of hq, rfl, _, _, rfl, _, _, rfl, _, _, rfl, _, _, rfl, rfl, ?_⟩
    refine ⟨g, rfl, ⟨d, g3⟩, _, rfl, d, .ref q1, g3, .inl ⟨kvs, .inl r.2.2.1, .inl (s4 _ _ ed), rfl, h1.symm⟩, ?_⟩
    refine ⟨_, rfl, r.2.1, rfl, by omega, by omega, ?_⟩
    refine for_range (lo := 0) (n := r.2.1.toNat) (fun j σ H5 => ∃ o9, σ = [some (.ref a), some (.int (n : Int)), some (.ref g), some (.ref p), some (.int r.1), some (.int r.2.1), some (.int r.2.2.1), some (.int r.2.2.2), some (.ref q1), o9] ∧ Same H H5 ∧ H5 pt = some (.lst ys) ∧ TupsAt H5 ys (ps.map tv) ∧ H5 p = some (.lst ((cellsL pc (ps.take i ++ [(r.1, (j : Int), r.2.2.1, r.2.2.2)]) n).map V.int)))
      ⟨_, rfl, s4, e3, t3, by rw [cellsL_zero]; exact e4⟩ ?_ ?_
    · rintro j σ H5 hj ⟨o9', rfl, s5, e5, t5, e6⟩
      have hj' : j < r.2.1.toNat := hj
      have z0 : (0 : Int) + (j : Int) = (j : Int) := by omega
      obtain ⟨v, hv⟩ : ∃ v, (pc r.2.2.1)[(r.2.2.2 + (j : Int)).toNat]? = some v := by
        have : (r.2.2.2 + (j : Int)).toNat < (pc r.2.2.1).length := by omega
        exact ⟨_, List.getElem?_eq_getElem this⟩
      have hat : atI ((pc r.2.2.1).map V.int) (r.2.2.2 + (0 + (j : Int))) = some (.int v) := by
        have e : r.2.2.2 + (0 + (j : Int)) = (((r.2.2.2 + (j : Int)).toNat : Nat) : Int) := by omega
        rw [e]
        exact atI_nat (by rw [List.getElem?_map, hv]; rfl)
      have h5 := s5 _ _ h2
      have lc : ((cellsL pc (ps.take i ++ [(r.1, (j : Int), r.2.2.1, r.2.2.2)]) n).map V.int).length = n := by rw [List.length_map, cellsL_len]
      have hix : ixN ((cellsL pc (ps.take i ++ [(r.1, (j : Int), r.2.2.1, r.2.2.2)]) n).map V.int).length (r.1 + (0 + (j : Int))) = some (r.1 + (j : Int)).toNat := by
        rw [lc]
        unfold ixN
        rw [z0]
        rw [if_pos (by omega), if_pos (by omega)]
      have next : ∃ o9, [some (V.ref a), some (.int (n : Int)), some (.ref g), some (.ref p), some (.int r.1), some (.int r.2.1), some (.int r.2.2.1), some (.int r.2.2.2), some (.ref q1), some (.int (0 + (j : Int)))] = [some (V.ref a), some (.int (n : Int)), some (.ref g), some (.ref p), some (.int r.1), some (.int r.2.1), some (.int r.2.2.1), some (.int r.2.2.2), some (.ref q1), o9] ∧ Same H (upd H5 p (.lst (((cellsL pc (ps.take i ++ [(r.1, (j : Int), r.2.2.1, r.2.2.2)]) n).map V.int).set (r.1 + (j : Int)).toNat (.int v)))) ∧ upd H5 p (.lst (((cellsL pc (ps.take i ++ [(r.1, (j : Int), r.2.2.1, r.2.2.2)]) n).map V.int).set (r.1 + (j : Int)).toNat (.int v))) pt = some (.lst ys) ∧ TupsAt (upd H5 p (.lst (((cellsL pc (ps.take i ++ [(r.1, (j : Int), r.2.2.1, r.2.2.2)]) n).map V.int).set (r.1 + (j : Int)).toNat (.int v)))) ys (ps.map tv) ∧ upd H5 p (.lst (((cellsL pc (ps.take i ++ [(r.1, (j : Int), r.2.2.1, r.2.2.2)]) n).map V.int).set (r.1 + (j : Int)).toNat (.int v))) p = some (.lst ((cellsL pc (ps.take i ++ [(r.1, ((j + 1 : Nat) : Int), r.2.2.1, r.2.2.2)]) n).map V.int)) :=
        ⟨_, rfl, same_over s5 hpH _, by rw [upd_ne npt]; exact e5, t5.upd (lst_ne e6), by rw [upd_same, ← cellsL_step b0 h3 hv, List.map_set]⟩
      cases tu1 with
      | false => exact ⟨_, rfl, _, rfl, _, rfl, _, _, rfl, rfl, .inl ⟨q1, _, _, .int v, rfl, rfl, SqL.of h5, hat, _, rfl, _, rfl, _, rfl, _, _, rfl, rfl, p, _, _, _, rfl, rfl, e6, hix, next⟩⟩
      | true => exact ⟨_, rfl, _, rfl, _, rfl, _, _, rfl, rfl, .inr (.inl ⟨q1, _, _, .int v, rfl, rfl, SqT.of h5, hat, _, rfl, _, rfl, _, rfl, _, _, rfl, rfl, p, _, _, _, rfl, rfl, e6, hix, next⟩)⟩
    · rintro σ H5 ⟨o9', rfl, s5, e5, t5, e6⟩
      refine ⟨_, _, _, _, _, _, rfl, s5, e5, t5, ?_⟩
      rw [take_next hr']
      have e : ((r.2.1.toNat : Nat) : Int) = r.2.1 := by omega
      rw [e] at e6
      exact e6
  · rintro σ H3 ⟨o4, o5, o6, o7, o8, o9, rfl, s4, e3, t3, e4⟩
    rw [ly, List.take_length] at e4
    exact ⟨_, rfl, qq p H3 s4 hpH e4⟩
end
end K14
set_option maxHeartbeats 4000000
namespace K14
open PySem L2
def chunk (cs : List Int) (i : Nat) : List Int := (cs.drop (8 * i)).take 8
theorem cut_chunk (cs : List Int) (i : Nat) (h : 8 * i < cs.length) : cutV (cs.map V.int) (some (0 + (i : Int) * 8)) (some (0 + (i : Int) * 8 + 8)) = (chunk cs i).map V.int := by
  have e1 : (0 : Int) + (i : Int) * 8 = ((8 * i : Nat) : Int) := by omega
  have e2 : ((8 * i : Nat) : Int) + 8 = ((8 * i + 8 : Nat) : Int) := by omega
  unfold cutV chunk
  rw [e1, e2, HT.sIx_nat, HT.sIx_nat, List.length_map, ← List.map_drop, ← List.map_take, Nat.min_eq_left (by omega : 8 * i ≤ cs.length)]
  congr 1
  rcases Nat.le_total (8 * i + 8) cs.length with z | z
  · rw [Nat.min_eq_left z]
    congr 1
    omega
  · rw [Nat.min_eq_right z, List.take_of_length_le (by rw [List.length_drop]; omega), List.take_of_length_le (by rw [List.length_drop]; omega)]
/-- the parts of a split, as far as i -/
def SplAt (H : Hp) (at' : Int) (cs : List Int) (zs : List V) : Prop := ∀ k, k < zs.length → ∃ t q, zs[k]? = some (.ref t) ∧ H t = some (.tup [.int (at' + 8 * (k : Int)), .ref q]) ∧ H q = some (.tup ((chunk cs k).map V.int))
theorem SplAt.keep {H H' : Hp} {at' : Int} {cs : List Int} {zs : List V} (h : SplAt H at' cs zs) (kp : ∀ q t, H q = some (.tup t) → H' q = some (.tup t)) : SplAt H' at' cs zs := fun k hk => by
  obtain ⟨t, q, h1, h2, h3⟩ := h k hk
  exact ⟨t, q, h1, kp _ _ h2, kp _ _ h3⟩
theorem SplAt.mono {H H' : Hp} {at' : Int} {cs : List Int} {zs : List V} (h : SplAt H at' cs zs) (s : Same H H') : SplAt H' at' cs zs := h.keep fun q t e => s _ _ e
section
variable {P : Program} {w : World} {K : PySem.W.Frag} {mg : Str → Option Value} {base : Heap} {f fPts : Addr} {fd dPts : FuncData}
def spSpl : Sp := fun vs H Q _ => ∃ (c : Addr) (at' : Int) (cs : List Int), vs = [.int at', .ref c] ∧ H c = some (.lst (cs.map V.int)) ∧ cs.length ≤ 1000 ∧
  ∀ p H' zs, Same H H' → H p = none → H' p = some (.lst zs) → zs.length = (cs.length + 7) / 8 → SplAt H' at' cs zs → Q (.ref p) H'
theorem scSpl : FnScope ["at", "cells"] ["at", "cells"] (defScope sSpl) := ⟨rfl, rfl, rfl, by decide +kernel, rfl, by decide +kernel, by decide +kernel⟩
theorem ok_Spl (F : Fun K "split_up" "split_up" sSpl f fd) (T : Txt mg) : FnOk P w K mg base CX0 1 f fd ["at", "cells"] spSpl := by
  refine F.ok scSpl (fun vs H Q E h => ?_) (fun cdv A outer s H vs Q E hr h => ?_)
  · obtain ⟨c, at', cs, rfl, _⟩ := h
    rfl
  obtain ⟨c, at', cs, rfl, hc, hl, qq⟩ := h
  obtain ⟨t1, pc8⟩ := T.pc8
  refine ⟨_, (pss_one (ps_ret (pe_comp [0, 1] ["at", "cells"] (pi_range3 rfl T.rng (pa_cons pe_int (pa_cons (pe_callB call_len_seq rfl T.len PySem.boot_len (pa_cons (pv 1) pa_nil)) (pa_cons (pe_glob (v := .int 8) rfl pc8 ⟨_, rfl⟩) pa_nil)))) (fun _ _ _ _ _ _ => pts_nil)
          (fun _ _ _ _ _ _ => (pe_tup (pa_cons (pe_op op_add (pv 1) (pv 0)) (pa_cons (pe_callTy (call_tuple_ofK (K := K) rfl) rfl T.tup PyProof.Rows.boot_tuple (pa_cons (pe_slice (sl_listK (K := K) rfl) (pv 2) (po_some (pv 0)) (po_some (pe_op op_add (pv 0) (pe_glob (v := .int 8) rfl pc8 ⟨_, rfl⟩)))) pa_nil)) pa_nil))))
          rfl (by decide +kernel) (by decide +kernel) rfl (by decide +kernel) (fun j y hj => by
            match j, hj with
            | 0, hj => cases hj; exact ⟨0, rfl, rfl, rfl, .inl rfl⟩ 
            | 1, hj => cases hj; exact ⟨1, rfl, rfl, rfl, .inl rfl⟩) rfl (by decide +kernel) rfl))), ?_⟩
  have lm : (cs.map V.int).length = cs.length := List.length_map _
  refine ⟨_, rfl, c, _, rfl, .inl (SqL.of hc), 0, _, rfl, ⟨by decide, by decide, by rw [lm]; omega, by rw [lm]; omega⟩, fun p hp => ?_⟩
  rw [lm]
  have en : (if (0 : Int) < (cs.length : Int) then ((cs.length : Int) - 0 - 1) / 8 + 1 else 0).toNat = (cs.length + 7) / 8 := by
    split <;> omega
  rw [en]
  refine comp_rangeS (fun i zs H2 => Same H H2 ∧ H2 p = some (.lst zs) ∧ zs.length = i ∧ SplAt H2 at' cs zs) ⟨same_new hp _, upd_same, rfl, fun k hk => absurd hk (by simp)⟩ ?_ ?_
  · rintro i zs H2 hi ⟨s2, e2, l2, p2⟩
    have h8 : 8 * i < cs.length := by omega
    refine ttT ⟨_, rfl, _, rfl, _, _, rfl, rfl, _, rfl, _, rfl, _, rfl, _, rfl, _, _, rfl, rfl, _, rfl, c, _, rfl, SqL.of (s2 _ _ hc), fun b hb => ?_⟩
    rw [cut_chunk cs i h8]
    have s3 := same_new hb (HO.lst ((chunk cs i).map V.int))
    refine ⟨b, _, rfl, .inl ⟨SqL.of upd_same, fun q hq => ?_⟩⟩
    have s4 := same_new hq (HO.tup ((chunk cs i).map V.int))
    refine ⟨(by show 2 ≤ sizeLine; decide), fun t ht => ?_⟩
    have s5 := same_new ht (HO.tup [V.int (at' + (0 + (i : Int) * 8)), V.ref q])
    have sB := s3.trans (s4.trans s5)
    have e5 := sB _ _ e2
    refine ⟨e5, small (by omega), same_over (s2.trans sB) hp _, upd_same, by simp [l2], ?_⟩
    have kp : ∀ q0 t0, upd (upd (upd H2 b (HO.lst ((chunk cs i).map V.int))) q (HO.tup ((chunk cs i).map V.int))) t (HO.tup [V.int (at' + (0 + (i : Int) * 8)), V.ref q]) q0 = some (.tup t0) → upd (upd (upd (upd H2 b (HO.lst ((chunk cs i).map V.int))) q (HO.tup ((chunk cs i).map V.int))) t (HO.tup [V.int (at' + (0 + (i : Int) * 8)), V.ref q])) p (.lst (zs ++ [.ref t])) q0 = some (.tup t0) := fun q0 t0 e => by
      rw [upd_ne (fun z => by rw [z, e5] at e; cases e)]
      exact e
    intro k hk
    rw [List.length_append] at hk
    by_cases z : k < zs.length
    · obtain ⟨t0, q0, h1, h2, h3⟩ := ((p2.mono sB).keep kp) k z
      exact ⟨t0, q0, by rw [List.getElem?_append_left z]; exact h1, h2, h3⟩
    · have ek : k = i := by
        have : [V.ref t].length = 1 := rfl
        omega
      subst ek
      refine ⟨t, q, by rw [List.getElem?_append_right (by omega), l2]; simp, ?_, kp _ _ (s5 _ _ upd_same)⟩
      have e8 : at' + (0 + (k : Int) * 8) = at' + 8 * (k : Int) := by omega
      rw [← e8]
      exact kp _ _ upd_same
  · rintro zs H2 ⟨s2, e2, l2, p2⟩
    exact qq p H2 zs s2 hp e2 l2 p2
end
end K14
set_option maxHeartbeats 4000000
namespace K14
open PySem L2
/-- the cells told so far: the first i whole, the one at i told as v -/
def midL (pc : Int → List Int) (rs : List S4) (n i : Nat) (v : Int) : List Int := (List.range n).map fun k : Nat => if k < i then vAt pc rs (k : Int) else if k = i then v else 0
theorem midL_len {pc : Int → List Int} {rs : List S4} {n i : Nat} {v : Int} : (midL pc rs n i v).length = n := by
  unfold midL
  simp
theorem midL_zero (pc : Int → List Int) (rs : List S4) (n : Nat) : midL pc rs n 0 0 = List.replicate n 0 := by
  unfold midL
  refine List.ext_getElem (by simp) fun i h1 h2 => ?_
  simp
theorem midL_next (pc : Int → List Int) (rs : List S4) (n i : Nat) : midL pc rs n i (vAt pc rs (i : Int)) = midL pc rs n (i + 1) 0 := by
  unfold midL
  refine List.map_congr_left fun k _ => ?_
  by_cases h : k < i
  · rw [if_pos h, if_pos (by omega)]
  · rw [if_neg h]
    by_cases z : k = i
    · rw [if_pos z, if_pos (by omega), z]
    · rw [if_neg z, if_neg (by omega)]
      split <;> rfl
theorem midL_end (pc : Int → List Int) (rs : List S4) (n : Nat) (v : Int) : midL pc rs n n v = cellsL pc rs n := by
  unfold midL cellsL
  refine List.map_congr_left fun k hk => ?_
  rw [if_pos (List.mem_range.mp hk)]
theorem midL_set (pc : Int → List Int) (rs : List S4) (n i : Nat) (v v' : Int) : (midL pc rs n i v).set i v' = midL pc rs n i v' := by
  unfold midL
  refine cells_set fun k _ => ?_
  by_cases h : k < i
  · rw [if_pos h, if_neg (by omega), if_pos h]
  · rw [if_neg h, if_neg h]
    by_cases z : k = i
    · rw [if_pos z, if_pos z]
    · rw [if_neg z, if_neg z, if_neg z]
section
variable {P : Program} {w : World} {K : PySem.W.Frag} {mg : Str → Option Value} {base : Heap} {f fStm : Addr} {fd dStm : FuncData}
/-! ### _law_cell_at -/
def spCel (K : PySem.W.Frag) : Sp := fun vs H Q _ => ∃ (a : Addr) (ns : List Int) (k : Int), vs = [.ref a, .int k] ∧ 0 ≤ k ∧ SqL K H a (ns.map V.int) ∧ ∀ z : Int, Q (.int z) H
theorem scCel : FnScope ["_law_script", "_law_k"] ["_law_script", "_law_k"] (defScope sCel) := ⟨rfl, rfl, rfl, by decide +kernel, rfl, by decide +kernel, by decide +kernel⟩
theorem ok_Cel (F : Fun K "_law_cell_at" "_law_cell_at" sCel f fd) (T : Txt mg) : FnOk P w K mg base CX0 1 f fd ["_law_script", "_law_k"] (spCel K) := by
  refine F.ok scCel (fun vs H Q E h => ?_) (fun cdv A outer s H vs Q E hr h => ?_)
  · obtain ⟨a, ns, k, rfl, _⟩ := h
    rfl
  obtain ⟨a, ns, k, rfl, h0, hS, q⟩ := h
  refine ⟨_, (pss_cons (ps_if (pt_cmpR op_lt (pv 1) (pe_callB call_len_seq rfl T.len PySem.boot_len (pa_cons (pv 0) pa_nil)) (nomark _))
    (pss_one (ps_ret (pe_ix ix_list (pv 0) (pv 1) (fun _ _ => rfl))))
    pss_nil)
    (pss_one (ps_ret pe_int))), ?_⟩
  refine ⟨_, rfl, _, rfl, a, _, rfl, .inl hS, _, _, rfl, rfl, _, rfl, ?_⟩
  refine ite2 (fun c => ?_) (fun c => ?_)
  · have c' : k < (((ns.map V.int).length : Nat) : Int) := of_decide_eq_true c
    rw [List.length_map] at c'
    obtain ⟨j, rfl⟩ := Int.eq_ofNat_of_zero_le h0
    have hk : j < ns.length := by omega
    exact ⟨_, rfl, _, rfl, a, _, _, .int ns[j], rfl, rfl, hS, atI_nat (by simp [hk]), q _⟩
  · exact q 0
/-! ### _law_stream -/
def spStm : Sp := fun vs H Q _ => ∃ (c n : Int), vs = [.int c, .int n] ∧ 0 ≤ n ∧ n ≤ 1000 ∧ ∀ p H' (ns : List Int), Same H H' → H p = none → H' p = some (.lst (ns.map V.int)) → ns.length = n.toNat → Q (.ref p) H'
theorem scStm : FnScope ["_law_cell", "_law_many", "_law_found", "_law_left", "_law_number", "_law_k"] ["_law_cell", "_law_many"] (defScope sStm) := ⟨rfl, rfl, rfl, by decide +kernel, rfl, by decide +kernel, by decide +kernel⟩
theorem ok_Stm (F : Fun K "_law_stream" "_law_stream" sStm f fd) (T : Txt mg) : FnOk P w K mg base CX0 1 f fd ["_law_cell", "_law_many"] spStm := by
  refine F.ok scStm (fun vs H Q E h => ?_) (fun cdv A outer s H vs Q E hr h => ?_)
  · obtain ⟨c, n, rfl, _⟩ := h
    rfl
  obtain ⟨c, n, rfl, n0, n1, qq⟩ := h
  refine ⟨_, (pss_cons (ps_set (i := 2) scStm.nd rfl (Or.inl rfl) (pe_lst pa_nil))
    (pss_cons (ps_set (i := 3) scStm.nd rfl (Or.inl rfl) (pe_op op_fdiv (pv 0) pe_int))
    (pss_cons (ps_set (i := 4) scStm.nd rfl (Or.inl rfl) (pe_op op_mod (pv 3) pe_int))
    (pss_cons (ps_for PassesOwn.never rfl (pi_range1 rfl T.rng (pa_cons (pv 1) pa_nil)) (pg_name (i := 5) scStm.nd rfl (Or.inl rfl))
    (pss_cons (ps_set (i := 4) scStm.nd rfl (Or.inl rfl) (pe_op op_mod (pe_op op_add (pe_op op_add (pe_op op_add (pe_op op_mul (pv 4) (pv 4)) (pe_op op_mul pe_int (pv 4))) (pe_op op_mul pe_int (pv 5))) pe_int) pe_int))
    (pss_cons (ps_expr (pe_bm PySem.F.plainAttrs_list PySem.F.slot_list_append PySem.F.type_list_append mt_append (pv 2) (pa_cons (pe_ix ix_list (pe_lst (pa_cons (pv 4) (pa_cons (pe_op op_mod (pv 3) pe_int) pa_nil))) (pe_op op_mod (pv 0) pe_int) (fun _ _ => rfl)) pa_nil)))
    (pss_one (ps_set (i := 3) scStm.nd rfl (Or.inl rfl) (pe_op op_fdiv (pv 3) pe_int))))))
    (pss_one (ps_ret (pv 2))))))), ?_⟩
  refine ⟨by decide, fun p hp => ?_⟩
  refine ⟨_, rfl, _, _, rfl, rfl, ⟨by decide, by decide⟩, ?_⟩
  refine ⟨_, rfl, _, _, rfl, rfl, (by show (0 : Int) < 2147483647; decide), ?_⟩
  have m0 : (0 : Int) ≤ c / 2 % 2147483647 := by omega
  have m1 : c / 2 % 2147483647 < 2147483647 := by omega
  dsimp only
  generalize c / 2 % 2147483647 = m at m0 m1
  generalize c / 2 = lf
  refine ⟨_, rfl, n, rfl, by omega, by omega, ?_⟩
  refine for_range (lo := 0) (n := n.toNat) (fun i σ H2 => ∃ (lf m : Int) (o : Option V) (ns : List Int), σ = [some (.int c), some (.int n), some (.ref p), some (.int lf), some (.int m), o] ∧ 0 ≤ m ∧ m < 2147483647 ∧ Same H H2 ∧ H2 p = some (.lst (ns.map V.int)) ∧ ns.length = i) ⟨lf, m, none, [], rfl, m0, m1, same_new hp _, upd_same, rfl⟩ ?_ ?_
  · rintro i σ H2 hi ⟨lf, m, o, ns, rfl, m0, m1, s2, e2, l2⟩
    have hi' : i < n.toNat := hi
    refine ⟨_, rfl, _, rfl, _, _, rfl, rfl, .inl ⟨by omega, by omega⟩, _, rfl, _, _, rfl, rfl, .inr ⟨by omega, by omega⟩, _, _, rfl, rfl, _, rfl, _, _, rfl, rfl, .inl ⟨by decide, by decide⟩, _, _, rfl, rfl, _, _, rfl, rfl, _, _, rfl, rfl, (by show (0 : Int) < 2147483647; decide), ?_⟩
    dsimp only
    generalize hm : (m * m + 48271 * m + 7919 * (0 + (i : Int)) + 11) % 2147483647 = m'
    have m0' : (0 : Int) ≤ m' := by omega
    have m1' : m' < 2147483647 := by omega
    refine ⟨_, rfl, .inl ⟨rfl, _, SqL.of e2⟩, _, rfl, _, rfl, _, _, rfl, rfl, (by show (0 : Int) < 1000003; decide), (by show 2 ≤ sizeLine; decide), fun pl hpl => ?_⟩
    have s3 := same_new hpl (HO.lst [V.int m', V.int (lf % 1000003)])
    refine ⟨_, rfl, _, _, rfl, rfl, (by show (0 : Int) < 2; decide), ?_⟩
    have e3 := s3 _ _ e2
    have fin : ∀ z : Int, ∃ (lf' m'' : Int) (o : Option V) (ns' : List Int), [some (V.int c), some (.int n), some (.ref p), some (.int (lf / 1000003)), some (.int m'), some (.int (0 + (i : Int)))] = [some (V.int c), some (.int n), some (.ref p), some (.int lf'), some (.int m''), o] ∧ 0 ≤ m'' ∧ m'' < 2147483647 ∧ Same H (upd (upd H2 pl (HO.lst [V.int m', V.int (lf % 1000003)])) p (.lst (ns.map V.int ++ [.int z]))) ∧ upd (upd H2 pl (HO.lst [V.int m', V.int (lf % 1000003)])) p (.lst (ns.map V.int ++ [.int z])) p = some (.lst (ns'.map V.int)) ∧ ns'.length = i + 1 := fun z =>
      ⟨_, _, _, ns ++ [z], rfl, m0', m1', same_over (s2.trans s3) hp _, by rw [upd_same, List.map_append]; rfl, by simp [l2]⟩
    have sm : (ns.map V.int).length < sizeLine := small (by rw [List.length_map]; omega)
    obtain e | e : c % 2 = 0 ∨ c % 2 = 1 := by omega
    · exact ⟨pl, _, _, .int m', rfl, rfl, SqL.of upd_same, (by rw [e]; rfl), p, _, _, rfl, rfl, e3, sm, _, rfl, _, _, rfl, rfl, ⟨by decide, by decide⟩, fin _⟩
    · exact ⟨pl, _, _, .int (lf % 1000003), rfl, rfl, SqL.of upd_same, (by rw [e]; rfl), p, _, _, rfl, rfl, e3, sm, _, rfl, _, _, rfl, rfl, ⟨by decide, by decide⟩, fin _⟩
  · rintro σ H2 ⟨lf, m, o, ns, rfl, m0, m1, s2, e2, l2⟩
    exact ⟨_, rfl, qq p H2 ns s2 hp e2 l2⟩
/-! ### _law_row -/
def spRow : Sp := fun vs H Q _ => ∃ (c size : Int), vs = [.int c, .int size] ∧ 0 ≤ size ∧ size ≤ 40 ∧ ∀ p H' (rs : List S4), Same H H' → H p = none → RowAt false H' p rs → rs.length ≤ 24 → Ord 0 rs size → (∀ r ∈ rs, GoodR r) → Q (.ref p) H'
theorem pick4 (n y : Int) (h : 0 ≤ y) : ∃ δ : Int, 0 ≤ δ ∧ atI [V.int 0, V.int 0, V.int 0, V.int y] (n % 4) = some (.int δ) := by
  obtain e | e | e | e : n % 4 = 0 ∨ n % 4 = 1 ∨ n % 4 = 2 ∨ n % 4 = 3 := by omega
  · rw [e]; exact ⟨0, Int.le_refl _, rfl⟩
  · rw [e]; exact ⟨0, Int.le_refl _, rfl⟩
  · rw [e]; exact ⟨0, Int.le_refl _, rfl⟩
  · rw [e]; exact ⟨y, h, rfl⟩
theorem scRow : FnScope ["_law_cell", "_law_size", "_law_row_here", "_law_at", "_law_number", "_law_place", "_law_skip", "_law_long"] ["_law_cell", "_law_size"] (defScope sRow) := ⟨rfl, rfl, rfl, by decide +kernel, rfl, by decide +kernel, by decide +kernel⟩
theorem ok_Row (F : Fun K "_law_row" "_law_row" sRow f fd) (hStm : Has K mg "_law_stream" sStm ["_law_cell", "_law_many"] fStm dStm) (GStm : FnOk P w K mg base CX0 1 fStm dStm ["_law_cell", "_law_many"] spStm) (T : Txt mg) : FnOk P w K mg base CX0 2 f fd ["_law_cell", "_law_size"] spRow := by
  refine F.ok scRow (fun vs H Q E h => ?_) (fun cdv A outer s H vs Q E hr h => ?_)
  · obtain ⟨c, size, rfl, _⟩ := h
    rfl
  obtain ⟨c, size, rfl, z0, z1, qq⟩ := h
  refine ⟨_, (pss_cons (ps_set (i := 2) scRow.nd rfl (Or.inl rfl) (pe_lst pa_nil))
    (pss_cons (ps_set (i := 3) scRow.nd rfl (Or.inl rfl) pe_int)
    (pss_cons (ps_for PassesOwn.never rfl (pi_list (pe_call GStm (hr.mono (by decide)) rfl hStm.nm hStm.fn.kp hStm.bd .nil pass0 (pa_cons (pv 0) (pa_cons pe_int pa_nil)))) (pg_name (i := 4) scRow.nd rfl (Or.inl rfl))
    (pss_cons (ps_set (i := 3) scRow.nd rfl (Or.inl rfl) (pe_op op_add (pv 3) (pe_ix ix_list (pe_lst (pa_cons pe_int (pa_cons pe_int (pa_cons pe_int (pa_cons (pe_op op_mod (pe_op op_fdiv (pv 4) pe_int) pe_int) pa_nil))))) (pe_op op_mod (pv 4) pe_int) (fun _ _ => rfl))))
    (pss_cons (ps_set (i := 5) scRow.nd rfl (Or.inl rfl) (pe_op op_add pe_int (pe_op op_mod (pe_op op_fdiv (pv 4) pe_int) pe_int)))
    (pss_cons (ps_set (i := 6) scRow.nd rfl (Or.inl rfl) (pe_op op_mod (pe_op op_fdiv (pv 4) pe_int) pe_int))
    (pss_cons (ps_if (PW.pt (pw_and (pt_cmpR (op_neE (hu_of hr |> Nat.lt_of_succ_lt)) (pv 2) (pe_lst pa_nil) (nomark _)) (pw_and (pt_cmpR op_eq (pe_op op_mod (pe_op op_fdiv (pv 4) pe_int) pe_int) pe_int (nomark _)) (pw_and1 (pt_cmpR op_lt (pe_op op_add (pe_ix ix_tup (pe_ix ix_list (pv 2) (pe_un un_neg pe_int) (fun _ _ => rfl)) pe_int (fun _ _ => rfl)) (pe_ix ix_tup (pe_ix ix_list (pv 2) (pe_un un_neg pe_int) (fun _ _ => rfl)) pe_int (fun _ _ => rfl))) pe_int (nomark _))))))
    (pss_cons (ps_set (i := 5) scRow.nd rfl (Or.inl rfl) (pe_ix ix_tup (pe_ix ix_list (pv 2) (pe_un un_neg pe_int) (fun _ _ => rfl)) pe_int (fun _ _ => rfl)))
    (pss_one (ps_set (i := 6) scRow.nd rfl (Or.inl rfl) (pe_op op_add (pe_ix ix_tup (pe_ix ix_list (pv 2) (pe_un un_neg pe_int) (fun _ _ => rfl)) pe_int (fun _ _ => rfl)) (pe_ix ix_tup (pe_ix ix_list (pv 2) (pe_un un_neg pe_int) (fun _ _ => rfl)) pe_int (fun _ _ => rfl))))))
    pss_nil)
    (pss_cons (ps_set (i := 7) scRow.nd rfl (Or.inl rfl) (pe_callB (call_min3 rfl) rfl T.min PyProof.Rows.boot_min (pa_cons (pe_op op_add pe_int (pe_op op_mod (pe_op op_fdiv (pv 4) pe_int) pe_int)) (pa_cons (pe_op op_sub pe_int (pv 6)) (pa_cons (pe_op op_sub (pv 1) (pv 3)) pa_nil)))))
    (pss_one (ps_if (pt_cmpR op_gt (pv 7) pe_int (nomark _))
    (pss_cons (ps_expr (pe_bm PySem.F.plainAttrs_list PySem.F.slot_list_append PySem.F.type_list_append mt_append (pv 2) (pa_cons (pe_tup (pa_cons (pv 3) (pa_cons (pv 7) (pa_cons (pv 5) (pa_cons (pv 6) pa_nil))))) pa_nil)))
    (pss_one (ps_set (i := 3) scRow.nd rfl (Or.inl rfl) (pe_op op_add (pv 3) (pv 7)))))
    pss_nil))))))))
    (pss_one (ps_ret (pv 2)))))), ?_⟩
  refine ⟨by decide, fun p hp => ?_⟩
  have s1 := same_new hp (HO.lst [])
  refine ⟨_, rfl, c, 24, rfl, by decide, by decide, fun ps H2 ns s2 hps e2 l2 => ?_⟩
  have nps : ps ≠ p := fun e => by rw [e, upd_same] at hps; cases hps
  refine ⟨ps, rfl, ⟨_, SqL.of e2⟩, for_list (K := K) (a := ps) (xs := ns.map V.int) (fun i σ H3 => ∃ (at' : Int) (o4 o5 o6 o7 : Option V) (rs : List S4) (zs : List V), σ = [some (.int c), some (.int size), some (.ref p), some (.int at'), o4, o5, o6, o7] ∧ Same H H3 ∧ H3 ps = some (.lst (ns.map V.int)) ∧ H3 p = some (.lst zs) ∧ TupsAt H3 zs (rs.map tv) ∧ rs.length ≤ i ∧ 0 ≤ at' ∧ Ord 0 rs at' ∧ Ord 0 rs size ∧ ∀ r ∈ rs, GoodR r)
    ⟨0, none, none, none, none, [], [], rfl, s1.trans s2, e2, s2 _ _ upd_same, trivial, Nat.le_refl _, Int.le_refl _, Int.le_refl _, z0, (fun r h => by cases h)⟩ (fun i σ H3 _ h3 => ?_) ?_ ?_⟩
  · obtain ⟨_, _, _, _, _, _, _, _, _, e3, _⟩ := h3
    exact SqL.of e3
  · rintro i x σ H3 hx ⟨at', o4, o5, o6, o7, rs, zs, rfl, s3, e3, e4, t4, lr, a0, od1, od2, gr⟩
    have hi : i < ns.length := by
      have := (List.getElem?_eq_some_iff.mp hx).1
      rwa [List.length_map] at this
    have l24 : ns.length = 24 := l2
    rw [List.getElem?_map] at hx
    obtain ⟨n, _, rfl⟩ := Option.map_eq_some_iff.mp hx
    obtain ⟨δ, d0, dd⟩ := pick4 n (n / 5 % 6) (by omega)
    refine ⟨_, rfl, _, rfl, _, _, rfl, rfl, ⟨by decide, by decide⟩, _, _, rfl, rfl, (by show (0 : Int) < 6; decide), (by show 4 ≤ sizeLine; decide), fun pl hpl => ?_⟩
    have s4 := same_new hpl (HO.lst [V.int 0, V.int 0, V.int 0, V.int (n / 5 % 6)])
    refine ⟨_, rfl, _, _, rfl, rfl, (by show (0 : Int) < 4; decide), pl, _, _, .int δ, rfl, rfl, SqL.of upd_same, dd, _, _, rfl, rfl, ?_⟩
    refine ⟨_, rfl, _, _, rfl, rfl, ⟨by decide, by decide⟩, _, _, rfl, rfl, (by show (0 : Int) < 4; decide), _, _, rfl, rfl, ?_⟩
    refine ⟨_, rfl, _, _, rfl, rfl, ⟨by decide, by decide⟩, _, _, rfl, rfl, (by show (0 : Int) < 8; decide), ?_⟩
    have a0' : 0 ≤ at' + δ := by omega
    have od1' := od1.up (show at' ≤ at' + δ by omega)
    dsimp only
    generalize at' + δ = at2 at a0' od1'
    have gp : 2 ≤ 2 + n / 64 % 4 ∧ 2 + n / 64 % 4 ≤ 5 := by omega
    have gk : 0 ≤ n / 256 % 8 ∧ n / 256 % 8 < 8 := by omega
    generalize 2 + n / 64 % 4 = pc at gp
    generalize n / 256 % 8 = sk at gk
    refine at_next ?_
    refine seq_in (if_rest (fun σ' H' => ∃ (pc sk : Int), σ' = [some (.int c), some (.int size), some (.ref p), some (.int at2), some (.int n), some (.int pc), some (.int sk), o7] ∧ Same H3 H' ∧ (2 ≤ pc ∧ pc ≤ 5) ∧ 0 ≤ sk ∧ sk < 8) (fun σ' H' hR => ?_) (fun go => ?_))
    · obtain ⟨pc, sk, rfl, s5, gp, gk⟩ := hR
      refine ⟨_, rfl, _, _, rfl, rfl, ⟨by decide, by decide⟩, _, _, rfl, rfl, (by show (0 : Int) < 8; decide), _, _, rfl, rfl, _, rfl, _, _, rfl, rfl, _, rfl, _, rfl, _, _, rfl, rfl, _, _, _, rfl, ?_⟩
      have hL : min (min (1 + n / 8192 % 8) (8 - sk)) (size - at2) ≤ size - at2 := Int.min_le_right _ _
      have hL8 : min (min (1 + n / 8192 % 8) (8 - sk)) (size - at2) ≤ 8 - sk := Int.le_trans (Int.min_le_left _ _) (Int.min_le_right _ _)
      dsimp only
      generalize min (min (1 + n / 8192 % 8) (8 - sk)) (size - at2) = L at hL hL8
      refine ⟨_, rfl, _, _, rfl, rfl, _, rfl, ?_⟩
      have lz := row_len t4
      refine ite2 (fun cc => ?_) (fun cc => ?_)
      · have cc' : (0 : Int) < L := of_decide_eq_true cc
        refine ⟨_, rfl, .inl ⟨rfl, _, SqL.of (s5 _ _ e4)⟩, _, rfl, _, rfl, _, rfl, _, rfl, (by show 4 ≤ sizeLine; decide), fun q2 hq2 => ?_⟩
        have s6 := s5.trans (same_new hq2 (HO.tup (tv (at2, L, pc, sk))))
        have e6 := s6 _ _ e4
        refine ⟨p, zs, _, rfl, rfl, e6, small (by omega), ?_⟩
        refine ⟨_, rfl, _, rfl, _, _, rfl, rfl, ?_⟩
        refine ⟨_, _, _, _, _, rs ++ [(at2, L, pc, sk)], _, rfl, same_over (s3.trans s6) hp _, by rw [upd_ne nps]; exact s6 _ _ e3, upd_same, ?_, by simp; omega, by omega, od1'.snoc (Int.le_refl _) cc' (Int.le_refl _), od1'.snoc (Int.le_refl _) cc' (by show at2 + L ≤ size; omega), fun r hr2 => ?_⟩
        · rw [List.map_append]
          exact ((t4.mono s6).snoc upd_same).upd (lst_ne e6)
        · rcases List.mem_append.mp hr2 with m | m
          · exact gr r m
          · obtain rfl : r = (at2, L, pc, sk) := by simpa using m
            exact ⟨gp.1, gp.2, gk.1, by show sk + L ≤ 8; omega⟩
      · exact ⟨_, _, _, _, _, rs, zs, rfl, s3.trans s5, s5 _ _ e3, s5 _ _ e4, t4.mono s5, by omega, a0', od1', od2, gr⟩
    · have e4' := s4 _ _ e4
      refine ⟨_, rfl, by decide, fun pe hpe => ?_⟩
      have s5 := s4.trans (same_new hpe (HO.lst []))
      refine ⟨p, pe, _, rfl, rfl, SqL.of (s5 _ _ e4), SqL.of upd_same, _, rfl, ?_⟩
      have out : ∀ (pc sk : Int), (2 ≤ pc ∧ pc ≤ 5) → (0 ≤ sk ∧ sk < 8) → ∃ (pc' sk' : Int), [some (V.int c), some (.int size), some (.ref p), some (.int at2), some (.int n), some (.int pc), some (.int sk), o7] = [some (V.int c), some (.int size), some (.ref p), some (.int at2), some (.int n), some (.int pc'), some (.int sk'), o7] ∧ Same H3 (upd (upd H3 pl (HO.lst [V.int 0, V.int 0, V.int 0, V.int (n / 5 % 6)])) pe (HO.lst [])) ∧ (2 ≤ pc' ∧ pc' ≤ 5) ∧ 0 ≤ sk' ∧ sk' < 8 := fun pc sk h1 h2 => ⟨pc, sk, rfl, s5, h1, h2⟩
      rcases List.eq_nil_or_concat rs with eg | ⟨r0, z, eg⟩
      · rw [eg] at t4
        have : zs = [] := by
          cases zs with
          | nil => rfl
          | cons => exact t4.elim
        subst this
        exact iteF (iteF (go _ _ (out _ _ gp gk)))
      · have mz : z ∈ rs := by rw [eg, List.concat_eq_append]; simp
        have gz := gr z mz
        rw [eg, List.concat_eq_append, List.map_append] at t4
        obtain ⟨zs0, qz, rfl, t5, e5⟩ := TupsAt.last (ts := r0.map tv) (t := tv z) t4
        have ne : decide (zs0 ++ [V.ref qz] ≠ []) = true := decide_eq_true (by simp)
        rw [ne]
        refine iteT ?_
        refine ⟨_, rfl, _, _, rfl, rfl, ⟨by decide, by decide⟩, _, _, rfl, rfl, (by show (0 : Int) < 3; decide), rfl, _, rfl, ite2 (fun c1 => ?_) (fun c1 => ?_)⟩
        · have lp := SqL.of (K := K) (s5 _ _ e4)
          have lq := SqT.of (K := K) (s5 _ _ e5)
          refine ⟨_, rfl, _, rfl, p, _, _, .ref qz, rfl, rfl, lp, atI_last _ _, qz, _, _, .int z.2.2.2, rfl, rfl, lq, rfl, _, rfl, _, rfl, p, _, _, .ref qz, rfl, rfl, lp, atI_last _ _, qz, _, _, .int z.2.1, rfl, rfl, lq, rfl, _, _, rfl, rfl, _, _, rfl, rfl, _, rfl, ite2 (fun c2 => ?_) (fun c2 => ?_)⟩
          · refine ⟨_, rfl, _, rfl, p, _, _, .ref qz, rfl, rfl, lp, atI_last _ _, qz, _, _, .int z.2.2.1, rfl, rfl, lq, rfl, ?_⟩
            refine ⟨_, rfl, _, rfl, p, _, _, .ref qz, rfl, rfl, lp, atI_last _ _, qz, _, _, .int z.2.2.2, rfl, rfl, lq, rfl, _, rfl, _, rfl, p, _, _, .ref qz, rfl, rfl, lp, atI_last _ _, qz, _, _, .int z.2.1, rfl, rfl, lq, rfl, _, _, rfl, rfl, go _ _ (out _ _ ⟨gz.1, gz.2.1⟩ ⟨?_, of_decide_eq_true c2⟩)⟩
            have l0 := (od1.mem mz).2.1
            have s0 := gz.2.2.1
            omega
          · exact go _ _ (out _ _ gp gk)
        · exact iteF (go _ _ (out _ _ gp gk))
  · rintro σ H3 ⟨at', o4, o5, o6, o7, rs, zs, rfl, s3, e3, e4, t4, lr, a0, od1, od2, gr⟩
    rw [List.length_map, l2] at lr
    exact ⟨_, rfl, qq p H3 rs s3 hp ⟨zs, e4, t4⟩ lr od2 gr⟩
/-! ### _law_cells -/
def spCls : Sp := fun vs H Q _ => ∃ (a d : Addr) (tu : Bool) (rs : List S4) (n : Nat) (pc : Int → List Int), vs = [.ref a, .int (n : Int), .ref d] ∧ RowAt tu H a rs ∧ rs.length ≤ 1000 ∧ n ≤ 1000 ∧ PcAt H d pc rs ∧
  ∀ p H', Same H H' → H p = none → H' p = some (.lst ((cellsL pc rs n).map V.int)) → Q (.ref p) H'
theorem scCls : FnScope ["_law_row_here", "_law_size", "_law_pieces_here", "_law_found", "_law_at", "_law_start", "_law_long", "_law_place", "_law_skip"] ["_law_row_here", "_law_size", "_law_pieces_here"] (defScope sCls) := ⟨rfl, rfl, rfl, by decide +kernel, rfl, by decide +kernel, by decide +kernel⟩
theorem ok_Cls (F : Fun K "_law_cells" "_law_cells" sCls f fd) (T : Txt mg) : FnOk P w K mg base CX0 1 f fd ["_law_row_here", "_law_size", "_law_pieces_here"] spCls := by
  refine F.ok scCls (fun vs H Q E h => ?_) (fun cdv A outer s H vs Q E hr h => ?_)
  · obtain ⟨a, d, tu, rs, n, pc, rfl, _⟩ := h
    rfl
  obtain ⟨a, d, tu, rs, n, pc, rfl, hR, hl, hn, hpc, qq⟩ := h
  have hu := hu_of hr
  refine ⟨_, (pss_cons (ps_set (i := 3) scCls.nd rfl (Or.inl rfl) (pe_op op_rep (pe_lst (pa_cons pe_int pa_nil)) (pv 1)))
    (pss_cons (ps_for PassesOwn.never rfl (pi_range1 rfl T.rng (pa_cons (pv 1) pa_nil)) (pg_name (i := 4) scCls.nd rfl (Or.inl rfl))
    (pss_one (ps_for PassesOwn.never rfl (pi_seq (pv 0)) (pg_tup rfl (pgs_cons (pg_name (i := 5) scCls.nd rfl (Or.inl rfl)) (pgs_cons (pg_name (i := 6) scCls.nd rfl (Or.inl rfl)) (pgs_cons (pg_name (i := 7) scCls.nd rfl (Or.inl rfl)) (pgs_cons (pg_name (i := 8) scCls.nd rfl (Or.inl rfl)) pgs_nil)))))
    (pss_one (ps_if (pt_chain op_le op_lt (pv 5) (pv 4) (pe_op op_add (pv 5) (pv 6)))
    (pss_one (ps_asg (pe_ix ix_seq (pe_dget hu (pv 2) (pv 7) (fun _ _ => rfl)) (pe_op op_sub (pe_op op_add (pv 8) (pv 4)) (pv 5)) (fun _ _ => rfl)) (pg_sub (pv 3) (pv 4) set_list)))
    pss_nil)))))
    (pss_one (ps_ret (pv 3))))), ?_⟩
  refine ⟨(by show 1 ≤ sizeLine; decide), fun l hl1 => ⟨_, rfl, l, (n : Int), _, rfl, rfl, upd_same, by omega, by omega, ?_, fun p hp => ?_⟩⟩
  · rw [Int.toNat_natCast]
    exact Nat.le_of_lt (small (by simp; omega))
  have s1 := same_new hl1 (HO.lst [V.int 0])
  have s2 := s1.trans (same_new hp (HO.lst (List.replicate (n : Int).toNat [V.int 0]).flatten))
  have e0 : (List.replicate (n : Int).toNat [V.int 0]).flatten = (midL pc rs n 0 0).map V.int := by
    rw [midL_zero, Int.toNat_natCast, List.map_replicate]
    simp
  have ep : upd (upd H l (HO.lst [V.int 0])) p (HO.lst (List.replicate (n : Int).toNat [V.int 0]).flatten) p = some (.lst ((midL pc rs n 0 0).map V.int)) := by rw [upd_same, e0]
  have hpH : H p = none := none_back s1 hp
  revert s2 ep
  generalize upd (upd H l (HO.lst [V.int 0])) p (HO.lst (List.replicate (n : Int).toNat [V.int 0]).flatten) = H1
  intro s2 ep
  obtain ⟨ys, ha, hT⟩ := id hR
  have ly := row_len hT
  refine ⟨_, rfl, (n : Int), rfl, by omega, by omega, ?_⟩
  refine for_range (lo := 0) (fun i σ H2 => ∃ (o4 o5 o6 o7 o8 : Option V), σ = [some (.ref a), some (.int (n : Int)), some (.ref d), some (.ref p), o4, o5, o6, o7, o8] ∧ Same H H2 ∧ H2 p = some (.lst ((midL pc rs n i 0).map V.int))) ⟨none, none, none, none, none, rfl, s2, ep⟩ ?_ ?_
  · rintro i σ H2 hi ⟨o4, o5, o6, o7, o8, rfl, s3, e3⟩
    have hi' : i < n := by
      rw [Int.toNat_natCast] at hi
      exact hi
    refine ⟨_, rfl, a, tu, rfl, ⟨_, Sq.of (s3 _ _ ha)⟩, for_seq (K := K) (tu := tu) (a := a) (xs := ys) (fun j σ H3 => ∃ (o5 o6 o7 o8 : Option V), σ = [some (.ref a), some (.int (n : Int)), some (.ref d), some (.ref p), some (.int (0 + (i : Int))), o5, o6, o7, o8] ∧ Same H H3 ∧ H3 p = some (.lst ((midL pc rs n i (vAt pc (rs.take j) (i : Int))).map V.int))) ⟨_, _, _, _, rfl, s3, e3⟩ (fun j σ H3 _ h3 => ?_) ?_ ?_⟩
    · obtain ⟨_, _, _, _, _, s4, _⟩ := h3
      exact Sq.of (s4 _ _ ha)
    · rintro j x σ H3 hx ⟨o5, o6, o7, o8, rfl, s4, e4⟩
      obtain ⟨r, q, hr', rfl, hq⟩ := row_get (hT.mono s4) hx
      have z0 : (0 : Int) + (i : Int) = (i : Int) := by omega
      refine ⟨q, _, rfl, SqT.of hq, rfl, _, _, rfl, _, _, rfl, _, _, rfl, _, _, rfl, rfl, ?_⟩
      have tn : vAt pc (rs.take (j + 1)) (i : Int) = vR pc (i : Int) (vAt pc (rs.take j) (i : Int)) r := by rw [take_next hr', vAt_snoc]
      have off : ¬ (r.1 ≤ (i : Int) ∧ (i : Int) < r.1 + r.2.1) → H3 p = some (.lst ((midL pc rs n i (vAt pc (rs.take (j + 1)) (i : Int))).map V.int)) := fun z => by
        rw [tn]
        unfold vR
        rw [if_neg z]
        exact e4
      refine ⟨_, rfl, _, rfl, _, _, rfl, rfl, _, rfl, ite2 (fun c1 => ?_) (fun c1 => ?_)⟩
      · have c1' : r.1 ≤ 0 + (i : Int) := of_decide_eq_true c1
        refine ⟨_, rfl, _, rfl, _, _, rfl, rfl, _, _, rfl, rfl, _, rfl, ite2 (fun c2 => ?_) (fun c2 => ?_)⟩
        · have c2' : 0 + (i : Int) < r.1 + r.2.1 := of_decide_eq_true c2
          have zz : r.1 ≤ (i : Int) ∧ (i : Int) < r.1 + r.2.1 := by omega
          obtain ⟨kvs, ed, kk⟩ := hpc
          obtain ⟨q1, tu1, h1, h2, h3, h4⟩ := kk r (List.mem_of_getElem? hr')
          obtain ⟨v, hv⟩ : ∃ v, (pc r.2.2.1)[(r.2.2.2 + (i : Int) - r.1).toNat]? = some v := by
            have : (r.2.2.2 + (i : Int) - r.1).toNat < (pc r.2.2.1).length := by omega
            exact ⟨_, List.getElem?_eq_getElem this⟩
          have hat : atI ((pc r.2.2.1).map V.int) (r.2.2.2 + (0 + (i : Int)) - r.1) = some (.int v) := by
            have e : r.2.2.2 + (0 + (i : Int)) - r.1 = (((r.2.2.2 + (i : Int) - r.1).toNat : Nat) : Int) := by omega
            rw [e]
            exact atI_nat (by rw [List.getElem?_map, hv]; rfl)
          have h5 := s4 _ _ h2
          have hix : ixN ((midL pc rs n i (vAt pc (rs.take j) (i : Int))).map V.int).length (0 + (i : Int)) = some i := by
            rw [List.length_map, midL_len, z0]
            unfold ixN
            rw [if_pos (by omega), if_pos (by omega)]
            rfl
          have next : Same H (upd H3 p (.lst (((midL pc rs n i (vAt pc (rs.take j) (i : Int))).map V.int).set i (.int v)))) ∧ upd H3 p (.lst (((midL pc rs n i (vAt pc (rs.take j) (i : Int))).map V.int).set i (.int v))) p = some (.lst ((midL pc rs n i (vAt pc (rs.take (j + 1)) (i : Int))).map V.int)) := by
            refine ⟨same_over s4 hpH _, ?_⟩
            rw [upd_same, ← List.map_set, midL_set, tn]
            unfold vR
            rw [if_pos zz, List.getD_eq_getElem?_getD, hv]
            rfl
          cases tu1 with
          | false => exact ⟨_, rfl, _, rfl, d, .ref q1, rfl, .inl ⟨kvs, .inl r.2.2.1, .inl (s4 _ _ ed), rfl, h1.symm⟩, _, rfl, _, rfl, _, _, rfl, rfl, _, rfl, _, _, rfl, rfl, .inl ⟨q1, _, _, .int v, rfl, rfl, SqL.of h5, hat, _, rfl, _, rfl, p, _, _, _, rfl, rfl, e4, hix, _, _, _, _, rfl, next⟩⟩
          | true => exact ⟨_, rfl, _, rfl, d, .ref q1, rfl, .inl ⟨kvs, .inl r.2.2.1, .inl (s4 _ _ ed), rfl, h1.symm⟩, _, rfl, _, rfl, _, _, rfl, rfl, _, rfl, _, _, rfl, rfl, .inr (.inl ⟨q1, _, _, .int v, rfl, rfl, SqT.of h5, hat, _, rfl, _, rfl, p, _, _, _, rfl, rfl, e4, hix, _, _, _, _, rfl, next⟩)⟩
        · have c2' : ¬ 0 + (i : Int) < r.1 + r.2.1 := fun e => c2 (decide_eq_true e)
          exact ⟨_, _, _, _, rfl, s4, off (by omega)⟩
      · have c1' : ¬ r.1 ≤ 0 + (i : Int) := fun e => c1 (decide_eq_true e)
        exact ⟨_, rfl, iteF ⟨_, _, _, _, rfl, s4, off (by omega)⟩⟩
    · rintro σ H3 ⟨o5, o6, o7, o8, rfl, s4, e4⟩
      rw [ly, List.take_length, midL_next] at e4
      exact ⟨_, _, _, _, _, rfl, s4, e4⟩
  · rintro σ H2 ⟨o4, o5, o6, o7, o8, rfl, s3, e3⟩
    rw [Int.toNat_natCast, midL_end] at e3
    exact ⟨_, rfl, qq p H2 s3 hpH e3⟩
end
end K14
set_option maxHeartbeats 4000000
namespace K14
open PySem L2
theorem putK_old {kvs : List (Key × V)} {k : Key} {u v : V} (h : valV kvs k = some u) : (putK kvs k v).map (·.1) = kvs.map (·.1) := by
  unfold putK
  rw [if_pos (by rw [valV_any, h]; rfl), List.map_map]
  refine List.map_congr_left fun p _ => ?_
  simp only [Function.comp]
  split <;> rfl
/-- a dict of pieces by their places -/
def DpAt (H : Hp) (d : Addr) (pc : Int → List Int) (S : List Int) : Prop := ∃ kvs, H d = some (.dK kvs) ∧ kvs.map (·.1) = S.map Sum.inl ∧ ∀ p ∈ S, ∃ q tu, valV kvs (.inl p) = some (.ref q) ∧ H q = some (sqO tu ((pc p).map V.int))
theorem sq_ne {H : Hp} {d q : Addr} {tu : Bool} {xs : List V} {kvs : List (Key × V)} (e : H d = some (.dK kvs)) (h : H q = some (sqO tu xs)) : q ≠ d := fun z => by
  rw [z, e] at h
  cases tu <;> cases h
theorem DpAt.mono {H H' : Hp} {d : Addr} {pc : Int → List Int} {S : List Int} (h : DpAt H d pc S) (s : Same H H') : DpAt H' d pc S := by
  obtain ⟨kvs, e, m, k⟩ := h
  refine ⟨kvs, s _ _ e, m, fun p hp => ?_⟩
  obtain ⟨q, tu, h1, h2⟩ := k p hp
  exact ⟨q, tu, h1, s _ _ h2⟩
theorem DpAt.put {H : Hp} {d q : Addr} {pc : Int → List Int} {S : List Int} {kvs : List (Key × V)} {p : Int} {tu : Bool} {xs : List Int} (h : DpAt H d pc S) (e : H d = some (.dK kvs)) (hq : H q = some (sqO tu (xs.map V.int))) :
    DpAt (upd H d (.dK (putK kvs (.inl p) (.ref q)))) d (fun k => if k = p then xs else pc k) (if p ∈ S then S else S ++ [p]) := by
  obtain ⟨kvs', e', m, k⟩ := h
  rw [e] at e'
  cases e'
  have keep : ∀ p' ∈ S, ∃ q' tu', valV (putK kvs (.inl p) (.ref q)) (.inl p') = some (.ref q') ∧ upd H d (.dK (putK kvs (.inl p) (.ref q))) q' = some (sqO tu' ((if p' = p then xs else pc p').map V.int)) := fun p' hp' => by
    obtain ⟨q', tu', h1, h2⟩ := k p' hp'
    rw [valV_put]
    by_cases z : p' = p
    · rw [if_pos (by rw [z]), if_pos z]
      exact ⟨q, tu, rfl, by rw [upd_ne (sq_ne e hq)]; exact hq⟩
    · rw [if_neg (fun y => z (by injection y)), if_neg z]
      exact ⟨q', tu', h1, by rw [upd_ne (sq_ne e h2)]; exact h2⟩
  by_cases hp : p ∈ S
  · rw [if_pos hp]
    obtain ⟨q0, _, h1, _⟩ := k p hp
    exact ⟨_, upd_same, by rw [putK_old h1, m], keep⟩
  · rw [if_neg hp]
    have nn : valV kvs (.inl p) = none := by
      cases z : valV kvs (.inl p) with
      | none => rfl
      | some u =>
        have := valV_in z
        rw [m] at this
        obtain ⟨y, hy, ey⟩ := List.mem_map.mp this
        injection ey with ey
        exact absurd (ey ▸ hy) hp
    refine ⟨_, upd_same, ?_, fun p' hp' => ?_⟩
    · rw [putK_new _ nn, List.map_append, m, List.map_append]
      rfl
    · rcases List.mem_append.mp hp' with z | z
      · exact keep p' z
      · obtain rfl := List.mem_singleton.mp z
        rw [valV_put, if_pos rfl]
        dsimp only
        rw [if_pos rfl]
        exact ⟨q, tu, rfl, by rw [upd_ne (sq_ne e hq)]; exact hq⟩
section
variable {P : Program} {w : World} {K : PySem.W.Frag} {mg : Str → Option Value} {base : Heap} {f fStm : Addr} {fd dStm : FuncData}
/-! ### _law_pieces -/
def spPie : Sp := fun vs H Q _ => ∃ (a : Addr) (tu : Bool) (rs : List S4) (c : Int), vs = [.ref a, .int c] ∧ RowAt tu H a rs ∧ rs.length ≤ 1000 ∧ (∀ r ∈ rs, GoodR r ∧ 0 < r.2.1) ∧ ∀ d H' pc, Same H H' → H d = none → PcAt H' d pc rs → Q (.ref d) H'
theorem scPie : FnScope ["_law_row_here", "_law_cell", "_law_found", "_law_at", "_law_long", "_law_place", "_law_skip", "_law_many"] ["_law_row_here", "_law_cell"] (defScope sPie) := ⟨rfl, rfl, rfl, by decide +kernel, rfl, by decide +kernel, by decide +kernel⟩
theorem ok_Pie (F : Fun K "_law_pieces" "_law_pieces" sPie f fd) (hStm : Has K mg "_law_stream" sStm ["_law_cell", "_law_many"] fStm dStm) (GStm : FnOk P w K mg base CX0 1 fStm dStm ["_law_cell", "_law_many"] spStm) (T : Txt mg) : FnOk P w K mg base CX0 2 f fd ["_law_row_here", "_law_cell"] spPie := by
  refine F.ok scPie (fun vs H Q E h => ?_) (fun cdv A outer s H vs Q E hr h => ?_)
  · obtain ⟨a, tu, rs, c, rfl, _⟩ := h
    rfl
  obtain ⟨a, tu, rs, c, rfl, ⟨ys, ha, hT⟩, hl, gr, qq⟩ := h
  have hu := hu_of hr
  refine ⟨_, (pss_cons (ps_set (i := 2) scPie.nd rfl (Or.inl rfl) pe_dnewK)
    (pss_cons (ps_for PassesOwn.never rfl (pi_seq (pv 0)) (pg_tup rfl (pgs_cons (pg_name (i := 3) scPie.nd rfl (Or.inl rfl)) (pgs_cons (pg_name (i := 4) scPie.nd rfl (Or.inl rfl)) (pgs_cons (pg_name (i := 5) scPie.nd rfl (Or.inl rfl)) (pgs_cons (pg_name (i := 6) scPie.nd rfl (Or.inl rfl)) pgs_nil)))))
    (pss_cons (ps_set (i := 7) scPie.nd rfl (Or.inl rfl) (pe_ix ix_list (pe_lst (pa_cons (pe_op op_add (pv 6) (pv 4)) (pa_cons pe_int pa_nil))) (pe_op op_mod (pv 1) pe_int) (fun _ _ => rfl)))
    (pss_one (ps_if (PW.pt (pw_or (pt_cmp (pc_dnotin hu (pv 5) (pv 2))) (pw_or1 (pt_cmpR op_lt (pe_callB call_len_seq rfl T.len PySem.boot_len (pa_cons (pe_dget hu (pv 2) (pv 5) (fun _ _ => rfl)) pa_nil)) (pv 7) (nomark _)))))
    (pss_one (ps_dput hu (pv 2) (pv 5) (pe_comp [] [] (pi_list (pe_call GStm (hr.mono (by decide)) rfl hStm.nm hStm.fn.kp hStm.bd .nil pass0 (pa_cons (pe_op op_add (pe_op op_fdiv (pv 1) pe_int) (pv 5)) (pa_cons (pv 7) pa_nil)))) (fun _ _ _ _ _ _ => pts_nil)
          (fun _ _ _ _ _ _ => (pe_op op_mod (pv 0) pe_int))
          rfl (by decide +kernel) (by decide +kernel) rfl (by decide +kernel) (fun _ _ z => nomatch z) rfl (by decide +kernel) rfl) rfl))
    pss_nil))))
    (pss_cons (ps_for PassesOwn.never rfl (pi_list (pe_callTy (call_listK rfl) rfl T.lst PyProof.Rows.boot_list (pa_cons (pv 2) pa_nil))) (pg_name (i := 5) scPie.nd rfl (Or.inl rfl))
    (pss_one (ps_if (pt_cmpR op_eq (pe_op op_mod (pe_op op_add (pe_op op_fdiv (pv 1) pe_int) (pv 5)) pe_int) pe_int (nomark _))
    (pss_one (ps_dput hu (pv 2) (pv 5) (pe_callTy call_tuple_of rfl T.tup PyProof.Rows.boot_tuple (pa_cons (pe_dget hu (pv 2) (pv 5) (fun _ _ => rfl)) pa_nil)) rfl))
    pss_nil)))
    (pss_one (ps_ret (pv 2)))))), ?_⟩
  intro d hd
  have s1 := same_new hd (HO.dK [])
  have ly := row_len hT
  refine ⟨_, rfl, a, tu, rfl, ⟨_, Sq.of (s1 _ _ ha)⟩, for_seq (K := K) (tu := tu) (a := a) (xs := ys) (fun i σ H2 => ∃ (o3 o4 o5 o6 o7 : Option V) (pc : Int → List Int) (S : List Int), σ = [some (.ref a), some (.int c), some (.ref d), o3, o4, o5, o6, o7] ∧ Same H H2 ∧ DpAt H2 d pc S ∧ S.length ≤ i ∧ ∀ r ∈ rs.take i, r.2.2.1 ∈ S ∧ r.2.2.2 + r.2.1 ≤ ((pc r.2.2.1).length : Int)) ⟨none, none, none, none, none, fun _ => [], [], rfl, s1, ⟨[], upd_same, rfl, fun p hp => by cases hp⟩, Nat.le_refl _, fun r hr' => by cases hr'⟩ (fun i σ H2 _ h2 => ?_) ?_ ?_⟩
  · obtain ⟨_, _, _, _, _, _, _, _, s2, _⟩ := h2
    exact Sq.of (s2 _ _ ha)
  · rintro i x σ H2 hx ⟨o3, o4, o5, o6, o7, pc, S, rfl, s2, D2, lS, rows⟩
    obtain ⟨r, q, hr', rfl, hq⟩ := row_get (hT.mono s2) hx
    have hi : i < rs.length := (List.getElem?_eq_some_iff.mp hr').1
    obtain ⟨⟨g1, g2, g3, g4⟩, g5⟩ := gr r (List.mem_of_getElem? hr')
    refine ⟨q, _, rfl, SqT.of hq, rfl, _, _, rfl, _, _, rfl, _, _, rfl, _, _, rfl, rfl, ?_⟩
    refine ⟨_, rfl, _, rfl, _, _, rfl, rfl, (by show 2 ≤ sizeLine; decide), fun pl hpl => ?_⟩
    have s3 := same_new hpl (HO.lst [V.int (r.2.2.2 + r.2.1), V.int 8])
    obtain ⟨m, hm, m1, m2⟩ : ∃ m : Int, atI [V.int (r.2.2.2 + r.2.1), V.int 8] (c % 2) = some (.int m) ∧ r.2.2.2 + r.2.1 ≤ m ∧ m ≤ 8 := by
      obtain e | e : c % 2 = 0 ∨ c % 2 = 1 := by omega
      · rw [e]; exact ⟨_, rfl, Int.le_refl _, g4⟩
      · rw [e]; exact ⟨8, rfl, g4, Int.le_refl _⟩
    refine ⟨_, rfl, _, _, rfl, rfl, (by show (0 : Int) < 2; decide), pl, _, _, .int m, rfl, rfl, SqL.of upd_same, hm, ?_⟩
    have D3 := D2.mono s3
    have sA := s2.trans s3
    revert D3 sA
    generalize upd H2 pl (HO.lst [V.int (r.2.2.2 + r.2.1), V.int 8]) = H3
    intro D3 sA
    obtain ⟨kvs, ed, mk, kk⟩ := id D3
    by_cases hin : r.2.2.1 ∈ S
    · obtain ⟨q1, tu1, v1, v2⟩ := kk _ hin
      refine ⟨_, rfl, _, rfl, d, some (.ref q1), rfl, .inl ⟨kvs, .inl r.2.2.1, .inl ed, rfl, v1.symm⟩, _, rfl, iteF ?_⟩
      refine ⟨_, rfl, _, rfl, d, .ref q1, rfl, .inl ⟨kvs, .inl r.2.2.1, .inl ed, rfl, v1.symm⟩, q1, _, rfl, Sq.or v2, _, rfl, _, _, rfl, rfl, _, rfl, ite2 (fun c1 => ?_) (fun c1 => ?_)⟩
      · have c1' : ((((pc r.2.2.1).map V.int).length : Nat) : Int) < m := of_decide_eq_true c1
        rw [List.length_map] at c1'
        have more : ∀ r0 : S4, r0.2.2.1 = r.2.2.1 → r0.2.2.1 ∈ S → r0.2.2.2 + r0.2.1 ≤ ((pc r0.2.2.1).length : Int) → r0.2.2.2 + r0.2.1 ≤ m := fun r0 y _ z => by
          rw [y] at z
          omega
        refine ⟨_, rfl, _, _, rfl, rfl, ⟨by decide, by decide⟩, _, rfl, _, _, rfl, rfl, _, rfl, c / 2 + r.2.2.1, m, rfl, by omega, by omega, fun pz H4 ns s4 hpz e4 l4 => ⟨pz, rfl, ⟨_, SqL.of e4⟩, fun p5 hp5 => ?_⟩⟩
        refine comp_seq (K := K) (tu := false) (a := pz) (xs := ns.map V.int) (fun j zs H5 => Same H4 H5 ∧ H5 p5 = some (.lst zs) ∧ ∃ ms : List Int, zs = ms.map V.int ∧ ms.length = j) ⟨same_new hp5 _, upd_same, [], rfl, rfl⟩ (fun j zs H5 _ h5 => Sq.of (tu := false) (h5.1 _ _ e4)) ?_ ?_
        · rintro j x zs H5 hx ⟨s5, e5, ms, rfl, lm⟩
          have hj : j < ns.length := by
            have := (List.getElem?_eq_some_iff.mp hx).1
            rwa [List.length_map] at this
          rw [List.getElem?_map] at hx
          obtain ⟨n, _, rfl⟩ := Option.map_eq_some_iff.mp hx
          exact ttT ⟨_, rfl, _, _, rfl, rfl, (by show (0 : Int) < 1000000; decide), e5, small (by rw [List.length_map]; omega), same_over s5 hp5 _, upd_same, ms ++ [n % 1000000], by rw [List.map_append]; rfl, by simp [lm]⟩
        rintro zs H5 ⟨s5, e5, ms, rfl, lm⟩
        rw [List.length_map, l4] at lm
        have sB := s4.trans s5
        have D5 := D3.mono sB
        have ed5 := sB _ _ ed
        have lk : kvs.length = S.length := by
          have := congrArg List.length mk
          rwa [List.length_map, List.length_map] at this
        refine ⟨_, rfl, _, rfl, d, _, rfl, DPut.k (k := .inl r.2.2.1) ed5 (small (by omega)), ?_⟩
        refine ⟨_, _, _, _, _, _, _, rfl, same_over (sA.trans sB) hd _, D5.put (tu := false) (xs := ms) ed5 e5, ?_, fun r0 hr0 => ?_⟩
        · by_cases zz : r.2.2.1 ∈ S
          · rw [if_pos zz]
            omega
          · rw [if_neg zz, List.length_append]
            show S.length + 1 ≤ i + 1
            omega
        rw [take_next hr'] at hr0
        have inS : ∀ p, p ∈ S → p ∈ (if r.2.2.1 ∈ S then S else S ++ [r.2.2.1]) := fun p hp => by
          by_cases zz : r.2.2.1 ∈ S
          · rw [if_pos zz]
            exact hp
          · rw [if_neg zz]
            exact List.mem_append_left _ hp
        have inR : r.2.2.1 ∈ (if r.2.2.1 ∈ S then S else S ++ [r.2.2.1]) := by
          by_cases zz : r.2.2.1 ∈ S
          · rw [if_pos zz]
            exact zz
          · rw [if_neg zz]
            exact List.mem_append_right _ (List.mem_singleton.mpr rfl)
        rcases List.mem_append.mp hr0 with z | z
        · obtain ⟨z1, z2⟩ := rows r0 z
          refine ⟨inS _ z1, ?_⟩
          try dsimp only
          by_cases y : r0.2.2.1 = r.2.2.1
          · rw [if_pos y]
            have := more r0 y z1 z2
            omega
          · rw [if_neg y]
            exact z2
        · obtain rfl := List.mem_singleton.mp z
          refine ⟨inR, ?_⟩
          try dsimp only
          rw [if_pos rfl]
          omega
      · have c1' : ¬ ((((pc r.2.2.1).map V.int).length : Nat) : Int) < m := fun e => c1 (decide_eq_true e)
        rw [List.length_map] at c1'
        refine ⟨_, _, _, _, _, pc, S, rfl, sA, D3, by omega, fun r0 hr0 => ?_⟩
        rw [take_next hr'] at hr0
        rcases List.mem_append.mp hr0 with z | z
        · exact rows r0 z
        · obtain rfl := List.mem_singleton.mp z
          exact ⟨hin, by omega⟩
    · have nn : valV kvs (.inl r.2.2.1) = none := by
        cases z : valV kvs (.inl r.2.2.1) with
        | none => rfl
        | some u =>
          have := valV_in z
          rw [mk] at this
          obtain ⟨y, hy, ey⟩ := List.mem_map.mp this
          injection ey with ey
          exact absurd (ey ▸ hy) hin
      refine ⟨_, rfl, _, rfl, d, none, rfl, .inl ⟨kvs, .inl r.2.2.1, .inl ed, rfl, nn.symm⟩, _, rfl, iteT (iteT ?_)⟩
      have more : ∀ r0 : S4, r0.2.2.1 = r.2.2.1 → r0.2.2.1 ∈ S → r0.2.2.2 + r0.2.1 ≤ ((pc r0.2.2.1).length : Int) → r0.2.2.2 + r0.2.1 ≤ m := fun r0 y z _ => absurd (y ▸ z) hin
      refine ⟨_, rfl, _, _, rfl, rfl, ⟨by decide, by decide⟩, _, rfl, _, _, rfl, rfl, _, rfl, c / 2 + r.2.2.1, m, rfl, by omega, by omega, fun pz H4 ns s4 hpz e4 l4 => ⟨pz, rfl, ⟨_, SqL.of e4⟩, fun p5 hp5 => ?_⟩⟩
      refine comp_seq (K := K) (tu := false) (a := pz) (xs := ns.map V.int) (fun j zs H5 => Same H4 H5 ∧ H5 p5 = some (.lst zs) ∧ ∃ ms : List Int, zs = ms.map V.int ∧ ms.length = j) ⟨same_new hp5 _, upd_same, [], rfl, rfl⟩ (fun j zs H5 _ h5 => Sq.of (tu := false) (h5.1 _ _ e4)) ?_ ?_
      · rintro j x zs H5 hx ⟨s5, e5, ms, rfl, lm⟩
        have hj : j < ns.length := by
          have := (List.getElem?_eq_some_iff.mp hx).1
          rwa [List.length_map] at this
        rw [List.getElem?_map] at hx
        obtain ⟨n, _, rfl⟩ := Option.map_eq_some_iff.mp hx
        exact ttT ⟨_, rfl, _, _, rfl, rfl, (by show (0 : Int) < 1000000; decide), e5, small (by rw [List.length_map]; omega), same_over s5 hp5 _, upd_same, ms ++ [n % 1000000], by rw [List.map_append]; rfl, by simp [lm]⟩
      rintro zs H5 ⟨s5, e5, ms, rfl, lm⟩
      rw [List.length_map, l4] at lm
      have sB := s4.trans s5
      have D5 := D3.mono sB
      have ed5 := sB _ _ ed
      have lk : kvs.length = S.length := by
        have := congrArg List.length mk
        rwa [List.length_map, List.length_map] at this
      refine ⟨_, rfl, _, rfl, d, _, rfl, DPut.k (k := .inl r.2.2.1) ed5 (small (by omega)), ?_⟩
      refine ⟨_, _, _, _, _, _, _, rfl, same_over (sA.trans sB) hd _, D5.put (tu := false) (xs := ms) ed5 e5, ?_, fun r0 hr0 => ?_⟩
      · by_cases zz : r.2.2.1 ∈ S
        · rw [if_pos zz]
          omega
        · rw [if_neg zz, List.length_append]
          show S.length + 1 ≤ i + 1
          omega
      rw [take_next hr'] at hr0
      have inS : ∀ p, p ∈ S → p ∈ (if r.2.2.1 ∈ S then S else S ++ [r.2.2.1]) := fun p hp => by
        by_cases zz : r.2.2.1 ∈ S
        · rw [if_pos zz]
          exact hp
        · rw [if_neg zz]
          exact List.mem_append_left _ hp
      have inR : r.2.2.1 ∈ (if r.2.2.1 ∈ S then S else S ++ [r.2.2.1]) := by
        by_cases zz : r.2.2.1 ∈ S
        · rw [if_pos zz]
          exact zz
        · rw [if_neg zz]
          exact List.mem_append_right _ (List.mem_singleton.mpr rfl)
      rcases List.mem_append.mp hr0 with z | z
      · obtain ⟨z1, z2⟩ := rows r0 z
        refine ⟨inS _ z1, ?_⟩
        try dsimp only
        by_cases y : r0.2.2.1 = r.2.2.1
        · rw [if_pos y]
          have := more r0 y z1 z2
          omega
        · rw [if_neg y]
          exact z2
      · obtain rfl := List.mem_singleton.mp z
        refine ⟨inR, ?_⟩
        try dsimp only
        rw [if_pos rfl]
        omega
  · rintro σ H2 ⟨o3, o4, o5, o6, o7, pc, S, rfl, s2, D2, lS, rows⟩
    rw [ly, List.take_length] at rows
    obtain ⟨kvs, ed, mk, kk⟩ := id D2
    refine ⟨_, rfl, d, kvs, rfl, ed, fun lk hlk => ?_⟩
    have s3 := same_new hlk (HO.lst (kvs.map fun p => kV p.1))
    have el : (kvs.map fun p => kV p.1) = S.map V.int := by
      have := congrArg (List.map kV) mk
      rw [List.map_map, List.map_map] at this
      exact this
    have e3 : upd H2 lk (HO.lst (kvs.map fun p => kV p.1)) lk = some (.lst (S.map V.int)) := by rw [upd_same, el]
    have D3 := D2.mono s3
    have sA := s2.trans s3
    have nlk : lk ≠ d := fun z => by rw [z, ed] at hlk; cases hlk
    revert e3 D3 sA
    generalize upd H2 lk (HO.lst (kvs.map fun p => kV p.1)) = H3
    intro e3 D3 sA
    refine ⟨lk, rfl, ⟨_, SqL.of e3⟩, for_list (K := K) (a := lk) (xs := S.map V.int) (fun i σ H4 => ∃ (o5 : Option V), σ = [some (.ref a), some (.int c), some (.ref d), o3, o4, o5, o6, o7] ∧ Same H H4 ∧ H4 lk = some (.lst (S.map V.int)) ∧ DpAt H4 d pc S) ⟨_, rfl, sA, e3, D3⟩ (fun i σ H4 _ h4 => ?_) ?_ ?_⟩
    · obtain ⟨_, _, _, e4, _⟩ := h4
      exact SqL.of e4
    · rintro i x σ H4 hx ⟨o5', rfl, s4, e4, D4⟩
      rw [List.getElem?_map] at hx
      obtain ⟨p, hp, rfl⟩ := Option.map_eq_some_iff.mp hx
      have pS := List.mem_of_getElem? hp
      refine ⟨_, rfl, _, _, rfl, rfl, ⟨by decide, by decide⟩, _, rfl, _, _, rfl, rfl, _, _, rfl, rfl, (by show (0 : Int) < 2; decide), rfl, _, rfl, ite2 (fun c1 => ?_) (fun c1 => ⟨_, rfl, s4, e4, D4⟩)⟩
      obtain ⟨kvs4, ed4, mk4, kk4⟩ := id D4
      obtain ⟨q1, tu1, v1, v2⟩ := kk4 p pS
      have l4 : kvs4.length = S.length := by
        have := congrArg List.length mk4
        rwa [List.length_map, List.length_map] at this
      have ext : ∀ {H5 : Hp} {S' : List Int} {xs : List Int}, xs = pc p → S' = S → DpAt H5 d (fun k => if k = p then xs else pc k) S' → DpAt H5 d pc S := fun {H5 S' xs} e1 e2 D => by
        subst e1 e2
        have : (fun k => if k = p then pc p else pc k) = pc := by
          funext k
          by_cases z : k = p
          · rw [if_pos z, z]
          · rw [if_neg z]
        rw [this] at D
        exact D
      cases tu1 with
      | false =>
        refine ⟨_, rfl, _, rfl, d, .ref q1, rfl, .inl ⟨kvs4, .inl p, .inl ed4, rfl, v1.symm⟩, q1, _, rfl, .inl ⟨SqL.of v2, fun t ht => ?_⟩⟩
        have s5 := same_new ht (HO.tup ((pc p).map V.int))
        have ed5 := s5 _ _ ed4
        refine ⟨_, rfl, _, rfl, d, _, rfl, DPut.k (k := .inl p) ed5 (small (by omega)), _, rfl, same_over (s4.trans s5) hd _, by rw [upd_ne nlk]; exact s5 _ _ e4, ext rfl (if_pos pS) ((D4.mono s5).put (tu := true) (xs := pc p) ed5 upd_same)⟩
      | true =>
        refine ⟨_, rfl, _, rfl, d, .ref q1, rfl, .inl ⟨kvs4, .inl p, .inl ed4, rfl, v1.symm⟩, q1, _, rfl, .inr ⟨SqT.of v2, ?_⟩⟩
        refine ⟨_, rfl, _, rfl, d, _, rfl, DPut.k (k := .inl p) ed4 (small (by omega)), _, rfl, same_over s4 hd _, by rw [upd_ne nlk]; exact e4, ext rfl (if_pos pS) (D4.put (tu := true) (xs := pc p) ed4 v2)⟩
    · rintro σ H4 ⟨o5', rfl, s4, e4, ⟨kvs4, ed4, mk4, kk4⟩⟩
      refine ⟨_, rfl, qq d H4 pc s4 hd ⟨kvs4, ed4, fun r hr' => ?_⟩⟩
      obtain ⟨z1, z2⟩ := rows r hr'
      obtain ⟨q1, tu1, v1, v2⟩ := kk4 _ z1
      exact ⟨q1, tu1, v1, v2, (gr r hr').1.2.2.1, z2⟩
end
end K14
set_option maxHeartbeats 4000000
namespace K14
open PySem L2
theorem eqVs_ints : ∀ ms : List Int, eqVs (ms.map V.int) (ms.map V.int) = true
  | [] => rfl
  | m :: ms => by
    show (eqV (.int m) (.int m) && eqVs (ms.map V.int) (ms.map V.int)) = true
    rw [eqVs_ints ms]
    simp [eqV]
theorem flat_ints (ms : List Int) : (ms.map V.int).all flatV = true := by
  rw [List.all_map]
  exact List.all_eq_true.mpr fun _ _ => rfl
theorem comp_rng {lo : Int} {n : Nat} {p : Addr} {tt : TT} {te : TE} {cs : St} {Q : VK} {H1 : Hp} (Pv : Nat → List V → Hp → Prop) (h0 : Pv 0 [] (upd H1 p (.lst [])))
    (hs : ∀ i ys H, i < n → Pv i ys H → tt (some (.int (lo + i)) :: cs) H fun b H4 => if b = true then te (some (.int (lo + i)) :: cs) H4 fun y H5 => H5 p = some (.lst ys) ∧ ys.length < sizeLine ∧ Pv (i + 1) (ys ++ [y]) (upd H5 p (.lst (ys ++ [y]))) else Pv (i + 1) ys H4)
    (hd : ∀ ys H, Pv n ys H → Q (.ref p) H) : CompW (Itr lo n) p tt te cs Q H1 := by
  refine comp_by n Pv h0 ?_ ?_
  · intro i ys H hi pv
    refine ⟨hi, fun v H3 y => ?_⟩
    obtain ⟨rfl, rfl⟩ := y
    exact hs i ys _ hi pv
  · intro ys H pv
    exact ⟨Nat.le_refl _, hd ys H pv⟩
def pos1 : Pos := l1.2
def pos2 : Pos := l2.2
def pos0 : Pos := l0.2
theorem tabMono {H H' : Hp} {PP : Addr} {pos : Pos} {q : Str} (t : TabS H PP pos q) (s : Same H H') : TabS H' PP pos q := by
  obtain ⟨ps, hP, tr, hc⟩ := t
  exact ⟨ps, s _ _ hP, tr, hc.imp id fun ⟨c2, a1, a2⟩ => ⟨c2, a1, s _ _ a2⟩⟩
theorem tabUpd {H : Hp} {PP p : Addr} {pos : Pos} {q : Str} {xs : List V} (t : TabS H PP pos q) (e : H p = some (.lst xs)) (o : HO) : TabS (upd H p o) PP pos q := by
  obtain ⟨ps, hP, tr, hc⟩ := t
  have ne : ∀ b φ, H b = some (.ext φ) → b ≠ p := fun b φ z z2 => by rw [z2, e] at z; cases z
  exact ⟨ps, by rw [upd_ne (ne _ _ hP)]; exact hP, tr, hc.imp id fun ⟨c2, a1, a2⟩ => ⟨c2, a1, by rw [upd_ne (ne _ _ a2)]; exact a2⟩⟩
theorem rowSx {PP : Addr} {tu : Bool} {H H' : Hp} {a : Addr} {rs : List S4} {pos : Pos} {qq : Str} (h : RowAt tu H a rs) (t : TabS H PP pos qq) (s : SxP PP H H') : RowAt tu H' a rs := by
  obtain ⟨ps, hP, _⟩ := t
  obtain ⟨ys, e, t⟩ := h
  refine ⟨ys, s _ _ (fun z => ?_) e, t.keep fun q u e2 => s _ _ (fun z => ?_) e2⟩
  · rw [z, hP] at e
    cases tu <;> cases e
  · rw [z, hP] at e2
    cases e2
theorem pcSx {PP : Addr} {H H' : Hp} {d : Addr} {pc : Int → List Int} {rs : List S4} {pos : Pos} {qq : Str} (h : PcAt H d pc rs) (t : TabS H PP pos qq) (s : SxP PP H H') : PcAt H' d pc rs := by
  obtain ⟨ps, hP, _⟩ := t
  obtain ⟨kvs, e, k⟩ := h
  refine ⟨kvs, s _ _ (fun z => by rw [z, hP] at e; cases e) e, fun r hr => ?_⟩
  obtain ⟨q, tu, h1, h2, h3⟩ := k r hr
  exact ⟨q, tu, h1, s _ _ (fun z => by rw [z, hP] at h2; cases tu <;> cases h2) h2, h3⟩
theorem lstSx {PP p : Addr} {H H' : Hp} {xs : List V} {pos : Pos} {qq : Str} (e : H p = some (.lst xs)) (t : TabS H PP pos qq) (s : SxP PP H H') : H' p = some (.lst xs) := s _ _ (fun z => by
  obtain ⟨ps, hP, _⟩ := t
  rw [z, hP] at e
  cases e) e
theorem seqSx {K : PySem.W.Frag} {PP a : Addr} {H H' : Hp} {xs : List V} {pos : Pos} {qq : Str} (h : SqL K H a xs) (t : TabS H PP pos qq) (s : SxP PP H H') : SqL K H' a xs := by
  obtain ⟨ps, hP, _⟩ := t
  rcases h with (h | ⟨o, h⟩) | h
  · exact .inl (.inl (s _ _ (fun z => by rw [z, hP] at h; cases h) h))
  · exact .inl (.inr ⟨o, s _ _ (fun z => by rw [z, hP] at h; cases h) h⟩)
  · exact .inr h
section
variable {P : Program} {w : World} {K : PySem.W.Frag} {mg : Str → Option Value} {base : Heap} {f fCel fRow fPie fCls fCof fLSp : Addr} {fd dCel dRow dPie dCls dCof dLSp : FuncData}
def spLSp (PS : Addr) : Sp := fun vs H Q _ => ∃ (c : Addr) (at' : Int) (cs : List Int), vs = [.ref c, .int at'] ∧ H c = some (.lst (cs.map V.int)) ∧ cs.length ≤ 40 ∧ 0 ≤ at' ∧ at' ≤ 40 ∧ H PS = some (.ext (tabφ PS #[])) ∧ ∀ H' ps, SxP PS H H' → H' PS = some (.ext (tabφ PS ps)) → Q (.bl true) H'
def spLaw (PP PS : Addr) (K : PySem.W.Frag) : Sp := fun vs H Q _ => ∃ (a : Addr) (ns : List Int), vs = [.ref a] ∧ SqL K H a (ns.map V.int) ∧ ns.length ≤ 63 ∧ H PP = some (.ext (tabφ PP #[])) ∧ H PS = some (.ext (tabφ PS #[])) ∧ PS ≠ PP ∧ ∀ H' ps ps', H' PP = some (.ext (tabφ PP ps)) → H' PS = some (.ext (tabφ PS ps')) → Q (.bl true) H'
theorem scLaw : FnScope ["_law_script", "_law_size", "_law_row_here", "_law_pieces_here", "_law_due", "_law_handed", "_law_found", "_law_at", "_law_many"] ["_law_script"] (defScope sLaw) := ⟨rfl, rfl, rfl, by decide +kernel, rfl, by decide +kernel, by decide +kernel⟩
theorem ok_law {cc PP PS : Addr} (F : Fun K "law" "law" sLaw f fd) (hcode : fd.code = .ref cc) (C : PySem.W.CodeHd base cc PP) (B : BltIn base mg)
    (hCel : Has K mg "_law_cell_at" sCel ["_law_script", "_law_k"] fCel dCel) (GCel : FnOk P w K mg base CX0 1 fCel dCel ["_law_script", "_law_k"] (spCel K))
    (hRow : Has K mg "_law_row" sRow ["_law_cell", "_law_size"] fRow dRow) (GRow : FnOk P w K mg base CX0 2 fRow dRow ["_law_cell", "_law_size"] spRow)
    (hPie : Has K mg "_law_pieces" sPie ["_law_row_here", "_law_cell"] fPie dPie) (GPie : FnOk P w K mg base CX0 2 fPie dPie ["_law_row_here", "_law_cell"] spPie)
    (hCls : Has K mg "_law_cells" sCls ["_law_row_here", "_law_size", "_law_pieces_here"] fCls dCls) (GCls : FnOk P w K mg base CX0 1 fCls dCls ["_law_row_here", "_law_size", "_law_pieces_here"] spCls)
    (hCof : Has K mg "cells_of" sCof ["row", "size", "fetch"] fCof dCof) (GCof : FnOk P w K mg base CX0 2 fCof dCof ["row", "size", "fetch"] spCof)
    (hLSp : Has K mg "_law_split" sLSp ["_law_cells_here", "_law_at"] fLSp dLSp) (GLSp : FnOk P w K mg base CX0 3 fLSp dLSp ["_law_cells_here", "_law_at"] (spLSp PS)) (T : Txt mg) : FnOk P w K mg base CX0 4 f fd ["_law_script"] (spLaw PP PS K) := by
  refine okC F scLaw (fun vs H Q E h => ?_) (fun cdv A outer s H vs Q E hcd' hr h => ?_)
  · obtain ⟨a, ns, rfl, _⟩ := h
    rfl
  have hcd : cdv = .ref cc := hcd'.trans hcode
  subst hcd
  obtain ⟨a, ns, rfl, hS, h63, hPP, hPS, nPS, q⟩ := h
  have T1 : TabS H PP pos1 lam1.qual := ⟨#[], hPP, trivial, .inl rfl⟩
  have T2 : TabS H PP pos2 lam2.qual := ⟨#[], hPP, trivial, .inl rfl⟩
  have hcd : (cxOf CX0 P w K mg base ["_law_script", "_law_size", "_law_row_here", "_law_pieces_here", "_law_due", "_law_handed", "_law_found", "_law_at", "_law_many"] "law" (defScope sLaw) f (.ref cc) A outer s H E).nox.env.code = .ref cc := rfl
  refine ⟨_, (pss_cons (ps_set (i := 1) scLaw.nd rfl (Or.inl rfl) (pe_op op_mod (pe_call GCel (hr.mono (by decide)) rfl hCel.nm hCel.fn.kp hCel.bd .nil pass0 (pa_cons (pv 0) (pa_cons pe_int pa_nil))) pe_int))
    (pss_cons (ps_set (i := 2) scLaw.nd rfl (Or.inl rfl) (pe_call GRow (hr.mono (by decide)) rfl hRow.nm hRow.fn.kp hRow.bd .nil pass0 (pa_cons (pe_call GCel (hr.mono (by decide)) rfl hCel.nm hCel.fn.kp hCel.bd .nil pass0 (pa_cons (pv 0) (pa_cons pe_int pa_nil))) (pa_cons (pv 1) pa_nil))))
    (pss_cons (ps_set (i := 3) scLaw.nd rfl (Or.inr rfl) (pe_call GPie (hr.mono (by decide)) rfl hPie.nm hPie.fn.kp hPie.bd .nil pass0 (pa_cons (pv 2) (pa_cons (pe_call GCel (hr.mono (by decide)) rfl hCel.nm hCel.fn.kp hCel.bd .nil pass0 (pa_cons (pv 0) (pa_cons pe_int pa_nil))) pa_nil))))
    (pss_cons (ps_set (i := 4) scLaw.nd rfl (Or.inl rfl) (pe_call GCls (hr.mono (by decide)) rfl hCls.nm hCls.fn.kp hCls.bd .nil pass0 (pa_cons (pv 2) (pa_cons (pv 1) (pa_cons (pv 3) pa_nil)))))
    (pss_cons (ps_for PassesOwn.never rfl (pi_list (pe_lst (pa_cons (pe_callTy call_list_of rfl T.lst PyProof.Rows.boot_list (pa_cons (pv 2) pa_nil)) (pa_cons (pe_callTy call_tuple_of rfl T.tup PyProof.Rows.boot_tuple (pa_cons (pv 2) pa_nil)) pa_nil)))) (pg_name (i := 5) scLaw.nd rfl (Or.inl rfl))
    (pss_cons (ps_set (i := 6) scLaw.nd rfl (Or.inl rfl) (pe_callC (y := "_law_pieces_here") (i := 3) GCof (hr.mono (by decide)) rfl hCof.nm hCof.fn.kp hCof.bd (pa_cons (pv 5) (pa_cons (pv 1) (pa_cons (pe_lamC lam1 hcd C B rfl rfl rfl) pa_nil))) rfl rfl rfl rfl (by first | exact Or.inl rfl | exact Or.inr (Or.inl rfl) | exact Or.inr (Or.inr rfl))))
    (pss_cons (ps_if (PW.pt (pw_or (pt_not (pt_val (pe_callB call_isinst rfl T.isi PyProof.Rows.boot_isinstance (pa_cons (pv 6) (pa_cons (pe_bltn (v := .ty "list") rfl T.lst PyProof.Rows.boot_list rfl) pa_nil))))) (pw_or1 (pt_cmpR (op_neL (hu_of hr |> Nat.lt_of_succ_lt)) (pv 6) (pv 4) (nomark _)))))
    (pss_one (ps_ret pe_bl))
    pss_nil)
    (pss_one (ps_expr (pe_bm PySem.F.plainAttrs_list PySem.F.slot_list_append PySem.F.type_list_append mt_append (pv 6) (pa_cons pe_int pa_nil)))))))
    (pss_cons (ps_if (pt_cmpR (op_neL (hu_of hr |> Nat.lt_of_succ_lt)) (pe_callC (y := "_law_pieces_here") (i := 3) GCof (hr.mono (by decide)) rfl hCof.nm hCof.fn.kp hCof.bd (pa_cons (pv 2) (pa_cons (pv 1) (pa_cons (pe_lamC lam2 hcd C B rfl rfl rfl) pa_nil))) rfl rfl rfl rfl (by first | exact Or.inl rfl | exact Or.inr (Or.inl rfl) | exact Or.inr (Or.inr rfl))) (pv 4) (nomark _))
    (pss_one (ps_ret pe_bl))
    pss_nil)
    (pss_cons (ps_set (i := 7) scLaw.nd rfl (Or.inl rfl) (pe_op op_mod (pe_call GCel (hr.mono (by decide)) rfl hCel.nm hCel.fn.kp hCel.bd .nil pass0 (pa_cons (pv 0) (pa_cons pe_int pa_nil))) pe_int))
    (pss_cons (ps_set (i := 8) scLaw.nd rfl (Or.inl rfl) (pe_op op_add pe_int (pe_op op_mod (pe_op op_fdiv (pe_call GCel (hr.mono (by decide)) rfl hCel.nm hCel.fn.kp hCel.bd .nil pass0 (pa_cons (pv 0) (pa_cons pe_int pa_nil))) pe_int) (pe_op op_sub pe_int (pv 7)))))
    (pss_one (ps_ret (pe_call GLSp (hr.mono (by decide)) rfl hLSp.nm hLSp.fn.kp hLSp.bd .nil pass0 (pa_cons (pe_comp [0] ["_law_script"] (pi_range1 rfl T.rng (pa_cons (pv 8) pa_nil)) (fun _ _ _ _ _ _ => pts_nil)
          (fun _ _ _ _ _ _ => (pe_op op_mod (pe_call GCel (hr.mono (by decide)) rfl hCel.nm hCel.fn.kp hCel.bd .nil pass0 (pa_cons (pv 1) (pa_cons (pe_op op_add pe_int (pv 0)) pa_nil))) pe_int))
          rfl (by decide +kernel) (by decide +kernel) rfl (by decide +kernel) (fun j y hj => by
            match j, hj with
            | 0, hj => cases hj; exact ⟨0, rfl, rfl, rfl, .inl rfl⟩) rfl (by decide +kernel) rfl) (pa_cons (pv 7) pa_nil))))))))))))), ?_⟩
  refine ⟨_, rfl, a, ns, 0, rfl, by decide, hS, fun z => ⟨_, _, rfl, rfl, (by show (0 : Int) < 41; decide), ?_⟩⟩
  have w0 : (0 : Int) ≤ z % 41 := by omega
  have w1 : z % 41 < 41 := by omega
  dsimp only
  generalize z % 41 = size at w0 w1
  obtain ⟨n, rfl⟩ := Int.eq_ofNat_of_zero_le w0
  refine ⟨_, rfl, a, ns, 1, rfl, by decide, hS, fun z1 => ⟨_, rfl, z1, (n : Int), rfl, by omega, by omega, fun pr H2 rs s2 hpr r2 lr od gr => ?_⟩⟩
  refine ⟨_, rfl, _, rfl, a, ns, 2, rfl, by decide, s2.seq hS, fun z2 => ⟨pr, false, rs, z2, rfl, r2, by omega, fun r hr' => ⟨gr r hr', (od.mem hr').2.1⟩, fun d H3 pc s3 hd pc3 => ?_⟩⟩
  refine ⟨_, rfl, _, rfl, _, rfl, pr, d, false, rs, n, pc, rfl, r2.mono s3, by omega, by omega, pc3, fun pdue H4 s4 hdue edue => ?_⟩
  have sA := s2.trans (s3.trans s4)
  have r4 := r2.mono (s3.trans s4)
  have pc4 := pc3.mono s4
  obtain ⟨ys, ey, ty⟩ := id r4
  have ey' : H4 pr = some (.lst ys) := ey
  refine ⟨_, rfl, pr, ys, rfl, .inl (SqL.of ey'), fun l1 hl1 => ?_⟩
  have u1 := same_new hl1 (HO.lst ys)
  refine ⟨_, rfl, pr, ys, rfl, .inl ⟨SqL.of (u1 _ _ ey'), fun l2 hl2 => ?_⟩⟩
  have u2 := same_new hl2 (HO.tup ys)
  refine ⟨(by show 2 ≤ sizeLine; decide), fun pm hpm => ?_⟩
  have u3 := same_new hpm (HO.lst [V.ref l1, V.ref l2])
  have uA := u1.trans (u2.trans u3)
  have em : upd (upd (upd H4 l1 (HO.lst ys)) l2 (HO.tup ys)) pm (HO.lst [V.ref l1, V.ref l2]) pm = some (.lst [V.ref l1, V.ref l2]) := upd_same
  have el1 := u3 _ _ (u2 _ _ (upd_same (H := H4) (a := l1) (o := HO.lst ys)))
  have el2 := u3 _ _ (upd_same (H := upd H4 l1 (HO.lst ys)) (a := l2) (o := HO.tup ys))
  revert uA em el1 el2
  generalize upd (upd (upd H4 l1 (HO.lst ys)) l2 (HO.tup ys)) pm (HO.lst [V.ref l1, V.ref l2]) = H5
  intro uA em el1 el2
  have sB := sA.trans uA
  have T1' := tabMono T1 sB
  have T2' := tabMono T2 sB
  have rl1 : RowAt false H5 l1 rs := ⟨ys, el1, ty.mono uA⟩
  have rl2 : RowAt true H5 l2 rs := ⟨ys, el2, ty.mono uA⟩
  refine ⟨pm, rfl, ⟨_, SqL.of em⟩, for_list (K := K) (a := pm) (xs := [V.ref l1, V.ref l2]) (fun i σ H6 => ∃ (o5 o6 : Option V), σ = [some (.ref a), some (.int (n : Int)), some (.ref pr), some (.ref d), some (.ref pdue), o5, o6, none, none] ∧ SxP PP H5 H6 ∧ TabS H6 PP pos1 lam1.qual ∧ TabS H6 PP pos2 lam2.qual) ⟨none, none, rfl, SxP.refl _ _, T1', T2'⟩ (fun i σ H6 _ h6 => ?_) ?_ ?_⟩
  · obtain ⟨_, _, _, sx, _, _⟩ := h6
    exact SqL.of (lstSx em T1' sx)
  · rintro i x σ H6 hx ⟨o5, o6, rfl, sx, t1, t2⟩
    obtain ⟨xa, tu, rfl, rx⟩ : ∃ xa tu, x = .ref xa ∧ RowAt tu H5 xa rs := by
      match i, hx with
      | 0, hx => cases hx; exact ⟨l1, false, rfl, rl1⟩
      | 1, hx => cases hx; exact ⟨l2, true, rfl, rl2⟩
    refine ⟨_, rfl, _, rfl, t1, fun g c' pm' ctv H7 sx7 t1' ot hg hg' hc' => ⟨d, rfl, fun oc hc dc => ?_⟩⟩
    have sx57 := sx.trans sx7
    have uc := fun o => same_new hc o
    refine ⟨xa, g, d, tu, rs, n, pc, rfl, (rowSx rx T1' sx57).mono (uc _), by omega, by omega, GetsOf.mk ok1 hc hg' hc' dc, (pcSx (pc4.mono uA) T1' sx57).mono (uc _), fun p H8 s8 hp e8 => ⟨s8 _ _ upd_same, ?_⟩⟩
    have pc0 : p ≠ s.heap.objs.size + 2 := fun z => by
      rw [z] at hp
      rw [upd_same] at hp
      cases hp
    have s9 := same_del hc s8
    have e9 : del H8 (s.heap.objs.size + 2) p = some (.lst ((cellsL pc rs n).map V.int)) := by rw [del_ne pc0]; exact e8
    have hp7 : H7 p = none := by rw [← hp, upd_ne pc0]
    revert s9 e9
    generalize del H8 (s.heap.objs.size + 2) = H9
    intro s9 e9
    have due9 := s9 _ _ (lstSx (uA _ _ edue) T1' sx57)
    refine ⟨_, rfl, _, _, _, true, rfl, .lst e9, kit_ll K, _, rfl, iteF ?_⟩
    refine ⟨_, rfl, _, rfl, p, pdue, _, _, rfl, rfl, SqL.of e9, SqL.of due9, flat_ints _, flat_ints _, _, rfl, ?_⟩
    rw [eqVs_ints]
    refine iteF ?_
    have lc : ((cellsL pc rs n).map V.int).length = n := by rw [List.length_map, cellsL_len]
    refine ⟨_, rfl, .inl ⟨rfl, _, SqL.of e9⟩, p, _, _, rfl, rfl, e9, small (by omega), ?_⟩
    refine ⟨_, _, rfl, fun b o hb e => ?_, tabUpd (tabMono t1' s9) e9 _, tabUpd (tabMono (ot pos2 lam2.qual (by decide) t2) s9) e9 _⟩
    have e7 := sx57 b o hb e
    rw [upd_ne (fun z => by rw [z, hp7] at e7; cases e7)]
    exact s9 _ _ e7
  rintro σ H6 ⟨o5, o6, rfl, sx, t1, t2⟩
  refine ⟨_, rfl, _, rfl, t2, fun g c' pm' ctv H7 sx7 t2' ot hg hg' hc' => ⟨d, rfl, fun oc hc dc => ?_⟩⟩
  have sx57 := sx.trans sx7
  have uc := fun o => same_new hc o
  refine ⟨pr, g, d, false, rs, n, pc, rfl, (rowSx (r4.mono uA) T1' sx57).mono (uc _), by omega, by omega, GetsOf.mk ok2 hc hg' hc' dc, (pcSx (pc4.mono uA) T1' sx57).mono (uc _), fun p H8 s8 hp e8 => ⟨s8 _ _ upd_same, ?_⟩⟩
  have pc0 : p ≠ s.heap.objs.size + 2 := fun z => by
    rw [z] at hp
    rw [upd_same] at hp
    cases hp
  have s9 := same_del hc s8
  have e9 : del H8 (s.heap.objs.size + 2) p = some (.lst ((cellsL pc rs n).map V.int)) := by rw [del_ne pc0]; exact e8
  revert s9 e9
  generalize del H8 (s.heap.objs.size + 2) = H9
  intro s9 e9
  have due9 := s9 _ _ (lstSx (uA _ _ edue) T1' sx57)
  refine ⟨_, rfl, p, pdue, _, _, rfl, rfl, SqL.of e9, SqL.of due9, flat_ints _, flat_ints _, _, rfl, ?_⟩
  rw [eqVs_ints]
  refine iteF ?_
  have S9 : SqL K H9 a (ns.map V.int) := s9.seq (seqSx (sB.seq hS) T1' sx57)
  have PS9 : H9 PS = some (.ext (tabφ PS #[])) := s9 _ _ (sx57 _ _ nPS (sB _ _ hPS))
  obtain ⟨psf, PP9, _⟩ := tabMono t2' s9
  refine ⟨_, rfl, a, ns, 3, rfl, by decide, S9, fun z3 => ⟨_, _, rfl, rfl, (by show (0 : Int) < 40; decide), ?_⟩⟩
  have v0 : (0 : Int) ≤ z3 % 40 := by omega
  have v1 : z3 % 40 < 40 := by omega
  dsimp only
  generalize z3 % 40 = at' at v0 v1
  refine ⟨_, rfl, a, ns, 3, rfl, by decide, S9, fun z4 => ⟨_, _, rfl, rfl, ⟨by decide, by decide⟩, _, rfl, _, _, rfl, rfl, _, _, rfl, rfl, (by show (0 : Int) < 40 - at'; omega), _, _, rfl, rfl, ?_⟩⟩
  have x0 := Int.emod_nonneg (z4 / 40) (show 40 - at' ≠ 0 by omega)
  have x1 := Int.emod_lt_of_pos (z4 / 40) (show 0 < 40 - at' by omega)
  dsimp only
  generalize z4 / 40 % (40 - at') = mm at x0 x1
  refine ⟨_, rfl, 1 + mm, rfl, by omega, by omega, fun pk hpk => ?_⟩
  refine comp_rng (fun i zs H10 => Same H9 H10 ∧ H10 pk = some (.lst zs) ∧ ∃ ms : List Int, zs = ms.map V.int ∧ ms.length = i) ⟨same_new hpk _, upd_same, [], rfl, rfl⟩ ?_ ?_
  · rintro i zs H10 hi ⟨s10, e10, ms, rfl, lm⟩
    exact ttT ⟨_, rfl, _, rfl, _, _, rfl, rfl, a, ns, 4 + (0 + (i : Int)), rfl, by omega, s10.seq S9, fun z5 => ⟨_, _, rfl, rfl, (by show (0 : Int) < 1000000; decide), e10, small (by rw [List.length_map]; omega), same_over s10 hpk _, upd_same, ms ++ [z5 % 1000000], by rw [List.map_append]; rfl, by simp [lm]⟩⟩
  rintro zs H10 ⟨s10, e10, ms, rfl, lm⟩
  refine ⟨_, rfl, pk, at', ms, rfl, e10, by omega, v0, by omega, s10 _ _ PS9, fun H11 ps sx11 e11 => ?_⟩
  exact q H11 psf ps (sx11 _ _ (Ne.symm nPS) (s10 _ _ PP9)) e11
end
end K14
set_option maxHeartbeats 4000000
namespace K14
open PySem L2
def rowK (at' : Int) (cs : List Int) (k : Nat) : S4 := (at' + 8 * (k : Int), ((chunk cs k).length : Int), (k : Int) + 2, 0)
def rowsK (at' : Int) (cs : List Int) (m : Nat) : List S4 := (List.range m).map (rowK at' cs)
def pcK (cs : List Int) (p : Int) : List Int := chunk cs (p - 2).toNat
theorem rowsK_succ (at' : Int) (cs : List Int) (m : Nat) : rowsK at' cs (m + 1) = rowsK at' cs m ++ [rowK at' cs m] := by
  unfold rowsK
  rw [List.range_succ, List.map_append]
  rfl
theorem pcK_at (cs : List Int) (k : Nat) : pcK cs ((k : Int) + 2) = chunk cs k := by
  unfold pcK
  congr 1
  omega
theorem chunk_len (cs : List Int) (k : Nat) : (chunk cs k).length = min 8 (cs.length - 8 * k) := by
  unfold chunk
  rw [List.length_take, List.length_drop]
theorem vAt_rowsK (a : Nat) (cs : List Int) (j : Nat) : ∀ m : Nat, vAt (pcK cs) (rowsK (a : Int) cs m) (j : Int) = if a ≤ j ∧ j < a + 8 * m then cs.getD (j - a) 0 else 0
  | 0 => by
    show (0 : Int) = _
    rw [if_neg (by omega)]
  | m + 1 => by
    rw [rowsK_succ, vAt_snoc, vAt_rowsK a cs j m]
    unfold vR rowK
    simp only
    rw [pcK_at, chunk_len]
    by_cases h : (a : Int) + 8 * (m : Int) ≤ (j : Int) ∧ (j : Int) < (a : Int) + 8 * (m : Int) + ((min 8 (cs.length - 8 * m) : Nat) : Int)
    · rw [if_pos h, if_pos (by omega)]
      have e : (0 + (j : Int) - ((a : Int) + 8 * (m : Int))).toNat = j - a - 8 * m := by omega
      rw [e]
      unfold chunk
      rw [List.getD_eq_getElem?_getD, List.getD_eq_getElem?_getD, List.getElem?_take, List.getElem?_drop, if_pos (by omega)]
      congr 2
      omega
    · rw [if_neg h]
      by_cases h2 : a ≤ j ∧ j < a + 8 * m
      · rw [if_pos h2, if_pos (by omega)]
      · rw [if_neg h2]
        by_cases h3 : a ≤ j ∧ j < a + 8 * (m + 1)
        · rw [if_pos h3, List.getD_eq_getElem?_getD, List.getElem?_eq_none (by omega)]
          rfl
        · rw [if_neg h3]
theorem cells_rowsK (a : Nat) (cs : List Int) : cellsL (pcK cs) (rowsK (a : Int) cs ((cs.length + 7) / 8)) (a + cs.length) = List.replicate a 0 ++ cs := by
  unfold cellsL
  refine List.ext_getElem (by simp) fun i h1 h2 => ?_
  have h1 : i < a + cs.length := by simpa using h1
  rw [List.getElem_map, List.getElem_range, vAt_rowsK]
  by_cases h : i < a
  · rw [if_neg (by omega), List.getElem_append_left (by simpa using h)]
    simp
  · rw [if_pos (by omega), List.getElem_append_right (by simp; omega), List.getD_eq_getElem?_getD]
    simp only [List.length_replicate]
    rw [List.getElem?_eq_getElem (by omega)]
    rfl
end K14
set_option maxHeartbeats 4000000
namespace K14
open PySem L2
theorem cut_8 (xs : List V) : cutV xs none (some 8) = xs.take 8 := by
  unfold cutV
  rw [HT.sIx_none, show (8 : Int) = ((8 : Nat) : Int) from rfl, HT.sIx_nat, Nat.sub_zero, List.drop_zero, ← List.take_eq_take_min]
theorem cut_from8 (xs : List V) : cutV xs (some 8) none = xs.drop 8 := by
  unfold cutV
  rw [HT.sIx_none, show (8 : Int) = ((8 : Nat) : Int) from rfl, HT.sIx_nat]
  rcases Nat.le_total 8 xs.length with z | z
  · rw [Nat.min_eq_left z]
    exact List.take_of_length_le (by rw [List.length_drop]; omega)
  · rw [Nat.min_eq_right z, List.drop_eq_nil_of_le z]
    simp
theorem eqv_part {K : PySem.W.Frag} {H : Hp} {t t' q q' : Addr} {n : Int} {ms : List Int} (h1 : H t = some (.tup [.int n, .ref q])) (h2 : H t' = some (.tup [.int n, .ref q'])) (h3 : H q = some (.tup (ms.map V.int))) (h4 : H q' = some (.tup (ms.map V.int))) : EqvS K H 1 (.ref t) (.ref t') := by
  unfold EqvS
  refine ⟨t, t', _, _, rfl, rfl, .inl ⟨SqT.of h1, SqT.of h2⟩, rfl, fun i u v hu hv => ?_⟩
  unfold Eqv
  match i, hu, hv with
  | 0, hu, hv =>
    cases hu
    cases hv
    exact .inl ⟨rfl, rfl, eqV_self rfl⟩
  | 1, hu, hv =>
    cases hu
    cases hv
    refine .inr (.inr ?_)
    unfold EqvS
    refine ⟨q, q', _, _, rfl, rfl, .inl ⟨SqT.of h3, SqT.of h4⟩, rfl, fun j a b ha hb => ?_⟩
    rw [ha] at hb
    cases hb
    have fa := List.all_eq_true.mp (flat_ints ms) a (List.mem_of_getElem? ha)
    unfold Eqv
    exact .inl ⟨fa, fa, eqV_self fa⟩
/-- the pieces of a split, as far as i -/
def DkAt (H : Hp) (d : Addr) (cs : List Int) (i : Nat) : Prop := ∃ kvs, H d = some (.dK kvs) ∧ kvs.length ≤ i ∧ ∀ j, j < i → ∃ q, valV kvs (.inl ((j : Int) + 2)) = some (.ref q) ∧ H q = some (.tup ((chunk cs j).map V.int))
theorem DkAt.keep {H H' : Hp} {d : Addr} {cs : List Int} {i : Nat} (h : DkAt H d cs i) (k : ∀ q t, H q = some (.tup t) → H' q = some (.tup t)) (kd : ∀ kvs, H d = some (.dK kvs) → H' d = some (.dK kvs)) : DkAt H' d cs i := by
  obtain ⟨kvs, e, l, z⟩ := h
  refine ⟨kvs, kd _ e, l, fun j hj => ?_⟩
  obtain ⟨q, h1, h2⟩ := z j hj
  exact ⟨q, h1, k _ _ h2⟩
theorem DkAt.put {H : Hp} {d q : Addr} {cs : List Int} {i : Nat} {kvs : List (Key × V)} (h : DkAt H d cs i) (e : H d = some (.dK kvs)) (hq : H q = some (.tup ((chunk cs i).map V.int))) :
    DkAt (upd H d (.dK (putK kvs (.inl ((i : Int) + 2)) (.ref q)))) d cs (i + 1) := by
  obtain ⟨kvs', e', l, k⟩ := h
  rw [e] at e'
  cases e'
  have ne : ∀ q t, H q = some (.tup t) → q ≠ d := fun q t z y => by rw [y, e] at z; cases z
  refine ⟨_, upd_same, by have := length_putK kvs (.inl ((i : Int) + 2)) (V.ref q); omega, fun j hj => ?_⟩
  rw [valV_put]
  by_cases z : j = i
  · subst z
    rw [if_pos rfl]
    exact ⟨q, rfl, by rw [upd_ne (ne _ _ hq)]; exact hq⟩
  · rw [if_neg (fun y => z (by injection y with y; omega))]
    obtain ⟨q', h1, h2⟩ := k j (by omega)
    exact ⟨q', h1, by rw [upd_ne (ne _ _ h2)]; exact h2⟩
theorem DkAt.pc {H : Hp} {d : Addr} {cs : List Int} {i : Nat} {at' : Int} (h : DkAt H d cs i) : PcAt H d (pcK cs) (rowsK at' cs i) := by
  obtain ⟨kvs, e, l, k⟩ := h
  refine ⟨kvs, e, fun r hr => ?_⟩
  unfold rowsK at hr
  obtain ⟨j, hj, rfl⟩ := List.mem_map.mp hr
  obtain ⟨q, h1, h2⟩ := k j (List.mem_range.mp hj)
  refine ⟨q, true, h1, ?_, Int.le_refl _, ?_⟩
  · show H q = some (.tup ((pcK cs ((j : Int) + 2)).map V.int))
    rw [pcK_at]
    exact h2
  · show 0 + ((chunk cs j).length : Int) ≤ ((pcK cs ((j : Int) + 2)).length : Int)
    rw [pcK_at]
    omega
section
variable {P : Program} {w : World} {K : PySem.W.Frag} {mg : Str → Option Value} {base : Heap} {f fSpl fCof : Addr} {fd dSpl dCof : FuncData}
theorem scLSp : FnScope ["_law_cells_here", "_law_at", "_law_handed", "_law_found", "_law_row_here", "_law_pieces_here", "_law_left", "_law_k", "_law_part"] ["_law_cells_here", "_law_at"] (defScope sLSp) := ⟨rfl, rfl, rfl, by decide +kernel, rfl, by decide +kernel, by decide +kernel⟩
theorem ok_LSp {cc PS : Addr} (F : Fun K "_law_split" "_law_split" sLSp f fd) (hcode : fd.code = .ref cc) (C : PySem.W.CodeHd base cc PS) (B : BltIn base mg)
    (hSpl : Has K mg "split_up" sSpl ["at", "cells"] fSpl dSpl) (GSpl : FnOk P w K mg base CX0 1 fSpl dSpl ["at", "cells"] spSpl)
    (hCof : Has K mg "cells_of" sCof ["row", "size", "fetch"] fCof dCof) (GCof : FnOk P w K mg base CX0 2 fCof dCof ["row", "size", "fetch"] spCof) (T : Txt mg) : FnOk P w K mg base CX0 3 f fd ["_law_cells_here", "_law_at"] (spLSp PS) := by
  refine okC F scLSp (fun vs H Q E h => ?_) (fun cdv A outer s H vs Q E hcd' hr h => ?_)
  · obtain ⟨c, at', cs, rfl, _⟩ := h
    rfl
  have hcd : cdv = .ref cc := hcd'.trans hcode
  subst hcd
  obtain ⟨c, at', cs, rfl, hc, lcs, a0, a40, hPS, q⟩ := h
  have hu := hu_of hr
  have hcd : (cxOf CX0 P w K mg base ["_law_cells_here", "_law_at", "_law_handed", "_law_found", "_law_row_here", "_law_pieces_here", "_law_left", "_law_k", "_law_part"] "_law_split" (defScope sLSp) f (.ref cc) A outer s H E).nox.env.code = .ref cc := rfl
  refine ⟨_, (pss_cons (ps_set (i := 2) scLSp.nd rfl (Or.inl rfl) (pe_callTy call_list_of rfl T.lst PyProof.Rows.boot_list (pa_cons (pv 0) pa_nil)))
    (pss_cons (ps_set (i := 3) scLSp.nd rfl (Or.inl rfl) (pe_call GSpl (hr.mono (by decide)) rfl hSpl.nm hSpl.fn.kp hSpl.bd .nil pass0 (pa_cons (pv 1) (pa_cons (pv 2) pa_nil))))
    (pss_cons (ps_if (PW.pt (pw_or (pt_cmpR (op_neL (hu_of hr |> Nat.lt_of_succ_lt)) (pv 2) (pv 0) (nomark _)) (pw_or (pt_not (pt_val (pe_callB call_isinst rfl T.isi PyProof.Rows.boot_isinstance (pa_cons (pv 3) (pa_cons (pe_bltn (v := .ty "list") rfl T.lst PyProof.Rows.boot_list rfl) pa_nil))))) (pw_or1 (pt_cmpR op_ne (pe_callB call_len_seq rfl T.len PySem.boot_len (pa_cons (pv 3) pa_nil)) (pe_op op_fdiv (pe_op op_add (pe_callB call_len_seq rfl T.len PySem.boot_len (pa_cons (pv 0) pa_nil)) pe_int) pe_int) (nomark _))))))
    (pss_one (ps_ret pe_bl))
    pss_nil)
    (pss_cons (ps_set (i := 4) scLSp.nd rfl (Or.inl rfl) (pe_lst pa_nil))
    (pss_cons (ps_set (i := 5) scLSp.nd rfl (Or.inr rfl) pe_dnewK)
    (pss_cons (ps_set (i := 6) scLSp.nd rfl (Or.inl rfl) (pe_callTy call_list_of rfl T.lst PyProof.Rows.boot_list (pa_cons (pv 0) pa_nil)))
    (pss_cons (ps_for PassesOwn.never rfl (pi_enum rfl T.enu (pa_cons (pv 3) pa_nil)) (pg_tup rfl (pgs_cons (pg_name (i := 7) scLSp.nd rfl (Or.inl rfl)) (pgs_cons (pg_name (i := 8) scLSp.nd rfl (Or.inl rfl)) pgs_nil)))
    (pss_cons (ps_if (PW.pt (pw_or (pt_not (pt_val (pe_callB call_isinst rfl T.isi PyProof.Rows.boot_isinstance (pa_cons (pv 8) (pa_cons (pe_bltn (v := .ty "tuple") rfl T.tup PyProof.Rows.boot_tuple rfl) pa_nil))))) (pw_or1 (pt_cmpR (op_neD (hu40 hr)) (pv 8) (pe_tup (pa_cons (pe_op op_add (pv 1) (pe_op op_mul pe_int (pv 7))) (pa_cons (pe_callTy call_tuple_of rfl T.tup PyProof.Rows.boot_tuple (pa_cons (pe_slice sl_list (pv 6) po_none (po_some pe_int)) pa_nil)) pa_nil))) (nomark _)))))
    (pss_one (ps_ret pe_bl))
    pss_nil)
    (pss_cons (ps_expr (pe_bm PySem.F.plainAttrs_list PySem.F.slot_list_append PySem.F.type_list_append mt_append (pv 4) (pa_cons (pe_tup (pa_cons (pe_ix ix_seq (pv 8) pe_int (fun _ _ => rfl)) (pa_cons (pe_callB call_len_seq rfl T.len PySem.boot_len (pa_cons (pe_ix ix_seq (pv 8) pe_int (fun _ _ => rfl)) pa_nil)) (pa_cons (pe_op op_add (pv 7) pe_int) (pa_cons pe_int pa_nil))))) pa_nil)))
    (pss_cons (ps_dput hu (pv 5) (pe_op op_add (pv 7) pe_int) (pe_ix ix_seq (pv 8) pe_int (fun _ _ => rfl)) rfl)
    (pss_one (ps_set (i := 6) scLSp.nd rfl (Or.inl rfl) (pe_slice sl_list (pv 6) (po_some pe_int) po_none)))))))
    (pss_cons (ps_if (pt_cmpR (op_neE (hu_of hr |> Nat.lt_of_succ_lt)) (pv 6) (pe_lst pa_nil) (nomark _))
    (pss_one (ps_ret pe_bl))
    pss_nil)
    (pss_one (ps_ret (pe_cmpR (op_eqL (hu_of hr |> Nat.lt_of_succ_lt)) (pe_callC (y := "_law_pieces_here") (i := 5) GCof (hr.mono (by decide)) rfl hCof.nm hCof.fn.kp hCof.bd (pa_cons (pv 4) (pa_cons (pe_op op_add (pv 1) (pe_callB call_len_seq rfl T.len PySem.boot_len (pa_cons (pv 0) pa_nil))) (pa_cons (pe_lamC lam0 hcd C B rfl rfl rfl) pa_nil))) rfl rfl rfl rfl (by first | exact Or.inl rfl | exact Or.inr (Or.inl rfl) | exact Or.inr (Or.inr rfl))) (pe_op op_cat (pe_op op_rep (pe_lst (pa_cons pe_int pa_nil)) (pv 1)) (pv 0)) (nomark _)))))))))))), ?_⟩
  have lm : (cs.map V.int).length = cs.length := List.length_map _
  refine ⟨_, rfl, c, _, rfl, .inl (SqL.of hc), fun lh hlh => ?_⟩
  have s1 := same_new hlh (HO.lst (cs.map V.int))
  refine ⟨_, rfl, _, rfl, lh, at', cs, rfl, upd_same, by omega, fun p H2 zs s2 hp e2 l2 sp2 => ?_⟩
  have eh := s2 _ _ (upd_same (H := H) (a := lh) (o := HO.lst (cs.map V.int)))
  have sA := s1.trans s2
  have ec := sA _ _ hc
  revert eh sA ec
  generalize upd H lh (HO.lst (cs.map V.int)) = H1 at *
  intro eh sA ec
  refine ⟨_, rfl, _, rfl, lh, c, _, _, rfl, rfl, SqL.of eh, SqL.of ec, flat_ints _, flat_ints _, _, rfl, ?_⟩
  rw [eqVs_ints]
  refine iteF ?_
  refine ⟨_, rfl, _, _, _, true, rfl, .lst e2, kit_ll K, _, rfl, iteF ?_⟩
  refine ⟨_, rfl, p, zs, rfl, .inl (SqL.of e2), _, rfl, c, _, rfl, .inl (SqL.of ec), _, _, rfl, rfl, _, _, rfl, rfl, ⟨by decide, by decide⟩, rfl, _, rfl, ?_⟩
  have en : decide (V.int (zs.length : Int) = V.int ((((cs.map V.int).length : Int) + 7) / 8)) = true := decide_eq_true (by
    congr 1
    rw [lm, l2]
    omega)
  rw [en]
  refine iteF ?_
  refine ⟨by decide, fun pr hpr => ?_⟩
  have u1 := same_new hpr (HO.lst [])
  intro d hd
  have u2 := same_new hd (HO.dK [])
  refine ⟨_, rfl, c, _, rfl, .inl (SqL.of (u2 _ _ (u1 _ _ ec))), fun pl0 hpl0 => ?_⟩
  have u3 := same_new hpl0 (HO.lst (cs.map V.int))
  have hprH : H pr = none := sA.free hpr
  have hdH : H d = none := sA.free (u1.free hd)
  have npp : p ≠ pr := fun z => by rw [z, hpr] at e2; cases e2
  have npd : p ≠ d := fun z => by rw [z, u1.free hd] at e2; cases e2
  have er0 := u3 _ _ (u2 _ _ (upd_same (H := H2) (a := pr) (o := HO.lst [])))
  have ed0 := u3 _ _ (upd_same (H := upd H2 pr (.lst [])) (a := d) (o := HO.dK []))
  have npl0 : pl0 ≠ pr := fun z => by rw [z, u2 _ _ (upd_same (H := H2) (a := pr) (o := HO.lst []))] at hpl0; cases hpl0
  have uA := u1.trans (u2.trans u3)
  have nrd : pr ≠ d := fun z => by rw [← z, upd_same] at hd; cases hd
  refine ⟨_, rfl, p, zs, rfl, SqL.of (uA _ _ e2), for_enum (K := K) (a := p) (xs := zs) (fun i σ H3 => ∃ (pl : Addr) (o7 o8 : Option V) (ys : List V), σ = [some (.ref c), some (.int at'), some (.ref lh), some (.ref p), some (.ref pr), some (.ref d), some (.ref pl), o7, o8] ∧ Same H H3 ∧ H3 p = some (.lst zs) ∧ SplAt H3 at' cs zs ∧ H3 pl = some (.lst ((cs.drop (8 * i)).map V.int)) ∧ pl ≠ pr ∧ H3 pr = some (.lst ys) ∧ TupsAt H3 ys ((rowsK at' cs i).map tv) ∧ DkAt H3 d cs i)
    ⟨pl0, none, none, [], rfl, sA.trans uA, uA _ _ e2, sp2.mono uA, upd_same, npl0, er0, trivial, _, ed0, Nat.le_refl _, fun j hj => absurd hj (by omega)⟩ (fun i σ H3 h3 => ?_) ?_ ?_⟩
  · obtain ⟨_, _, _, _, _, _, e3, _⟩ := h3
    exact SqL.of e3
  · rintro i x t σ H3 hx ⟨pl, o7, o8, ys, rfl, s3, e3, sp3, el, npl, er, tr, D3⟩ ht
    have hi : i < zs.length := (List.getElem?_eq_some_iff.mp hx).1
    obtain ⟨tp, qp, h1, h2, h3⟩ := sp3 i hi
    rw [hx] at h1
    cases h1
    have s4 := same_new ht (HO.tup [V.int (i : Int), V.ref tp])
    refine ⟨t, _, rfl, SqT.of upd_same, rfl, _, _, rfl, _, _, rfl, rfl, ?_⟩
    refine ⟨_, rfl, _, _, _, true, rfl, .tup (s4 _ _ h2), kit_tt K, _, rfl, iteF ?_⟩
    refine ⟨_, rfl, _, rfl, _, rfl, _, _, rfl, rfl, .inl ⟨by decide, by decide⟩, _, _, rfl, rfl, _, rfl, _, rfl, pl, _, rfl, SqL.of (s4 _ _ el), fun b hb => ?_⟩
    rw [cut_8, ← List.map_take]
    have s5 := same_new hb (HO.lst ((chunk cs i).map V.int))
    refine ⟨b, _, rfl, .inl ⟨SqL.of upd_same, fun qn hqn => ?_⟩⟩
    have s6 := same_new hqn (HO.tup ((chunk cs i).map V.int))
    refine ⟨(by show 2 ≤ sizeLine; decide), fun tn htn => ?_⟩
    have s7 := same_new htn (HO.tup [V.int (at' + 8 * (i : Int)), V.ref qn])
    have sB := s4.trans (s5.trans (s6.trans s7))
    refine ⟨1, eqv_part (ms := chunk cs i) (sB _ _ h2) upd_same (sB _ _ h3) (s7 _ _ upd_same), by decide, _, rfl, iteF ?_⟩
    revert sB
    generalize upd _ tn (HO.tup [V.int (at' + 8 * (i : Int)), V.ref qn]) = H4
    intro sB
    have er4 := sB _ _ er
    have h24 := sB _ _ h2
    have h34 := sB _ _ h3
    refine ⟨_, rfl, .inl ⟨rfl, _, SqL.of er4⟩, _, rfl, .inr (.inl ⟨tp, _, 0, _, rfl, rfl, SqT.of h24, rfl, ?_⟩)⟩
    refine ⟨_, rfl, .inr (.inl ⟨tp, _, 1, _, rfl, rfl, SqT.of h24, rfl, ?_⟩)⟩
    refine ⟨qp, _, rfl, .inr (SqT.of h34), ?_⟩
    rw [List.length_map]
    refine ⟨_, rfl, _, _, rfl, rfl, (by show 4 ≤ sizeLine; decide), fun q2 hq2 => ?_⟩
    have s8 := same_new hq2 (HO.tup (tv (rowK at' cs i)))
    have lz : ys.length = i := by
      have := tr.len
      rw [List.length_map] at this
      rw [this]
      unfold rowsK
      simp
    have er5 := s8 _ _ er4
    refine ⟨pr, ys, _, rfl, rfl, er5, small (by omega), ?_⟩
    have eT : upd H4 q2 (HO.tup (tv (rowK at' cs i))) q2 = some (.tup (tv (rowK at' cs i))) := upd_same
    have sC := sB.trans s8
    have kp : ∀ b o, b ≠ pr → upd H4 q2 (HO.tup (tv (rowK at' cs i))) b = some o → upd (upd H4 q2 (HO.tup (tv (rowK at' cs i)))) pr (.lst (ys ++ [.ref q2])) b = some o := fun b o nb e => by
      rw [upd_ne nb]
      exact e
    have tn : ∀ q t, upd H4 q2 (HO.tup (tv (rowK at' cs i))) q = some (.tup t) → q ≠ pr := fun q t e z => by rw [z, er5] at e; cases e
    have D5 : DkAt (upd (upd H4 q2 (HO.tup (tv (rowK at' cs i)))) pr (.lst (ys ++ [.ref q2]))) d cs i := D3.keep (fun q t e => kp _ _ (tn _ _ (sC _ _ e)) (sC _ _ e)) (fun kvs e => kp _ _ (Ne.symm nrd) (sC _ _ e))
    have h26 := kp _ _ (tn _ _ (s8 _ _ h24)) (s8 _ _ h24)
    have h36 := kp _ _ (tn _ _ (s8 _ _ h34)) (s8 _ _ h34)
    have tr6 : TupsAt (upd (upd H4 q2 (HO.tup (tv (rowK at' cs i)))) pr (.lst (ys ++ [.ref q2]))) (ys ++ [.ref q2]) ((rowsK at' cs (i + 1)).map tv) := by
      rw [rowsK_succ, List.map_append]
      exact ((tr.mono sC).snoc eT).upd (lst_ne er5)
    have sp6 : SplAt (upd (upd H4 q2 (HO.tup (tv (rowK at' cs i)))) pr (.lst (ys ++ [.ref q2]))) at' cs zs := sp3.keep fun q t e => kp _ _ (tn _ _ (sC _ _ e)) (sC _ _ e)
    have e6 := kp _ _ npp (sC _ _ e3)
    have el6 := kp _ _ npl (sC _ _ el)
    have er6 : upd (upd H4 q2 (HO.tup (tv (rowK at' cs i)))) pr (.lst (ys ++ [.ref q2])) pr = some (.lst (ys ++ [.ref q2])) := upd_same
    have sH6 : Same H (upd (upd H4 q2 (HO.tup (tv (rowK at' cs i)))) pr (.lst (ys ++ [.ref q2]))) := same_over (s3.trans sC) hprH _
    clear tn kp
    obtain ⟨kvs, ed6, lk, _⟩ := id D5
    refine ⟨_, rfl, .inr (.inl ⟨tp, _, 1, _, rfl, rfl, SqT.of h26, rfl, ?_⟩)⟩
    refine ⟨_, rfl, _, rfl, _, _, rfl, rfl, d, _, rfl, DPut.k (k := .inl ((i : Int) + 2)) ed6 (small (by omega)), ?_⟩
    have D7 := D5.put ed6 h36
    have kd : ∀ b o, b ≠ d → (upd (upd H4 q2 (HO.tup (tv (rowK at' cs i)))) pr (.lst (ys ++ [.ref q2]))) b = some o → upd (upd (upd H4 q2 (HO.tup (tv (rowK at' cs i)))) pr (.lst (ys ++ [.ref q2]))) d (.dK (putK kvs (.inl ((i : Int) + 2)) (.ref qp))) b = some o := fun b o nb e => by
      rw [upd_ne nb]
      exact e
    have tn : ∀ q t, (upd (upd H4 q2 (HO.tup (tv (rowK at' cs i)))) pr (.lst (ys ++ [.ref q2]))) q = some (.tup t) → q ≠ d := fun q t e z => by rw [z, ed6] at e; cases e
    have ln : ∀ q t, (upd (upd H4 q2 (HO.tup (tv (rowK at' cs i)))) pr (.lst (ys ++ [.ref q2]))) q = some (.lst t) → q ≠ d := fun q t e z => by rw [z, ed6] at e; cases e
    have e7 := kd _ _ (ln _ _ e6) e6
    have el7 := kd _ _ (ln _ _ el6) el6
    have er7 := kd _ _ (ln _ _ er6) er6
    have tr7 := tr6.keep fun q t e => kd _ _ (tn _ _ e) e
    have sp7 := sp6.keep fun q t e => kd _ _ (tn _ _ e) e
    have sH7 : Same H (upd (upd (upd H4 q2 (HO.tup (tv (rowK at' cs i)))) pr (.lst (ys ++ [.ref q2]))) d (.dK (putK kvs (.inl ((i : Int) + 2)) (.ref qp)))) := same_over sH6 hdH _
    clear tn kd ln
    refine ⟨_, rfl, _, rfl, pl, _, rfl, SqL.of el7, fun pn hpn => ?_⟩
    rw [cut_from8, ← List.map_drop, List.drop_drop]
    have s9 := same_new hpn (HO.lst ((cs.drop (8 * i + 8)).map V.int))
    exact ⟨pn, _, _, _, rfl, sH7.trans s9, s9 _ _ e7, sp7.mono s9, upd_same, (fun z => absurd ((congrArg _ z.symm).trans hpn) (fun y => nomatch er7.symm.trans y)), s9 _ _ er7, tr7.mono s9, D7.keep (fun q t e => s9 _ _ e) (fun kvs e => s9 _ _ e)⟩
  · rintro σ H3 ⟨pl, o7, o8, ys, rfl, s3, e3, sp3, el, npl, er, tr, D3⟩
    have e0 : cs.drop (8 * zs.length) = [] := List.drop_eq_nil_of_le (by omega)
    rw [e0] at el
    refine ⟨_, rfl, by decide, fun pe hpe => ?_⟩
    have u5 := same_new hpe (HO.lst [])
    refine ⟨pl, pe, [], rfl, rfl, SqL.of (u5 _ _ el), SqL.of upd_same, _, rfl, iteF ?_⟩
    have s4 := s3.trans u5
    have T0 : TabS (upd H3 pe (HO.lst [])) PS pos0 lam0.qual := ⟨#[], s4 _ _ hPS, trivial, .inl rfl⟩
    have er4 := u5 _ _ er
    have tr4 := tr.mono u5
    have D4 : DkAt (upd H3 pe (HO.lst [])) d cs zs.length := D3.keep (fun q t e => u5 _ _ e) (fun kvs e => u5 _ _ e)
    revert T0 er4 tr4 D4 s4
    generalize upd H3 pe (HO.lst []) = H4
    intro s4 T0 er4 tr4 D4
    have r4 : RowAt false H4 pr (rowsK at' cs zs.length) := ⟨ys, er4, tr4⟩
    obtain ⟨an, rfl⟩ := Int.eq_ofNat_of_zero_le a0
    refine ⟨_, rfl, _, rfl, _, rfl, c, _, rfl, .inl (SqL.of (s4 _ _ hc)), _, _, rfl, rfl, T0, fun g c' pm' ctv H7 sx7 t1' ot hg hg' hc' => ⟨d, rfl, fun oc hcc dc => ?_⟩⟩
    have uc := fun o => same_new hcc o
    refine ⟨pr, g, d, false, rowsK (an : Int) cs zs.length, an + cs.length, pcK cs, ?_, (rowSx r4 T0 sx7).mono (uc _), (by unfold rowsK; rw [List.length_map, List.length_range]; omega), by omega, GetsOf.mk ok0 hcc hg' hc' dc, (pcSx D4.pc T0 sx7).mono (uc _), fun p8 H8 s8 hp8 e8 => ⟨s8 _ _ upd_same, ?_⟩⟩
    · rw [lm]
      rfl
    have pc0 : p8 ≠ s.heap.objs.size + 1 := fun z => by
      rw [z] at hp8
      rw [upd_same] at hp8
      cases hp8
    have s9 := same_del hcc s8
    have e9 : del H8 (s.heap.objs.size + 1) p8 = some (.lst ((List.replicate an 0 ++ cs).map V.int)) := by
      rw [del_ne pc0, e8, l2, cells_rowsK]
    revert s9 e9
    generalize del H8 (s.heap.objs.size + 1) = H9
    intro s9 e9
    have sx9 : SxP PS H H9 := (s4.sxP.trans sx7).trans s9.sxP
    have nc : c ≠ PS := fun z => by rw [z, hPS] at hc; cases hc
    have c9 := sx9 _ _ nc hc
    obtain ⟨psf, PS9, _⟩ := tabMono t1' s9
    refine ⟨(by show 1 ≤ sizeLine; decide), fun pz hpz => ⟨_, rfl, pz, (an : Int), _, rfl, rfl, upd_same, by omega, by omega, ?_, fun pw hpw => ?_⟩⟩
    · show 1 * (an : Int).toNat ≤ sizeLine
      exact Nat.le_of_lt (small (by omega))
    have rep : (List.replicate (an : Int).toNat [V.int 0]).flatten = (List.replicate an (0 : Int)).map V.int := by
      rw [Int.toNat_natCast, List.map_replicate]
      simp
    rw [rep]
    have v1 := same_new hpz (HO.lst [V.int 0])
    have v2 := same_new hpw (HO.lst ((List.replicate an (0 : Int)).map V.int))
    refine ⟨_, rfl, pw, c, _, _, rfl, rfl, upd_same, v2 _ _ (v1 _ _ c9), ?_, fun px hpx => ?_⟩
    · rw [List.length_map, List.length_map, List.length_replicate]
      exact Nat.le_of_lt (small (by omega))
    have v3 := same_new hpx (HO.lst ((List.replicate an (0 : Int)).map V.int ++ cs.map V.int))
    have vA := v1.trans (v2.trans v3)
    have e10 : eqVs ((List.replicate an 0 ++ cs).map V.int) ((List.replicate an (0 : Int)).map V.int ++ cs.map V.int) = true := by
      rw [← List.map_append, eqVs_ints]
    refine ⟨p8, px, _, _, rfl, rfl, SqL.of (vA _ _ e9), SqL.of upd_same, flat_ints _, ?_, ?_⟩
    · rw [← List.map_append]
      exact flat_ints _
    show Q (.bl (eqVs ((List.replicate an 0 ++ cs).map V.int) ((List.replicate an (0 : Int)).map V.int ++ cs.map V.int))) _
    rw [e10]
    exact q _ psf (sx9.trans vA.sxP) (vA _ _ PS9)
end
end K14
set_option maxHeartbeats 8000000
namespace K14
open PySem L2

theorem all_mk {l : PySem.W.OpenLaw} {w : World} {K : PySem.W.Frag} {h : Heap} {mg : Str → Option Value} {fa fPts fCof fSpl fCel fStm fRow fPie fCls fLSp fLaw : Addr} (X : K.In h) (G : h.Ns mainGlobals mg) (hfa : mg "law" = some (.ref fa))
    {odPts anPts odCof anCof odSpl anSpl odCel anCel odStm anStm odRow anRow odPie anPie odCls anCls odLSp anLSp odLaw anLaw  : Option Addr} {slPts slCof slSpl slCel slStm slRow slPie slCls slLSp slLaw  : Array (Option Value)} {ocPts kVPts dcPts pmPts cdPts ctPts ocCof kVCof dcCof pmCof cdCof ctCof ocSpl kVSpl dcSpl pmSpl cdSpl ctSpl ocCel kVCel dcCel pmCel cdCel ctCel ocStm kVStm dcStm pmStm cdStm ctStm ocRow kVRow dcRow pmRow cdRow ctRow ocPie kVPie dcPie pmPie cdPie ctPie ocCls kVCls dcCls pmCls cdCls ctCls ocLSp kVLSp dcLSp pmLSp cdLSp ctLSp ocLaw kVLaw dcLaw pmLaw cdLaw ctLaw  : Value} {gt0 : Tok}
   
    (aPts : PySem.W.nsIn K mainGlobals "parts" = some (some (.ref fPts)))
    (lPts : K.lookup fPts = some ⟨ocPts, odPts, .func (PySem.W.fnOf "parts" "parts" (defArgs sPts) (defBody sPts) (defScope sPts) .none kVPts dcPts pmPts anPts cdPts ctPts), slPts⟩)
    (cPts : PySem.W.codeIn K cdPts "parts" = true)
    (kPts : PySem.W.keepIn K (.ref fPts) = true)
    (aCof : PySem.W.nsIn K mainGlobals "cells_of" = some (some (.ref fCof)))
    (lCof : K.lookup fCof = some ⟨ocCof, odCof, .func (PySem.W.fnOf "cells_of" "cells_of" (defArgs sCof) (defBody sCof) (defScope sCof) .none kVCof dcCof pmCof anCof cdCof ctCof), slCof⟩)
    (cCof : PySem.W.codeIn K cdCof "cells_of" = true)
    (kCof : PySem.W.keepIn K (.ref fCof) = true)
    (aSpl : PySem.W.nsIn K mainGlobals "split_up" = some (some (.ref fSpl)))
    (lSpl : K.lookup fSpl = some ⟨ocSpl, odSpl, .func (PySem.W.fnOf "split_up" "split_up" (defArgs sSpl) (defBody sSpl) (defScope sSpl) .none kVSpl dcSpl pmSpl anSpl cdSpl ctSpl), slSpl⟩)
    (cSpl : PySem.W.codeIn K cdSpl "split_up" = true)
    (kSpl : PySem.W.keepIn K (.ref fSpl) = true)
    (aCel : PySem.W.nsIn K mainGlobals "_law_cell_at" = some (some (.ref fCel)))
    (lCel : K.lookup fCel = some ⟨ocCel, odCel, .func (PySem.W.fnOf "_law_cell_at" "_law_cell_at" (defArgs sCel) (defBody sCel) (defScope sCel) .none kVCel dcCel pmCel anCel cdCel ctCel), slCel⟩)
    (cCel : PySem.W.codeIn K cdCel "_law_cell_at" = true)
    (kCel : PySem.W.keepIn K (.ref fCel) = true)
    (aStm : PySem.W.nsIn K mainGlobals "_law_stream" = some (some (.ref fStm)))
    (lStm : K.lookup fStm = some ⟨ocStm, odStm, .func (PySem.W.fnOf "_law_stream" "_law_stream" (defArgs sStm) (defBody sStm) (defScope sStm) .none kVStm dcStm pmStm anStm cdStm ctStm), slStm⟩)
    (cStm : PySem.W.codeIn K cdStm "_law_stream" = true)
    (kStm : PySem.W.keepIn K (.ref fStm) = true)
    (aRow : PySem.W.nsIn K mainGlobals "_law_row" = some (some (.ref fRow)))
    (lRow : K.lookup fRow = some ⟨ocRow, odRow, .func (PySem.W.fnOf "_law_row" "_law_row" (defArgs sRow) (defBody sRow) (defScope sRow) .none kVRow dcRow pmRow anRow cdRow ctRow), slRow⟩)
    (cRow : PySem.W.codeIn K cdRow "_law_row" = true)
    (kRow : PySem.W.keepIn K (.ref fRow) = true)
    (aPie : PySem.W.nsIn K mainGlobals "_law_pieces" = some (some (.ref fPie)))
    (lPie : K.lookup fPie = some ⟨ocPie, odPie, .func (PySem.W.fnOf "_law_pieces" "_law_pieces" (defArgs sPie) (defBody sPie) (defScope sPie) .none kVPie dcPie pmPie anPie cdPie ctPie), slPie⟩)
    (cPie : PySem.W.codeIn K cdPie "_law_pieces" = true)
    (kPie : PySem.W.keepIn K (.ref fPie) = true)
    (aCls : PySem.W.nsIn K mainGlobals "_law_cells" = some (some (.ref fCls)))
    (lCls : K.lookup fCls = some ⟨ocCls, odCls, .func (PySem.W.fnOf "_law_cells" "_law_cells" (defArgs sCls) (defBody sCls) (defScope sCls) .none kVCls dcCls pmCls anCls cdCls ctCls), slCls⟩)
    (cCls : PySem.W.codeIn K cdCls "_law_cells" = true)
    (kCls : PySem.W.keepIn K (.ref fCls) = true)
    (aLSp : PySem.W.nsIn K mainGlobals "_law_split" = some (some (.ref fLSp)))
    (lLSp : K.lookup fLSp = some ⟨ocLSp, odLSp, .func (PySem.W.fnOf "_law_split" "_law_split" (defArgs sLSp) (defBody sLSp) (defScope sLSp) .none kVLSp dcLSp pmLSp anLSp cdLSp ctLSp), slLSp⟩)
    (cLSp : PySem.W.codeIn K cdLSp "_law_split" = true)
    (kLSp : PySem.W.keepIn K (.ref fLSp) = true)
    (aLaw : PySem.W.nsIn K mainGlobals "law" = some (some (.ref fLaw)))
    (lLaw : K.lookup fLaw = some ⟨ocLaw, odLaw, .func (PySem.W.fnOf "law" "law" (defArgs sLaw) (defBody sLaw) (defScope sLaw) .none kVLaw dcLaw pmLaw anLaw cdLaw ctLaw), slLaw⟩)
    (cLaw : PySem.W.codeIn K cdLaw "law" = true)
    (kLaw : PySem.W.keepIn K (.ref fLaw) = true)
    (z0 : PySem.W.nsIn K mainGlobals "isinstance" = some none)
    (z1 : PySem.W.nsIn K mainGlobals "len" = some none)
    (z2 : PySem.W.nsIn K mainGlobals "range" = some none)
    (z3 : PySem.W.nsIn K mainGlobals "list" = some none)
    (z4 : PySem.W.nsIn K mainGlobals "tuple" = some none)
    (z5 : PySem.W.nsIn K mainGlobals "min" = some none)
    (z6 : PySem.W.nsIn K mainGlobals "max" = some none)
    (z7 : PySem.W.nsIn K mainGlobals "enumerate" = some none)
    (gl0 : PySem.W.nsIn K mainGlobals "PIECE_CELLS" = some (some (.int 8 gt0)))
    (eLaw : cdLaw = .ref 77) (eLSp : cdLSp = .ref 72) :
    ∃ fd : FuncData, (∀ (s : Shared) (v : Value), BindsTo s fd ⟨[v], []⟩ [("_law_script", v)]) ∧ ∀ base : Heap, K.In base → base.Ns mainGlobals mg → (∀ t ∈ ([(77, 75), (72, 68)] : List (Addr × Addr)), PySem.W.CodeHd base t.1 t.2) → BltIn base mg → FnOk l.prog w K mg base CX0 4 fa fd ["_law_script"] (spLaw 75 68 K) := by
  have e := hfa.symm.trans (PySem.W.mg_of X G aLaw)
  cases e
  have T : Txt mg := ⟨PySem.W.mg_none_of X G z0, PySem.W.mg_none_of X G z1, PySem.W.mg_none_of X G z2, PySem.W.mg_none_of X G z3, PySem.W.mg_none_of X G z4, PySem.W.mg_none_of X G z5, PySem.W.mg_none_of X G z6, PySem.W.mg_none_of X G z7, ⟨_, PySem.W.mg_of X G gl0⟩⟩
  have FPts := fun_mk (st := sPts) lPts cPts kPts
  have hPts : Has K mg "parts" sPts ["row", "low", "high"] fPts _ := ⟨FPts, FPts.binds (ps := ["row", "low", "high"]) fun _ _ _ _ _ _ us hl => match us, hl with | [_, _, _], _ => rfl, PySem.W.mg_of X G aPts⟩
  have FCof := fun_mk (st := sCof) lCof cCof kCof
  have hCof : Has K mg "cells_of" sCof ["row", "size", "fetch"] fCof _ := ⟨FCof, FCof.binds (ps := ["row", "size", "fetch"]) fun _ _ _ _ _ _ us hl => match us, hl with | [_, _, _], _ => rfl, PySem.W.mg_of X G aCof⟩
  have FSpl := fun_mk (st := sSpl) lSpl cSpl kSpl
  have hSpl : Has K mg "split_up" sSpl ["at", "cells"] fSpl _ := ⟨FSpl, FSpl.binds (ps := ["at", "cells"]) fun _ _ _ _ _ _ us hl => match us, hl with | [_, _], _ => rfl, PySem.W.mg_of X G aSpl⟩
  have FCel := fun_mk (st := sCel) lCel cCel kCel
  have hCel : Has K mg "_law_cell_at" sCel ["_law_script", "_law_k"] fCel _ := ⟨FCel, FCel.binds (ps := ["_law_script", "_law_k"]) fun _ _ _ _ _ _ us hl => match us, hl with | [_, _], _ => rfl, PySem.W.mg_of X G aCel⟩
  have FStm := fun_mk (st := sStm) lStm cStm kStm
  have hStm : Has K mg "_law_stream" sStm ["_law_cell", "_law_many"] fStm _ := ⟨FStm, FStm.binds (ps := ["_law_cell", "_law_many"]) fun _ _ _ _ _ _ us hl => match us, hl with | [_, _], _ => rfl, PySem.W.mg_of X G aStm⟩
  have FRow := fun_mk (st := sRow) lRow cRow kRow
  have hRow : Has K mg "_law_row" sRow ["_law_cell", "_law_size"] fRow _ := ⟨FRow, FRow.binds (ps := ["_law_cell", "_law_size"]) fun _ _ _ _ _ _ us hl => match us, hl with | [_, _], _ => rfl, PySem.W.mg_of X G aRow⟩
  have FPie := fun_mk (st := sPie) lPie cPie kPie
  have hPie : Has K mg "_law_pieces" sPie ["_law_row_here", "_law_cell"] fPie _ := ⟨FPie, FPie.binds (ps := ["_law_row_here", "_law_cell"]) fun _ _ _ _ _ _ us hl => match us, hl with | [_, _], _ => rfl, PySem.W.mg_of X G aPie⟩
  have FCls := fun_mk (st := sCls) lCls cCls kCls
  have hCls : Has K mg "_law_cells" sCls ["_law_row_here", "_law_size", "_law_pieces_here"] fCls _ := ⟨FCls, FCls.binds (ps := ["_law_row_here", "_law_size", "_law_pieces_here"]) fun _ _ _ _ _ _ us hl => match us, hl with | [_, _, _], _ => rfl, PySem.W.mg_of X G aCls⟩
  have FLSp := fun_mk (st := sLSp) lLSp cLSp kLSp
  have hLSp : Has K mg "_law_split" sLSp ["_law_cells_here", "_law_at"] fLSp _ := ⟨FLSp, FLSp.binds (ps := ["_law_cells_here", "_law_at"]) fun _ _ _ _ _ _ us hl => match us, hl with | [_, _], _ => rfl, PySem.W.mg_of X G aLSp⟩
  have FLaw := fun_mk (st := sLaw) lLaw cLaw kLaw
  refine ⟨PySem.W.fnOf "law" "law" (defArgs sLaw) (defBody sLaw) (defScope sLaw) .none kVLaw dcLaw pmLaw anLaw cdLaw ctLaw, fun s v => .of_eq rfl, fun base _ _ hC B => ?_⟩
  have GPts : FnOk l.prog w K mg base CX0 1 fPts _ ["row", "low", "high"] spPts := ok_Pts FPts T
  have GCof : FnOk l.prog w K mg base CX0 2 fCof _ ["row", "size", "fetch"] spCof := ok_Cof FCof hPts GPts T
  have GSpl : FnOk l.prog w K mg base CX0 1 fSpl _ ["at", "cells"] spSpl := ok_Spl FSpl T
  have GCel : FnOk l.prog w K mg base CX0 1 fCel _ ["_law_script", "_law_k"] (spCel K) := ok_Cel FCel T
  have GStm : FnOk l.prog w K mg base CX0 1 fStm _ ["_law_cell", "_law_many"] spStm := ok_Stm FStm T
  have GRow : FnOk l.prog w K mg base CX0 2 fRow _ ["_law_cell", "_law_size"] spRow := ok_Row FRow hStm GStm T
  have GPie : FnOk l.prog w K mg base CX0 2 fPie _ ["_law_row_here", "_law_cell"] spPie := ok_Pie FPie hStm GStm T
  have GCls : FnOk l.prog w K mg base CX0 1 fCls _ ["_law_row_here", "_law_size", "_law_pieces_here"] spCls := ok_Cls FCls T
  have GLSp : FnOk l.prog w K mg base CX0 3 fLSp _ ["_law_cells_here", "_law_at"] (spLSp 68) := ok_LSp FLSp eLSp (hC _ (List.mem_cons_of_mem _ (List.mem_cons_self ..))) B hSpl GSpl hCof GCof T
  exact ok_law FLaw eLaw (hC _ (List.mem_cons_self ..)) B hCel GCel hRow GRow hPie GPie hCls GCls hCof GCof hLSp GLSp T
theorem walk {l : PySem.W.OpenLaw} {q : Program} {loose : List Str} {XP : (Str → Option Value) → Heap → Prop} {YP : World → Heap → Prop} {d : DefRec} {K : Params → PySem.W.Frag} (hn : l.most = some 63) (hdf : d.params.defaults = [])
    (hY : ∀ (w : World) (h : Heap), YP w h → (K w.params).In h ∧ PySem.W.TabsAt [(77, 75), (72, 68)] h) (hTK : ∀ (w : World), ∀ t ∈ ([(77, 75), (72, 68)] : List (Addr × Addr)), (K w.params).lookup t.2 = none)
    (F : ∀ (w : World) (mg : Str → Option Value) (fa : Addr) (h : Heap), (K w.params).In h → h.Ns mainGlobals mg → mg d.name = some (.ref fa) →
      ∃ fd : FuncData, (∀ (s : Shared) (u : Value), BindsTo s fd ⟨[u], []⟩ [("_law_script", u)]) ∧ ∀ base : Heap, (K w.params).In base → base.Ns mainGlobals mg → (∀ t ∈ ([(77, 75), (72, 68)] : List (Addr × Addr)), PySem.W.CodeHd base t.1 t.2) → BltIn base mg → FnOk l.prog w (K w.params) mg base CX0 4 fa fd ["_law_script"] (spLaw 75 68 (K w.params))) :
    PySem.W.WalkO q loose XP YP l.row.toRowW d [] (fun f vs => PySem.call f vs) :=
  L2.walk_tab (n := 63) (k := 4) (x := "_law_script") (CX := fun _ => CX0) (sp := fun w => spLaw 75 68 (K w.params)) (tabs := [(77, 75), (72, 68)]) hn (by decide) hdf ⟨fun _ => rfl, by decide, by decide⟩ hY hTK F
    (fun _ _ a ns hl hS hT => ⟨a, ns, rfl, hS, hl, hT _ (List.mem_cons_self ..), hT _ (List.mem_cons_of_mem _ (List.mem_cons_self ..)), by decide, fun _ ps ps' e e' => ⟨rfl, List.forall_mem_cons.mpr ⟨⟨ps, e⟩, List.forall_mem_cons.mpr ⟨⟨ps', e'⟩, fun _ h => nomatch h⟩⟩⟩⟩) fun _ _ _ _ _ z => z
end K14
open PySem PySem.W PyProof.Rows
set_option maxRecDepth 100000 in
set_option maxHeartbeats 0 in
theorem PySem.Challenge.cw_clonewood_k14_cells_of_a_file_holds : PySem.Challenge.rw_clonewood_k14_cells_of_a_file.Holds := by
  w_on; o_law; k_head; (case hw => w_witness2)
  k_fill
  refine K14.walk (l := PySem.Challenge.rw_clonewood_k14_cells_of_a_file) rfl rfl (fun w h Y => ⟨PySem.W.km_in_of Y, List.forall_mem_cons.mpr ⟨⟨PySem.W.codeHd_of_K (c := 77) (P := 75) (PySem.W.km_in_of Y) (by kernel_rfl), PySem.W.km_tabs_of Y 75 (List.mem_cons_of_mem _ (List.mem_cons_self ..))⟩, List.forall_mem_cons.mpr ⟨⟨PySem.W.codeHd_of_K (c := 72) (P := 68) (PySem.W.km_in_of Y) (by kernel_rfl), PySem.W.km_tabs_of Y 68 (List.mem_cons_self ..)⟩, fun _ h => nomatch h⟩⟩⟩) (fun w => List.forall_mem_cons.mpr ⟨by kernel_rfl, List.forall_mem_cons.mpr ⟨by kernel_rfl, fun _ h => nomatch h⟩⟩) ?F
  case F =>
    intro w mg fa h KX G hmg
    refine' K14.all_mk KX G hmg ?aPts ?lPts ?cPts ?kPts ?aCof ?lCof ?cCof ?kCof ?aSpl ?lSpl ?cSpl ?kSpl ?aCel ?lCel ?cCel ?kCel ?aStm ?lStm ?cStm ?kStm ?aRow ?lRow ?cRow ?kRow ?aPie ?lPie ?cPie ?kPie ?aCls ?lCls ?cCls ?kCls ?aLSp ?lLSp ?cLSp ?kLSp ?aLaw ?lLaw ?cLaw ?kLaw ?z0 ?z1 ?z2 ?z3 ?z4 ?z5 ?z6 ?z7 ?gl0 ?eLaw ?eLSp
    (case aPts => k_is)
    (case lPts => k_is)
    (case cPts => k_is)
    (case kPts => k_is)
    (case aCof => k_is)
    (case lCof => k_is)
    (case cCof => k_is)
    (case kCof => k_is)
    (case aSpl => k_is)
    (case lSpl => k_is)
    (case cSpl => k_is)
    (case kSpl => k_is)
    (case aCel => k_is)
    (case lCel => k_is)
    (case cCel => k_is)
    (case kCel => k_is)
    (case aStm => k_is)
    (case lStm => k_is)
    (case cStm => k_is)
    (case kStm => k_is)
    (case aRow => k_is)
    (case lRow => k_is)
    (case cRow => k_is)
    (case kRow => k_is)
    (case aPie => k_is)
    (case lPie => k_is)
    (case cPie => k_is)
    (case kPie => k_is)
    (case aCls => k_is)
    (case lCls => k_is)
    (case cCls => k_is)
    (case kCls => k_is)
    (case aLSp => k_is)
    (case lLSp => k_is)
    (case cLSp => k_is)
    (case kLSp => k_is)
    (case aLaw => k_is)
    (case lLaw => k_is)
    (case cLaw => k_is)
    (case kLaw => k_is)
    (case z0 => k_is)
    (case z1 => k_is)
    (case z2 => k_is)
    (case z3 => k_is)
    (case z4 => k_is)
    (case z5 => k_is)
    (case z6 => k_is)
    (case z7 => k_is)
    (case gl0 => k_is)
    (case eLaw => rfl)
    (case eLSp => rfl)
#print axioms PySem.Challenge.cw_clonewood_k14_cells_of_a_file_holds
